import PyProof.Rows.All
import Wide.All
import OpenK.AllK
import Wide.FinOn
import Lean
import PyProof.EqAt
import PyProof.EqKinds
import PyProof.TupleCall
import PySem.Challenge.RW_partrests_k41_joined
set_option Elab.async false
set_option linter.all false
set_option maxRecDepth 100000
noncomputable section
namespace L2
open PySem PySem.Spec PyProof.Rows
abbrev Key:=Sum Int Str
def gB:Key->Value->Bool
 | .inl k,v=>Value.isInt k v
 | .inr x,v=>Value.isStrOf x v
def keyH (w:World):Key->Int
 | .inl k=>hashInt k
 | .inr x=>hashStr w x
theorem aQ:∀ {k:Key} {v:Value},gB k v=true->(∃ i t,k=Sum.inl i/\v=Value.int i t)\/(∃ x t,k=Sum.inr x/\v=Value.str x t)
 | .inl i,v,h=>by
   obtain ⟨t,e⟩:=Value.isInt_shape (k:=i) (v:=v) h
   exact .inl ⟨i,t,rfl,e⟩
 | .inr x,v,h=>by
   obtain ⟨t,e⟩:=Value.isStrOf_shape (x:=x) (v:=v) h
   exact .inr ⟨x,t,rfl,e⟩
theorem mE (i:Int) (t:Tok):gB (.inl i) (.int i t)=true:=by simp [gB,Value.isInt]
theorem mD (x:Str) (t:Tok):gB (.inr x) (.str x t)=true:=by simp [gB,Value.isStrOf]
theorem key_ll (a b:Int):decide ((Sum.inl a:Key)=Sum.inl b)=(a == b):=by
 by_cases e:a=b
 · subst e;simp
 · have h:¬ (Sum.inl a:Key)=Sum.inl b:=fun q=>e (Sum.inl.inj q)
   rw [decide_eq_false h]
   exact (beq_eq_false_iff_ne.mpr e).symm
theorem key_rr (a b:Str):decide ((Sum.inr a:Key)=Sum.inr b)=decide (a=b):=by
 by_cases e:a=b
 · subst e;simp
 · have h:¬ (Sum.inr a:Key)=Sum.inr b:=fun q=>e (Sum.inr.inj q)
   rw [decide_eq_false h,decide_eq_false e]
theorem key_lr (a:Int) (b:Str):decide ((Sum.inl a:Key)=Sum.inr b)=false:=decide_eq_false (fun q=>nomatch q)
theorem key_rl (a:Str) (b:Int):decide ((Sum.inr a:Key)=Sum.inl b)=false:=decide_eq_false (fun q=>nomatch q)
def aU (prog:Program) (w:World):PySem.KeyKind prog w Key where
 is:=gB
 hash:=keyH w
 inj:=fun v a b ha hb=>by
  rcases aQ ha with ⟨i,t,rfl,rfl⟩ | ⟨x,t,rfl,rfl⟩
  · rcases aQ hb with ⟨j,u,rfl,e⟩ | ⟨y,u,rfl,e⟩
    · injection e with e1 _;rw [e1]
    · exact nomatch e
  · rcases aQ hb with ⟨j,u,rfl,e⟩ | ⟨y,u,rfl,e⟩
    · exact nomatch e
    · injection e with e1 _;rw [e1]
 byValue:=fun k v h=>by
  rcases aQ h with ⟨i,t,rfl,rfl⟩ | ⟨x,t,rfl,rfl⟩ <;> rfl
 pyHash:=fun hv h=>by
  rcases aQ hv with ⟨i,t,rfl,rfl⟩ | ⟨x,t,rfl,rfl⟩
  · exact wpAny_pyHash_int h
  · exact wpAny_pyHash_str h
 eqBool:=fun hu hv h=>by
  rcases aQ hu with ⟨i,t,rfl,rfl⟩ | ⟨x,t,rfl,rfl⟩
  · rcases aQ hv with ⟨j,u,rfl,rfl⟩ | ⟨y,u,rfl,rfl⟩
    · rw [key_ll] at h;exact wpAny_eqBool_int h
    · rw [key_lr] at h;exact SeqAt.EqAt.int_str i t y u _ _ _ _ h
  · rcases aQ hv with ⟨j,u,rfl,rfl⟩ | ⟨y,u,rfl,rfl⟩
    · rw [key_rl] at h;exact SeqAt.EqAt.str_int x t j u _ _ _ _ h
    · rw [key_rr] at h;exact wpAny_eqBool_str h
 «strs»:=fun k x t v h=>by
  rcases aQ h with ⟨i,u,rfl,e⟩ | ⟨y,u,rfl,e⟩
  · exact nomatch e
  · injection e with e1 _
    subst e1
    cases v <;> rfl
theorem iD (prog:Program) (w:World) (i:Int) (t:Tok):(aU prog w).is (.inl i) (.int i t)=true:=mE i t
theorem iC (prog:Program) (w:World) (x:Str) (t:Tok):(aU prog w).is (.inr x) (.str x t)=true:=mD x t
inductive V where
 | non | bl (b:Bool) | int (i:Int) | str (x:Str) | byt (b:Array UInt8) | flt (b:UInt64) | ref (a:Addr) | ty (n:String)
 deriving DecidableEq
def RelV:V->Value->Prop
 | .non,u=>u=Value.none
 | .bl b,u=>u=Value.bool b
 | .int i,u=>∃ t,u=Value.int i t
 | .str x,u=>∃ t,u=Value.str x t
 | .byt b,u=>∃ t,u=Value.bytes b t
 | .flt b,u=>∃ t,u=Value.float b t
 | .ref a,u=>u=Value.ref a
 | .ty n,u=>u=Value.type n
abbrev Vals:List V->List Value->Prop:=Paired RelV
theorem Vals.length {xs:List V} {us:List Value} (r:Vals xs us):xs.length=us.length:=Paired.length r
theorem Vals.get:∀ {xs:List V} {us:List Value} {i:Nat} {x:V},Vals xs us->xs[i]? = some x->∃ u,us[i]? = some u/\RelV x u
 | _,_,_,_,.nil,e=>by simp at e
 | _,_,0,_,.cons r _,e=>by simp at e;subst e;exact ⟨_,rfl,r⟩
 | _,_,i+1,x,.cons _ t,e=>by
   obtain ⟨u,h1,h2⟩:=Vals.get (i:=i) (x:=x) t (by simpa using e)
   exact ⟨u,by simpa using h1,h2⟩
theorem Vals.set {x:V} {u:Value} (r:RelV x u):∀ {xs:List V} {us:List Value} (i:Nat),Vals xs us->Vals (xs.set i x) (us.set i u)
 | _,_,_,.nil=>.nil
 | _,_,0,.cons _ t=>.cons r t
 | _,_,i+1,.cons q t=>.cons q (Vals.set r i t)
theorem Vals.append:∀ {xs ys:List V} {us ws:List Value},Vals xs us->Vals ys ws->Vals (xs++ys) (us++ws)
 | _,_,_,_,.nil,s=>s
 | _,_,_,_,.cons r t,s=>.cons r (Vals.append t s)
theorem Vals.take:∀ {xs:List V} {us:List Value} (n:Nat),Vals xs us->Vals (xs.take n) (us.take n)
 | _,_,0,_=>.nil
 | _,_,_+1,.nil=>.nil
 | _,_,n+1,.cons r t=>.cons r (Vals.take n t)
theorem Vals.drop:∀ {xs:List V} {us:List Value} (n:Nat),Vals xs us->Vals (xs.drop n) (us.drop n)
 | _,_,0,r=>r
 | _,_,_+1,.nil=>.nil
 | _,_,n+1,.cons _ t=>Vals.drop n t
def TupD (h:Heap) (a:Addr) (items:Array Value):Prop:=∃ n,h.get? a=some { cls:=.type "tuple",data:=.seq items n }
theorem TupD.tup {h:Heap} {a:Addr} {items:Array Value} (p:TupD h a items):IsTup h a items:=let ⟨n,e⟩:=p;⟨_,e,rfl,n,rfl⟩
theorem TupD.new (h:Heap) (items:Array Value):TupD (h.push { cls:=.type "tuple",data:=.seq items }) h.objs.size items:=⟨_,Heap.get?_push_size _ rfl⟩
def RelO:Option V->Option Value->Prop
 | some v,some u=>RelV v u
 | none,none=>True
 | _,_=>False
def KV {κ:Type}:List (κ×V)->List (κ×Value)->Prop:=Paired fun (p:κ×V) (q:κ×Value)=>p.1=q.1/\RelV p.2 q.2
def kV:Key->V
 | .inl i=>.int i
 | .inr x=>.str x
inductive HO where
 /-- a list -/
 | lst (xs:List V)
 /-- a tuple (never changes) -/
 | tup (xs:List V)
 /-- a dict whose keys are ints and texts;one whose keys are tuples of ints and texts (the empty one is both) -/
 | dK (kvs:List (Key×V)) | dT (kvs:List (List Key×V))
 /-- a set of ints: its members,its size -/
 | set (S:Int->Bool) (n:Nat)
 /-- an instance of the class at C,its dict at dx,its attributes -/
 | ins (C dx:Addr) (fs:List (Str×V))
 /-- the dict of the instance at x -/
 | own (x:Addr)
 /-- the dict of an exception -/
 | xd (fs:List (Str×V))
 /-- a bound method,f of x -/
 | met (f x:Addr)
 /-- a range object lo,lo+1,.. below hi -/
 | rng (lo hi:Int)
 /-- a thing that is known to the object (the script;a dict while a loop walks it): read,never written while it is so -/
 | frz (o:Obj) (u:HO)
 /-- a code object's table -/
 | tbl (ps:Array Value)
 /-- any other thing,by what is true of its one object (a def of one's own: SetO a S n:=HO.ext fun h=>..) -/
 | ext (φ:Heap->Prop)
abbrev Hp:=Addr->Option HO
def upd (H:Hp) (a:Addr) (o:HO):Hp:=fun b=>if b=a then some o else H b
theorem ad {H:Hp} {a:Addr} {o:HO}:upd H a o a=some o:=by unfold upd;rw [if_pos rfl]
theorem am {H:Hp} {a b:Addr} {o:HO} (h:b≠a):upd H a o b=H b:=by unfold upd;rw [if_neg h]
theorem pH {H:Hp} {a b:Addr} {o u:HO} (h:H a=some o) (h':H b=some u) (d:o≠u):a≠b:=by
 intro e;subst e;rw [h] at h';exact d (Option.some.inj h')
theorem aV {H:Hp} {a b:Addr} {o:HO} (h:H a=some o) (h':H b=none):a≠b:=by
 intro e;subst e;rw [h] at h';cases h'
section
variable (P:Program) (w:World)
def ObjOk (H:Hp) (h:Heap) (a:Addr):HO->Prop
 | .lst xs=>xs.length<=sizeLine/\∃ (its:List Value) (n:Nat),Vals xs its/\h.get? a=some { cls:=.type "list",data:=.seq its.toArray n }
 | .tup xs=>xs.length<=sizeLine/\∃ its:List Value,Vals xs its/\TupD h a its.toArray
 | .dK kvs=>kvs.length<=sizeLine/\(a == sysModules)=false/\∃ vs,KV kvs vs/\h.DictOf (aU P w) a vs
 | .dT kvs=>kvs.length<=sizeLine/\(a == sysModules)=false/\∃ xs:List (List Key×Addr×Value),
  Paired (fun (p:List Key×V) (q:List Key×Addr×Value)=>p.1=q.1/\H q.2.1=some (.tup (p.1.map kV))/\RelV p.2 q.2.2) kvs xs /\
  ∃ o es ep,h.get? a=some o/\o.ExactDict/\o.data=.dict es ep/\es.toList=xs.map (entryOfKey (tupleKind (aU P w)))/\(xs.map (·.1)).Nodup
 | .set S n=>h.SetOf (intKind P w) a S n
 | .ins C dx fs=>H dx=some (.own a)/\fs.length<=1000/\dx≠a/\h.get? a=some (PySem.W.instObj C dx) /\
  ∃ mA,h.Ns1 dx mA/\(∀ f,RelO (fs.lookup f) (mA f))/\PySem.Within mA (fs.map (·.1))
 | .own _=>∃ o,h.get? a=some o
 | .xd fs=>∃ mA,h.Ns1 a mA/\∀ f,RelO (fs.lookup f) (mA f)
 | .rng lo hi=>∃ t u v,h.get? a=some { cls:=.type "range",data:=.fields #[.int lo t,.int hi u,.int 1 v] }
 | .frz o u=>h.get? a=some o/\ObjOk H h a u
 | .tbl ps=>h.get? a=some { cls:=.none,data:=.fields ps }
 | .met f x=>h.get? a=some (PySem.W.methodObj (.ref f) (.ref x))
 | .ext φ=>φ h/\(∃ o,h.get? a=some o)/\∀ h1 h2:Heap,φ h1->(∀ o,h1.get? a=some o->h2.get? a=some o)->φ h2
def HOk (H:Hp) (h:Heap):Prop:=∀ a o,H a=some o->ObjOk P w H h a o
end
section
variable {P:Program} {w:World} {H H':Hp} {h h':Heap} {a:Addr} {o:HO}
theorem ObjOk.lt (x:ObjOk P w H h a o):a<h.objs.size:=by
 cases o with
 | lst xs=>obtain ⟨_,_,_,_,e⟩:=x;exact Heap.lt_size e
 | tup xs=>obtain ⟨_,_,_,p⟩:=x;exact p.tup.lt
 | dK kvs=>obtain ⟨_,_,_,_,o,_,_,e,_⟩:=x;exact Heap.lt_size e
 | dT kvs=>obtain ⟨_,_,_,_,o,_,_,e,_⟩:=x;exact Heap.lt_size e
 | set S n=>obtain ⟨o,_,_,_,e,_⟩:=x;exact Heap.lt_size e
 | ins C dx fs=>obtain ⟨_,_,_,e,_⟩:=x;exact Heap.lt_size e
 | own y=>obtain ⟨_,e⟩:=x;exact Heap.lt_size e
 | xd fs=>obtain ⟨_,⟨_,_,_,e,_⟩,_⟩:=x;exact Heap.lt_size e
 | rng lo hi=>obtain ⟨_,_,_,e⟩:=x;exact Heap.lt_size e
 | frz ob u=>obtain ⟨e,_⟩:=x;exact Heap.lt_size e
 | tbl ps=>exact Heap.lt_size (show h.get? a=some _ from x)
 | met f y=>exact Heap.lt_size (show h.get? a=some _ from x)
 | ext φ=>obtain ⟨_,⟨_,e⟩,_⟩:=x;exact Heap.lt_size e
theorem Paired.mapP {α β:Type} {F G:α->β->Prop}:∀ {l₁:List α} {l₂:List β},Paired F l₁ l₂->(∀ a b,F a b->G a b)->Paired G l₁ l₂
 | _,_,.nil,_=>.nil
 | _,_,.cons r t,f=>.cons (f _ _ r) (Paired.mapP t f)
theorem ObjOk.stay (x:ObjOk P w H h a o) (k:∀ b u,(b=a\/H b=some (.own a))->h.get? b=some u->h'.get? b=some u)
 (ho:∀ b,H b=some (.own a)->H' b=some (.own a)) (ht:∀ b xs,H b=some (.tup xs)->H' b=some (.tup xs)):ObjOk P w H' h' a o:=by
 induction o with
 | lst xs=>obtain ⟨z,its,n,r,e⟩:=x;exact ⟨z,its,n,r,k _ _ (.inl rfl) e⟩
 | tup xs=>obtain ⟨z,its,r,ob,e⟩:=x;exact ⟨z,its,r,ob,k _ _ (.inl rfl) e⟩
 | dK kvs=>obtain ⟨z,y,vs,r,ob,es,ep,e,c⟩:=x;exact ⟨z,y,vs,r,ob,es,ep,k _ _ (.inl rfl) e,c⟩
 | dT kvs=>
   obtain ⟨z,y,xs,r,ob,es,ep,e,c⟩:=x
   exact ⟨z,y,xs,Paired.mapP r fun p q z=>⟨z.1,ht _ _ z.2.1,z.2.2⟩,ob,es,ep,k _ _ (.inl rfl) e,c⟩
 | set S n=>obtain ⟨ob,es,ep,t,e,c⟩:=x;exact ⟨ob,es,ep,t,k _ _ (.inl rfl) e,c⟩
 | ins C dx fs=>
   obtain ⟨d,z,ne,e,mA,⟨od,es,ep,e2,c⟩,r⟩:=x
   exact ⟨ho _ d,z,ne,k _ _ (.inl rfl) e,mA,⟨od,es,ep,k _ _ (.inr d) e2,c⟩,r⟩
 | own y=>obtain ⟨ob,e⟩:=x;exact ⟨ob,k _ _ (.inl rfl) e⟩
 | xd fs=>obtain ⟨mA,⟨od,es,ep,e,c⟩,r⟩:=x;exact ⟨mA,⟨od,es,ep,k _ _ (.inl rfl) e,c⟩,r⟩
 | rng lo hi=>obtain ⟨t,u,v,e⟩:=x;exact ⟨t,u,v,k _ _ (.inl rfl) e⟩
 | frz ob u ih=>obtain ⟨e,q⟩:=x;exact ⟨k _ _ (.inl rfl) e,ih q⟩
 | tbl ps=>
   have e:h.get? a=some { cls:=.none,data:=.fields ps }:=x
   show h'.get? a=some { cls:=.none,data:=.fields ps }
   exact k a _ (.inl rfl) e
 | met f y=>
   have e:h.get? a=some (PySem.W.methodObj (.ref f) (.ref y)):=x
   show h'.get? a=some (PySem.W.methodObj (.ref f) (.ref y))
   exact k a _ (.inl rfl) e
 | ext φ=>obtain ⟨p,⟨o,e⟩,st⟩:=x;exact ⟨st _ _ p fun o q=>k _ _ (.inl rfl) q,⟨o,k _ _ (.inl rfl) e⟩,st⟩
theorem HOk.lt (x:HOk P w H h) (e:H a=some o):a<h.objs.size:=(x a o e).lt
theorem HOk.fresh (x:HOk P w H h) (e:h.objs.size<=a):H a=none:=by
 cases q:H a with
 | none=>rfl
 | some u=>exact absurd (Nat.lt_of_lt_of_le (x.lt q) e) (Nat.lt_irrefl _)
theorem HOk.kept (x:HOk P w H h) (k:∀ b u,h.get? b=some u->h'.get? b=some u):HOk P w H h':=fun a o e=>
 (x a o e).stay (fun b u _ q=>k b u q) (fun _ q=>q) fun _ _ q=>q
theorem HOk.laid (x:HOk P w H h) (k:∀ b u,h.get? b=some u->h'.get? b=some u) (hp:h.objs.size<=a) (new:ObjOk P w (upd H a o) h' a o):HOk P w (upd H a o) h':=fun b u e=>by
 have hn:=x.fresh hp
 by_cases hb:b=a
 · subst hb;rw [ad] at e;cases e;exact new
 · rw [am hb] at e
   exact (x b u e).stay (fun c v _ q=>k c v q) (fun c q=>by rw [am (aV q hn)];exact q) fun c xs q=>by rw [am (aV q hn)];exact q
end
def Rd (H:Hp) (a:Addr) (u:HO):Prop:=H a=some u\/∃ o,H a=some (.frz o u)
theorem Rd.ok {P:Program} {w:World} {H:Hp} {h:Heap} {a:Addr} {u:HO} (r:Rd H a u) (x:HOk P w H h):ObjOk P w H h a u:=by
 rcases r with r | ⟨o,r⟩
 · exact x a u r
 · obtain ⟨_,q⟩:=x a _ r
   exact q
def Mut:Option HO->Prop
 | some (.lst _)=>True
 | some (.dK _)=>True
 | some (.dT _)=>True
 | some (.set _ _)=>True
 | some (.ins _ _ _)=>True
 | some (.ext _)=>True
 | _=>False
section
variable {P:Program} {w:World} {H:Hp} {h h':Heap} {x e:Addr} {o':HO}
theorem HOk.write (ok:HOk P w H h) (mu:Mut (H x)) (he:e=x\/H e=some (.own x)) (k:∀ b u,b≠e->h.get? b=some u->h'.get? b=some u) (heo:∃ u,h'.get? e=some u)
 (new:ObjOk P w (upd H x o') h' x o'):HOk P w (upd H x o') h':=fun b u q=>by
 have nown:∀ c y,H c=some (.own y)->c≠x:=fun c y r z=>by subst z;rw [r] at mu;exact mu
 have ntup:∀ c xs,H c=some (.tup xs)->c≠x:=fun c xs r z=>by subst z;rw [r] at mu;exact mu
 by_cases hb:b=x
 · subst hb;rw [ad] at q;cases q;exact new
 · rw [am hb] at q
   by_cases hbe:b=e
   · have q':H b=some (.own x):=by
      rcases he with z | z
      · exact absurd (hbe.trans z) hb
      · rw [hbe];exact z
     rw [q] at q';cases q'
     obtain ⟨v,hv⟩:=heo
     exact ⟨v,by rw [hbe];exact hv⟩
   · refine (ok b u q).stay (fun c v hc r=>k c v ?_ r) (fun c r=>by rw [am (nown c b r)];exact r) fun c xs r=>by rw [am (ntup c xs r)];exact r
     rcases hc with rfl | hc
     · exact hbe
     · rintro rfl
       rcases he with z | z
       · exact nown c b hc z
       · rw [hc] at z;cases z;exact hb rfl
end
structure Un (fs ex:List Addr) (H H':Hp) (h h':Heap):Prop where
 keep:∀ b o,h.get? b=some o->H b=none->b∉fs->b∉ex->h'.get? b=some o
 slot:∀ b o,h.get? b=some o->H b=none->b∈fs->b∉ex->∃ sl,h'.get? b=some { o with slots:=sl }
 free:∀ b o,h.get? b=some o->H b=none->b∉ex->H' b=none
 there:∀ b o,h.get? b=some o->b∉ex->∃ o',h'.get? b=some o'
 tups:∀ b xs,H b=some (.tup xs)->H' b=some (.tup xs)
 frzs:∀ b o u,H b=some (.frz o u)->H' b=some (.frz o u)
 tbls:∀ b ps,H b=some (.tbl ps)->∃ more,H' b=some (.tbl (ps++more))
section
variable {fs fs' ex ex':List Addr} {H H1 H2:Hp} {h h1 h2 h':Heap} {a x e:Addr} {o:HO}
theorem Un.any (u:Un fs ex H H1 h h1) {b:Addr} {ob:Obj} (q:h.get? b=some ob) (n:H b=none) (hx:b∉ex):∃ sl,h1.get? b=some { ob with slots:=sl }:=by
 by_cases hb:b∈fs
 · exact u.slot b ob q n hb hx
 · exact ⟨ob.slots,u.keep b ob q n hb hx⟩
theorem Un.kept (k:∀ b u,h.get? b=some u->h'.get? b=some u):Un fs ex H H h h':=
 ⟨fun b ob q _ _ _=>k b ob q,fun b ob q _ _ _=>⟨ob.slots,k b ob q⟩,fun _ _ _ n _=>n,fun b ob q _=>⟨ob,k b ob q⟩,fun _ _ q=>q,fun _ _ _ q=>q,fun _ ps q=>⟨#[],by rw [q];simp⟩⟩
theorem Un.refl:Un fs ex H H h h:=Un.kept fun _ _ q=>q
theorem Un.laid (k:∀ b u,h.get? b=some u->h'.get? b=some u) (hp:h.objs.size<=a) (hn:H a=none):Un fs ex H (upd H a o) h h' where
 keep:=fun b u q _ _ _=>k b u q
 slot:=fun b u q _ _ _=>⟨u.slots,k b u q⟩
 free:=fun b u q n _=>by rw [am (Nat.ne_of_lt (Nat.lt_of_lt_of_le (Heap.lt_size q) hp))];exact n
 there:=fun b u q _=>⟨u,k b u q⟩
 tups:=fun b xs q=>by rw [am (aV q hn)];exact q
 frzs:=fun b u xs q=>by rw [am (aV q hn)];exact q
 tbls:=fun b ps q=>⟨#[],by rw [am (aV q hn),q];simp⟩
theorem Un.write (mu:Mut (H x)) (he:e=x\/H e=some (.own x)) (k:∀ b u,b≠e->h.get? b=some u->h'.get? b=some u) (heo:∃ u,h'.get? e=some u):Un fs ex H (upd H x o) h h':=by
 have hx:∀ b,H b=none->b≠x:=fun b n z=>by subst z;rw [n] at mu;exact mu
 have hb:∀ b,H b=none->b≠e:=fun b n z=>by
  subst z
  rcases he with r | r
  · exact hx b n r
  · rw [n] at r;cases r
 have hm:∀ b u,H b=some u->¬ Mut (some u)->b≠x:=fun b u q nm z=>by subst z;rw [q] at mu;exact nm mu
 refine ⟨fun b u q n _ _=>k b u (hb b n) q,fun b u q n _ _=>⟨u.slots,k b u (hb b n) q⟩,fun b u q n _=>by rw [am (hx b n)];exact n,fun b u q _=>?_,
  fun b xs q=>by rw [am (hm b _ q fun z=>z)];exact q,fun b u xs q=>by rw [am (hm b _ q fun z=>z)];exact q,fun b ps q=>⟨#[],by rw [am (hm b _ q fun z=>z),q];simp⟩⟩
 by_cases hbe:b=e
 · subst hbe;exact heo
 · exact ⟨u,k b u hbe q⟩
end
def trk (h:Heap) (H:Hp):List Addr:=(List.range h.objs.size).filter fun a=>(H a).isSome
def pS (h:Heap) (H:Hp):Heap:=PySem.W.hideAll h (trk h H)
theorem mR (h:Heap) (H:Hp):(pS h H).objs.size=h.objs.size:=PySem.W.hideAll_size _ _
theorem pR {h:Heap} {H:Hp} {b:Addr} {o:Obj} (e:h.get? b=some o) (n:H b=none):(pS h H).get? b=some o:=
 PySem.W.hideAll_get _ e fun hm=>by
  have q:(H b).isSome=true:=(List.mem_filter.mp hm).2
  rw [n] at q;simp at q
theorem sR {h:Heap} {H:Hp} {b:Addr} {o:Obj} (e:(pS h H).get? b=some o):h.get? b=some o/\H b=none:=by
 have e':h.get? b=some o:=PySem.W.of_hideAll (trk h H) e
 refine ⟨e',?_⟩
 cases q:H b with
 | none=>rfl
 | some x=>
   have hm:b∈trk h H:=List.mem_filter.mpr ⟨List.mem_range.mpr (Heap.lt_size e'),by simp [q]⟩
   have z:(pS h H).get? b=none:=PySem.W.hideAll_none (trk h H) hm
   rw [z] at e;cases e
structure Mod (K:PySem.W.Frag) (mg:Str->Option Value) (base:Heap):Prop where
 kin:K.In base
 glob:base.Ns mainGlobals mg
 blt:∃ mb,base.Ns builtinsNs mb/\∀ x:Str,x≠"__name__"->mb x=bootBuiltins x
 nolimit:base.NoLimit
structure Cx where
 prog:Program
 w:World
 K:PySem.W.Frag
 mg:Str->Option Value
 base:Heap
 A:Around
 N:List Str
 s₀:Shared
 H₀:Hp
 env:Env
 outer:List Env
 stack:List Env
 ex:List Addr
 fn:Str->Bool
 calm:Bool
 pn:List (Addr×Obj)
 xe:Value->Shared->Prop
def frs (l:List Env):List Addr:=l.filterMap (·.frame)
abbrev Cx.fs (X:Cx):List Addr:=frs X.outer
def Vis (sc:Scope) (x:Str):Prop:=sc.names.lookup x=some .local\/sc.names.lookup x=some .cell\/sc.names.lookup x=some .free
def Loc (sc:Scope) (x:Str):Prop:=sc.names.lookup x=some .local\/sc.names.lookup x=some .cell
def Look (env:Env) (h:Heap) (m:Str->Option Value) (x:Str) (u:Value):Prop:=
 (env.kindOf x=some .local/\m x=some u)\/((env.kindOf x=some .cell\/env.kindOf x=some .free)/\∃ c,env.cells.lookup x=some c/\h.IsCell c (some u))
structure Cx.Ok (X:Cx):Prop where
 mod:Mod X.K X.mg X.base
 kind:X.env.scope.kind=.function
 glob:X.env.globals=mainGlobals
 blt:X.env.builtins=builtinsNs
 above:X.s₀.heap.objs.size<=X.env.locals
 inj:∀ x y c,X.env.cells.lookup x=some c->X.env.cells.lookup y=some c->x=y
 has:∀ x,(X.env.kindOf x=some .cell\/X.env.kindOf x=some .free)->∃ c,X.env.cells.lookup x=some c
 cab:∀ x c,X.fn x=true->X.env.cells.lookup x=some c->X.s₀.heap.objs.size<=c
 hd:X.calm=true->X.A.handled=none
 frames:X.A.frames=some X.stack
 stk:X.stack=X.outer\/(X.stack=X.env::X.outer/\X.env.frame=some X.env.locals)
 exf:∀ b∈X.ex,b≠X.env.locals/\∀ x c,X.env.cells.lookup x=some c->c≠b
 bs:∀ b o,X.base.get? b=some o->X.s₀.heap.get? b=some o/\X.H₀ b=none
 bsz:X.base.objs.size<=X.s₀.heap.objs.size
 noex:∀ b o,X.base.get? b=some o->b∉X.ex
 exfs:∀ b∈X.ex,b∉X.fs
 funs:X.s₀.heap.FunFrames X.base X.outer
 frf:∀ b∈X.fs,X.H₀ b=none
structure Inv (X:Cx) (pins:List (Addr×Obj)) (σ:List (Option V)) (H:Hp) (s:Shared):Prop where
 ok:X.Ok
 os:s.os=X.s₀.os
 bare:AllBare s.gens
 base:Un X.fs X.ex X.H₀ H X.s₀.heap s.heap
 loc:∃ m,s.heap.Ns X.env.locals m/\∀ (i:Nat) (x:Str) (v:V),X.N[i]? = some x->σ[i]? = some (some v)->Vis X.env.scope x->∃ u,RelV v u/\Look X.env s.heap m x u
 cell:∀ x c,X.env.cells.lookup x=some c->∃ v,s.heap.IsCell c v
 free:H X.env.locals=none
 freeC:∀ x c,X.env.cells.lookup x=some c->H c=none
 pin:∀ p∈X.pn++pins,s.heap.get? p.1=some p.2/\H p.1=none/\p.1≠X.env.locals/\p.1∉X.fs/\∀ v,p.2.data≠.cell v
 hok:HOk X.prog X.w H s.heap
 len:σ.length=X.N.length
section
variable {X:Cx} {pins:List (Addr×Obj)} {σ:List (Option V)} {H H':Hp} {s:Shared} {h':Heap}
theorem Cx.Ok.nofr (ok:X.Ok) {b:Addr} {o:Obj} (e:X.base.get? b=some o):b∉X.fs:=fun hb=>by
 have:=(ok.funs.mem hb).1
 rw [e] at this;cases this
theorem Inv.bs (I:Inv X pins σ H s):∀ b o,X.base.get? b=some o->s.heap.get? b=some o/\H b=none:=fun b o e=>
 ⟨I.base.keep b o (I.ok.bs b o e).1 (I.ok.bs b o e).2 (I.ok.nofr e) (I.ok.noex b o e),I.base.free b o (I.ok.bs b o e).1 (I.ok.bs b o e).2 (I.ok.noex b o e)⟩
theorem Inv.bk (I:Inv X pins σ H s):∀ b o,X.base.get? b=some o->s.heap.get? b=some o:=fun b o e=>(I.bs b o e).1
theorem Inv.mod (I:Inv X pins σ H s):Mod X.K X.mg X.base:=I.ok.mod
theorem Inv.kIn (I:Inv X pins σ H s):X.K.In s.heap:=I.ok.mod.kin.keeps I.bk
theorem Inv.lt (I:Inv X pins σ H s):X.env.locals<s.heap.objs.size:=let ⟨_,hn,_⟩:=I.loc;hn.lt
theorem Inv.sz (I:Inv X pins σ H s):X.s₀.heap.objs.size<=s.heap.objs.size:=Nat.le_trans I.ok.above (Nat.le_of_lt I.lt)
theorem Inv.nofs (I:Inv X pins σ H s) {a:Addr} (h:s.heap.objs.size<=a):a∉X.fs:=fun hb=>by
 obtain ⟨_,o,ho,_⟩:=I.ok.funs.mem hb
 exact absurd (Nat.lt_of_lt_of_le (Heap.lt_size ho) (Nat.le_trans I.sz h)) (Nat.lt_irrefl _)
theorem Inv.cne (I:Inv X pins σ H s):∀ x c,X.env.cells.lookup x=some c->c≠X.env.locals:=fun x c e z=>by
 obtain ⟨v,o,ho,hd⟩:=I.cell x c e
 obtain ⟨m,⟨o',es,ep,ho',hd',_⟩,_⟩:=I.loc
 rw [z,ho'] at ho;cases ho;rw [hd'] at hd;cases hd
theorem Inv.funs (I:Inv X pins σ H s):s.heap.FunFrames X.base X.outer:=by
 have all:∀ (l:List Env),(∀ b∈frs l,b∈X.fs)->X.s₀.heap.FunFrames X.base l->s.heap.FunFrames X.base l:=by
  intro l
  induction l with
  | nil=>intro _ _;trivial
  | cons env r ih=>
    intro hs hl
    obtain ⟨hk,⟨L,o,hf,hn,ho,hd⟩,hr⟩:=hl
    have hL:L∈X.fs:=hs L (by unfold frs;rw [List.filterMap_cons,hf];exact List.mem_cons_self)
    obtain ⟨sl,e⟩:=I.base.slot L o ho (I.ok.frf L hL) hL fun z=>I.ok.exfs L z hL
    exact ⟨hk,⟨L,_,hf,hn,e,hd⟩,ih (fun b hb=>hs b (by unfold frs;rw [List.filterMap_cons,hf];exact List.mem_cons_of_mem _ hb)) hr⟩
 exact all X.outer (fun _ hb=>hb) I.ok.funs
theorem Inv.stack (I:Inv X pins σ H s):s.heap.FunFrames X.base X.stack:=by
 rcases I.ok.stk with e | ⟨e,hf⟩
 · rw [e];exact I.funs
 · rw [e]
   obtain ⟨m,hn,_⟩:=I.loc
   refine .cons (by rw [I.ok.kind];decide) hf hn ?_ I.funs
   exact Heap.get?_none_of_le (Nat.le_trans I.ok.bsz I.ok.above)
theorem Inv.stkSub (I:Inv X pins σ H s):∀ b∈frs X.stack,b∈X.env.locals::X.fs:=fun b hb=>by
 rcases I.ok.stk with e | ⟨e,hf⟩
 · rw [e] at hb;exact List.mem_cons_of_mem _ hb
 · rw [e] at hb
   unfold frs at hb
   rw [List.filterMap_cons,hf] at hb
   exact hb
theorem Inv.stkFree (I:Inv X pins σ H s):∀ b∈frs X.stack,H b=none:=fun b hb=>by
 rcases List.mem_cons.mp (I.stkSub b hb) with e | hb
 · rw [e];exact I.free
 · obtain ⟨_,o,ho,_⟩:=I.ok.funs.mem hb
   exact I.base.free b o ho (I.ok.frf b hb) fun z=>I.ok.exfs b z hb
theorem Inv.step {g':Array GenState} {t':Nat} {d':Drawn} {ch:List Addr} (I:Inv X pins σ H s)
 (hch:∀ b∈ch,(b∈X.ex\/X.s₀.heap.objs.size<=b)/\b≠X.env.locals/\(∀ x c,X.env.cells.lookup x=some c->c≠b)/\∀ p∈X.pn++pins,p.1≠b)
 (keep:∀ b o,b≠X.env.locals->b∉X.fs->b∉ch->s.heap.get? b=some o->H b=none->h'.get? b=some o)
 (slot:∀ b o,b≠X.env.locals->b∈X.fs->b∉ch->s.heap.get? b=some o->H b=none->∃ sl,h'.get? b=some { o with slots:=sl }) (free:∀ b o,b∉ch->s.heap.get? b=some o->H b=none->H' b=none)
 (there:∀ b o,b∉ch->s.heap.get? b=some o->∃ o',h'.get? b=some o')
 (tups:∀ b xs,H b=some (.tup xs)->H' b=some (.tup xs)) (frzs:∀ b o u,H b=some (.frz o u)->H' b=some (.frz o u)) (tbls:∀ b ps,H b=some (.tbl ps)->∃ more,H' b=some (.tbl (ps++more)))
 (ns:∀ m,s.heap.Ns X.env.locals m->h'.Ns X.env.locals m) (hok:HOk X.prog X.w H' h') (hg:AllBare g') :
 Inv X pins σ H' { s with heap:=h',gens:=g',drawn:=d',toks:=t' }:=by
 have neL:∀ b o,X.s₀.heap.get? b=some o->b≠X.env.locals:=fun b o e=>Nat.ne_of_lt (Nat.lt_of_lt_of_le (Heap.lt_size e) I.ok.above)
 have neC:∀ b o,X.s₀.heap.get? b=some o->b∉X.ex->b∉ch:=fun b o e hx hb=>by
  rcases (hch b hb).1 with z | z
  · exact hx z
  · exact absurd (Nat.lt_of_lt_of_le (Heap.lt_size e) z) (Nat.lt_irrefl _)
 have cellK:∀ x c,X.env.cells.lookup x=some c->∀ v,s.heap.IsCell c v->h'.IsCell c v:=fun x c e v ⟨o,ho,hd⟩=>by
  have nch:c∉ch:=fun z=>(hch c z).2.2.1 x c e rfl
  by_cases hc:c∈X.fs
  · obtain ⟨sl,q⟩:=slot c o (I.cne x c e) hc nch ho (I.freeC x c e)
    exact ⟨_,q,hd⟩
  · exact ⟨o,keep c o (I.cne x c e) hc nch ho (I.freeC x c e),hd⟩
 refine ⟨I.ok,I.os,hg,⟨fun b o e n hb hx=>?_,fun b o e n hb hx=>?_,fun b o e n hx=>?_,fun b o e hx=>?_,fun b xs e=>tups b xs (I.base.tups b xs e),fun b o xs e=>frzs b o xs (I.base.frzs b o xs e),fun b ps e=>?_⟩,?_,fun x c e=>?_,?_,fun x c e=>?_,fun p hp=>?_,hok,I.len⟩
 · exact keep b o (neL b o e) hb (neC b o e hx) (I.base.keep b o e n hb hx) (I.base.free b o e n hx)
 · obtain ⟨sl,e1⟩:=I.base.slot b o e n hb hx
   obtain ⟨sl',e2⟩:=slot b _ (neL b o e) hb (neC b o e hx) e1 (I.base.free b o e n hx)
   exact ⟨sl',e2⟩
 · obtain ⟨o',e1⟩:=I.base.there b o e hx
   exact free b o' (neC b o e hx) e1 (I.base.free b o e n hx)
 · obtain ⟨o',e1⟩:=I.base.there b o e hx
   exact there b o' (neC b o e hx) e1
 · obtain ⟨m1,e1⟩:=I.base.tbls b ps e
   obtain ⟨m2,e2⟩:=tbls b _ e1
   exact ⟨m1++m2,by rw [e2,Array.append_assoc]⟩
 · obtain ⟨m,hn,hl⟩:=I.loc
   refine ⟨m,ns m hn,fun i x v e1 e2 e3=>?_⟩
   obtain ⟨u,r,l⟩:=hl i x v e1 e2 e3
   refine ⟨u,r,?_⟩
   rcases l with l | ⟨k,c,e,z⟩
   · exact .inl l
   · exact .inr ⟨k,c,e,cellK x c e _ z⟩
 · obtain ⟨v,z⟩:=I.cell x c e
   exact ⟨v,cellK x c e v z⟩
 · obtain ⟨m,⟨o,_,_,ho,_⟩,_⟩:=I.loc
   exact free _ o (fun z=>(hch _ z).2.1 rfl) ho I.free
 · obtain ⟨v,o,ho,hd⟩:=I.cell x c e
   exact free c o (fun z=>(hch c z).2.2.1 x c e rfl) ho (I.freeC x c e)
 · obtain ⟨e,n,ne,nf,d⟩:=I.pin p hp
   have nch:p.1∉ch:=fun z=>(hch p.1 z).2.2.2 p hp rfl
   exact ⟨keep p.1 p.2 ne nf nch e n,free p.1 p.2 nch e n,ne,nf,d⟩
theorem Inv.un {t':Nat} (I:Inv X pins σ H s) (u:Un X.fs [] H H' s.heap h') (hok:HOk X.prog X.w H' h'):Inv X pins σ H' { s with heap:=h',toks:=t' }:=by
 obtain ⟨m,⟨o,es,ep,ho,r⟩,_⟩:=id I.loc
 obtain ⟨sl,hL⟩:=u.any ho I.free (by simp)
 exact I.step (g':=s.gens) (d':=s.drawn) (ch:=[]) (fun _ z=>nomatch z) (fun b o _ hb _ e n=>u.keep b o e n hb (by simp)) (fun b o _ hb _ e n=>u.slot b o e n hb (by simp)) (fun b o _ e n=>u.free b o e n (by simp)) (fun b o _ e=>u.there b o e (by simp)) u.tups u.frzs u.tbls (fun m' hm=>by
  obtain ⟨o',es',ep',ho',r'⟩:=hm
  rw [ho] at ho';cases ho'
  exact ⟨_,es',ep',hL,r'⟩) hok I.bare
theorem Inv.call {g':Array GenState} {t':Nat} {d':Drawn} {ch:List Addr} (I:Inv X pins σ H s) (u:Un (frs X.stack) ch H H' s.heap h') (hok:HOk X.prog X.w H' h') (hg:AllBare g')
 (hch:∀ b∈ch,(b∈X.ex\/X.s₀.heap.objs.size<=b)/\b≠X.env.locals/\(∀ x c,X.env.cells.lookup x=some c->c≠b)/\∀ p∈X.pn++pins,p.1≠b) :
 Inv X pins σ H' { s with heap:=h',gens:=g',drawn:=d',toks:=t' }:=by
 obtain ⟨m,⟨o,es,ep,ho,r⟩,_⟩:=id I.loc
 obtain ⟨sl,hL⟩:=u.any ho I.free fun z=>(hch _ z).2.1 rfl
 exact I.step (ch:=ch) hch (fun b o hL hb hc e n=>u.keep b o e n (fun z=>(List.mem_cons.mp (I.stkSub b z)).elim hL hb) hc) (fun b o _ _ hc e n=>u.any e n hc) (fun b o hc e n=>u.free b o e n hc) (fun b o hc e=>u.there b o e hc) u.tups u.frzs u.tbls (fun m' hm=>by
  obtain ⟨o',es',ep',ho',r'⟩:=hm
  rw [ho] at ho';cases ho'
  exact ⟨_,es',ep',hL,r'⟩) hok hg
theorem Inv.turned {t':Nat} {it:Addr} (I:Inv X pins σ H s) (k:∀ b o,b≠it->s.heap.get? b=some o->h'.get? b=some o) (hn:H it=none) (hL:it≠X.env.locals)
 (h1:it∈X.ex\/X.s₀.heap.objs.size<=it) (h2:∀ x c,X.env.cells.lookup x=some c->c≠it) (h3:∀ p∈X.pn++pins,p.1≠it):Inv X pins σ H { s with heap:=h',toks:=t' }:=by
 have nit:∀ b u,H b=some u->b≠it:=fun b u e z=>by rw [z,hn] at e;cases e
 refine I.step (g':=s.gens) (d':=s.drawn) (ch:=[it]) (fun b hb=>?_) (fun b o _ _ hc e _=>k b o (fun z=>hc (by simp [z])) e) (fun b o _ _ hc e _=>⟨o.slots,k b o (fun z=>hc (by simp [z])) e⟩) (fun _ _ _ _ n=>n)
  (fun b o hc e=>⟨o,k b o (fun z=>hc (by simp [z])) e⟩) (fun _ _ e=>e) (fun _ _ _ e=>e) (fun b ps e=>⟨#[],by rw [e];simp⟩) (fun m hm=>?_) (fun b u e=>?_) I.bare
 · have e:b=it:=by simpa using hb
   subst e
   exact ⟨h1,hL,h2,h3⟩
 · obtain ⟨o,es,ep,ho,r⟩:=hm
   exact ⟨o,es,ep,k _ o (Ne.symm hL) ho,r⟩
 · refine (I.hok b u e).stay (fun c v hc q=>k c v ?_ q) (fun _ q=>q) fun _ _ q=>q
   rcases hc with z | z
   · rw [z];exact nit b u e
   · exact nit c _ z
theorem Inv.tok (I:Inv X pins σ H s) (t:Nat):Inv X pins σ H { s with toks:=t }:=I.un (h':=s.heap) (t':=t) Un.refl I.hok
theorem Inv.kept {t':Nat} (I:Inv X pins σ H s) (k:∀ b u,s.heap.get? b=some u->h'.get? b=some u):Inv X pins σ H { s with heap:=h',toks:=t' }:=I.un (Un.kept k) (I.hok.kept k)
theorem Inv.laid {a:Addr} {o:HO} {t':Nat} (I:Inv X pins σ H s) (k:∀ b u,s.heap.get? b=some u->h'.get? b=some u) (hp:s.heap.objs.size<=a) (new:ObjOk X.prog X.w (upd H a o) h' a o) :
 Inv X pins σ (upd H a o) { s with heap:=h',toks:=t' }:=I.un (Un.laid k hp (I.hok.fresh hp)) (I.hok.laid k hp new)
theorem Inv.write {x e:Addr} {o:HO} {t':Nat} (I:Inv X pins σ H s) (mu:Mut (H x)) (he:e=x\/H e=some (.own x)) (k:∀ b u,b≠e->s.heap.get? b=some u->h'.get? b=some u) (heo:∃ u,h'.get? e=some u)
 (new:ObjOk X.prog X.w (upd H x o) h' x o):Inv X pins σ (upd H x o) { s with heap:=h',toks:=t' }:=I.un (Un.write mu he k heo) (I.hok.write mu he k heo new)
theorem Inv.weak {σ':List (Option V)} (I:Inv X pins σ H s) (hl:σ'.length=σ.length) (w:∀ (i:Nat) v,σ'[i]? = some (some v)->σ[i]? = some (some v)):Inv X pins σ' H s:=
 ⟨I.ok,I.os,I.bare,I.base,let ⟨m,hn,hl'⟩:=I.loc;⟨m,hn,fun i x v e1 e2 e3=>hl' i x v e1 (w i v e2) e3⟩,I.cell,I.free,I.freeC,I.pin,I.hok,hl.trans I.len⟩
theorem Inv.pins_of {pins':List (Addr×Obj)} (I:Inv X pins σ H s) (h:∀ p∈pins',s.heap.get? p.1=some p.2/\H p.1=none/\p.1≠X.env.locals/\p.1∉X.fs/\∀ v,p.2.data≠.cell v):Inv X pins' σ H s:=
 ⟨I.ok,I.os,I.bare,I.base,I.loc,I.cell,I.free,I.freeC,fun p hp=>(List.mem_append.mp hp).elim (fun z=>I.pin p (List.mem_append_left _ z)) (h p),I.hok,I.len⟩
theorem fP {N:List Str} (hN:N.Nodup) {i j:Nat} {x:Str} (a:N[i]? = some x) (b:N[j]? = some x):i=j:=by
 obtain ⟨h1,e1⟩:=List.getElem?_eq_some_iff.mp a
 obtain ⟨h2,e2⟩:=List.getElem?_eq_some_iff.mp b
 exact (List.getElem_inj hN).mp (e1.trans e2.symm)
theorem gm {M:Model} {A:Around} {E:Value->Shared->Prop} {i:Nat} {x:Str} {v:V} {u:Value} {Q:Unit->Shared->Prop} (I:Inv X pins σ H s) (hN:X.N.Nodup) (hi:X.N[i]? = some x) (hx:Loc X.env.scope x) (r:RelV v u)
 (h:∀ s',Inv X pins (σ.set i (some v)) H s'->(∃ a,Heap.SameBut a s.heap s'.heap/\(a=X.env.locals\/X.env.cells.lookup x=some a))->Q () s') (hf:X.fn x=true\/X.env.scope.names.lookup x=some .local:=by first | exact .inl rfl | exact .inr rfl | assumption):wpAny M A (storeName X.env x u) Q E s:=by
 obtain ⟨m,hn,hl⟩:=id I.loc
 have hcls:(X.env.scope.kind == .class||(X.env.scope.kind == .module&&X.env.locals != X.env.globals))=false:=by rw [I.ok.kind];rfl
 have hiσ:i<σ.length:=by rw [I.len];exact (List.getElem?_eq_some_iff.mp hi).1
 have cne:=I.cne
 have tracked:∀ {a:Addr} {h':Heap},(∃ o,s.heap.get? a=some o/\H a=none)->Heap.SameBut a s.heap h'->HOk X.prog X.w H h':=fun {a h'} ha hs b ob e=>by
  obtain ⟨_,_,hfree⟩:=ha
  refine (I.hok b ob e).stay (fun c w' hc q=>(hs.2 c ?_).trans q) (fun _ q=>q) fun _ _ q=>q
  rintro rfl
  rcases hc with rfl | hc
  · rw [hfree] at e;cases e
  · rw [hfree] at hc;cases hc
 rcases hx with hk | hk
 · refine wpAny_storeName_local hk hn (fun h' hn' hs=>?_) hcls
   obtain ⟨oL,_,_,hoL,_⟩:=id hn
   refine h _ ⟨I.ok,I.os,I.bare,⟨fun b o e n hb hx=>?_,fun b o e n hb hx=>?_,I.base.free,fun b o e hx=>?_,I.base.tups,I.base.frzs,I.base.tbls⟩,⟨_,hn',fun j y v' e1 e2 e3=>?_⟩,fun y c e=>?_,I.free,I.freeC,fun p hp=>?_,tracked ⟨oL,hoL,I.free⟩ hs,by simpa using I.len⟩ ⟨_,hs,.inl rfl⟩
   · exact (hs.2 b (Nat.ne_of_lt (Nat.lt_of_lt_of_le (Heap.lt_size e) I.ok.above))).trans (I.base.keep b o e n hb hx)
   · obtain ⟨sl,e1⟩:=I.base.slot b o e n hb hx
     exact ⟨sl,(hs.2 b (Nat.ne_of_lt (Nat.lt_of_lt_of_le (Heap.lt_size e) I.ok.above))).trans e1⟩
   · obtain ⟨o',e1⟩:=I.base.there b o e hx
     exact ⟨o',(hs.2 b (Nat.ne_of_lt (Nat.lt_of_lt_of_le (Heap.lt_size e) I.ok.above))).trans e1⟩
   · by_cases hj:j=i
     · subst hj
       rw [hi] at e1;cases e1
       rw [List.getElem?_set_self hiσ] at e2
       cases e2
       exact ⟨u,r,.inl ⟨hk,by simp⟩⟩
     · rw [List.getElem?_set_ne (Ne.symm hj)] at e2
       obtain ⟨u',r',q⟩:=hl j y v' e1 e2 e3
       refine ⟨u',r',?_⟩
       rcases q with ⟨k,e⟩ | ⟨k,c,e,z⟩
       · refine .inl ⟨k,?_⟩
         have:y≠x:=fun e=>hj (fP hN e1 (e▸hi))
         simp [this,e]
       · exact .inr ⟨k,c,e,z.sameBut hs (cne y c e)⟩
   · obtain ⟨w',z⟩:=I.cell y c e
     exact ⟨w',z.sameBut hs (cne y c e)⟩
   · obtain ⟨e,n,ne,nf,d⟩:=I.pin p hp
     exact ⟨(hs.2 p.1 ne).trans e,n,ne,nf,d⟩
 · have hfn:X.fn x=true:=by
    rcases hf with z | z
    · exact z
    · rw [z] at hk;cases hk
   obtain ⟨c,hc⟩:=I.ok.has x (.inl hk)
   obtain ⟨w',z⟩:=I.cell x c hc
   refine wpAny_storeName_cell I.ok.kind hk hc z (fun h' hc' hs=>?_)
   obtain ⟨oc,hoc,hocd⟩:=id z
   refine h { s with heap:=h' } ⟨I.ok,I.os,I.bare,⟨fun b o e n hb hx=>?_,fun b o e n hb hx=>?_,I.base.free,fun b o e hx=>?_,I.base.tups,I.base.frzs,I.base.tbls⟩,⟨m,hn.sameBut hs (Ne.symm (cne x c hc)),fun j y v' e1 e2 e3=>?_⟩,fun y c' e=>?_,I.free,I.freeC,fun p hp=>?_,tracked ⟨oc,hoc,I.freeC x c hc⟩ hs,by simpa using I.len⟩ ⟨c,hs,.inr hc⟩
   · exact (hs.2 b (Nat.ne_of_lt (Nat.lt_of_lt_of_le (Heap.lt_size e) (I.ok.cab x c hfn hc)))).trans (I.base.keep b o e n hb hx)
   · obtain ⟨sl,e1⟩:=I.base.slot b o e n hb hx
     exact ⟨sl,(hs.2 b (Nat.ne_of_lt (Nat.lt_of_lt_of_le (Heap.lt_size e) (I.ok.cab x c hfn hc)))).trans e1⟩
   · obtain ⟨o',e1⟩:=I.base.there b o e hx
     exact ⟨o',(hs.2 b (Nat.ne_of_lt (Nat.lt_of_lt_of_le (Heap.lt_size e) (I.ok.cab x c hfn hc)))).trans e1⟩
   · by_cases hj:j=i
     · subst hj
       rw [hi] at e1;cases e1
       rw [List.getElem?_set_self hiσ] at e2
       cases e2
       exact ⟨u,r,.inr ⟨.inl hk,c,hc,hc'⟩⟩
     · rw [List.getElem?_set_ne (Ne.symm hj)] at e2
       obtain ⟨u',r',q⟩:=hl j y v' e1 e2 e3
       refine ⟨u',r',?_⟩
       rcases q with q | ⟨k,c',e,z'⟩
       · exact .inl q
       · refine .inr ⟨k,c',e,z'.sameBut hs ?_⟩
         rintro rfl
         exact hj (fP hN e1 (I.ok.inj _ _ _ e hc▸hi))
   · by_cases hcc:c'=c
     · subst hcc;exact ⟨_,hc'⟩
     · obtain ⟨w2,z2⟩:=I.cell y c' e
       exact ⟨w2,z2.sameBut hs hcc⟩
   · obtain ⟨e,n,ne,nf,d⟩:=I.pin p hp
     refine ⟨(hs.2 p.1 ?_).trans e,n,ne,nf,d⟩
     intro q
     rw [q,hoc] at e
     have q':oc=p.2:=Option.some.inj e
     exact d w' (by rw [← q'];exact hocd)
theorem bu {M:Model} {A:Around} {E:Value->Shared->Prop} {i:Nat} {x:Str} {v:V} {u:Value} {Q:Unit->Shared->Prop} (I:Inv X pins σ H s) (hN:X.N.Nodup) (hi:X.N[i]? = some x) (hx:Loc X.env.scope x) (r:RelV v u)
 (h:∀ s',Inv X pins (σ.set i (some v)) H s'->Q () s') (hf:X.fn x=true\/X.env.scope.names.lookup x=some .local:=by first | exact .inl rfl | exact .inr rfl | assumption):wpAny M A (storeName X.env x u) Q E s:=
 gm I hN hi hx r (fun s' I' _=>h s' I') hf
theorem Inv.call' {s':Shared} {ch:List Addr} (I:Inv X pins σ H s) (ho:s'.os=s.os) (u:Un (frs X.stack) ch H H' s.heap s'.heap) (hok:HOk X.prog X.w H' s'.heap) (hg:AllBare s'.gens)
 (hch:∀ b∈ch,(b∈X.ex\/X.s₀.heap.objs.size<=b)/\b≠X.env.locals/\(∀ x c,X.env.cells.lookup x=some c->c≠b)/\∀ p∈X.pn++pins,p.1≠b):Inv X pins σ H' s':=by
 obtain ⟨h',g',d',t',o'⟩:=s'
 have e:o'=s.os:=ho
 subst e
 exact I.call (g':=g') (t':=t') (d':=d') u hok hg hch
end
abbrev XK:=Value->Option Addr->Hp->Prop
abbrev St:=List (Option V)
abbrev VK:=V->Hp->Prop
abbrev TE:=St->Hp->VK->Prop
abbrev TT:=St->Hp->(Bool->Hp->Prop)->Prop
abbrev TA:=St->Hp->(List V->Hp->Prop)->Prop
structure Ends where
 nx:St->Hp->Prop
 rt:VK
 bk:St->Hp->Prop:=fun _ _=>False
 ct:St->Hp->Prop:=fun _ _=>False
abbrev TS:=Ends->St->Hp->Prop
def EP (X:Cx) (pins:List (Addr×Obj)) (σ:St) (Q:VK) (u:Value) (s':Shared):Prop:=∃ v H',Inv X pins σ H' s'/\RelV v u/\Q v H'
def TP (X:Cx) (pins:List (Addr×Obj)) (σ:St) (Q:Bool->Hp->Prop) (b:Bool) (s':Shared):Prop:=∃ H',Inv X pins σ H' s'/\Q b H'
def AP (X:Cx) (pins:List (Addr×Obj)) (σ:St) (Q:List V->Hp->Prop) (us:List Value) (s':Shared):Prop:=∃ vs H',Inv X pins σ H' s'/\Vals vs us/\Q vs H'
def SP (X:Cx) (pins:List (Addr×Obj)) (D:Ends) (f:Flow) (s':Shared):Prop:=
 match f with
 | .next=>∃ σ' H',Inv X pins σ' H' s'/\D.nx σ' H'
 | .brk=>∃ σ' H',Inv X pins σ' H' s'/\D.bk σ' H'
 | .cont=>∃ σ' H',Inv X pins σ' H' s'/\D.ct σ' H'
 | .ret u=>∃ v σ' H',Inv X pins σ' H' s'/\RelV v u/\D.rt v H'
def PE (X:Cx) (e:Expr) (t:TE):Prop:=
 ∀ (pins:List (Addr×Obj)) (s:Shared) (σ:St) (H:Hp) (Q:VK),Inv X pins σ H s->t σ H Q->wpAny (model X.prog X.w) X.A (eval e X.env) (EP X pins σ Q) X.xe s
@[irreducible] def ZE (X:Cx) (e:Expr) (t:TE):Prop:=PE X e t
def PT (X:Cx) (e:Expr) (t:TT):Prop:=
 ∀ (pins:List (Addr×Obj)) (s:Shared) (σ:St) (H:Hp) (Q:Bool->Hp->Prop),Inv X pins σ H s->t σ H Q->wpAny (model X.prog X.w) X.A (isTrue e X.env (eval e X.env)) (TP X pins σ Q) X.xe s
@[irreducible] def ZT (X:Cx) (e:Expr) (t:TT):Prop:=PT X e t
def PW (X:Cx) (e:Expr) (t:TT):Prop:=
 ∀ (whole:Sem Value) (pins:List (Addr×Obj)) (s:Shared) (σ:St) (H:Hp) (Q:Bool->Hp->Prop),Inv X pins σ H s->t σ H Q->wpAny (model X.prog X.w) X.A (isTrue e X.env whole) (TP X pins σ Q) X.xe s
@[irreducible] def ZW (X:Cx) (e:Expr) (t:TT):Prop:=PW X e t
theorem PW.pt {X:Cx} {e:Expr} {t:TT} (h:PW X e t):PT X e t:=h _
theorem ZW.zt {X:Cx} {e:Expr} {t:TT} (h:ZW X e t):ZT X e t:=by with_unfolding_all exact PW.pt h
def PA (X:Cx) (es:List Expr) (t:TA):Prop:=
 ∀ (pos:Pos) (pins:List (Addr×Obj)) (s:Shared) (σ:St) (H:Hp) (Q:List V->Hp->Prop),Inv X pins σ H s->t σ H Q->wpAny (model X.prog X.w) X.A (spliced (backTo pos (starEach es X.env))) (AP X pins σ Q) X.xe s
@[irreducible] def ZA (X:Cx) (es:List Expr) (t:TA):Prop:=PA X es t
def PS (X:Cx) (st:Stmt) (t:TS):Prop:=
 ∀ (pins:List (Addr×Obj)) (s:Shared) (σ:St) (H:Hp) (D:Ends),Inv X pins σ H s->t D σ H->wpAny (model X.prog X.w) X.A (exec st X.env) (SP X pins D) X.xe s
@[irreducible] def ZS (X:Cx) (st:Stmt) (t:TS):Prop:=PS X st t
def PSs (X:Cx) (st:List Stmt) (t:TS):Prop:=
 ∀ (pins:List (Addr×Obj)) (s:Shared) (σ:St) (H:Hp) (D:Ends),Inv X pins σ H s->t D σ H->wpAny (model X.prog X.w) X.A (execs st X.env) (SP X pins D) X.xe s
@[irreducible] def ZSs (X:Cx) (st:List Stmt) (t:TS):Prop:=PSs X st t
theorem ZSs.p {X:Cx} {st:List Stmt} {t:TS}  (h:ZSs X st t):PSs X st t:=by unfold ZSs at h;exact h
theorem thn {α:Type} {t:Sem α} {Q Q':α->Shared->Prop} {M:Model} {A:Around} {E:Value->Shared->Prop} {s:Shared} (h:wpAny M A t Q E s) (hQ:∀ a s,Q a s->Q' a s):wpAny M A t Q' E s:=wpAny_mono h hQ fun _ _ x=>x
section
variable {X:Cx}
def tVar (i:Nat):TE:=fun σ H Q=>∃ v,σ[i]? = some (some v)/\Q v H
def tC (v:V):TE:=fun _ H Q=>Q v H
theorem pe_var {i:Nat} {x:Str} {pos:Pos} (hN:X.N[i]? = some x) (hv:Vis X.env.scope x) (hd:(x == ("__debug__" : Str))=false:=by decide) (hcd:(x == ("__classdict__" : Str))=false:=by decide):PE X (.Name x pos) (tVar i):=by
 intro pins s σ H Q I h
 obtain ⟨v,e,h⟩:=h
 obtain ⟨m,hn,hl⟩:=I.loc
 obtain ⟨u,r,l⟩:=hl i x v hN e hv
 have fin:EP X pins σ Q u s:=⟨v,H,I,r,h⟩
 rcases l with ⟨hk,hm⟩ | ⟨hk,c,hc,hcell⟩
 · exact wpAny_Name (wpAny_loadName_local I.ok.kind hk hn hm fin) hd
 · rcases hk with hk | hk
   · exact wpAny_Name (wpAny_loadName_cell I.ok.kind hk hc hcell fin) hd
   · exact wpAny_Name (wpAny_loadName_free I.ok.kind hk hc hcell fin hcd) hd
theorem pe_int {i j pos}:PE X (.Constant (.int i) j pos) (tC (.int i)):=fun _ _ _ H _ I h=>wpAny_Constant_int ⟨.int i,H,I.tok _,⟨_,rfl⟩,h⟩
theorem ag {i j pos}:ZE X (.Constant (.int i) j pos) (tC (.int i)):=by with_unfolding_all exact pe_int
theorem pe_bl {b j pos}:PE X (.Constant (.bool b) j pos) (tC (.bl b)):=fun _ _ _ H _ I h=>Constant_bool ⟨.bl b,H,I,rfl,h⟩
theorem dA {b j pos}:ZE X (.Constant (.bool b) j pos) (tC (.bl b)):=by with_unfolding_all exact pe_bl
theorem pe_non {j pos}:PE X (.Constant .none j pos) (tC .non):=fun _ _ _ H _ I h=>Constant_none ⟨.non,H,I,rfl,h⟩
theorem gc {j pos}:ZE X (.Constant .none j pos) (tC .non):=by with_unfolding_all exact pe_non
theorem pe_str {x j pos}:PE X (.Constant (.str x) j pos) (tC (.str x)):=fun _ _ _ H _ I h=>Calls.Constant_str ⟨.str x,H,I.tok _,⟨_,rfl⟩,h⟩
theorem ze_str {x j pos}:ZE X (.Constant (.str x) j pos) (tC (.str x)):=by with_unfolding_all exact pe_str
def Gl (X:Cx) (x:Str):Prop:=X.env.kindOf x=some .globalImplicit
theorem d6 {E:Value->Shared->Prop} {pins:List (Addr×Obj)} {s:Shared} {σ:St} {H:Hp} {x:Str} {u:Value} {pos:Pos} {Q:Value->Shared->Prop} (I:Inv X pins σ H s) (hg:Gl X x) (hm:X.mg x=some u) (h:Q u s)
 (hd:(x == ("__debug__" : Str))=false:=by decide):wpAny (model X.prog X.w) X.A (eval (.Name x pos) X.env) Q E s:=
 Calls.Name_function_global I.ok.kind hg (Calls.loadGlobal_global (by rw [I.ok.glob];exact I.mod.glob.keeps I.bk) hm h) hd
theorem dw {E:Value->Shared->Prop} {pins:List (Addr×Obj)} {s:Shared} {σ:St} {H:Hp} {x:Str} {u:Value} {pos:Pos} {Q:Value->Shared->Prop} (I:Inv X pins σ H s) (hg:Gl X x) (hm:X.mg x=none) (hv:bootBuiltins x=some u) (h:Q u s)
 (hn:x≠"__name__":=by decide) (hd:(x == ("__debug__" : Str))=false:=by decide):wpAny (model X.prog X.w) X.A (eval (.Name x pos) X.env) Q E s:=by
 obtain ⟨mb,h1,h2⟩:=I.mod.blt
 exact Calls.Name_function_global I.ok.kind hg (Calls.loadGlobal_builtin (by rw [I.ok.glob];exact I.mod.glob.keeps I.bk) hm (by rw [I.ok.blt];exact h1.keeps I.bk) ((h2 x hn).trans hv) h) hd
theorem su {x:Str} {v:V} {u:Value} {pos:Pos} (hg:Gl X x) (hm:X.mg x=some u) (r:RelV v u) (hd:(x == ("__debug__" : Str))=false:=by decide):PE X (.Name x pos) (tC v):=
 fun _ _ _ H _ I h=>d6 I hg hm ⟨v,H,I,r,h⟩ hd
theorem sA {x:Str} {v:V} {u:Value} {pos:Pos} (hg:Gl X x) (hm:X.mg x=none) (hv:bootBuiltins x=some u) (r:RelV v u) (hn:x≠"__name__":=by decide) (hd:(x == ("__debug__" : Str))=false:=by decide):PE X (.Name x pos) (tC v):=
 fun _ _ _ H _ I h=>dw I hg hm hv ⟨v,H,I,r,h⟩ hn hd
variable {a b:Expr} {ta tb:TE} {pos:Pos}
def PC (X:Cx) (op:CmpOp) (a b:Expr) (t:TE):Prop:=
 ∀ (pins:List (Addr×Obj)) (s:Shared) (σ:St) (H:Hp) (Q:VK),Inv X pins σ H s->t σ H Q ->
   wpAny (model X.prog X.w) X.A (eval a X.env) (fun v s₁=>wpAny (model X.prog X.w) X.A (eval b X.env) (fun u s₂=>wpAny (model X.prog X.w) X.A (compareOp op v u) (EP X pins σ Q) X.xe s₂) X.xe s₁) X.xe s
@[irreducible] def ZC (X:Cx) (op:CmpOp) (a b:Expr) (t:TE):Prop:=PC X op a b t
def tB (t:TE):TT:=fun σ H Q=>t σ H fun x H1=>∃ c,x=.bl c/\Q c H1
theorem pt_cmp {op:CmpOp} {t:TE} (h:PC X op a b t) (h1:behindInMarks op b=false:=by first | exact nobehind _ (by decide) (by decide) | rfl):PT X (.Compare a [op] [b] pos) (tB t):=by
 intro pins s σ H Q I hw
 refine wpAny_isTrue_Compare1 (thn (h pins s σ H _ I hw) fun v s1 h1=>thn h1 fun u s2 h2=>thn h2 fun c s3 ⟨x,H1,I1,r1,q1⟩=>?_) h1
 obtain ⟨d,rfl,q⟩:=q1
 cases r1
 exact wpAny_truthy_bool ⟨H1,I1,q⟩
theorem zt_cmp {op:CmpOp} {t:TE} (h:ZC X op a b t) (h1:behindInMarks op b=false:=by first | exact nobehind _ (by decide) (by decide) | rfl):ZT X (.Compare a [op] [b] pos) (tB t):=by with_unfolding_all exact pt_cmp h h1
variable {tA tB':TT} {rest:List Expr}
def tAnd (t u:TT):TT:=fun σ H Q=>t σ H fun c H1=>if c=true then u σ H1 Q else Q false H1
def tOr (t u:TT):TT:=fun σ H Q=>t σ H fun c H1=>if c=true then Q true H1 else u σ H1 Q
def tNot (t:TT):TT:=fun σ H Q=>t σ H fun c H1=>Q (!c) H1
theorem rS (ha:PT X a tA):PW X (.BoolOp .And [a] pos) tA:=by
 intro wh pins s σ H Q I h
 refine isTrue_and (thn (ha pins s σ H Q I h) fun c s1 e=>?_)
 cases c with
 | true=>exact isTrue_and_nil e
 | false=>exact e
theorem dM (ha:ZT X a tA):ZW X (.BoolOp .And [a] pos) tA:=by with_unfolding_all exact rS ha
theorem pw_or1 (ha:PT X a tA):PW X (.BoolOp .Or [a] pos) tA:=by
 intro wh pins s σ H Q I h
 refine isTrue_or (thn (ha pins s σ H Q I h) fun c s1 e=>?_)
 cases c with
 | false=>exact isTrue_or_nil e
 | true=>exact e
theorem dt (ha:ZT X a tA):ZW X (.BoolOp .Or [a] pos) tA:=by with_unfolding_all exact pw_or1 ha
theorem pw_and (ha:PT X a tA) (hb:PW X (.BoolOp .And (b::rest) pos) tB'):PW X (.BoolOp .And (a::b::rest) pos) (tAnd tA tB'):=by
 intro wh pins s σ H Q I h
 refine isTrue_and (thn (ha pins s σ H _ I h) fun c s1 ⟨H1,I1,q1⟩=>?_)
 cases c with
 | true=>exact hb wh pins s1 σ H1 Q I1 q1
 | false=>exact ⟨H1,I1,q1⟩
theorem gb (ha:ZT X a tA) (hb:ZW X (.BoolOp .And (b::rest) pos) tB'):ZW X (.BoolOp .And (a::b::rest) pos) (tAnd tA tB'):=by with_unfolding_all exact pw_and ha hb
theorem pw_or (ha:PT X a tA) (hb:PW X (.BoolOp .Or (b::rest) pos) tB'):PW X (.BoolOp .Or (a::b::rest) pos) (tOr tA tB'):=by
 intro wh pins s σ H Q I h
 refine isTrue_or (thn (ha pins s σ H _ I h) fun c s1 ⟨H1,I1,q1⟩=>?_)
 cases c with
 | true=>exact ⟨H1,I1,q1⟩
 | false=>exact hb wh pins s1 σ H1 Q I1 q1
theorem eJ (ha:ZT X a tA) (hb:ZW X (.BoolOp .Or (b::rest) pos) tB'):ZW X (.BoolOp .Or (a::b::rest) pos) (tOr tA tB'):=by with_unfolding_all exact pw_or ha hb
theorem pt_not (ha:PT X a tA):PT X (.UnaryOp .Not a pos) (tNot tA):=by
 intro pins s σ H Q I h
 exact isTrue_not (ha pins s σ H (fun c H1=>Q (!c) H1) I h)
theorem cG (ha:ZT X a tA):ZT X (.UnaryOp .Not a pos) (tNot tA):=by with_unfolding_all exact pt_not ha
theorem pe_one {op} {t:TE} (h:PE X a t):PE X (.BoolOp op [a] pos) t:=fun pins s σ H Q I hw=>BoolOp_one (h pins s σ H Q I hw)
theorem iQ {op} {t:TE} (h:ZE X a t):ZE X (.BoolOp op [a] pos) t:=by with_unfolding_all exact pe_one h
def tIf (t:TT) (ta tb:TE):TE:=fun σ H Q=>t σ H fun c H1=>if c=true then ta σ H1 Q else tb σ H1 Q
theorem pd {c:Expr} (hc:PT X c tA) (ha:PE X a ta) (hb:PE X b tb):PE X (.IfExp c a b pos) (tIf tA ta tb):=by
 intro pins s σ H Q I h
 refine wpAny_IfExp (thn (hc pins s σ H _ I h) fun d s1 ⟨H1,I1,q1⟩=>?_)
 cases d with
 | true=>exact ha pins s1 σ H1 Q I1 q1
 | false=>exact hb pins s1 σ H1 Q I1 q1
theorem oa {c:Expr} (hc:ZT X c tA) (ha:ZE X a ta) (hb:ZE X b tb):ZE X (.IfExp c a b pos) (tIf tA ta tb):=by with_unfolding_all exact pd hc ha hb
end
def SqL (K:PySem.W.Frag) (H:Hp) (a:Addr) (xs:List V):Prop:=
 Rd H a (.lst xs) \/
  ∃ (o:Obj) (its:Array Value) (n:Nat),K.lookup a=some o/\o.cls=.type "list"/\o.dict=none/\o.data=.seq its n/\its.size<=sizeLine/\Vals xs its.toList
def SqT (K:PySem.W.Frag) (H:Hp) (a:Addr) (xs:List V):Prop:=
 Rd H a (.tup xs) \/
  ∃ (o:Obj) (its:Array Value) (n:Nat),K.lookup a=some o/\o.cls=.type "tuple"/\o.data=.seq its n/\its.size<=sizeLine/\Vals xs its.toList
def absV:Value->Option V
 | .none=>some .non
 | .bool b=>some (.bl b)
 | .int i _=>some (.int i)
 | .str x _=>some (.str x)
 | .bytes b _=>some (.byt b)
 | .float b _=>some (.flt b)
 | .ref a=>some (.ref a)
 | .type n=>some (.ty n)
 | _=>none
theorem RelV.abs {x:V} {u:Value} (r:RelV x u):absV u=some x:=by
 cases x with
 | non=>cases r;rfl
 | bl _=>cases r;rfl
 | int _=>obtain ⟨t,rfl⟩:=r;rfl
 | str _=>obtain ⟨t,rfl⟩:=r;rfl
 | byt _=>obtain ⟨t,rfl⟩:=r;rfl
 | flt _=>obtain ⟨t,rfl⟩:=r;rfl
 | ref _=>cases r;rfl
 | ty _=>cases r;rfl
theorem RelV.inj {x y:V} {u:Value} (r:RelV x u) (q:RelV y u):x=y:=Option.some.inj (r.abs.symm.trans q.abs)
theorem Vals.inj:∀ {xs ys:List V} {us:List Value},Vals xs us->Vals ys us->xs=ys
 | _,_,_,.nil,.nil=>rfl
 | _,_,_,.cons r t,.cons r' t'=>by rw [r.inj r',Vals.inj t t']
section
variable {X:Cx} {pins:List (Addr×Obj)} {σ:St} {H:Hp} {s:Shared} {a:Addr} {xs ys:List V}
theorem SqL.of {K:PySem.W.Frag} (h:H a=some (.lst xs)):SqL K H a xs:=.inl (.inl h)
theorem SqT.of {K:PySem.W.Frag} (h:H a=some (.tup xs)):SqT K H a xs:=.inl (.inl h)
theorem Inv.list (I:Inv X pins σ H s) (h:SqL X.K H a xs):∃ its:List Value,Vals xs its/\PlainL s.heap a its.toArray/\xs.length<=sizeLine:=by
 rcases h with h | ⟨o,its,n,hk,hc,hd,hs,hz,r⟩
 · obtain ⟨z,its,n,r,e⟩:=h.ok I.hok
   exact ⟨its,r,⟨_,n,e,rfl,rfl,rfl⟩,z⟩
 · refine ⟨its.toList,r,⟨o,n,I.kIn a o hk,hc,hd,by simpa using hs⟩,?_⟩
   have e:=r.length
   simp only [Array.length_toList] at e
   lia
theorem Inv.tuple (I:Inv X pins σ H s) (h:SqT X.K H a xs):∃ its:List Value,Vals xs its/\IsTup s.heap a its.toArray/\xs.length<=sizeLine:=by
 rcases h with h | ⟨o,its,n,hk,hc,hs,hz,r⟩
 · obtain ⟨z,its,r,p⟩:=h.ok I.hok
   exact ⟨its,r,p.tup,z⟩
 · refine ⟨its.toList,r,⟨o,I.kIn a o hk,hc,n,by simpa using hs⟩,?_⟩
   have e:=r.length
   simp only [Array.length_toList] at e
   lia
theorem Inv.list_inj (I:Inv X pins σ H s) (h:SqL X.K H a xs) (h':SqL X.K H a ys):xs=ys:=by
 obtain ⟨its,r,⟨o,n,e,_,_,d⟩,_⟩:=I.list h
 obtain ⟨its',r',⟨o',n',e',_,_,d'⟩,_⟩:=I.list h'
 rw [e] at e';cases e'
 rw [d] at d'
 injection d' with d1 _
 have:its=its':=by simpa using congrArg Array.toList d1
 subst this
 exact r.inj r'
theorem Inv.tuple_inj (I:Inv X pins σ H s) (h:SqT X.K H a xs) (h':SqT X.K H a ys):xs=ys:=by
 obtain ⟨its,r,⟨o,e,_,n,d⟩,_⟩:=I.tuple h
 obtain ⟨its',r',⟨o',e',_,n',d'⟩,_⟩:=I.tuple h'
 rw [e] at e';cases e'
 rw [d] at d'
 injection d' with d1 _
 have:its=its':=by simpa using congrArg Array.toList d1
 subst this
 exact r.inj r'
end
abbrev Cx.wish (X:Cx) (E:Value->Shared->Prop):Cx:={ X with xe:=E }
abbrev Cx.nox (X:Cx):Cx:=X.wish fun _ _=>False
theorem Cx.Ok.wish {X:Cx} (ok:X.Ok) (E:Value->Shared->Prop):(X.wish E).Ok:=
 ⟨ok.mod,ok.kind,ok.glob,ok.blt,ok.above,ok.inj,ok.has,ok.cab,ok.hd,ok.frames,ok.stk,ok.exf,ok.bs,ok.bsz,ok.noex,ok.exfs,ok.funs,ok.frf⟩
theorem Cx.Ok.unwish {X:Cx} {E:Value->Shared->Prop} (ok:(X.wish E).Ok):X.Ok:=
 ⟨ok.mod,ok.kind,ok.glob,ok.blt,ok.above,ok.inj,ok.has,ok.cab,ok.hd,ok.frames,ok.stk,ok.exf,ok.bs,ok.bsz,ok.noex,ok.exfs,ok.funs,ok.frf⟩
section
variable {X:Cx} {pins:List (Addr×Obj)} {σ:St} {H:Hp} {s:Shared} {E:Value->Shared->Prop}
theorem Inv.wish (I:Inv X pins σ H s) (E:Value->Shared->Prop):Inv (X.wish E) pins σ H s:=⟨I.ok.wish E,I.os,I.bare,I.base,I.loc,I.cell,I.free,I.freeC,I.pin,I.hok,I.len⟩
theorem Inv.unwish (I:Inv (X.wish E) pins σ H s):Inv X pins σ H s:=⟨I.ok.unwish,I.os,I.bare,I.base,I.loc,I.cell,I.free,I.freeC,I.pin,I.hok,I.len⟩
theorem SP.unwish {D:Ends} {f:Flow} {s':Shared} (h:SP (X.wish E) pins D f s'):SP X pins D f s':=by
 cases f with
 | next=>obtain ⟨σ',H',I,q⟩:=h;exact ⟨σ',H',I.unwish,q⟩
 | brk=>obtain ⟨σ',H',I,q⟩:=h;exact ⟨σ',H',I.unwish,q⟩
 | cont=>obtain ⟨σ',H',I,q⟩:=h;exact ⟨σ',H',I.unwish,q⟩
 | ret u=>obtain ⟨v,σ',H',I,r,q⟩:=h;exact ⟨v,σ',H',I.unwish,r,q⟩
theorem PSs.nox {st:List Stmt} {t:TS} (h:PSs X.nox st t):PSs X st t:=fun pins s σ H D I hw=>
 wpAny_mono (h pins s σ H D (I.wish _) hw) (fun _ _ q=>q.unwish) fun _ _ z=>False.elim z
end
section
variable {X:Cx} {st:Stmt} {rest:List Stmt} {t u:TS} {e:Expr} {te:TE} {pos:Pos}
def tNext:TS:=fun D σ H=>D.nx σ H
def tSeq (t u:TS):TS:=fun D σ H=>t { D with nx:=u D } σ H
theorem sd:PSs X [] tNext:=fun _ _ σ H _ I h=>wpAny_execs_nil ⟨σ,H,I,h⟩
theorem aT:ZSs X [] tNext:=by with_unfolding_all exact sd
theorem oY (h1:PS X st t) (h2:PSs X rest u):PSs X (st::rest) (tSeq t u):=by
 intro pins s σ H D I h
 refine wpAny_execs_cons (thn (h1 pins s σ H { D with nx:=u D } I h) fun f s1 q=>?_)
 cases f with
 | next=>
   obtain ⟨σ',H',I',q⟩:=q
   exact h2 pins s1 σ' H' D I' q
 | ret v=>exact q
 | brk=>exact q
 | cont=>exact q
theorem af (h1:ZS X st t) (h2:ZSs X rest u):ZSs X (st::rest) (tSeq t u):=by with_unfolding_all exact oY h1 h2
theorem rZ (h1:PS X st t):PSs X [st] t:=by
 intro pins s σ H D I h
 refine wpAny_execs_cons (thn (h1 pins s σ H D I h) fun f s1 q=>?_)
 cases f with
 | next=>exact wpAny_execs_nil q
 | ret v=>exact q
 | brk=>exact q
 | cont=>exact q
theorem aj (h1:ZS X st t):ZSs X [st] t:=by with_unfolding_all exact rZ h1
theorem Inv.quiet {pins:List (Addr×Obj)} {σ:St} {H:Hp} {s:Shared} (I:Inv X pins σ H s):interactive X.env=false:=by simp [interactive,I.ok.kind]
def tDrop (te:TE):TS:=fun D σ H=>te σ H fun _ H1=>D.nx σ H1
theorem sf (he:PE X e te) (hs:swapsWith e none pos.line X.env=pure false:=by rfl):PS X (.Expr e pos) (tDrop te):=by
 intro pins s σ H D I h
 exact wpAny_Expr_any (thn (he pins s σ H _ I h) fun v s1 ⟨x,H1,I1,r1,q1⟩=>⟨σ,H1,I1,q1⟩) I.quiet hs
theorem dc (he:ZE X e te) (hs:swapsWith e none pos.line X.env=pure false:=by rfl):ZS X (.Expr e pos) (tDrop te):=by with_unfolding_all exact sf he hs
def tRet (te:TE):TS:=fun D σ H=>te σ H D.rt
theorem ps_ret (he:PE X e te):PS X (.Return (some e) pos) (tRet te):=by
 intro pins s σ H D I h
 exact wpAny_Return_some (thn (he pins s σ H _ I h) fun v s1 ⟨x,H1,I1,r1,q1⟩=>⟨x,σ,H1,I1,r1,q1⟩)
theorem aK (he:ZE X e te):ZS X (.Return (some e) pos) (tRet te):=by with_unfolding_all exact ps_ret he
def tIfS (c:TT) (t u:TS):TS:=fun D σ H=>c σ H fun b H1=>if b=true then t D σ H1 else u D σ H1
theorem ps_if {c:Expr} {a b:List Stmt} {tc:TT} (hc:PT X c tc) (ha:PSs X a t) (hb:PSs X b u):PS X (.If c a b pos) (tIfS tc t u):=by
 intro pins s σ H D I h
 refine wpAny_If (thn (hc pins s σ H _ I h) fun d s1 ⟨H1,I1,q1⟩=>?_)
 cases d with
 | true=>exact ha pins s1 σ H1 D I1 q1
 | false=>exact hb pins s1 σ H1 D I1 q1
theorem bV {c:Expr} {a b:List Stmt} {tc:TT} (hc:ZT X c tc) (ha:ZSs X a t) (hb:ZSs X b u):ZS X (.If c a b pos) (tIfS tc t u):=by with_unfolding_all exact ps_if hc ha hb
def qu:TS:=fun _ _ _=>False
theorem lH {sts:List Stmt}:PSs X sts qu:=fun _ _ _ _ _ _ h=>h.elim
end
abbrev TG:=V->St->Hp->(St->Hp->Prop)->Prop
abbrev TGs:=List V->St->Hp->(St->Hp->Prop)->Prop
def PG (X:Cx) (target:Expr) (t:TG):Prop:=
 ∀ (pins:List (Addr×Obj)) (s:Shared) (σ:St) (H:Hp) (v:V) (u:Value) (Q:St->Hp->Prop),Inv X pins σ H s->RelV v u->t v σ H Q ->
   wpAny (model X.prog X.w) X.A (assign target X.env u) (fun _ s'=>∃ σ' H',Inv X pins σ' H' s'/\Q σ' H') X.xe s
@[irreducible] def ZG (X:Cx) (target:Expr) (t:TG):Prop:=PG X target t
def PGs (X:Cx) (ts:List Expr) (t:TGs):Prop:=
 ∀ (pins:List (Addr×Obj)) (s:Shared) (σ:St) (H:Hp) (vs:List V) (us:List Value) (Q:St->Hp->Prop),Inv X pins σ H s->Vals vs us->t vs σ H Q ->
   wpAny (model X.prog X.w) X.A (assignInOrder ((assignEach ts X.env).map (·.2)) us) (fun _ s'=>∃ σ' H',Inv X pins σ' H' s'/\Q σ' H') X.xe s
@[irreducible] def ZGs (X:Cx) (ts:List Expr) (t:TGs):Prop:=PGs X ts t
abbrev TSet:=V->V->V->Hp->(Hp->Prop)->Prop
def PSet (X:Cx) (t:TSet):Prop:=
 ∀ (pins:List (Addr×Obj)) (s:Shared) (σ:St) (H:Hp) (o i v:V) (ov iv u:Value) (Q:Hp->Prop),Inv X pins σ H s->RelV o ov->RelV i iv->RelV v u->t o i v H Q ->
   wpAny (model X.prog X.w) X.A (setItem ov iv u) (fun _ s'=>∃ H',Inv X pins σ H' s'/\Q H') X.xe s
section
variable {X:Cx} {pos:Pos}
def cV (i:Nat):TG:=fun v σ H Q=>Q (σ.set i (some v)) H
theorem ss {i:Nat} {x:Str} (hN:X.N.Nodup) (hi:X.N[i]? = some x) (hx:Loc X.env.scope x) (hf:X.fn x=true\/X.env.scope.names.lookup x=some .local:=by first | exact .inl rfl | exact .inr rfl | assumption):PG X (.Name x pos) (cV i):=by
 intro pins s σ H v u Q I r h
 exact wpAny_assign_Name (bu I hN hi hx r (fun s' I'=>⟨_,H,I',h⟩) hf)
theorem ak {i:Nat} {x:Str} (hN:X.N.Nodup) (hi:X.N[i]? = some x) (hx:Loc X.env.scope x) (hf:X.fn x=true\/X.env.scope.names.lookup x=some .local:=by first | exact .inl rfl | exact .inr rfl | assumption):ZG X (.Name x pos) (cV i):=by with_unfolding_all exact ss hN hi hx hf
def gNil:TGs:=fun vs σ H Q=>vs=[]/\Q σ H
def gF (t:TG) (u:TGs):TGs:=fun vs σ H Q=>∃ v r,vs=v::r/\t v σ H fun σ' H'=>u r σ' H' Q
theorem sr:PGs X [] gNil:=by
 intro pins s σ H vs us Q I r h
 obtain ⟨e,h⟩:=h
 subst e
 cases r
 exact assignInOrder_nil ⟨σ,H,I,h⟩
theorem aZ:ZGs X [] gNil:=by with_unfolding_all exact sr
theorem o7 {e:Expr} {es:List Expr} {t:TG} {u:TGs} (h1:PG X e t) (h2:PGs X es u)
 (hs:(assignEach (e::es) X.env).map (·.2)=assign e X.env::(assignEach es X.env).map (·.2):=by rfl):PGs X (e::es) (gF t u):=by
 intro pins s σ H vs us Q I r h
 obtain ⟨v,vr,e1,h⟩:=h
 subst e1
 cases r with
 | cons r rr=>
   rw [hs]
   refine assignInOrder_cons (thn (h1 pins s σ H _ _ _ I r h) fun _ s1 ⟨σ1,H1,I1,q1⟩=>?_)
   exact h2 pins s1 σ1 H1 _ _ Q I1 rr q1
theorem av {e:Expr} {es:List Expr} {t:TG} {u:TGs} (h1:ZG X e t) (h2:ZGs X es u)
 (hs:(assignEach (e::es) X.env).map (·.2)=assign e X.env::(assignEach es X.env).map (·.2):=by rfl):ZGs X (e::es) (gF t u):=by with_unfolding_all exact o7 h1 h2 hs
def gTup (K:PySem.W.Frag) (n:Nat) (t:TGs):TG:=fun v σ H Q=>∃ a xs,v=.ref a/\SqT K H a xs/\xs.length=n/\t xs σ H Q
theorem pg_tup {es:List Expr} {k:Nat} {t:TGs} {n:Nat} (hc:X.calm=true) (h:PGs X es t)
 (hn:(assignEach es X.env).length=n:=by rfl) (hst:(assignEach es X.env).findIdx? (·.1)=none:=by rfl):PG X (.Tuple es k pos) (gTup X.K n t):=by
 intro pins s σ H v u Q I r hw
 obtain ⟨a,xs,e1,hq,hl,hw⟩:=hw
 subst e1
 cases r
 obtain ⟨its,rv,ht,hz⟩:=I.tuple hq
 refine assign_Tuple_tuple (I.ok.hd hc) ht (by simp [hn,← hl,rv.length]) hst fun h' hx=>?_
 have I1:Inv X pins σ H { s with heap:=h' }:=I.kept (t':=s.toks) fun b o e=>hx b o (Nat.ne_of_lt (Heap.lt_size e)) e
 exact h pins _ σ H xs _ Q I1 (by simpa using rv) hw
theorem bB {es:List Expr} {k:Nat} {t:TGs} {n:Nat} (hc:X.calm=true) (h:ZGs X es t)
 (hn:(assignEach es X.env).length=n:=by rfl) (hst:(assignEach es X.env).findIdx? (·.1)=none:=by rfl):ZG X (.Tuple es k pos) (gTup X.K n t):=by with_unfolding_all exact pg_tup hc h hn hst
def gSub (to ti:TE) (t:TSet):TG:=fun v σ H Q=>to σ H fun o H1=>ti σ H1 fun i H2=>t o i v H2 fun H3=>Q σ H3
theorem pg_sub {o i:Expr} {to ti:TE} {t:TSet} (ho:PE X o to) (hi:PE X i ti) (hs:PSet X t)
 (ha:∀ v,assign (.Subscript o i pos) X.env v=(do
   let ov ← holding [v] (eval o X.env)
   let iv ← holding [v,ov] (eval i X.env)
   standAt pos
   holding [v,ov,iv] (setItem ov iv v)
   release [v,ov,iv] []):=by intro _;rfl):PG X (.Subscript o i pos) (gSub to ti t):=by
 intro pins s σ H v u Q I r h
 rw [ha]
 refine wpAny_bind (wpAny_holding (thn (ho pins s σ H _ I h) fun ov s1 ⟨x,H1,I1,r1,q1⟩=>?_))
 refine wpAny_bind (wpAny_holding (thn (hi pins s1 σ H1 _ I1 q1) fun iv s2 ⟨y,H2,I2,r2,q2⟩=>?_))
 refine wpAny_bind (wpAny_standAt (wpAny_bind (wpAny_holding (thn (hs pins s2 σ H2 x y v ov iv u _ I2 r1 r2 r q2) fun _ s3 ⟨H3,I3,q3⟩=>?_))))
 exact wpAny_release ⟨σ,H3,I3,q3⟩
theorem eY {o i:Expr} {to ti:TE} {t:TSet} (ho:ZE X o to) (hi:ZE X i ti) (hs:PSet X t)
 (ha:∀ v,assign (.Subscript o i pos) X.env v=(do
   let ov ← holding [v] (eval o X.env)
   let iv ← holding [v,ov] (eval i X.env)
   standAt pos
   holding [v,ov,iv] (setItem ov iv v)
   release [v,ov,iv] []):=by intro _;rfl):ZG X (.Subscript o i pos) (gSub to ti t):=by with_unfolding_all exact pg_sub ho hi hs ha
def tX (te:TE) (g:TG):TS:=fun D σ H=>te σ H fun x H1=>g x σ H1 D.nx
theorem ps_asg {tg e:Expr} {te:TE} {g:TG} (he:PE X e te) (hg:PG X tg g) (hs:swapsWithSole [tg] e pos.line X.env=pure false:=by rfl) (hw:swappedStores [tg] e X.env=pure none:=by rfl)
 (h1:(assignEach [tg] X.env).map (·.2)=[assign tg X.env]:=by rfl):PS X (.Assign [tg] e pos) (tX te g):=by
 intro pins s σ H D I h
 refine wpAny_Assign_stores (thn (he pins s σ H _ I h) fun v s1 ⟨x,H1,I1,r1,q1⟩=>?_) hs hw
 rw [h1]
 exact thn (hg pins s1 σ H1 x v _ I1 r1 q1) fun _ s2 q=>q
theorem cH {tg e:Expr} {te:TE} {g:TG} (he:ZE X e te) (hg:ZG X tg g) (hs:swapsWithSole [tg] e pos.line X.env=pure false:=by rfl) (hw:swappedStores [tg] e X.env=pure none:=by rfl)
 (h1:(assignEach [tg] X.env).map (·.2)=[assign tg X.env]:=by rfl):ZS X (.Assign [tg] e pos) (tX te g):=by with_unfolding_all exact ps_asg he hg hs hw h1
theorem ps_set {i:Nat} {x:Str} {e:Expr} {te:TE} {pos':Pos} (hN:X.N.Nodup) (hi:X.N[i]? = some x) (hx:Loc X.env.scope x) (he:PE X e te) (hs:swapsWith e (some (.Name x pos')) pos.line X.env=pure false:=by rfl) (hf:X.fn x=true\/X.env.scope.names.lookup x=some .local:=by first | exact .inl rfl | exact .inr rfl | assumption) :
 PS X (.Assign [.Name x pos'] e pos) (tX te (cV i)):=by
 intro pins s σ H D I h
 refine wpAny_Assign_Name (thn (he pins s σ H _ I h) fun v s1 ⟨y,H1,I1,r1,q1⟩=>?_) hs
 exact bu I1 hN hi hx r1 (fun s2 I2=>⟨_,H1,I2,q1⟩) hf
theorem aq {i:Nat} {x:Str} {e:Expr} {te:TE} {pos':Pos} (hN:X.N.Nodup) (hi:X.N[i]? = some x) (hx:Loc X.env.scope x) (he:ZE X e te) (hs:swapsWith e (some (.Name x pos')) pos.line X.env=pure false:=by rfl) (hf:X.fn x=true\/X.env.scope.names.lookup x=some .local:=by first | exact .inl rfl | exact .inr rfl | assumption) :
 ZS X (.Assign [.Name x pos'] e pos) (tX te (cV i)):=by with_unfolding_all exact ps_set hN hi hx he hs hf
def tPar (i j:Nat) (ta:TA):TS:=fun D σ H=>ta σ H fun vs H1=>∃ v w,vs=[v,w]/\D.nx ((σ.set i (some v)).set j (some w)) H1
theorem ps_par {i j:Nat} {x y:Str} {a b:Expr} {ta:TA} {px py pt:Pos} {kt k2 pt2} (hc:X.calm=true) (hN:X.N.Nodup) (hi:X.N[i]? = some x) (hj:X.N[j]? = some y) (hij:i≠j)
 (hx:X.env.scope.names.lookup x=some .local) (hy:X.env.scope.names.lookup y=some .local) (ha:PA X [a,b] ta)
 (hw:swappedStores [.Tuple [.Name x px,.Name y py] kt pt] (.Tuple [a,b] k2 pt2) X.env=pure (some [x,y]))
 (hs:swapsWithSole [.Tuple [.Name x px,.Name y py] kt pt] (.Tuple [a,b] k2 pt2) pos.line X.env=pure false:=by rfl) :
 PS X (.Assign [.Tuple [.Name x px,.Name y py] kt pt] (.Tuple [a,b] k2 pt2) pos) (tPar i j ta):=by
 intro pins s σ H D I h
 rw [exec_Assign_arm]
 refine wpAny_bind (wpAny_standAt ?_)
 rw [hs]
 refine wpAny_bind (wpAny_pure ?_)
 rw [if_neg (by decide)]
 refine wpAny_bind (Tuple_ (thn (ha _ pins s σ H _ I h) fun us s1 ⟨vs,H1,I1,r1,q1⟩=>?_))
 obtain ⟨v,w,e1,q1⟩:=q1
 subst e1
 obtain ⟨u1,u2,rfl,rv,rw'⟩:∃ u1 u2,us=[u1,u2]/\RelV v u1/\RelV w u2:=by
  cases r1 with
  | cons p q=>
    cases q with
    | cons p' q'=>
      cases q'
      exact ⟨_,_,rfl,p,p'⟩
 refine wpAny_newObj_type ?_ (by show 2<=sizeLine;decide)
 have I2:Inv X pins σ H1 { s1 with heap:=s1.heap.push { cls:=.type "tuple",data:=.seq [u1,u2].toArray } }:=I1.kept (t':=s1.toks) fun b o e=>Heap.get?_push_of_some _ e
 rw [hw]
 refine wpAny_bind (wpAny_pure ?_)
 show wpAny (model X.prog X.w) X.A (do rule "assign.swapped-stores";let items ← unpackItems (.ref s1.heap.objs.size) 2 none;assignInOrder [fun v=>bindName X.env y v,fun v=>bindName X.env x v] items.reverse;pure Flow.next) _ _ _
 refine wpAny_bind (wpAny_rule (wpAny_bind (unpackItems_tuple (items:=#[u1,u2]) (I.ok.hd hc) (IsTup.new s1.heap _) fun h' hx'=>?_)))
 have I3:=I2.kept (h':=h') (t':=s1.toks) fun b o e=>hx' b o (Nat.ne_of_lt (Heap.lt_size e)) e
 show wpAny _ _ (assignInOrder [fun v=>bindName X.env y v,fun v=>bindName X.env x v] [u2,u1] >>= fun _=>pure Flow.next) _ _ _
 refine wpAny_bind (assignInOrder_cons (wpAny_bindName (bu I3 hN hj (.inl hy) rw' (fun s2 I4=>?_) (.inr hy))))
 refine assignInOrder_cons (wpAny_bindName (bu I4 hN hi (.inl hx) rv (fun s3 I5=>assignInOrder_nil (wpAny_pure ?_)) (.inr hx)))
 rw [List.set_comm _ _ (Ne.symm hij)] at I5
 exact ⟨_,H1,I5,q1⟩
theorem kh {i j:Nat} {x y:Str} {a b:Expr} {ta:TA} {px py pt:Pos} {kt k2 pt2} (hc:X.calm=true) (hN:X.N.Nodup) (hi:X.N[i]? = some x) (hj:X.N[j]? = some y) (hij:i≠j)
 (hx:X.env.scope.names.lookup x=some .local) (hy:X.env.scope.names.lookup y=some .local) (ha:ZA X [a,b] ta)
 (hw:swappedStores [.Tuple [.Name x px,.Name y py] kt pt] (.Tuple [a,b] k2 pt2) X.env=pure (some [x,y]))
 (hs:swapsWithSole [.Tuple [.Name x px,.Name y py] kt pt] (.Tuple [a,b] k2 pt2) pos.line X.env=pure false:=by rfl) :
 ZS X (.Assign [.Tuple [.Name x px,.Name y py] kt pt] (.Tuple [a,b] k2 pt2) pos) (tPar i j ta):=by with_unfolding_all exact ps_par hc hN hi hj hij hx hy ha hw hs
end
section
variable {X:Cx} {pos:Pos}
def kO (c:TT) (tb:TS):TS:=fun D σ H=>∃ W:Nat->St->Hp->Prop,(∃ m,W m σ H)/\∀ m σ H,W m σ H ->
 c σ H fun b H1=>if b=true then ∃ N:St->Hp->Prop,(∀ σ' H',N σ' H'->∃ m',m' < m/\W m' σ' H')/\tb { D with nx:=N,ct:=N,bk:=D.nx } σ H1 else D.nx σ H1
theorem oZ {c:Expr} {body:List Stmt} {tc:TT} {tb:TS} (hp:PassesOwn (model X.prog X.w) X.A X.env X.xe) (hc:PT X c tc) (hb:PSs X body tb):PS X (.While c body [] pos) (kO tc tb):=by
 intro pins s σ H D I h
 obtain ⟨W,⟨m0,w0⟩,turn⟩:=h
 refine wpAny_While (codeAny_whileLoop (fun n s'=>∃ σ' H',Inv X pins σ' H' s'/\W n σ' H') ?_ m0 ⟨σ,H,I,w0⟩)
 rintro n s1 ⟨σ1,H1,I1,w1⟩
 refine wpAny_passesOwn hp (thn (hc pins s1 σ1 H1 _ I1 (turn n σ1 H1 w1)) fun b s2 ⟨H2,I2,q2⟩=>?_)
 cases b with
 | true=>
   obtain ⟨N,hN,q2⟩:=q2
   rw [if_pos rfl]
   refine wpAny_passesOwn hp (thn (hb pins s2 σ1 H2 _ I2 q2) fun f s3 q3=>?_)
   cases f with
   | next=>
     obtain ⟨σ3,H3,I3,n3⟩:=q3
     obtain ⟨m',hm,w3⟩:=hN σ3 H3 n3
     exact ⟨m',hm,σ3,H3,I3,w3⟩
   | cont=>
     obtain ⟨σ3,H3,I3,n3⟩:=q3
     obtain ⟨m',hm,w3⟩:=hN σ3 H3 n3
     exact ⟨m',hm,σ3,H3,I3,w3⟩
   | brk=>exact q3
   | ret v=>exact q3
 | false=>
   rw [if_neg Bool.false_ne_true]
   exact wpAny_execs_nil ⟨σ1,H2,I2,q2⟩
theorem iP {c:Expr} {body:List Stmt} {tc:TT} {tb:TS} (hp:PassesOwn (model X.prog X.w) X.A X.env X.xe) (hc:ZT X c tc) (hb:ZSs X body tb):ZS X (.While c body [] pos) (kO tc tb):=by with_unfolding_all exact oZ hp hc hb
end
structure It where
 go:Nat->Hp->Prop
 yld:Nat->Hp->V->Hp->Prop
 stop:Nat->Hp->Prop
def cx (X:Cx) (pins:List (Addr×Obj)) (H:Hp) (b:Addr):Prop:=
 H b=none/\b≠X.env.locals/\b∉X.fs/\(b∈X.ex\/X.s₀.heap.objs.size<=b)/\(∀ x c,X.env.cells.lookup x=some c->c≠b)/\∀ p∈X.pn++pins,p.1≠b
theorem Inv.fpOk {X:Cx} {pins:List (Addr×Obj)} {σ:St} {H H':Hp} {s:Shared} {b:Addr} (I:Inv X pins σ H s) (hb:s.heap.objs.size<=b) (hn:H' b=none):cx X pins H' b:=by
 refine ⟨hn,Nat.ne_of_gt (Nat.lt_of_lt_of_le I.lt hb),I.nofs hb,.inr (Nat.le_trans I.sz hb),fun x c e z=>?_,fun p hp z=>?_⟩
 · obtain ⟨v,q⟩:=I.cell x c e
   exact absurd (Nat.lt_of_lt_of_le q.lt (by rw [z];exact hb)) (Nat.lt_irrefl _)
 · exact absurd (Nat.lt_of_lt_of_le (Heap.lt_size (I.pin p hp).1) (by rw [z];exact hb)) (Nat.lt_irrefl _)
structure Turn (P:Program) (w:World) (K:PySem.W.Frag) (tg:Expr) (J:It) (fp:List Addr) (it:Addr) (tn:Nat->Heap->Prop):Prop where
 mem:it∈fp
 obj:∀ i h,tn i h->∀ b∈fp,∃ o,h.get? b=some o/\∀ v,o.data≠.cell v
 keep:∀ i h h',tn i h->(∀ b∈fp,∀ o,h.get? b=some o->h'.get? b=some o)->tn i h'
 item:∀ (X:Cx),X.prog=P->X.w=w->X.K=K->X.calm=true->∀ (i:Nat) (pins:List (Addr×Obj)) (s:Shared) (σ:St) (H:Hp) (E:Value->Shared->Prop),Inv X pins σ H s->(∀ b∈fp,cx X pins H b)->tn i s.heap->J.go i H ->
  wpAny (model P w) X.A (pyNext (.ref it)) (fun r s1=>∃ u,r=some u /\
   wpAny (model P w) X.A (letOwnedTupleGo tg (.ref it) u) (fun _ s2=>∃ x H',Inv X pins σ H' s2/\RelV x u/\J.yld i H x H'/\tn (i+1) s2.heap/\∀ b∈fp,H' b=none) E s1) E s
 done:∀ (X:Cx),X.prog=P->X.w=w->X.K=K->X.calm=true->∀ (i:Nat) (pins:List (Addr×Obj)) (s:Shared) (σ:St) (H:Hp) (E:Value->Shared->Prop),Inv X pins σ H s->(∀ b∈fp,cx X pins H b)->tn i s.heap->J.stop i H ->
  wpAny (model P w) X.A (pyNext (.ref it)) (fun r s1=>r=none/\Inv X pins σ H s1) E s
 self:∀ (A:Around) (i:Nat) (s:Shared) (Q:Value->Shared->Prop) (E:Value->Shared->Prop),tn i s.heap->Q (.ref it) s->wpAny (model P w) A (pyIter (.ref it)) Q E s
abbrev TI:=St->Hp->(It->Hp->Prop)->Prop
def PIE (X:Cx) (pins:List (Addr×Obj)) (σ:St) (tg:Expr) (R:It->Hp->Prop) (itv:Value) (s2:Shared):Prop:=
 ∃ (it:Addr) (fp:List Addr) (tn:Nat->Heap->Prop) (J:It) (H':Hp),itv=.ref it/\Inv X pins σ H' s2/\Turn X.prog X.w X.K tg J fp it tn/\tn 0 s2.heap/\(∀ b∈fp,cx X pins H' b)/\R J H'
def PI (X:Cx) (tg iter:Expr) (wi:TI):Prop:=
 ∀ (pins:List (Addr×Obj)) (s:Shared) (σ:St) (H:Hp) (R:It->Hp->Prop),Inv X pins σ H s->wi σ H R ->
   wpAny (model X.prog X.w) X.A (eval iter X.env) (fun v s1=>wpAny (model X.prog X.w) X.A (pyIter v) (PIE X pins σ tg R) X.xe s1) X.xe s
@[irreducible] def ZI (X:Cx) (tg iter:Expr) (wi:TI):Prop:=PI X tg iter wi
theorem pV {M:Model} {A:Around} {E:Value->Shared->Prop} {s:Shared} {tg:Expr} {it:Addr} {u:Value} {o:Obj} {n:String} {vs:Array Value} {Q:Unit->Shared->Prop} (ho:s.heap.get? it=some o) (hc:o.cls=.type n) (hd:o.data=.fields vs)
 (hn:["enumerate","zip","dict_itemiterator","dict_reverseitemiterator","odict_iterator","itertools.zip_longest","itertools.pairwise"].contains n=false) (hQ:Q () s):wpAny M A (letOwnedTupleGo tg (.ref it) u) Q E s:=by
 unfold letOwnedTupleGo
 cases tg <;> first
  | exact wpAny_pure hQ
  | (cases u <;> first
      | exact wpAny_pure hQ
      | (refine wpAny_bind (wpAny_load ho ?_)
         rw [hc,hd]
         show wpAny M A (if (["enumerate","zip","dict_itemiterator","dict_reverseitemiterator","odict_iterator","itertools.zip_longest","itertools.pairwise"].contains n&&vs[0]? == some (rawInt _))=true then _ else _) Q E s
         rw [if_neg (by intro h;rw [hn,Bool.false_and] at h;cases h)]
         exact wpAny_pure hQ))
def Itl (K:PySem.W.Frag) (a:Addr):It:=
 ⟨fun i H=>∃ xs x,SqL K H a xs/\xs[i]? = some x,fun i H x H'=>H'=H/\∀ xs,SqL K H a xs->xs[i]? = some x,fun i H=>∃ xs,SqL K H a xs/\xs.length<=i⟩
def Itt (K:PySem.W.Frag) (a:Addr):It:=
 ⟨fun i H=>∃ xs x,SqT K H a xs/\xs[i]? = some x,fun i H x H'=>H'=H/\∀ xs,SqT K H a xs->xs[i]? = some x,fun i H=>∃ xs,SqT K H a xs/\xs.length<=i⟩
def Itr (lo:Int) (n:Nat):It:=⟨fun i _=>i<n,fun i H x H'=>H'=H/\x=.int (lo+i),fun i _=>n<=i⟩
theorem kN {P:Program} {w:World} {K:PySem.W.Frag} {tg:Expr} (a it:Addr):Turn P w K tg (Itl K a) [it] it (fun i h=>h.IsListIter it a i) where
 mem:=by simp
 obj:=fun i h st b hb=>by
  have e:b=it:=by simpa using hb
  subst e
  obtain ⟨o,e,c,d⟩:=st
  exact ⟨o,e,fun v z=>by rw [d] at z;cases z⟩
 keep:=fun i h h' st k=>st.at fun o e=>k it (by simp) o e
 item:=by
  intro X hP hw hK hc i pins s σ H E I hf st hg
  subst hP hw hK
  obtain ⟨xs,x,hq,hx⟩:=hg
  obtain ⟨its,rv,p,hz⟩:=I.list hq
  obtain ⟨u,hu,ru⟩:=rv.get hx
  obtain ⟨f0,f1,f2,f3,f4,f5⟩:=hf it (by simp)
  refine wpAny_pyNext_list_item st p.isList (x:=u) (by simpa using hu) fun h' st' sb=>?_
  have I1:Inv X pins σ H { s with heap:=h' }:=I.turned (t':=s.toks) (fun b o hb e=>(sb.2 b hb).trans e) f0 f1 f3 f4 f5
  obtain ⟨o,e,c,d⟩:=id st'
  exact ⟨u,rfl,pV (s:={ s with heap:=h' }) e c d (by decide) ⟨x,H,I1,ru,⟨rfl,fun ys hy=>by rw [I.list_inj hy hq];exact hx⟩,st',fun b hb=>(hf b hb).1⟩⟩
 done:=by
  intro X hP hw hK hc i pins s σ H E I hf st hg
  subst hP hw hK
  obtain ⟨xs,hq,hx⟩:=hg
  obtain ⟨its,rv,p,hz⟩:=I.list hq
  obtain ⟨f0,f1,f2,f3,f4,f5⟩:=hf it (by simp)
  have hl:=rv.length
  exact wpAny_pyNext_list_end (I.ok.hd hc) st p.isList (by simp;lia) fun h' eb=>⟨rfl,I.turned (t':=s.toks) (fun b o hb e=>eb b o hb e) f0 f1 f3 f4 f5⟩
 self:=fun _ _ _ _ _ st h=>wpAny_pyIter_listiter st h
theorem jA {P:Program} {w:World} {K:PySem.W.Frag} {tg:Expr} (a it:Addr):Turn P w K tg (Itt K a) [it] it (fun i h=>h.IsTupleIter it a i) where
 mem:=by simp
 obj:=fun i h st b hb=>by
  have e:b=it:=by simpa using hb
  subst e
  obtain ⟨o,e,c,d⟩:=st
  exact ⟨o,e,fun v z=>by rw [d] at z;cases z⟩
 keep:=fun i h h' st k=>st.at fun o e=>k it (by simp) o e
 item:=by
  intro X hP hw hK hc i pins s σ H E I hf st hg
  subst hP hw hK
  obtain ⟨xs,x,hq,hx⟩:=hg
  obtain ⟨its,rv,p,hz⟩:=I.tuple hq
  obtain ⟨u,hu,ru⟩:=rv.get hx
  obtain ⟨f0,f1,f2,f3,f4,f5⟩:=hf it (by simp)
  refine wpAny_pyNext_tuple_item st (show s.heap.IsTuple a its.toArray from p) (x:=u) (by simpa using hu) fun h' st' sb=>?_
  have I1:Inv X pins σ H { s with heap:=h' }:=I.turned (t':=s.toks) (fun b o hb e=>(sb.2 b hb).trans e) f0 f1 f3 f4 f5
  obtain ⟨o,e,c,d⟩:=id st'
  exact ⟨u,rfl,pV (s:={ s with heap:=h' }) e c d (by decide) ⟨x,H,I1,ru,⟨rfl,fun ys hy=>by rw [I.tuple_inj hy hq];exact hx⟩,st',fun b hb=>(hf b hb).1⟩⟩
 done:=by
  intro X hP hw hK hc i pins s σ H E I hf st hg
  subst hP hw hK
  obtain ⟨xs,hq,hx⟩:=hg
  obtain ⟨its,rv,p,hz⟩:=I.tuple hq
  obtain ⟨f0,f1,f2,f3,f4,f5⟩:=hf it (by simp)
  have hl:=rv.length
  exact wpAny_pyNext_tuple_end (I.ok.hd hc) st (show s.heap.IsTuple a its.toArray from p) (by simp;lia) fun h' eb=>⟨rfl,I.turned (t':=s.toks) (fun b o hb e=>eb b o hb e) f0 f1 f3 f4 f5⟩
 self:=fun _ _ _ _ _ st h=>wpAny_pyIter_tupleiter st h
theorem jB {P:Program} {w:World} {K:PySem.W.Frag} {tg:Expr} (it:Addr) (lo:Int) (n:Nat):Turn P w K tg (Itr lo n) [it] it (fun i h=>IsRangeIter h it (lo+(i:Nat)*1) ((n:Int) - (i:Nat)) 1) where
 mem:=by simp
 obj:=fun i h st b hb=>by
  have e:b=it:=by simpa using hb
  subst e
  exact ⟨_,st,fun v z=>by
   have z':Data.fields _=Data.cell v:=z
   cases z'⟩
 keep:=fun i h h' st k=>k it (by simp) _ st
 item:=by
  intro X hP hw hK hc i pins s σ H E I hf st hg
  subst hP hw hK
  obtain ⟨f0,f1,f2,f3,f4,f5⟩:=hf it (by simp)
  have W:=Walks.range (prog:=X.prog) (w:=X.w) (I.ok.hd hc) it lo 1 n
  refine W.item i s _ _ hg st fun v h' tk hv st' kk=>?_
  obtain ⟨t,rfl⟩:=hv
  have I1:Inv X pins σ H { s with heap:=h',toks:=tk }:=I.turned (fun b o hb e=>kk b o (by simpa using hb) e) f0 f1 f3 f4 f5
  refine ⟨_,rfl,pV (s:={ s with heap:=h',toks:=tk }) (n:="range_iterator") st' rfl rfl (by decide) ⟨.int (lo+i),H,I1,⟨t,?_⟩,⟨rfl,rfl⟩,st',fun b hb=>(hf b hb).1⟩⟩
  rw [Int.mul_one]
 done:=by
  intro X hP hw hK hc i pins s σ H E I hf st hg
  subst hP hw hK
  obtain ⟨f0,f1,f2,f3,f4,f5⟩:=hf it (by simp)
  exact wpAny_pyNext_range_end (I.ok.hd hc) st (by have:n<=i:=hg;lia) fun h' eb=>⟨rfl,I.turned (t':=s.toks) (fun b o hb e=>eb b o hb e) f0 f1 f3 f4 f5⟩
 self:=fun _ _ _ _ _ st h=>wpAny_pyIter_rangeiter st h
section
variable {X:Cx} {tg:Expr}
def pQ (K:PySem.W.Frag) (tl:TE):TI:=fun σ H R=>tl σ H fun x H1=>∃ a,x=.ref a/\(∃ xs,SqL K H1 a xs)/\R (Itl K a) H1
def iTup (K:PySem.W.Frag) (tl:TE):TI:=fun σ H R=>tl σ H fun x H1=>∃ a,x=.ref a/\(∃ xs,SqT K H1 a xs)/\R (Itt K a) H1
theorem lM {l:Expr} {tl:TE} (hl:PE X l tl):PI X tg l (pQ X.K tl):=by
 intro pins s σ H R I h
 refine thn (hl pins s σ H _ I h) fun v s1 ⟨x,H1,I1,r1,q1⟩=>?_
 obtain ⟨a,e,⟨xs,hq⟩,q⟩:=q1
 subst e
 cases r1
 obtain ⟨its,rv,p,hz⟩:=I1.list hq
 refine wpAny_pyIter_list p.isList ?_
 refine ⟨s1.heap.objs.size,[s1.heap.objs.size],_,_,H1,rfl,I1.kept (t':=s1.toks) fun b o e=>Heap.get?_push_of_some _ e,kN a _,⟨_,Heap.get?_push_size _ rfl,rfl,rfl⟩,fun b hb=>?_,q⟩
 have e:b=s1.heap.objs.size:=by simpa using hb
 subst e
 exact I1.fpOk (Nat.le_refl _) (I1.hok.fresh (Nat.le_refl _))
theorem bP {l:Expr} {tl:TE} (hl:ZE X l tl):ZI X tg l (pQ X.K tl):=by with_unfolding_all exact lM hl
theorem pi_tup {l:Expr} {tl:TE} (hl:PE X l tl):PI X tg l (iTup X.K tl):=by
 intro pins s σ H R I h
 refine thn (hl pins s σ H _ I h) fun v s1 ⟨x,H1,I1,r1,q1⟩=>?_
 obtain ⟨a,e,⟨xs,hq⟩,q⟩:=q1
 subst e
 cases r1
 obtain ⟨its,rv,p,hz⟩:=I1.tuple hq
 refine wpAny_pyIter_tuple (show s1.heap.IsTuple a its.toArray from p) ?_
 refine ⟨s1.heap.objs.size,[s1.heap.objs.size],_,_,H1,rfl,I1.kept (t':=s1.toks) fun b o e=>Heap.get?_push_of_some _ e,jA a _,⟨_,Heap.get?_push_size _ rfl,rfl,rfl⟩,fun b hb=>?_,q⟩
 have e:b=s1.heap.objs.size:=by simpa using hb
 subst e
 exact I1.fpOk (Nat.le_refl _) (I1.hok.fresh (Nat.le_refl _))
theorem kl {l:Expr} {tl:TE} (hl:ZE X l tl):ZI X tg l (iTup X.K tl):=by with_unfolding_all exact pi_tup hl
theorem oI {pins:List (Addr×Obj)} {σ:St} {H:Hp} {s:Shared} {R:It->Hp->Prop} {E:Value->Shared->Prop} {lo hi:Int} {t u v:Tok} {tk:Nat} (I:Inv X pins σ H s) (h1:-(2 ^ 62)<=lo) (h2:lo<2 ^ 62) (h3:-(2 ^ 62)<=hi) (h4:hi<2 ^ 62)
 (q:R (Itr lo (hi - lo).toNat) H):wpAny (model X.prog X.w) X.A (pyIter (.ref s.heap.objs.size)) (PIE X pins σ tg R) E { s with heap:=s.heap.push { cls:=.type "range",data:=.fields #[.int lo t,.int hi u,.int 1 v] },toks:=tk }:=by
 refine wpAny_pyIter_range (IsRange.new ..) (small_one h1 h2 h3 h4) ?_
 have I1:Inv X pins σ H { s with heap:=s.heap.push { cls:=.type "range",data:=.fields #[.int lo t,.int hi u,.int 1 v] },toks:=tk }:=I.kept fun b o e=>Heap.get?_push_of_some _ e
 refine ⟨(s.heap.push { cls:=.type "range",data:=.fields #[.int lo t,.int hi u,.int 1 v] }).objs.size,[(s.heap.push { cls:=.type "range",data:=.fields #[.int lo t,.int hi u,.int 1 v] }).objs.size],_,_,H,rfl,
  I1.kept (t':=tk) fun b o e=>Heap.get?_push_of_some _ e,jB _ lo (hi - lo).toNat,?_,fun b hb=>?_,q⟩
 · have e1:lo+((0:Nat):Int)*1=lo:=by simp
   have e2:(((hi - lo).toNat:Nat):Int) - ((0:Nat):Int)=Builtin.Range.rangeSize lo hi 1:=by rw [rangeSize_one];split <;> lia
   show IsRangeIter _ _ (lo+((0:Nat):Int)*1) ((((hi - lo).toNat:Nat):Int) - ((0:Nat):Int)) 1
   rw [e1,e2]
   exact Heap.get?_push_size _ rfl
 · have e:b=(s.heap.push { cls:=.type "range",data:=.fields #[.int lo t,.int hi u,.int 1 v] }).objs.size:=by simpa using hb
   subst e
   exact I1.fpOk (Nat.le_refl _) (I1.hok.fresh (Nat.le_refl _))
def iRng1 (ta:TA):TI:=fun σ H R=>ta σ H fun vs H1=>∃ j:Int,vs=[.int j]/\-(2 ^ 62)<=j/\j<2 ^ 62/\R (Itr 0 j.toNat) H1
theorem lL {a:Expr} {ta:TA} {p pos:Pos} (hg:Gl X "range") (hm:X.mg "range" = none) (ha:PA X [a] ta) (hs:starEach [a] X.env=[(false,eval a X.env)]:=by rfl):PI X tg (.Call (.Name "range" p) [a] [] pos) (iRng1 ta):=by
 intro pins s σ H R I h
 refine Call_ (dw I hg hm boot_range (PyProof.Rows.callWith_type1 (thn (ha pos pins s σ H _ I h) fun us s1 ⟨vs,H1,I1,r1,q1⟩=>?_) hs rfl))
 obtain ⟨j,e,q1,q2,q⟩:=q1
 subst e
 cases r1 with
 | cons r rr=>
   cases rr
   obtain ⟨t,rfl⟩:=r
   exact call_range_1 (oI I1 (by lia) (by lia) q1 q2 (by simpa using q))
theorem bK {a:Expr} {ta:TA} {p pos:Pos} (hg:Gl X "range") (hm:X.mg "range" = none) (ha:ZA X [a] ta) (hs:starEach [a] X.env=[(false,eval a X.env)]:=by rfl):ZI X tg (.Call (.Name "range" p) [a] [] pos) (iRng1 ta):=by with_unfolding_all exact lL hg hm ha hs
def tFor (wi:TI) (g:TG) (tb:TS):TS:=fun D σ H=>wi σ H fun J H1=>∃ W:Nat->Nat->St->Hp->Prop,(∃ m,W 0 m σ H1)/\∀ i m σ H,W i m σ H ->
 (J.stop i H/\D.nx σ H)\/(J.go i H/\∃ N:St->Hp->Prop,(∀ σ' H',N σ' H'->∃ m',m' < m/\W (i+1) m' σ' H')/\∀ x H',J.yld i H x H'->g x σ H' fun σ2 H2=>tb { D with nx:=N,ct:=N,bk:=D.nx } σ2 H2)
def bh (fp:List Addr) (h:Heap):List (Addr×Obj):=fp.filterMap fun b=>(h.get? b).map fun o=>(b,o)
theorem bz {fp:List Addr} {h:Heap} {b:Addr} {o:Obj} (hb:b∈fp) (e:h.get? b=some o):(b,o)∈bh fp h:=List.mem_filterMap.mpr ⟨b,hb,by rw [e];rfl⟩
theorem cc {fp:List Addr} {h:Heap} {p:Addr×Obj} (hp:p∈bh fp h):p.1∈fp/\h.get? p.1=some p.2:=by
 obtain ⟨b,hb,e⟩:=List.mem_filterMap.mp hp
 cases q:h.get? b with
 | none=>rw [q] at e;cases e
 | some o=>
   rw [q] at e
   have e':(b,o)=p:=Option.some.inj e
   subst e'
   exact ⟨hb,q⟩
theorem Inv.pinned {pins:List (Addr×Obj)} {σ:St} {H:Hp} {s:Shared} {fp:List Addr} (I:Inv X pins σ H s) (hf:∀ b∈fp,cx X pins H b) (ho:∀ b∈fp,∃ o,s.heap.get? b=some o/\∀ v,o.data≠.cell v):Inv X (pins++bh fp s.heap) σ H s:=
 I.pins_of fun p hp=>(List.mem_append.mp hp).elim (fun z=>I.pin p (List.mem_append_right _ z)) fun z=>by
  obtain ⟨hb,e⟩:=cc z
  obtain ⟨f0,f1,f2,_⟩:=hf p.1 hb
  obtain ⟨o,e',d⟩:=ho p.1 hb
  rw [e] at e';cases e'
  exact ⟨e,f0,f1,f2,d⟩
theorem Inv.unpinned {pins pl:List (Addr×Obj)} {σ:St} {H:Hp} {s:Shared} (I:Inv X (pins++pl) σ H s):Inv X pins σ H s:=I.pins_of fun p hp=>I.pin p (List.mem_append_right _ (List.mem_append_left _ hp))
theorem ps_for {iter:Expr} {body:List Stmt} {wi:TI} {g:TG} {tb:TS} {pos:Pos} (hp:PassesOwn (model X.prog X.w) X.A X.env X.xe) (hc:X.calm=true) (hi:PI X tg iter wi) (hg:PG X tg g) (hb:PSs X body tb)
 (hs:∀ x,foldedSetIterable iter X.env x=pure x:=by intro _;rfl):PS X (.For tg iter body [] pos) (tFor wi g tb):=by
 intro pins s σ H D I h
 refine wpAny_For (thn (hi pins s σ H _ I h) fun v s1 h1=>thn h1 fun itv s2 h2=>?_) hs
 obtain ⟨it,fp,tn,J,H2,e,I2,T,st2,f2,W,⟨m0,w0⟩,turn⟩:=h2
 subst e
 -- what stays true of the iterator's objects through the loop
 have stat:∀ {H':Hp},(∀ b∈fp,H' b=none)->∀ b∈fp,cx X pins H' b:=fun hn b hb=>⟨hn b hb,(f2 b hb).2⟩
 refine codeAny_forLoop_any (fun n s'=>∃ i σ' H',Inv X pins σ' H' s'/\tn i s'.heap/\(∀ b∈fp,H' b=none)/\W i n σ' H') ?_ m0 ⟨0,σ,H2,I2,st2,fun b hb=>(f2 b hb).1,w0⟩
 rintro n s3 ⟨i,σ3,H3,I3,st3,fr3,w3⟩
 rcases turn i n σ3 H3 w3 with ⟨stop,qn⟩ | ⟨go,N,hN,step⟩
 · refine wpAny_passesOwn hp (thn (T.done X rfl rfl rfl hc i pins s3 σ3 H3 X.xe I3 (stat fr3) st3 stop) fun r s4 ⟨hr,I4⟩=>?_)
   subst hr
   exact wpAny_execs_nil ⟨σ3,H3,I4,qn⟩
 · refine wpAny_passesOwn hp (thn (T.item X rfl rfl rfl hc i pins s3 σ3 H3 X.xe I3 (stat fr3) st3 go) fun r s4 ⟨u,hr,h4⟩=>?_)
   subst hr
   refine wpAny_passesOwn hp (thn h4 fun _ s5 ⟨x,H5,I5,r5,y5,st5,fr5⟩=>?_)
   have I5':=I5.pinned (stat fr5) (T.obj _ _ st5)
   refine wpAny_passesOwn hp (thn (hg _ s5 σ3 H5 x u _ I5' r5 (step x H5 y5)) fun _ s6 ⟨σ6,H6,I6,q6⟩=>?_)
   refine wpAny_passesOwn hp (thn (hb _ s6 σ6 H6 _ I6 q6) fun f s7 q7=>?_)
   have again:∀ {σ7:St} {H7:Hp},Inv X (pins++bh fp s5.heap) σ7 H7 s7->N σ7 H7->∃ m,m<n/\∃ i σ' H',Inv X pins σ' H' s7/\tn i s7.heap/\(∀ b∈fp,H' b=none)/\W i m σ' H':=fun {σ7 H7} I7 n7=>by
    obtain ⟨m',hm,w7⟩:=hN σ7 H7 n7
    refine ⟨m',hm,i+1,σ7,H7,I7.unpinned,T.keep _ _ _ st5 fun b hb o e=>(I7.pin (b,o) (List.mem_append_right _ (List.mem_append_right _ (bz hb e)))).1,fun b hb=>?_,w7⟩
    obtain ⟨o,e,d⟩:=T.obj _ _ st5 b hb
    exact (I7.pin (b,o) (List.mem_append_right _ (List.mem_append_right _ (bz hb e)))).2.1
   cases f with
   | next=>obtain ⟨σ7,H7,I7,n7⟩:=q7;exact again I7 n7
   | cont=>obtain ⟨σ7,H7,I7,n7⟩:=q7;exact again I7 n7
   | brk=>obtain ⟨σ7,H7,I7,q7⟩:=q7;exact ⟨σ7,H7,I7.unpinned,q7⟩
   | ret v=>obtain ⟨x7,σ7,H7,I7,r7,q7⟩:=q7;exact ⟨x7,σ7,H7,I7.unpinned,r7,q7⟩
theorem bW {iter:Expr} {body:List Stmt} {wi:TI} {g:TG} {tb:TS} {pos:Pos} (hp:PassesOwn (model X.prog X.w) X.A X.env X.xe) (hc:X.calm=true) (hi:ZI X tg iter wi) (hg:ZG X tg g) (hb:ZSs X body tb)
 (hs:∀ x,foldedSetIterable iter X.env x=pure x:=by intro _;rfl):ZS X (.For tg iter body [] pos) (tFor wi g tb):=by with_unfolding_all exact ps_for hp hc hi hg hb hs
end
theorem cW {K:PySem.W.Frag} {a:Addr} {xs:List V} {g:TG} {tb:TS} {D:Ends} {σ:St} {H:Hp} (Pv:Nat->St->Hp->Prop) (h0:Pv 0 σ H) (hl:∀ i σ H,i<=xs.length->Pv i σ H->SqL K H a xs)
 (hs:∀ i x σ H,xs[i]? = some x->Pv i σ H->g x σ H fun σ2 H2=>tb { D with nx:=Pv (i+1),ct:=Pv (i+1),bk:=D.nx } σ2 H2) (hd:∀ σ H,Pv xs.length σ H->D.nx σ H) :
 ∃ W:Nat->Nat->St->Hp->Prop,(∃ m,W 0 m σ H)/\∀ i m σ H,W i m σ H ->
   ((Itl K a).stop i H/\D.nx σ H)\/((Itl K a).go i H/\∃ N:St->Hp->Prop,(∀ σ' H',N σ' H'->∃ m',m' < m/\W (i+1) m' σ' H')/\∀ x H',(Itl K a).yld i H x H'->g x σ H' fun σ2 H2=>tb { D with nx:=N,ct:=N,bk:=D.nx } σ2 H2):=by
 refine ⟨fun i m σ H=>m=xs.length - i/\i<=xs.length/\Pv i σ H,⟨xs.length,by simp,Nat.zero_le _,h0⟩,?_⟩
 rintro i m σ H ⟨rfl,hi,p⟩
 have q:=hl i σ H hi p
 by_cases hlt:i<xs.length
 · refine .inr ⟨⟨xs,xs[i],q,by simp [hlt]⟩,Pv (i+1),fun σ' H' p'=>⟨xs.length - (i+1),by lia,rfl,hlt,p'⟩,fun x H' y=>?_⟩
   obtain ⟨e,y⟩:=y
   subst e
   exact hs i x σ _ (y xs q) p
 · have e:i=xs.length:=by lia
   subst e
   exact .inl ⟨⟨xs,q,Nat.le_refl _⟩,hd σ H p⟩
theorem eh {lo:Int} {n:Nat} {g:TG} {tb:TS} {D:Ends} {σ:St} {H:Hp} (Pv:Nat->St->Hp->Prop) (h0:Pv 0 σ H)
 (hs:∀ i σ H,i<n->Pv i σ H->g (.int (lo+i)) σ H fun σ2 H2=>tb { D with nx:=Pv (i+1),ct:=Pv (i+1),bk:=D.nx } σ2 H2) (hd:∀ σ H,Pv n σ H->D.nx σ H) :
 ∃ W:Nat->Nat->St->Hp->Prop,(∃ m,W 0 m σ H)/\∀ i m σ H,W i m σ H ->
   ((Itr lo n).stop i H/\D.nx σ H)\/((Itr lo n).go i H/\∃ N:St->Hp->Prop,(∀ σ' H',N σ' H'->∃ m',m' < m/\W (i+1) m' σ' H')/\∀ x H',(Itr lo n).yld i H x H'->g x σ H' fun σ2 H2=>tb { D with nx:=N,ct:=N,bk:=D.nx } σ2 H2):=by
 refine ⟨fun i m σ H=>m=n - i/\i<=n/\Pv i σ H,⟨n,by simp,Nat.zero_le _,h0⟩,?_⟩
 rintro i m σ H ⟨rfl,hi,p⟩
 by_cases hlt:i<n
 · refine .inr ⟨hlt,Pv (i+1),fun σ' H' p'=>⟨n - (i+1),by lia,rfl,hlt,p'⟩,fun x H' y=>?_⟩
   obtain ⟨e,y⟩:=y
   subst e y
   exact hs i σ _ hlt p
 · have e:i=n:=by lia
   subst e
   exact .inl ⟨Nat.le_refl _,hd σ H p⟩
abbrev R2:=V->V->Hp->VK->Prop
def OpR (X:Cx) (f:Value->Value->Sem Value) (r:R2):Prop:=
 ∀ (pins:List (Addr×Obj)) (s:Shared) (σ:St) (H:Hp) (x y:V) (v u:Value) (Q:VK),Inv X pins σ H s->RelV x v->RelV y u->r x y H Q ->
   wpAny (model X.prog X.w) X.A (f v u) (EP X pins σ Q) X.xe s
def UnR (X:Cx) (f:Value->Sem Value) (r:V->Hp->VK->Prop):Prop:=
 ∀ (pins:List (Addr×Obj)) (s:Shared) (σ:St) (H:Hp) (x:V) (v:Value) (Q:VK),Inv X pins σ H s->RelV x v->r x H Q ->
   wpAny (model X.prog X.w) X.A (f v) (EP X pins σ Q) X.xe s
def CallR (X:Cx) (f:Value) (r:List V->Hp->VK->Prop):Prop:=
 ∀ (pins:List (Addr×Obj)) (s:Shared) (σ:St) (H:Hp) (xs:List V) (us:List Value) (Q:VK),Inv X pins σ H s->Vals xs us->r xs H Q ->
   wpAny (model X.prog X.w) X.A (call f us) (EP X pins σ Q) X.xe s
def tOp (r:R2) (ta tb:TE):TE:=fun σ H Q=>ta σ H fun x H1=>tb σ H1 fun y H2=>r x y H2 Q
def tUn (r:V->Hp->VK->Prop) (ta:TE):TE:=fun σ H Q=>ta σ H fun x H1=>r x H1 Q
def rI (C:Int->Int->Prop) (g:Int->Int->V):R2:=fun x y H Q=>∃ i j,x=.int i/\y=.int j/\C i j/\Q (g i j) H
def rI0 (g:Int->Int->V):R2:=fun x y H Q=>∃ i j,x=.int i/\y=.int j/\Q (g i j) H
def rU (g:Int->V):V->Hp->VK->Prop:=fun x H Q=>∃ i,x=.int i/\Q (g i) H
section
variable {X:Cx} {a b c:Expr} {ta tb tc:TE} {pos:Pos}
theorem binT (ha:PE X a ta) (hb:PE X b tb) {pins:List (Addr×Obj)} {s:Shared} {σ:St} {H:Hp} {R:V->V->Hp->Prop} (I:Inv X pins σ H s)
 (h:ta σ H fun x H1=>tb σ H1 fun y H2=>R x y H2) {Q:Value->Shared->Prop} {f:Value->Value->Sem Value}
 (hf:∀ v u s2 x y H2,Inv X pins σ H2 s2->RelV x v->RelV y u->R x y H2->wpAny (model X.prog X.w) X.A (f v u) Q X.xe s2) :
 wpAny (model X.prog X.w) X.A (eval a X.env) (fun v s₁=>wpAny (model X.prog X.w) X.A (eval b X.env) (fun u s₂=>wpAny (model X.prog X.w) X.A (f v u) Q X.xe s₂) X.xe s₁) X.xe s:=by
 refine thn (ha pins s σ H _ I h) fun v s1 ⟨x,H1,I1,r1,q1⟩=>?_
 refine thn (hb pins s1 σ H1 _ I1 q1) fun u s2 ⟨y,H2,I2,r2,q2⟩=>?_
 exact hf v u s2 x y H2 I2 r1 r2 q2
theorem pe_op {op:Operator} {r:R2} (ho:OpR X (binaryOp op) r) (ha:PE X a ta) (hb:PE X b tb):PE X (.BinOp a op b pos) (tOp r ta tb):=by
 intro pins s σ H Q I h
 exact wpAny_BinOp (binT ha hb I h fun v u s2 x y H2 I2 rx ry q=>ho pins s2 σ H2 x y v u Q I2 rx ry q)
theorem ai {op:Operator} {r:R2} (ho:OpR X (binaryOp op) r) (ha:ZE X a ta) (hb:ZE X b tb):ZE X (.BinOp a op b pos) (tOp r ta tb):=by with_unfolding_all exact pe_op ho ha hb
theorem pe_un {op:UnaryOp} {r:V->Hp->VK->Prop} (ho:UnR X (unaryOp op) r) (ha:PE X a ta):PE X (.UnaryOp op a pos) (tUn r ta):=by
 intro pins s σ H Q I h
 exact UnaryOp_ (thn (ha pins s σ H _ I h) fun v s1 ⟨x,H1,I1,r1,q1⟩=>ho pins s1 σ H1 x v Q I1 r1 q1)
theorem q4 {op:UnaryOp} {r:V->Hp->VK->Prop} (ho:UnR X (unaryOp op) r) (ha:ZE X a ta):ZE X (.UnaryOp op a pos) (tUn r ta):=by with_unfolding_all exact pe_un ho ha
theorem opI {f:Value->Value->Sem Value} {C:Int->Int->Prop} {g:Int->Int->Int}
 (rule:∀ (i j:Int) (t u:Tok) (s:Shared) (Q:Value->Shared->Prop) (E:Value->Shared->Prop),C i j->Q (.int (g i j) s.toks) { s with toks:=s.toks+1 }->wpAny (model X.prog X.w) X.A (f (.int i t) (.int j u)) Q E s) :
 OpR X f (rI C fun i j=>.int (g i j)):=by
 intro pins s σ H x y v u Q I rx ry h
 obtain ⟨i,j,rfl,rfl,hc,q⟩:=h
 obtain ⟨t,rfl⟩:=rx
 obtain ⟨t',rfl⟩:=ry
 exact rule i j t t' s _ _ hc ⟨.int (g i j),H,I.tok _,⟨_,rfl⟩,q⟩
theorem opI0 {f:Value->Value->Sem Value} {g:Int->Int->Int}
 (rule:∀ (i j:Int) (t u:Tok) (s:Shared) (Q:Value->Shared->Prop) (E:Value->Shared->Prop),Q (.int (g i j) s.toks) { s with toks:=s.toks+1 }->wpAny (model X.prog X.w) X.A (f (.int i t) (.int j u)) Q E s) :
 OpR X f (rI0 fun i j=>.int (g i j)):=by
 intro pins s σ H x y v u Q I rx ry h
 obtain ⟨i,j,rfl,rfl,q⟩:=h
 obtain ⟨t,rfl⟩:=rx
 obtain ⟨t',rfl⟩:=ry
 exact rule i j t t' s _ _ ⟨.int (g i j),H,I.tok _,⟨_,rfl⟩,q⟩
theorem opB0 {f:Value->Value->Sem Value} {g:Int->Int->Bool}
 (rule:∀ (i j:Int) (t u:Tok) (s:Shared) (Q:Value->Shared->Prop) (E:Value->Shared->Prop),Q (.bool (g i j)) s->wpAny (model X.prog X.w) X.A (f (.int i t) (.int j u)) Q E s) :
 OpR X f (rI0 fun i j=>.bl (g i j)):=by
 intro pins s σ H x y v u Q I rx ry h
 obtain ⟨i,j,rfl,rfl,q⟩:=h
 obtain ⟨t,rfl⟩:=rx
 obtain ⟨t',rfl⟩:=ry
 exact rule i j t t' s _ _ ⟨.bl (g i j),H,I,rfl,q⟩
def CDiv (i j:Int):Prop:=0<j/\j<1073741824
def CPow (i j:Int):Prop:=0<=j/\j<=1000000/\i.natAbs<2 ^ 64
theorem op_add:OpR X (binaryOp .Add) (rI0 fun i j=>.int (i+j)):=opI0 fun _ _ _ _ _ _ _ q=>add_int q
theorem op_sub:OpR X (binaryOp .Sub) (rI0 fun i j=>.int (i - j)):=opI0 fun _ _ _ _ _ _ _ q=>sub_int q
theorem op_fdiv:OpR X (binaryOp .FloorDiv) (rI CDiv fun i j=>.int (i / j)):=opI fun i j _ _ _ _ _ hc q=>by
 have h1:(0:Int)<j:=hc.1
 have h2:j<1073741824:=hc.2
 exact floordiv_int (by lia) (by rw [Int.fdiv_eq_ediv_of_nonneg i (by lia)];exact q) (.inl (PyProof.noPylong_small (by lia)))
theorem op_mod:OpR X (binaryOp .Mod) (rI (fun _ j=>0<j) fun i j=>.int (i % j)):=opI fun i j _ _ _ _ _ hc q=>by
 have h1:(0:Int)<j:=hc
 exact mod_int' (by lia) (by rw [Int.fmod_eq_emod_of_nonneg i (by lia)];exact q)
theorem op_pow:OpR X (binaryOp .Pow) (rI CPow fun i j=>.int (i ^ j.toNat)):=opI fun _ _ _ _ _ _ _ hc q=>pow_int_small hc.1 hc.2.1 hc.2.2 q
theorem unI {f:Value->Sem Value} {g:Int->Int}
 (rule:∀ (i:Int) (t:Tok) (s:Shared) (Q:Value->Shared->Prop) (E:Value->Shared->Prop),Q (.int (g i) s.toks) { s with toks:=s.toks+1 }->wpAny (model X.prog X.w) X.A (f (.int i t)) Q E s) :
 UnR X f (rU fun i=>.int (g i)):=by
 intro pins s σ H x v Q I rx h
 obtain ⟨i,rfl,q⟩:=h
 obtain ⟨t,rfl⟩:=rx
 exact rule i t s _ _ ⟨.int (g i),H,I.tok _,⟨_,rfl⟩,q⟩
theorem kI:UnR X (unaryOp .USub) (rU fun i=>.int (-i)):=unI fun _ _ _ _ _ q=>neg_int q
end
def scal:V->V->Bool
 | .non,.non=>true | .non,.int _=>true | .int _,.non=>true | .non,.bl _=>true | .bl _,.non=>true | .non,.str _=>true | .str _,.non=>true
 | .int _,.int _=>true | .bl _,.bl _=>true | .str _,.str _=>true | .byt _,.byt _=>true
 | .int _,.str _=>true | .str _,.int _=>true | .bl _,.str _=>true | .str _,.bl _=>true
 | _,_=>false
def rEq:R2:=fun x y H Q=>scal x y=true/\Q (.bl (decide (x=y))) H
def rNe:R2:=fun x y H Q=>scal x y=true/\Q (.bl (!decide (x=y))) H
theorem m6 {i j:Int}:decide (V.int i=V.int j)=(i == j):=by
 rw [Bool.eq_iff_iff]
 simp
theorem qQ {i j:Bool}:decide (V.bl i=V.bl j)=(i == j):=by
 rw [Bool.eq_iff_iff]
 simp
theorem m5 {i j:Str}:decide (V.str i=V.str j)=(i == j):=by
 rw [Bool.eq_iff_iff]
 simp
theorem m7 {i j:Array UInt8}:decide (V.byt i=V.byt j)=(i.toList == j.toList):=by
 rw [Bool.eq_iff_iff]
 cases i
 cases j
 simp
section
variable {X:Cx} {a b c:Expr} {ta tb tc:TE} {pos:Pos}
theorem aC {pins:List (Addr×Obj)} {σ:St} {H:Hp} {s:Shared} {Q:VK} {k k':Bool} (I:Inv X pins σ H s) (q:Q (.bl k) H) (e:k=k'):EP X pins σ Q (.bool k') s:=by
 subst e
 exact ⟨.bl k,H,I,rfl,q⟩
theorem op_eq:OpR X (compareOp .Eq) rEq:=by
 intro pins s σ H x y v u Q I rx ry h
 obtain ⟨hs,q⟩:=h
 cases x with
 | non=>
   cases rx
   cases y with
   | non=>cases ry;exact PySem.EqNone.eq_none_none (aC I q (by simp))
   | bl j=>cases ry;exact PySem.EqNone.eq_none_bool (aC I q (by simp))
   | int j=>obtain ⟨t',rfl⟩:=ry;exact PySem.EqNone.eq_none_int (aC I q (by simp))
   | str j=>obtain ⟨t',rfl⟩:=ry;exact PySem.EqNone.eq_none_str (aC I q (by simp))
   | _=>exact absurd (show false=true from hs) Bool.false_ne_true
 | bl i=>
   cases rx
   cases y with
   | non=>cases ry;exact PySem.EqNone.eq_bool_none (aC I q (by simp))
   | bl j=>cases ry;exact eq_bool (aC I q qQ)
   | str j=>obtain ⟨t',rfl⟩:=ry;exact PySem.EqMixed.eq_bool_str (aC I q (by simp))
   | _=>exact absurd (show false=true from hs) Bool.false_ne_true
 | int i=>
   obtain ⟨t,rfl⟩:=rx
   cases y with
   | non=>cases ry;exact PySem.EqNone.eq_int_none (aC I q (by simp))
   | int j=>obtain ⟨t',rfl⟩:=ry;exact eq_int (aC I q m6)
   | str j=>obtain ⟨t',rfl⟩:=ry;exact PySem.EqMixed.eq_int_str (aC I q (by simp))
   | _=>exact absurd (show false=true from hs) Bool.false_ne_true
 | str i=>
   obtain ⟨t,rfl⟩:=rx
   cases y with
   | non=>cases ry;exact PySem.EqNone.eq_str_none (aC I q (by simp))
   | bl j=>cases ry;exact PySem.EqMixed.eq_str_bool (aC I q (by simp))
   | int j=>obtain ⟨t',rfl⟩:=ry;exact PySem.EqMixed.eq_str_int (aC I q (by simp))
   | str j=>obtain ⟨t',rfl⟩:=ry;exact eq_str (aC I q m5)
   | _=>exact absurd (show false=true from hs) Bool.false_ne_true
 | byt i=>
   obtain ⟨t,rfl⟩:=rx
   cases y with
   | byt j=>obtain ⟨t',rfl⟩:=ry;exact PySem.W.eq_bytes (aC I q m7)
   | _=>exact absurd (show false=true from hs) Bool.false_ne_true
 | _=>cases y <;> exact absurd (show false=true from hs) Bool.false_ne_true
theorem op_ne:OpR X (compareOp .NotEq) rNe:=by
 intro pins s σ H x y v u Q I rx ry h
 obtain ⟨hs,q⟩:=h
 cases x with
 | non=>
   cases rx
   cases y with
   | non=>cases ry;exact PySem.EqNone.ne_none_none (aC I q (by simp))
   | bl j=>cases ry;exact PySem.EqNone.ne_none_bool (aC I q (by simp))
   | int j=>obtain ⟨t',rfl⟩:=ry;exact PySem.EqNone.ne_none_int (aC I q (by simp))
   | str j=>obtain ⟨t',rfl⟩:=ry;exact PySem.EqNone.ne_none_str (aC I q (by simp))
   | _=>exact absurd (show false=true from hs) Bool.false_ne_true
 | bl i=>
   cases rx
   cases y with
   | non=>cases ry;exact PySem.EqNone.ne_bool_none (aC I q (by simp))
   | bl j=>cases ry;exact ne_bool (aC I q (congrArg not qQ))
   | str j=>obtain ⟨t',rfl⟩:=ry;exact PySem.EqMixed.ne_bool_str (aC I q (by simp))
   | _=>exact absurd (show false=true from hs) Bool.false_ne_true
 | int i=>
   obtain ⟨t,rfl⟩:=rx
   cases y with
   | non=>cases ry;exact PySem.EqNone.ne_int_none (aC I q (by simp))
   | int j=>obtain ⟨t',rfl⟩:=ry;exact ne_int (aC I q (congrArg not m6))
   | str j=>obtain ⟨t',rfl⟩:=ry;exact PySem.EqMixed.ne_int_str (aC I q (by simp))
   | _=>exact absurd (show false=true from hs) Bool.false_ne_true
 | str i=>
   obtain ⟨t,rfl⟩:=rx
   cases y with
   | non=>cases ry;exact PySem.EqNone.ne_str_none (aC I q (by simp))
   | bl j=>cases ry;exact PySem.EqMixed.ne_str_bool (aC I q (by simp))
   | int j=>obtain ⟨t',rfl⟩:=ry;exact PySem.EqMixed.ne_str_int (aC I q (by simp))
   | str j=>obtain ⟨t',rfl⟩:=ry;exact ne_str (aC I q (congrArg not m5))
   | _=>exact absurd (show false=true from hs) Bool.false_ne_true
 | byt i=>
   obtain ⟨t,rfl⟩:=rx
   cases y with
   | byt j=>obtain ⟨t',rfl⟩:=ry;exact PySem.W.ne_bytes (aC I q (congrArg not m7))
   | _=>exact absurd (show false=true from hs) Bool.false_ne_true
 | _=>cases y <;> exact absurd (show false=true from hs) Bool.false_ne_true
theorem op_le:OpR X (compareOp .LtE) (rI0 fun i j=>.bl (decide (i<=j))):=opB0 fun _ _ _ _ _ _ _ q=>le_int q
theorem op_gt:OpR X (compareOp .Gt) (rI0 fun i j=>.bl (decide (j<i))):=opB0 fun _ _ _ _ _ _ _ q=>gt_int q
theorem op_ge:OpR X (compareOp .GtE) (rI0 fun i j=>.bl (decide (j<=i))):=opB0 fun _ _ _ _ _ _ _ q=>ge_int q
theorem op_isN:OpR X (compareOp .Is) (fun x y H Q=>y=.non/\Q (.bl (decide (x=.non))) H):=by
 intro pins s σ H x y v u Q I rx ry h
 obtain ⟨rfl,q⟩:=h
 cases ry
 refine is_none_gen (aC I q ?_)
 cases x <;> first
  | (cases rx;rfl)
  | (obtain ⟨t,rfl⟩:=rx;rfl)
theorem sJ:OpR X (compareOp .IsNot) (fun x y H Q=>y=.non/\Q (.bl (!decide (x=.non))) H):=by
 intro pins s σ H x y v u Q I rx ry h
 obtain ⟨rfl,q⟩:=h
 cases ry
 refine isnot_none_gen (aC I q ?_)
 cases x <;> first
  | (cases rx;rfl)
  | (obtain ⟨t,rfl⟩:=rx;rfl)
theorem aI (b:Expr) {op:CmpOp} (h:op≠.In:=by decide) (h2:op≠.NotIn:=by decide):behindInMarks op b=false:=by
 have e1:(op == CmpOp.In)=false:=by cases op <;> first | rfl | exact absurd rfl h
 have e2:(op == CmpOp.NotIn)=false:=by cases op <;> first | rfl | exact absurd rfl h2
 cases b <;> simp [behindInMarks,e1,e2]
theorem sw {op:CmpOp} {r:R2} (ho:OpR X (compareOp op) r) (ha:PE X a ta) (hb:PE X b tb) (hm:behindInMarks op b=false):PE X (.Compare a [op] [b] pos) (tOp r ta tb):=by
 intro pins s σ H Q I h
 exact wpAny_Compare1 (binT ha hb I h fun v u s2 x y H2 I2 rx ry q=>ho pins s2 σ H2 x y v u Q I2 rx ry q) hm
theorem bX {op:CmpOp} {r:R2} (ho:OpR X (compareOp op) r) (ha:ZE X a ta) (hb:ZE X b tb) (hm:behindInMarks op b=false):ZE X (.Compare a [op] [b] pos) (tOp r ta tb):=by with_unfolding_all exact sw ho ha hb hm
theorem ja:(sizeLine:Nat)<2 ^ 63:=by rw [sizeLine_eq];decide
theorem jN:OpR X (binaryOp .Add) (fun x y H Q=>∃ i j,x=.str i/\y=.str j/\i.length+j.length<=sizeLine/\Q (.str (i++j)) H):=by
 intro pins s σ H x y v u Q I rx ry h
 obtain ⟨i,j,rfl,rfl,hz,q⟩:=h
 obtain ⟨t,rfl⟩:=rx
 obtain ⟨t',rfl⟩:=ry
 exact add_str (fun t' tk=>⟨.str (i++j),H,I.tok _,⟨_,rfl⟩,q⟩) hz
theorem bT {x:V} {us:List Value} (r:Vals [x] us):∃ u,us=[u]/\RelV x u:=by
 cases r with
 | cons r1 r2=>cases r2;exact ⟨_,rfl,r1⟩
theorem hW {x y:V} {us:List Value} (r:Vals [x,y] us):∃ u w',us=[u,w']/\RelV x u/\RelV y w':=by
 cases r with
 | cons r1 r2=>
   cases r2 with
   | cons r3 r4=>cases r4;exact ⟨_,_,rfl,r1,r3⟩
theorem call_abs:CallR X (.builtin "abs") (fun xs H Q=>∃ i,xs=[.int i]/\Q (.int (if i<0 then -i else i)) H):=by
 intro pins s σ H xs us Q I r h
 obtain ⟨i,rfl,q⟩:=h
 obtain ⟨u,rfl,t,rfl⟩:=bT r
 exact call_abs_int fun u tk=>⟨.int (if i<0 then -i else i),H,I.tok _,⟨_,rfl⟩,q⟩
theorem nC (hc:X.calm=true):CallR X (.builtin "max") (fun xs H Q=>∃ i j,xs=[.int i,.int j]/\Q (.int (if j > i then j else i)) H):=by
 intro pins s σ H xs us Q I r h
 obtain ⟨i,j,rfl,q⟩:=h
 obtain ⟨u,w',rfl,⟨t,rfl⟩,⟨t',rfl⟩⟩:=hW r
 refine max_two_ints (I.ok.hd hc) fun h' tk k=>⟨_,H,I.kept k,?_,q⟩
 by_cases hj:j > i
 · rw [if_pos hj,if_pos hj];exact ⟨_,rfl⟩
 · rw [if_neg hj,if_neg hj];exact ⟨_,rfl⟩
theorem nA (hc:X.calm=true):CallR X (.builtin "min") (fun xs H Q=>∃ i j,xs=[.int i,.int j]/\Q (.int (if j<i then j else i)) H):=by
 intro pins s σ H xs us Q I r h
 obtain ⟨i,j,rfl,q⟩:=h
 obtain ⟨u,w',rfl,⟨t,rfl⟩,⟨t',rfl⟩⟩:=hW r
 refine min_two_ints (I.ok.hd hc) fun h' tk k=>⟨_,H,I.kept k,?_,q⟩
 by_cases hj:j<i
 · rw [if_pos hj,if_pos hj];exact ⟨_,rfl⟩
 · rw [if_neg hj,if_neg hj];exact ⟨_,rfl⟩
theorem call_int1:CallR X (.type "int") (fun xs H Q=>(∃ i,xs=[.int i]/\Q (.int i) H)\/∃ k,xs=[.bl k]/\Q (.int (if k then 1 else 0)) H):=by
 intro pins s σ H xs us Q I r h
 rcases h with ⟨i,rfl,q⟩ | ⟨k,rfl,q⟩
 · obtain ⟨u,rfl,t,rfl⟩:=bT r
   exact call_int_int ⟨.int i,H,I,⟨_,rfl⟩,q⟩
 · obtain ⟨u,rfl,r1⟩:=bT r
   cases r1
   exact call_int_bool ⟨.int (if k then 1 else 0),H,I.tok _,⟨_,rfl⟩,q⟩
end
structure ObjM (h:Heap) (x dx C:Addr) (mA:Str->Option Value):Prop where
 obj:h.get? x=some (PySem.W.instObj C dx)
 ns:h.Ns1 dx mA
 ne:dx≠x
theorem mn {h:Heap} {dx:Addr} {mA:Str->Option Value} (n:h.Ns1 dx mA):∃ od,h.get? dx=some od/\∀ name,PySem.W.lookIn name od=some (mA name):=by
 obtain ⟨o,es,ep,ho,hd,hk,_,hm⟩:=n
 refine ⟨o,ho,fun name=>?_⟩
 have e:=hm name
 unfold nsFind findBy at e
 rw [← Array.find?_toList] at e
 unfold PySem.W.lookIn
 rw [hd]
 dsimp only
 split
 · rename_i y q
   rw [q] at e
   exact congrArg some e
 · rename_i q
   rw [q] at e
   have a:es.toList.any (·.refKey)=false:=by
    rw [List.any_eq_false]
    intro y hy
    obtain ⟨z,t,hkey⟩:=hk y (Array.mem_toList_iff.mp hy)
    simp [DictEntry.refKey,hkey]
   have a':¬ es.toList.any (·.refKey)=true:=by rw [a];exact Bool.false_ne_true
   rw [if_neg a']
   exact congrArg some e
theorem ObjM.look {h:Heap} {x dx C:Addr} {mA:Str->Option Value} (I:ObjM h x dx C mA):∃ od,PySem.W.InstAt h x (PySem.W.instObj C dx) C (some od)/\∀ name,PySem.W.lookIn name od=some (mA name):=
 let ⟨od,ho,hl⟩:=mn I.ns
 ⟨od,⟨I.obj,rfl,rfl,ho⟩,hl⟩
theorem RelO.some_of {v:V} {o:Option Value} (r:RelO (some v) o):∃ u,o=some u/\RelV v u:=by
 cases o with
 | none=>exact (show False from r).elim
 | some u=>exact ⟨u,rfl,r⟩
section
variable {P:Program} {w:World} {H H':Hp} {h h':Heap} {a C dx:Addr} {fs fs':List (Str×V)}
theorem tt (hok:HOk P w H h) (e:H a=some (.ins C dx fs)):∃ mA,ObjM h a dx C mA/\(∀ f,RelO (fs.lookup f) (mA f))/\PySem.Within mA (fs.map (·.1))/\fs.length<=1000/\H dx=some (.own a):=by
 obtain ⟨d,z,ne,ob,mA,n,r,q⟩:=(show ObjOk P w H h a (.ins C dx fs) from hok a _ e)
 exact ⟨mA,⟨ob,n,ne⟩,r,q,z,d⟩
end
structure Cls (K:PySem.W.Frag) (C:Addr):Prop where
 pg:PySem.W.plainGet K C Str.empty=true
 hd:PySem.W.hasDictIn K C=true
 po:PySem.W.plainOver K C=true
 sa:PySem.W.findIn K (.ref C) "__setattr__" = some (some (.builtin "object.__setattr__"))
theorem Cls.get {K:PySem.W.Frag} {C:Addr} (c:Cls K C) (f:Str):PySem.W.plainGet K C f=true:=c.pg
section
variable {X:Cx} {pins:List (Addr×Obj)} {σ:St} {H:Hp} {s:Shared} {A:Around} {E:Value->Shared->Prop} {Q:Value->Shared->Prop} {c:Value} {b:Bool}
inductive TyOf (K:PySem.W.Frag) (H:Hp):V->Value->Prop where
 | non:TyOf K H .non (.type "NoneType")
 | bl (x:Bool):TyOf K H (.bl x) (.type "bool")
 | int (i:Int):TyOf K H (.int i) (.type "int")
 | str (x:Str):TyOf K H (.str x) (.type "str")
 | flt (x:UInt64):TyOf K H (.flt x) (.type "float")
 | lst {a:Addr} {xs:List V} (e:H a=some (.lst xs)):TyOf K H (.ref a) (.type "list")
 | frz {a:Addr} {o:Obj} {xs:List V} (e:H a=some (.frz o (.lst xs))):TyOf K H (.ref a) (.type "list")
 | tup {a:Addr} {xs:List V} (e:H a=some (.tup xs)):TyOf K H (.ref a) (.type "tuple")
 | dK {a:Addr} {kvs:List (Key×V)} (e:H a=some (.dK kvs)):TyOf K H (.ref a) (.type "dict")
 | dT {a:Addr} {kvs:List (List Key×V)} (e:H a=some (.dT kvs)):TyOf K H (.ref a) (.type "dict")
 | ins {a C dx:Addr} {fs:List (Str×V)} (e:H a=some (.ins C dx fs)) (cl:Cls K C) (ha:PySem.W.findIn K (.ref C) "__class__" = some (some (.builtin "object.__class__")))
  (hn:PySem.W.specialIn K (.builtin "object.__class__") "__get__" = some (some (.builtin "getset_descriptor.__get__"))) (htk:PySem.W.takesIn K (.builtin "object.__class__")=some true)
  (hm:PySem.W.mroIn K C (.type "object")=some true):TyOf K H (.ref a) (.ref C)
theorem mL {x:V} {u t:Value} (I:Inv X pins σ H s) (rx:RelV x u) (ty:TyOf X.K H x t) (e:PySem.W.kitOne X.K t c=some b) (h:∀ tk,Q (.bool b) { s with toks:=tk }) :
 wpAny (model X.prog X.w) A (call (.builtin "isinstance") [u,c]) Q E s:=by
 cases ty with
 | non=>cases (show u=Value.none from rx);exact PySem.W.kia_one PySem.W.kitx_none I.kIn True.intro e (fun z=>nomatch z) h
 | bl y=>cases (show u=Value.bool y from rx);exact PySem.W.kia_one PySem.W.kitx_bool I.kIn True.intro e (fun z=>nomatch z) h
 | int i=>obtain ⟨t,q⟩:=(show ∃ t,u=Value.int i t from rx);cases q;exact PySem.W.kia_one PySem.W.kitx_int I.kIn True.intro e (fun z=>nomatch z) h
 | str y=>obtain ⟨t,q⟩:=(show ∃ t,u=Value.str y t from rx);cases q;exact PySem.W.kia_one PySem.W.kitx_str I.kIn True.intro e (fun z=>nomatch z) h
 | flt y=>obtain ⟨t,q⟩:=(show ∃ t,u=Value.float y t from rx);cases q;exact PySem.W.kia_one PySem.W.kitx_float I.kIn True.intro e (fun z=>nomatch z) h
 | @lst a xs ea=>
   cases (show u=Value.ref a from rx)
   obtain ⟨_,_,n,_,h1⟩:=(show ObjOk X.prog X.w H s.heap a (.lst xs) from I.hok a _ ea)
   exact PySem.W.kia_one PySem.W.kitx_list I.kIn ⟨_,h1,rfl⟩ e (fun z=>nomatch z) h
 | @frz a ob xs ea=>
   cases (show u=Value.ref a from rx)
   obtain ⟨_,_,_,n,_,h1⟩:=(show ObjOk X.prog X.w H s.heap a (.frz ob (.lst xs)) from I.hok a _ ea)
   exact PySem.W.kia_one PySem.W.kitx_list I.kIn ⟨_,h1,rfl⟩ e (fun z=>nomatch z) h
 | @tup a xs ea=>
   cases (show u=Value.ref a from rx)
   obtain ⟨_,_,_,p⟩:=(show ObjOk X.prog X.w H s.heap a (.tup xs) from I.hok a _ ea)
   obtain ⟨o,h1,h2,_⟩:=p.tup
   exact PySem.W.kia_one PySem.W.kitx_tuple I.kIn ⟨o,h1,h2⟩ e (fun z=>nomatch z) h
 | @dK a kvs ea=>
   cases (show u=Value.ref a from rx)
   obtain ⟨_,_,vs,_,p⟩:=(show ObjOk X.prog X.w H s.heap a (.dK kvs) from I.hok a _ ea)
   obtain ⟨o,es,ep,h1,h2,_⟩:=p
   exact PySem.W.kia_one PySem.W.kitx_dict I.kIn ⟨o,h1,h2.1⟩ e (fun z=>nomatch z) h
 | @dT a kvs ea=>
   cases (show u=Value.ref a from rx)
   obtain ⟨_,_,xs,_,o,es,ep,h1,h2,_⟩:=(show ObjOk X.prog X.w H s.heap a (.dT kvs) from I.hok a _ ea)
   exact PySem.W.kia_one PySem.W.kitx_dict I.kIn ⟨o,h1,h2.1⟩ e (fun z=>nomatch z) h
 | @ins a C dx fs ea cl ha hn htk hm=>
   cases (show u=Value.ref a from rx)
   obtain ⟨mA,O,_⟩:=tt I.hok ea
   obtain ⟨od,J,_⟩:=O.look
   exact PySem.W.kia_one (PySem.W.kitx_own (cl.get _) cl.hd ha hn htk hm) I.kIn J e (fun z=>nomatch z) h
end
structure Room (k:Nat) (A:Around):Prop where
 hd:A.handled=none
 dp:A.depth+3*k+5<recursionLimit
 un:A.units+16*k+200<cLine
 gd:A.guards=some []
theorem Room.mono {j k:Nat} {A:Around} (r:Room k A) (h:j<=k):Room j A:=⟨r.hd,by have:=r.dp;lia,by have:=r.un;lia,r.gd⟩
theorem Room.deeper {k:Nat} {A:Around} (r:Room (k+1) A) (env:Env):Room k (A.deeper env):=
 ⟨r.hd,by have:=r.dp;show A.depth+1+3*k+5<_;lia,by have:=r.un;show A.units+3+16*k+200<_;lia,r.gd⟩
theorem Room.depth {k:Nat} {A:Around} (r:Room k A):A.depth<recursionLimit:=by have:=r.dp;lia
theorem Room.units {k:Nat} {A:Around} (r:Room k A):A.units+64<cLine:=by have:=r.un;lia
def tNil:TA:=fun _ H Q=>Q [] H
def tCons (ta:TE) (tr:TA):TA:=fun σ H Q=>ta σ H fun x H1=>tr σ H1 fun xs H2=>Q (x::xs) H2
section
variable {X:Cx} {e:Expr} {es:List Expr} {te:TE} {t:TA} {pos:Pos}
theorem pa_nil:PA X [] tNil:=fun _ _ _ _ H Q I h=>Calls.spliced_nil ⟨[],H,I,.nil,h⟩
theorem ae:ZA X [] tNil:=by with_unfolding_all exact pa_nil
theorem sI (ha:PE X e te) (hr:PA X es t) (hs:starEach (e::es) X.env=(false,eval e X.env)::starEach es X.env:=by rfl):PA X (e::es) (tCons te t):=by
 intro pos pins s σ H Q I h
 rw [hs]
 show wpAny _ _ (spliced ((false,eval e X.env)::backTo pos (starEach es X.env))) _ _ s
 refine Calls.spliced_cons (thn (ha pins s σ H _ I h) fun u s1 ⟨x,H1,I1,r1,q1⟩=>?_)
 exact thn (hr pos pins s1 σ H1 _ I1 q1) fun us s2 ⟨xs,H2,I2,r2,q2⟩=>⟨x::xs,H2,I2,.cons r1 r2,q2⟩
theorem aa (ha:ZE X e te) (hr:ZA X es t) (hs:starEach (e::es) X.env=(false,eval e X.env)::starEach es X.env:=by rfl):ZA X (e::es) (tCons te t):=by with_unfolding_all exact sI ha hr hs
def tTup (t:TA):TE:=fun σ H Q=>t σ H fun xs H1=>xs.length<=sizeLine/\∀ p,H1 p=none->Q (.ref p) (upd H1 p (.tup xs))
def tLst (t:TA):TE:=fun σ H Q=>t σ H fun xs H1=>xs.length<=sizeLine/\∀ p,H1 p=none->Q (.ref p) (upd H1 p (.lst xs))
theorem pe_tup {x1} (h:PA X es t):PE X (.Tuple es x1 pos) (tTup t):=by
 intro pins s σ H Q I hq
 refine wpAny_Tuple_spliced (thn (h pos pins s σ H _ I hq) fun us s1 ⟨xs,H1,I1,r,z,q⟩=>⟨by rw [← r.length];exact z,?_⟩)
 have hf:H1 s1.heap.objs.size=none:=I1.hok.fresh (Nat.le_refl _)
 refine ⟨.ref s1.heap.objs.size,upd H1 s1.heap.objs.size (.tup xs),I1.laid (t':=s1.toks) (fun b u e=>Heap.get?_push_of_some _ e) (Nat.le_refl _) ?_,rfl,q _ hf⟩
 exact ⟨z,us,r,⟨_,Heap.get?_push_size _ rfl⟩⟩
theorem aL {x1} (h:ZA X es t):ZE X (.Tuple es x1 pos) (tTup t):=by with_unfolding_all exact pe_tup h
theorem pe_lst (h:PA X es t):PE X (.List es pos) (tLst t):=by
 intro pins s σ H Q I hq
 refine wpAny_List_spliced (thn (h pos pins s σ H _ I hq) fun us s1 ⟨xs,H1,I1,r,z,q⟩=>⟨by rw [← r.length];exact z,?_⟩)
 have hf:H1 s1.heap.objs.size=none:=I1.hok.fresh (Nat.le_refl _)
 refine ⟨.ref s1.heap.objs.size,upd H1 s1.heap.objs.size (.lst xs),I1.laid (t':=s1.toks) (fun b u e=>Heap.get?_push_of_some _ e) (Nat.le_refl _) ?_,rfl,q _ hf⟩
 exact ⟨z,us,0,r,Heap.get?_push_size _ rfl⟩
theorem bn (h:ZA X es t):ZE X (.List es pos) (tLst t):=by with_unfolding_all exact pe_lst h
end
abbrev Sp:=List V->Hp->VK->XK->Prop
abbrev CXT:=List Env->Hp->Shared->XK->Value->Shared->Prop
structure Env0 (P:Program) (w:World) (K:PySem.W.Frag) (mg:Str->Option Value) (base:Heap) (A:Around) (outer:List Env) (s:Shared) (H:Hp):Prop where
 frames:A.frames=some outer
 mod:Mod K mg base
 bs:∀ b o,base.get? b=some o->s.heap.get? b=some o/\H b=none
 bsz:base.objs.size<=s.heap.objs.size
 funs:s.heap.FunFrames base outer
 frf:∀ b∈frs outer,H b=none
 hok:HOk P w H s.heap
 bare:AllBare s.gens
def CE (outer:List Env) (P:Program) (w:World) (H:Hp) (s:Shared) (Q:VK) (u:Value) (s':Shared):Prop:=
 ∃ v H',s'.os=s.os/\AllBare s'.gens/\Un (frs outer) [] H H' s.heap s'.heap/\HOk P w H' s'.heap/\RelV v u/\Q v H'
def CR (CX:CXT) (outer:List Env) (P:Program) (w:World) (H:Hp) (s:Shared) (Q:VK) (E:XK) (r:Result) (s':Shared):Prop:=
 match r with
 | .ok (.ret u)=>CE outer P w H s Q u s'
 | .ok _=>False
 | .error e=>CX outer H s E e s'
structure FnOk (P:Program) (w:World) (K:PySem.W.Frag) (mg:Str->Option Value) (base:Heap) (CX:CXT) (k:Nat) (f:Addr) (fd:FuncData) (ps:List Str) (sp:Sp):Prop where
 len:∀ vs H Q E,sp vs H Q E->vs.length=ps.length
 run:∀ (A:Around) (outer:List Env) (s:Shared) (H:Hp) (args:Args) (us:List Value) (vs:List V) (Q:VK) (E:XK),Room k A->Env0 P w K mg base A outer s H->BindsTo s fd args (ps.zip us)->Vals vs us->sp vs H Q E ->
  codeAny (model P w) A (.call (.ref f) args) (CR CX outer P w H s Q E) s
theorem FnOk.mono {P:Program} {w:World} {K:PySem.W.Frag} {mg:Str->Option Value} {base:Heap} {CX:CXT} {j k:Nat} {f:Addr} {fd:FuncData} {ps:List Str} {sp:Sp} (F:FnOk P w K mg base CX j f fd ps sp) (h:j<=k) :
 FnOk P w K mg base CX k f fd ps sp:=⟨F.len,fun A outer s H args us vs Q E hr=>F.run A outer s H args us vs Q E (hr.mono h)⟩
section
variable {X:Cx} {pins:List (Addr×Obj)} {σ:St} {H:Hp} {s s':Shared}
theorem Inv.env0 (I:Inv X pins σ H s):Env0 X.prog X.w X.K X.mg X.base X.A X.stack s H:=
 ⟨I.ok.frames,I.ok.mod,I.bs,Nat.le_trans I.ok.bsz I.sz,I.stack,I.stkFree,I.hok,I.bare⟩
theorem Inv.after {Q:VK} {u:Value} (I:Inv X pins σ H s) (h:CE X.stack X.prog X.w H s Q u s'):EP X pins σ Q u s':=by
 obtain ⟨v,H',os,bare,un,hok,r,q⟩:=h
 obtain ⟨hh,g,d,t,os'⟩:=s'
 obtain rfl:os'=s.os:=os
 exact ⟨v,H',I.call (h':=hh) (g':=g) (d':=d) (t':=t) (ch:=[]) un hok bare (fun b z=>absurd z (by simp)),r,q⟩
end
def tCall (sp:Sp) (dvs:List V) (E:XK) (t:TA):TE:=fun σ H Q=>t σ H fun vs H1=>sp (vs++dvs) H1 Q E
def Binds (K:PySem.W.Frag) (fd:FuncData) (ps:List Str) (ds:List Value):Prop:=
 ∀ (s:Shared) (us:List Value),K.In s.heap->(us++ds).length=ps.length->BindsTo s fd ⟨us,[]⟩ (ps.zip (us++ds))
theorem Binds.all {K:PySem.W.Frag} {fd:FuncData} {ps:List Str} (h:∀ us:List Value,us.length=ps.length->bindArgs fd ⟨us,[]⟩=pure (ps.zip us)):Binds K fd ps []:=fun s us _ hl=>by
 rw [List.append_nil] at hl ⊢
 exact .of_eq (h us hl)
def nZ (CX:CXT) (X:Cx) (E:XK):Prop:=∀ (pins:List (Addr×Obj)) (σ:St) (H:Hp) (s:Shared) (e:Value) (s':Shared),Inv X pins σ H s->CX X.stack H s E e s'->X.xe e s'
section
variable {X:Cx} {CX:CXT} {k:Nat} {f C:Addr} {fd:FuncData} {ps:List Str} {sp:Sp} {dvs:List V} {ds:List Value} {E:XK} {x m:Str} {p pos apos:Pos} {e o:Expr} {es:List Expr} {ta:TE} {t:TA}
theorem run_fn {pins:List (Addr×Obj)} {σ:St} {H:Hp} {s:Shared} {Q:VK} {us:List Value} {vs:List V} (F:FnOk X.prog X.w X.K X.mg X.base CX k f fd ps sp) (hr:Room k X.A) (hb:Binds X.K fd ps ds) (hd:Vals dvs ds) (hx:nZ CX X E)
 (I:Inv X pins σ H s) (r:Vals vs us) (h:sp (vs++dvs) H Q E):wpAny (model X.prog X.w) X.A (call (.ref f) us) (EP X pins σ Q) X.xe s:=by
 have r2:Vals (vs++dvs) (us++ds):=r.append hd
 have hl:(us++ds).length=ps.length:=by rw [← r2.length];exact F.len _ _ _ _ h
 refine wpAny_call (codeAny_mono (F.run X.A X.stack s H ⟨us,[]⟩ (us++ds) (vs++dvs) Q E hr I.env0 (hb s us I.kIn hl) r2 h) fun r s' hq=>?_)
 cases r with
 | error e=>exact hx pins σ H s e s' I hq
 | ok fl=>
   cases fl with
   | ret u=>exact I.after hq
   | next=>exact False.elim hq
   | brk=>exact False.elim hq
   | cont=>exact False.elim hq
theorem sx (F:FnOk X.prog X.w X.K X.mg X.base CX k f fd ps sp) (hr:Room k X.A) (hg:Gl X x) (hm:X.mg x=some (.ref f)) (hk:PySem.W.keepIn X.K (.ref f)=true) (hb:Binds X.K fd ps ds) (hd:Vals dvs ds) (hx:nZ CX X E)
 (ha:PA X (e::es) t) (hdb:(x == ("__debug__" : Str))=false:=by decide) (he:starEach (e::es) X.env=(false,eval e X.env)::starEach es X.env:=by rfl) (hpl:(backTo pos (starEach es X.env)).any (·.1)=false:=by rfl) :
 PE X (.Call (.Name x p) (e::es) [] pos) (tCall sp dvs E t):=by
 intro pins s σ H Q I h
 refine wpAny_Call_Name_kw (d6 I hg hm ?_ hdb)
 refine PySem.W.callWith_K (h₀:=X.base) I.ok.mod.kin hk (thn (ha pos pins s σ H _ I h) fun us s1 ⟨vs,H1,I1,r,q⟩=>⟨I1.kIn,?_⟩) he hpl
 exact run_fn F hr hb hd hx I1 r q
end
structure FnScope (N P:List Str) (sc:Scope):Prop where
 kind:sc.kind=.function
 co:sc.isCoroutine=false
 gen:sc.isGenerator=false
 nd:N.Nodup
 pre:N.take P.length=P
 par:∀ x∈P,sc.names.lookup x=some .local\/sc.names.lookup x=some .cell
 nofree:∀ y∈sc.names,y.2≠.free
theorem gR {kindOf:Str->Option NameKind} {x:Str}:∀ {binds:List (Str×Value)} {m:Str->Option Value},(∀ v,(x,v)∉binds)->bindL kindOf binds m x=m x
 | [],_,_=>rfl
 | (n,v)::r,m,h=>by
   unfold bindL
   rw [gR fun w hw=>h w (List.mem_cons_of_mem _ hw)]
   split
   · have:x≠n:=by rintro rfl;exact h v List.mem_cons_self
     simp [this]
   · rfl
theorem gT {kindOf:Str->Option NameKind} {x:Str}:∀ {binds:List (Str×Value)} {m:Str->Option Value},(∀ v,(x,v)∉binds)->bindC kindOf binds m x=m x
 | [],_,_=>rfl
 | (n,v)::r,m,h=>by
   unfold bindC
   rw [gT fun w hw=>h w (List.mem_cons_of_mem _ hw)]
   split
   · rfl
   · have:x≠n:=by rintro rfl;exact h v List.mem_cons_self
     simp [this]
theorem gS {kindOf:Str->Option NameKind} {x:Str} {v:Value}:∀ {P:List Str} {vs:List Value} {i:Nat} {m:Str->Option Value},P.Nodup->P[i]? = some x->vs[i]? = some v->kindOf x=some .local ->
 bindL kindOf (P.zip vs) m x=some v
 | [],_,_,_,_,h,_,_=>by simp at h
 | _::_,[],_,_,_,_,h,_=>by simp at h
 | p::P,w::vs,0,m,nd,h1,h2,hk=>by
   simp at h1 h2;subst h1;subst h2
   show bindL kindOf ((p,w)::P.zip vs) m p=_
   unfold bindL
   rw [gR fun v hv=>(List.nodup_cons.mp nd).1 (List.of_mem_zip hv).1,if_pos hk]
   simp
 | p::P,w::vs,i+1,m,nd,h1,h2,hk=>by
   show bindL kindOf ((p,w)::P.zip vs) m x=_
   unfold bindL
   exact gS (i:=i) (List.nodup_cons.mp nd).2 (by simpa using h1) (by simpa using h2) hk
theorem gU {kindOf:Str->Option NameKind} {x:Str} {v:Value}:∀ {P:List Str} {vs:List Value} {i:Nat} {m:Str->Option Value},P.Nodup->P[i]? = some x->vs[i]? = some v->kindOf x≠some .local ->
 bindC kindOf (P.zip vs) m x=some v
 | [],_,_,_,_,h,_,_=>by simp at h
 | _::_,[],_,_,_,_,h,_=>by simp at h
 | p::P,w::vs,0,m,nd,h1,h2,hk=>by
   simp at h1 h2;subst h1;subst h2
   show bindC kindOf ((p,w)::P.zip vs) m p=_
   unfold bindC
   rw [gT fun v hv=>(List.nodup_cons.mp nd).1 (List.of_mem_zip hv).1,if_neg hk]
   simp
 | p::P,w::vs,i+1,m,nd,h1,h2,hk=>by
   show bindC kindOf ((p,w)::P.zip vs) m x=_
   unfold bindC
   exact gU (i:=i) (List.nodup_cons.mp nd).2 (by simpa using h1) (by simpa using h2) hk
def start (N:List Str) (vs:List V):St:=vs.map some++List.replicate (N.length - vs.length) none
def cE (CX:CXT) (P:Program) (w:World) (K:PySem.W.Frag) (mg:Str->Option Value) (base:Heap) (N:List Str) (qual:Str) (scope:Scope) (f:Addr) (cd:Value) (A:Around) (outer:List Env) (s:Shared) (H:Hp) (E:XK):Cx where
 prog:=P
 w:=w
 K:=K
 mg:=mg
 base:=base
 A:=A.deeper (envOfC qual scope s.heap.objs.size f cd)
 N:=N
 s₀:=s
 H₀:=H
 env:=envOfC qual scope s.heap.objs.size f cd
 outer:=outer
 stack:=envOfC qual scope s.heap.objs.size f cd::outer
 ex:=[]
 calm:=true
 fn:=fun _=>true
 pn:=[]
 xe:=fun e s'=>wpAny (model P w) (A.deeper (envOfC qual scope s.heap.objs.size f cd)) (leaving (envOfC qual scope s.heap.objs.size f cd) e) (fun _ s''=>CX outer H s E e s'') (fun e' s''=>CX outer H s E e' s'') s'
theorem ju {sc:Scope} {n:Nat} {x:Str} (h:sc.names.lookup x=some .cell):∃ c,(cellsFrom n sc.names []).lookup x=some c:=by
 have q:=PySem.W.cellsFrom_some sc.names n [] (.inl h)
 exact Option.isSome_iff_exists.mp q
theorem mM {CX:CXT} {P:Program} {w:World} {K:PySem.W.Frag} {mg:Str->Option Value} {base:Heap} {N ps:List Str} {qual:Str} {scope:Scope} {f:Addr} {cd:Value} {A:Around} {outer:List Env} {s s1:Shared} {H:Hp} {E:XK} {us:List Value} {vs:List V}
 (S:FnScope N ps scope) (hd:A.handled=none) (e0:Env0 P w K mg base A outer s H) (hl:vs.length=ps.length) (r:Vals vs us)
 (x:InCallC s s.heap.objs.size (bindL (envOfC qual scope s.heap.objs.size f cd).kindOf (ps.zip us) fun _=>none) (cellsFrom (s.heap.objs.size+1) scope.names []) (bindC (envOfC qual scope s.heap.objs.size f cd).kindOf (ps.zip us) fun _=>none) s1) :
 Inv (cE CX P w K mg base N qual scope f cd A outer s H E) [] (start N vs) H s1:=by
 have hpl:ps.length<=N.length:=by have:=congrArg List.length S.pre;rw [List.length_take] at this;lia
 obtain ⟨h1,tk,rfl,hk⟩:=x.done
 have noA:∀ b:Addr,b∉(cE CX P w K mg base N qual scope f cd A outer s H E).ex:=fun b z=>absurd (show b∈([]:List Addr) from z) (by simp)
 refine ⟨⟨e0.mod,S.kind,rfl,rfl,Nat.le_refl _,fun y z c h1 h2=>?_,fun y hy=>?_,fun y c _ h=>?_,fun _=>hd,Around.frames_deeper e0.frames,.inr ⟨rfl,rfl⟩,fun b z=>absurd z (noA b),e0.bs,e0.bsz,fun b _ _=>noA b,fun b z=>absurd z (noA b),e0.funs,e0.frf⟩,
  rfl,e0.bare,Un.kept hk,⟨_,x.toInCall.ns,fun i y v h1 h2 h3=>?_⟩,fun y c h=>⟨_,x.cell y c h⟩,e0.hok.fresh (Nat.le_refl _),fun y c h=>?_,fun p hp=>absurd (show p∈([]:List (Addr×Obj)) from hp) (by simp),e0.hok.kept hk,?_⟩
 · exact name_of_addr x.apart (PySem.mem_of_lookup h1) (PySem.mem_of_lookup h2)
 · have hy:scope.names.lookup y=some .cell\/scope.names.lookup y=some .free:=hy
   rcases hy with hy | hy
   · exact ju hy
   · exact absurd rfl (S.nofree _ (PySem.mem_of_lookup hy))
 · exact Nat.le_of_lt (x.above y c (PySem.mem_of_lookup h))
 · have hi:i<vs.length:=by
    unfold start at h2
    by_cases hi:i<vs.length
    · exact hi
    · rw [List.getElem?_append_right (by simpa using hi)] at h2
      rw [List.getElem?_replicate] at h2
      split at h2 <;> cases h2
   have ha:vs[i]? = some v:=by
    unfold start at h2
    rw [List.getElem?_append_left (by simpa using hi),List.getElem?_map] at h2
    cases e:vs[i]? with
    | none=>rw [e] at h2;cases h2
    | some a=>rw [e] at h2;cases h2;rfl
   obtain ⟨u,hu,rv⟩:=r.get ha
   have hp:ps[i]? = some y:=by
    rw [← S.pre,List.getElem?_take_of_lt (by lia)];exact h1
   have ndP:ps.Nodup:=by rw [← S.pre];exact S.nd.sublist (List.take_sublist _ _)
   refine ⟨u,rv,?_⟩
   rcases S.par y (List.mem_of_getElem? hp) with k | k
   · exact .inl ⟨k,gS ndP hp hu k⟩
   · obtain ⟨c,e⟩:=ju (n:=s.heap.objs.size+1) k
     refine .inr ⟨.inl k,c,e,?_⟩
     have q:=x.cell y c e
     rw [gU ndP hp hu (by show scope.names.lookup y≠_;rw [k];decide)] at q
     exact q
 · exact e0.hok.fresh (Nat.le_of_lt (x.above y c (PySem.mem_of_lookup h)))
 · unfold start
   show _=N.length
   rw [List.length_append,List.length_map,List.length_replicate]
   lia
theorem fn_of {CX:CXT} {P:Program} {w:World} {K:PySem.W.Frag} {mg:Str->Option Value} {base:Heap} {k:Nat} {f:Addr} {name qual:Str} {params:Arguments} {body:List Stmt} {scope:Scope} {dV kV doc pm cdv ct oc:Value} {an od:Option Addr}
 {osl:Array (Option Value)} {N ps:List Str} {sp:Sp} (lk:K.lookup f=some ⟨oc,od,.func (PySem.W.fnOf name qual params body scope dV kV doc pm an cdv ct),osl⟩) (hcd:PySem.W.codeIn K cdv qual=true) (S:FnScope N ps scope)
 (len:∀ vs H Q E,sp vs H Q E->vs.length=ps.length)
 (hbody:∀ (A:Around) (outer:List Env) (s:Shared) (H:Hp) (vs:List V) (Q:VK) (E:XK),Room k (A.deeper (envOfC qual scope s.heap.objs.size f cdv))->sp vs H Q E ->
   ∃ t,PSs (cE CX P w K mg base N qual scope f cdv A outer s H E) body t/\t { nx:=fun _ H'=>Q .non H',rt:=Q } (start N vs) H) :
 FnOk P w K mg base CX (k+1) f (PySem.W.fnOf name qual params body scope dV kV doc pm an cdv ct) ps sp:=by
 refine ⟨len,fun A outer s H args us vs Q E hr e0 hb r hsp=>?_⟩
 have hl:=len _ _ _ _ hsp
 have KX:K.In s.heap:=e0.mod.kin.keeps fun b o e=>(e0.bs b o e).1
 have lim:s.heap.NoLimit:=e0.mod.nolimit.keeps fun b o e=>(e0.bs b o e).1
 have hkind:∀ y∈ps.zip us,scope.names.lookup y.1=some .local\/(scope.names.lookup y.1=some .cell/\((cellsFrom (s.heap.objs.size+1) scope.names []).lookup y.1).isSome=true):=fun ⟨n,v⟩ hy=>by
  rcases S.par n (List.of_mem_zip hy).1 with q | q
  · exact .inl q
  · exact .inr ⟨q,PySem.W.cellsFrom_some _ _ _ (.inl q)⟩
 refine codeAny_call_function hr.depth (KX _ _ lk) rfl S.co S.gen rfl (PySem.W.codeRec_of KX hcd) (hb _ _ _ _ ?_)
 refine wpAny_newFunctionEnv_cells S.kind hkind fun env he s1 x=>?_
 subst he
 refine ⟨lim.keeps x.toInCall.keep,codeAny_func ?_⟩
 obtain ⟨t,ht,hq⟩:=hbody A outer s H vs Q E (hr.deeper _) hsp
 have I:Inv (cE CX P w K mg base N qual scope f cdv A outer s H E) [] (start N vs) H s1:=mM S hr.hd e0 hl r x
 refine wpAny_mono (ht [] s1 (start N vs) H _ I hq) (fun fl s' hs=>?_) fun e s' hs=>hs
 have fin:∀ {σ':St} {H':Hp} {v:V} {u:Value},Inv (cE CX P w K mg base N qual scope f cdv A outer s H E) [] σ' H' s'->RelV v u->Q v H'->CE outer P w H s Q u s':=
  fun {σ' H' v u} J rv q=>⟨v,H',J.os,J.bare,J.base,J.hok,rv,q⟩
 cases fl with
 | ret u=>
   obtain ⟨v,σ',H',J,rv,q⟩:=hs
   exact fin J rv q
 | next=>
   obtain ⟨σ',H',J,q⟩:=hs
   exact fin (v:=V.non) (u:=Value.none) J rfl q
 | brk=>
   obtain ⟨_,_,_,q⟩:=hs
   exact False.elim q
 | cont=>
   obtain ⟨_,_,_,q⟩:=hs
   exact False.elim q
section
variable {X:Cx} {x:Str} {p pos:Pos} {e:Expr} {es:List Expr} {t:TA} {id T:String} {r:List V->Hp->VK->Prop}
def tCB (r:List V->Hp->VK->Prop) (t:TA):TE:=fun σ H Q=>t σ H fun vs H1=>r vs H1 Q
theorem aY (hc:CallR X (.builtin id) r) (hg:Gl X x) (hm:X.mg x=none) (hv:bootBuiltins x=some (.builtin id)) (ha:PA X (e::es) t) (hn:x≠"__name__":=by decide) (hdb:(x == ("__debug__" : Str))=false:=by decide)
 (he:starEach (e::es) X.env=(false,eval e X.env)::starEach es X.env:=by rfl) (hpl:(backTo pos (starEach es X.env)).any (·.1)=false:=by rfl):PE X (.Call (.Name x p) (e::es) [] pos) (tCB r t):=by
 intro pins s σ H Q I h
 refine wpAny_Call_Name_kw (dw I hg hm hv ?_ hn hdb)
 exact PyProof.Rows.callWith_builtin1 (thn (ha pos pins s σ H _ I h) fun us s1 ⟨vs,H1,I1,r1,q1⟩=>hc pins s1 σ H1 vs us Q I1 r1 q1) he hpl
theorem bD (hc:CallR X (.type T) r) (hg:Gl X x) (hm:X.mg x=none) (hv:bootBuiltins x=some (.type T)) (ha:PA X (e::es) t) (hn:x≠"__name__":=by decide) (hdb:(x == ("__debug__" : Str))=false:=by decide)
 (he:starEach (e::es) X.env=(false,eval e X.env)::starEach es X.env:=by rfl) (hpl:(backTo pos (starEach es X.env)).any (·.1)=false:=by rfl):PE X (.Call (.Name x p) (e::es) [] pos) (tCB r t):=by
 intro pins s σ H Q I h
 refine wpAny_Call_Name_kw (dw I hg hm hv ?_ hn hdb)
 exact PyProof.Rows.callWith_type1 (thn (ha pos pins s σ H _ I h) fun us s1 ⟨vs,H1,I1,r1,q1⟩=>hc pins s1 σ H1 vs us Q I1 r1 q1) he hpl
end
end L2
namespace HT
open PySem PyProof.Rows
section
variable {prog:Program} {w:World} {A:Around} {E:Value->Shared->Prop} {s:Shared}
theorem cat_tup {t b:Addr} {vs ws:List Value} {Q:Value->Shared->Prop} (ht:IsTup s.heap t vs.toArray) (hb:IsTup s.heap b ws.toArray) (hv:vs≠[])
 (h1:ws=[]->Q (.ref t) s) (h2:ws≠[]->Q (.ref s.heap.objs.size) { s with heap:=s.heap.push { cls:=.type "tuple",data:=.seq (vs++ws).toArray } })
 (hsz:vs.length+ws.length<=sizeLine):wpAny (model prog w) A (binaryOp .Add (.ref t) (.ref b)) Q E s:=by
 obtain ⟨⟨cls,dd,data,sl⟩,ho,hc,n,hd⟩:=id ht
 obtain ⟨⟨cls2,dd2,data2,sl2⟩,ho2,hc2,n2,hd2⟩:=id hb
 simp only at hc hd hc2 hd2
 subst hc hd hc2 hd2
 have e:vs.toArray++ws.toArray=(vs++ws).toArray:=by simp
 by_cases hw:ws=[]
 · exact concat_meets ⟨_,ho,rfl⟩ ⟨_,ho2,rfl⟩ noFill_tuple_add seq_tuple_add PySem.F.slot_tuple_add PySem.F.entry_tuple_add (PySem.F.args_tuple_add_2 _ _)
    (tuple_addW1 t b vs.toArray ws.toArray n n2 dd dd2 sl sl2 (by simpa using hv) (by simp [hw])) ⟨ho,ho2,h1 hw⟩
 · refine concat_meets ⟨_,ho,rfl⟩ ⟨_,ho2,rfl⟩ noFill_tuple_add seq_tuple_add PySem.F.slot_tuple_add PySem.F.entry_tuple_add (PySem.F.args_tuple_add_2 _ _)
    (tuple_addW2 t b vs.toArray ws.toArray n n2 dd dd2 sl sl2 (by simpa using hv) (by simpa using hw) (by rw [List.size_toArray,List.size_toArray];exact hsz)) ⟨ho,ho2,?_⟩
   rw [e]
   exact h2 hw
def sIx (n d:Nat):Option Int->Nat
 | none=>d
 | some v=>if v<0 then (v+(n:Int)).toNat else min v.toNat n
theorem sIx_le (n d:Nat) (hd:d<=n) (o:Option Int):sIx n d o<=n:=by
 cases o with
 | none=>exact hd
 | some v=>
   show (if v<0 then (v+(n:Int)).toNat else min v.toNat n)<=n
   by_cases hv:v<0
   · rw [if_pos hv];lia
   · rw [if_neg hv];exact Nat.min_le_right _ _
theorem nq (v:Int) (n d:Nat):(if v<0 then max (v+(n:Int)) 0 else min v (n:Int))=((sIx n d (some v):Nat):Int):=by
 show (if v<0 then max (v+(n:Int)) 0 else min v (n:Int))=(((if v<0 then (v+(n:Int)).toNat else min v.toNat n):Nat):Int)
 by_cases hv:v<0
 · simp only [if_pos hv];lia
 · simp only [if_neg hv];lia
theorem j8 (lo hi:Option Int) (n:Nat):Builtin.Slice.sliceAdjust lo hi 1 (n:Int)=(((sIx n 0 lo:Nat):Int),((sIx n n hi:Nat):Int)):=by
 have h1:¬ ((1:Int)<0):=by lia
 unfold Builtin.Slice.sliceAdjust
 simp only [h1,if_false]
 refine Prod.ext ?_ ?_
 · cases lo with
   | none=>rfl
   | some v=>exact nq v n 0
 · cases hi with
   | none=>rfl
   | some v=>exact nq v n n
theorem jK (i j:Nat):Builtin.Slice.slicePlaces (i:Int) (j:Int) 1=j - i:=by
 unfold Builtin.Slice.slicePlaces
 have h1:(1:Int) > 0:=by lia
 simp only [h1,if_true,Int.ediv_one]
 split <;> lia
theorem ff {v:Value} {o:Option Int} {Q:Option Int->Shared->Prop} (p:IsPart v o) (h:Q o s):wpAny (model prog w) A (Builtin.Slice.slicePartIndex v) Q E s:=by
 cases p with
 | none=>exact slicePart_none h
 | int i t=>exact slicePart_int h
theorem sliceApplied_gen {sl:Addr} {vl vu:Value} {lo hi:Option Int} {n:Nat} {Q:Int×Int×Nat->Shared->Prop} (hs:s.heap.IsSliceOf sl vl vu .none) (pl:IsPart vl lo) (pu:IsPart vu hi)
 (h:Q (((sIx n 0 lo:Nat):Int),1,sIx n n hi - sIx n 0 lo) s):wpAny (model prog w) A (Builtin.Slice.sliceApplied (.ref sl) (pure (n:Int))) Q E s:=by
 obtain ⟨os,hos,hcs,hds⟩:=id hs
 unfold Builtin.Slice.sliceApplied Builtin.Slice.sliceFields
 refine wpAny_bind (wpAny_bind (wpAny_field hos hds (x:=vl) rfl (wpAny_bind (wpAny_field hos hds (x:=vu) rfl (wpAny_bind (wpAny_field hos hds (x:=.none) rfl (wpAny_pure ?_)))))))
 refine wpAny_bind (slicePart_none ?_)
 show wpAny _ _ (if ((1:Int) == 0)=true then _ else _) _ _ s
 rw [if_neg (by decide)]
 refine wpAny_bind (ff pl (wpAny_bind (ff pu (wpAny_bind (wpAny_pure ?_)))))
 show wpAny _ _ (match Builtin.Slice.sliceAdjust lo hi 1 (n:Int) with | (lo,hi)=>pure (lo,(1:Int),Builtin.Slice.slicePlaces lo hi 1)) _ _ s
 rw [j8 lo hi n]
 show wpAny _ _ (pure (((sIx n 0 lo:Nat):Int),(1:Int),Builtin.Slice.slicePlaces ((sIx n 0 lo:Nat):Int) ((sIx n n hi:Nat):Int) 1)) _ _ s
 rw [jK]
 exact wpAny_pure h
theorem o4 (xs:Array Value) (i k:Nat):((List.range k).filterMap fun (m:Nat)=>xs[((i:Int)+(m:Int)*1).toNat]?).toArray=((xs.toList.drop i).take k).toArray:=by
 have e:(fun (m:Nat)=>xs[((i:Int)+(m:Int)*1).toNat]?)=fun m=>xs[i+m]?:=by
  funext m
  have:((i:Int)+(m:Int)*1).toNat=i+m:=by lia
  rw [this]
 rw [e]
 have:=pick_run xs i k
 rw [List.filterMap_map] at this
 have e2:((fun x=>xs[x]?) ∘ fun x=>i+x)=fun m=>xs[i+m]?:=rfl
 rw [e2] at this
 rw [this]
theorem getItem_tuple_cut {t sl:Addr} {items:Array Value} {vl vu:Value} {lo hi:Option Int} {Q:Value->Shared->Prop} (ht:IsTup s.heap t items) (hs:s.heap.IsSliceOf sl vl vu .none) (pl:IsPart vl lo) (pu:IsPart vu hi)
 (hw:¬ (sIx items.size 0 lo=0/\sIx items.size items.size hi=items.size))
 (h:Q (.ref s.heap.objs.size) { s with heap:=s.heap.push { cls:=.type "tuple",data:=.seq ((items.toList.drop (sIx items.size 0 lo)).take (sIx items.size items.size hi - sIx items.size 0 lo)).toArray } })
 (hsz:items.size<=sizeLine):wpAny (model prog w) A (getItem (.ref t) (.ref sl)) Q E s:=by
 have htake:sizeOk (.seq ((items.toList.drop (sIx items.size 0 lo)).take (sIx items.size items.size hi - sIx items.size 0 lo)).toArray):=by
  show ((items.toList.drop (sIx items.size 0 lo)).take (sIx items.size items.size hi - sIx items.size 0 lo)).toArray.size<=sizeLine
  rw [List.size_toArray,List.length_take,List.length_drop,Array.length_toList]
  lia
 have hj:sIx items.size items.size hi<=items.size:=sIx_le _ _ (Nat.le_refl _) hi
 obtain ⟨os,hos,hcs,hds⟩:=id hs
 have hTs:s.TypeIs (.ref sl) "slice":=⟨os,hos,hcs⟩
 unfold getItem
 try with_reducible refine wpAny_holding ?_
 first | refine wpAny_bind (wpAny_pure ?_) | skip
 refine wpAny_bind (wpAny_sequenceKey ht.typeIs (by decide) ?_)
 refine wpAny_bind (wpAny_callSpecial?_slot (name:=Str.ofString "__getitem__") ht.typeIs PyProof.Rows.slot_tuple_getitem
  (wpAny_call_entry PyProof.Rows.slot_tuple_getitem ht.typeIs entry_tuple_getitem ?_ (args_tuple_getitem _ _)))
 show wpAny _ _ (Builtin.Tuple.tupleItemsOf (.ref t) >>= _) _ _ s
 refine wpAny_bind (tupleItemsOf_ ht ?_)
 refine wpAny_bind (wpAny_typeOf hTs ?_)
 rw [if_pos (by decide)]
 refine wpAny_bind (sliceApplied_gen hs pl pu ?_)
 have hno:¬ ((((sIx items.size 0 lo:Nat):Int) == 0&&(1:Int) == 1&&(sIx items.size items.size hi - sIx items.size 0 lo) == items.size)=true):=by
  intro q
  rw [Bool.and_eq_true,Bool.and_eq_true] at q
  have q1:((sIx items.size 0 lo:Nat):Int)=0:=eq_of_beq q.1.1
  have q2:sIx items.size items.size hi - sIx items.size 0 lo=items.size:=eq_of_beq q.2
  exact hw ⟨by lia,by lia⟩
 show wpAny _ _ (if (((sIx items.size 0 lo:Nat):Int) == 0&&(1:Int) == 1&&(sIx items.size items.size hi - sIx items.size 0 lo) == items.size)=true then _ else _) _ _ s
 rw [if_neg hno,o4]
 first
  | exact wpAny_bind (m:=Builtin.Tuple.tupleExact _) (wpAny_newObj_type (wpAny_pure ⟨_,rfl,wpAny_pure h⟩) htake)
  | exact wpAny_bind (m:=Builtin.Tuple.tupleExact _) (wpAny_newObj_type (wpAny_bind (wpAny_pure (wpAny_pure ⟨_,rfl,wpAny_pure h⟩))) htake)
  | exact wpAny_bind (wpAny_bind (m:=Builtin.Tuple.tupleExact _) (wpAny_newObj_type (wpAny_pure (wpAny_pure ⟨_,rfl,wpAny_pure h⟩)) htake))
  | exact wpAny_bind (wpAny_bind (m:=Builtin.Tuple.tupleExact _) (wpAny_newObj_type (wpAny_pure ⟨_,rfl,wpAny_pure h⟩) htake))
end
end HT
namespace L2
open PySem PySem.Spec PyProof.Rows
abbrev TO:=St->Hp->(Option Int->Hp->Prop)->Prop
def PO (X:Cx) (e:Option Expr) (t:TO):Prop:=
 ∀ (pins:List (Addr×Obj)) (s:Shared) (σ:St) (H:Hp) (Q:Option Int->Hp->Prop),Inv X pins σ H s->t σ H Q ->
   wpAny (model X.prog X.w) X.A (evalPart e X.env) (fun u s'=>∃ o H',Inv X pins σ H' s'/\IsPart u o/\Q o H') X.xe s
@[irreducible] def ZO (X:Cx) (e:Option Expr) (t:TO):Prop:=PO X e t
def kP:TO:=fun _ H Q=>Q none H
def tPart (t:TE):TO:=fun σ H Q=>t σ H fun x H1=>∃ i,x=.int i/\Q (some i) H1
theorem di {ns:List Int}:∀ {us:List Value},Vals (ns.map V.int) us->IntsAre us ns:=by
 induction ns with
 | nil=>intro us r;rw [List.map_nil] at r;cases r;exact .nil
 | cons n ns ih=>
   intro us r
   rw [List.map_cons] at r
   cases r with
   | cons r1 r2=>
     obtain ⟨t,e⟩:=r1
     subst e
     exact .cons n t (ih r2)
section
variable {X:Cx} {e:Expr} {te:TE} {lo hi:Option Expr} {tl th:TO} {pos p2:Pos}
theorem si:PO X none kP:=by
 intro pins s σ H Q I h
 rw [evalPart_none]
 exact wpAny_pure ⟨none,H,I,.none,h⟩
theorem hJ:ZO X none kP:=by with_unfolding_all exact si
theorem sh (h:PE X e te):PO X (some e) (tPart te):=by
 intro pins s σ H Q I hw
 rw [evalPart_some]
 refine thn (h pins s σ H _ I hw) fun u s1 ⟨x,H1,I1,r1,q1⟩=>?_
 obtain ⟨i,rfl,q⟩:=q1
 obtain ⟨t,rfl⟩:=r1
 exact ⟨some i,H1,I1,.int i t,q⟩
theorem gZ (h:ZE X e te):ZO X (some e) (tPart te):=by with_unfolding_all exact sh h
def SlR (X:Cx) (r:V->Option Int->Option Int->Hp->VK->Prop):Prop:=
 ∀ (pins:List (Addr×Obj)) (s:Shared) (σ:St) (H:Hp) (x:V) (v vl vu:Value) (lo hi:Option Int) (sl:Addr) (Q:VK),Inv X pins σ H s->RelV x v->s.heap.IsSliceOf sl vl vu .none->IsPart vl lo->IsPart vu hi->r x lo hi H Q ->
   ∃ T id,typeLookup (.type T) "__getitem__" = pure (some (.builtin id))/\s.TypeIs v T/\wpAny (model X.prog X.w) X.A (getItem v (.ref sl)) (EP X pins σ Q) X.xe s
def tSl (r:V->Option Int->Option Int->Hp->VK->Prop) (te:TE) (tl th:TO):TE:=fun σ H Q=>te σ H fun x H1=>tl σ H1 fun l H2=>th σ H2 fun u H3=>r x l u H3 Q
theorem o9 {r:V->Option Int->Option Int->Hp->VK->Prop} (hr:SlR X r) (he:PE X e te) (hl:PO X lo tl) (hu:PO X hi th):PE X (.Subscript e (.Slice lo hi none p2) pos) (tSl r te tl th):=by
 intro pins s σ H Q I h
 refine Subscript_ (thn (he pins s σ H _ I h) fun v s1 ⟨x,H1,I1,r1,q1⟩=>?_)
 refine wpAny_Slice (thn (hl pins s1 σ H1 _ I1 q1) fun vl s2 ⟨l,H2,I2,pl,q2⟩=>thn (hu pins s2 σ H2 _ I2 q2) fun vu s3 ⟨u,H3,I3,pu,q3⟩=>?_)
 rw [evalPart_none]
 refine wpAny_pure ?_
 have I4:Inv X pins σ H3 { s3 with heap:=s3.heap.push { cls:=.type "slice",data:=.fields #[vl,vu,.none] } }:=I3.kept (t':=s3.toks) fun b ob q=>Heap.get?_push_of_some _ q
 obtain ⟨T,id,hT,ht,hg⟩:=hr pins { s3 with heap:=s3.heap.push { cls:=.type "slice",data:=.fields #[vl,vu,.none] } } σ H3 x v vl vu l u s3.heap.objs.size Q I4 r1 (Heap.IsSliceOf.new ..) pl pu q3
 show wpAny (model X.prog X.w) X.A (subscriptTail e (.Slice lo hi none p2) v (.ref s3.heap.objs.size)) (EP X pins σ Q) X.xe { s3 with heap:=s3.heap.push { cls:=.type "slice",data:=.fields #[vl,vu,.none] } }
 exact tail_any (ops:=[.ref s3.heap.objs.size,v]) ht hT hg (by with_unfolding_all rfl)
theorem fB {r:V->Option Int->Option Int->Hp->VK->Prop} (hr:SlR X r) (he:ZE X e te) (hl:ZO X lo tl) (hu:ZO X hi th):ZE X (.Subscript e (.Slice lo hi none p2) pos) (tSl r te tl th):=by with_unfolding_all exact o9 hr he hl hu
def kd (xs:List V) (lo hi:Option Int):List V:=(xs.drop (HT.sIx xs.length 0 lo)).take (HT.sIx xs.length xs.length hi - HT.sIx xs.length 0 lo)
theorem eA (xs:List V) (lo hi:Option Int):(kd xs lo hi).length<=xs.length:=by
 unfold kd
 rw [List.length_take,List.length_drop]
 lia
def rSlT (K:PySem.W.Frag):V->Option Int->Option Int->Hp->VK->Prop:=fun x lo hi H Q=>∃ a xs,x=.ref a/\SqT K H a xs /\
 ¬ (HT.sIx xs.length 0 lo=0/\HT.sIx xs.length xs.length hi=xs.length)/\∀ p,H p=none->Q (.ref p) (upd H p (.tup (kd xs lo hi)))
theorem sl_tup:SlR X (rSlT X.K):=by
 intro pins s σ H x v vl vu lo hi sl Q I rx hs pl pu h
 obtain ⟨a,xs,rfl,hx,hw,q⟩:=h
 cases rx
 obtain ⟨its,r,ht,hz⟩:=I.tuple hx
 have hlen:its.toArray.size=xs.length:=by rw [List.size_toArray];exact r.length.symm
 refine ⟨"tuple",_,PyProof.Rows.slot_tuple_getitem.lookup,ht.typeIs,?_⟩
 refine HT.getItem_tuple_cut ht hs pl pu (by rw [hlen];exact hw) ?_ (by rw [hlen];exact hz)
 rw [hlen]
 refine ⟨.ref s.heap.objs.size,_,I.laid (t':=s.toks) (o:=.tup (kd xs lo hi)) (fun b ob q=>Heap.get?_push_of_some _ q) (Nat.le_refl _) ?_,rfl,q _ (I.hok.fresh (Nat.le_refl _))⟩
 exact ⟨Nat.le_trans (eA xs lo hi) hz,_,(r.drop (HT.sIx xs.length 0 lo)).take (HT.sIx xs.length xs.length hi - HT.sIx xs.length 0 lo),TupD.new _ _⟩
def rCatT (K:PySem.W.Frag):R2:=fun x y H Q=>∃ a b xs ys,x=.ref a/\y=.ref b/\SqT K H a xs/\SqT K H b ys/\xs≠[]/\xs.length+ys.length<=sizeLine /\
 (ys=[]->Q (.ref a) H)/\(ys≠[]->∀ p,H p=none->Q (.ref p) (upd H p (.tup (xs++ys))))
theorem Vals.nil_iff {xs:List V} {us:List Value} (r:Vals xs us):us=[]↔xs=[]:=by
 cases r with
 | nil=>simp
 | cons _ _=>simp
theorem sL:OpR X (binaryOp .Add) (rCatT X.K):=by
 intro pins s σ H x y v u Q I rx ry h
 obtain ⟨a,b,xs,ys,rfl,rfl,ha,hb,hx,hz,q1,q2⟩:=h
 cases rx
 cases ry
 obtain ⟨its,r1,p1,_⟩:=I.tuple ha
 obtain ⟨its2,r2,p2,_⟩:=I.tuple hb
 refine HT.cat_tup p1 p2 (fun z=>hx (r1.nil_iff.mp z)) (fun z=>⟨.ref a,H,I,rfl,q1 (r2.nil_iff.mp z)⟩) (fun z=>?_) (by rw [← r1.length,← r2.length];exact hz)
 refine ⟨.ref s.heap.objs.size,_,I.laid (t':=s.toks) (o:=.tup (xs++ys)) (fun b ob q=>Heap.get?_push_of_some _ q) (Nat.le_refl _) ?_,rfl,q2 (fun w=>z (r2.nil_iff.mpr w)) _ (I.hok.fresh (Nat.le_refl _))⟩
 exact ⟨by rw [List.length_append];exact hz,_,r1.append r2,TupD.new _ _⟩
end
def ixN (n:Nat) (i:Int):Option Nat:=if 0<=i then (if i<n then some i.toNat else none) else if -(n:Int)<=i then some (i+n).toNat else none
def atI {α:Type} (xs:List α) (i:Int):Option α:=(ixN xs.length i).bind fun j=>xs[j]?
theorem mI {n:Nat} {i:Int} {j:Nat} (h:ixN n i=some j):seqIndex? i n=some j/\j<n/\-(n:Int)<=i/\i<n:=by
 unfold ixN at h
 by_cases h0:0<=i
 · rw [if_pos h0] at h
   by_cases h1:i<n
   · rw [if_pos h1] at h
     have e:i.toNat=j:=Option.some.inj h
     exact ⟨by rw [seqIndex_of h0 h1,e],by lia,by lia,h1⟩
   · rw [if_neg h1] at h;cases h
 · rw [if_neg h0] at h
   by_cases h1:-(n:Int)<=i
   · rw [if_pos h1] at h
     have e:(i+n).toNat=j:=Option.some.inj h
     exact ⟨by rw [seqIndex_neg (by lia) h1,e],by lia,h1,by lia⟩
   · rw [if_neg h1] at h;cases h
theorem nV {α:Type} {xs:List α} {i:Int} {v:α} (h:atI xs i=some v):∃ j,seqIndex? i xs.length=some j/\xs[j]? = some v/\j<xs.length/\-(xs.length:Int)<=i/\i<xs.length:=by
 unfold atI at h
 cases e:ixN xs.length i with
 | none=>rw [e] at h;cases h
 | some j=>
   rw [e] at h
   obtain ⟨h1,h2,h3,h4⟩:=mI e
   exact ⟨j,h1,h,h2,h3,h4⟩
theorem tO {α:Type} {xs:List α} {j:Nat} {v:α} (h:xs[j]? = some v):atI xs (j:Int)=some v:=by
 have hj:j<xs.length:=(List.getElem?_eq_some_iff.mp h).1
 have e:ixN xs.length (j:Int)=some j:=by
  unfold ixN
  rw [if_pos (by lia),if_pos (by lia)];simp
 unfold atI;rw [e];exact h
theorem qk {α:Type} (xs:List α) (v:α):atI (xs++[v]) (-1)=some v:=by
 have hl:(xs++[v]).length=xs.length+1:=by simp
 have e:ixN (xs++[v]).length (-1)=some xs.length:=by
  unfold ixN
  rw [hl,if_neg (by decide),if_pos (by lia)]
  congr 1
  lia
 unfold atI
 rw [e]
 show (xs++[v])[xs.length]? = some v
 simp
def nY (b:Expr):Prop:=∀ o i,subscripted b false o i=operate [o,i] (getItem o i)
def IxR (X:Cx) (r:R2):Prop:=
 ∀ (value slice:Expr) (pins:List (Addr×Obj)) (s:Shared) (σ:St) (H:Hp) (x y:V) (v u:Value) (Q:VK),Inv X pins σ H s->RelV x v->RelV y u->r x y H Q ->
   subscripted slice false v u=operate [v,u] (getItem v u)->wpAny (model X.prog X.w) X.A (subscriptTail value slice v u) (EP X pins σ Q) X.xe s
def MtR (X:Cx) (id:String) (r:V->List V->Hp->VK->Prop):Prop:=
 ∀ (pins:List (Addr×Obj)) (s:Shared) (σ:St) (H:Hp) (x:V) (xs:List V) (v:Value) (us:List Value) (Q:VK),Inv X pins σ H s->RelV x v->Vals xs us->r x xs H Q ->
   wpAny (model X.prog X.w) X.A (call (.builtin id) (v::us)) (EP X pins σ Q) X.xe s
section
variable {X:Cx} {a b:Expr} {ta tb:TE} {pos:Pos}
theorem pe_ix {r:R2} (hr:IxR X r) (ha:PE X a ta) (hb:PE X b tb) (hs:nY b):PE X (.Subscript a b pos) (tOp r ta tb):=by
 intro pins s σ H Q I h
 exact Subscript_ (binT ha hb I h fun v u s2 x y H2 I2 rx ry q=>hr a b pins s2 σ H2 x y v u Q I2 rx ry q (hs _ _))
theorem br {r:R2} (hr:IxR X r) (ha:ZE X a ta) (hb:ZE X b tb) (hs:nY b):ZE X (.Subscript a b pos) (tOp r ta tb):=by with_unfolding_all exact pe_ix hr ha hb hs
def rIxL (K:PySem.W.Frag):R2:=fun x y H Q=>∃ p xs i v,x=.ref p/\y=.int i/\SqL K H p xs/\atI xs i=some v/\Q v H
def rIxT (K:PySem.W.Frag):R2:=fun x y H Q=>∃ p xs i v,x=.ref p/\y=.int i/\SqT K H p xs/\atI xs i=some v/\Q v H
theorem tq:IxR X (rIxL X.K):=by
 intro value slice pins s σ H x y v u Q I rx ry h hs
 obtain ⟨p,xs,i,z,rfl,rfl,hq,he,q⟩:=h
 cases rx
 obtain ⟨t,rfl⟩:=ry
 obtain ⟨its,r,pl,hz⟩:=I.list hq
 obtain ⟨j,h1,h2,h3,h4,h5⟩:=nV he
 obtain ⟨w,ew,rw'⟩:=r.get h2
 have hl:=r.length
 have hn:=ja
 have fin:EP X pins σ Q w s:=⟨z,H,I,rw',q⟩
 by_cases h0:0<=i
 · have hj:i.toNat=j:=by
    rw [seqIndex_of h0 h5] at h1
    exact Option.some.inj h1
   exact item_listR pl.isList h0 (by lia) (by rw [hj];simpa using ew) fin hs
 · have hj:(i+(its.toArray.size:Int)).toNat=j:=by
    rw [seqIndex_neg (by lia) h4] at h1
    rw [List.size_toArray,← hl]
    exact Option.some.inj h1
   exact subscriptTail_builtinR (x:=w) pl.isList.typeIs slot_list_getitem.lookup
    (wpAny_getItem_list_neg (Q:=fun r s'=>r=w/\EP X pins σ Q r s') pl.isList (by lia) (by rw [List.size_toArray] <;> lia) (by lia) (by rw [hj];simpa using ew) ⟨rfl,fin⟩) hs
theorem ix_tup:IxR X (rIxT X.K):=by
 intro value slice pins s σ H x y v u Q I rx ry h hs
 obtain ⟨p,xs,i,z,rfl,rfl,hq,he,q⟩:=h
 cases rx
 obtain ⟨t,rfl⟩:=ry
 obtain ⟨its,r,pl,hz⟩:=I.tuple hq
 obtain ⟨j,h1,h2,h3,h4,h5⟩:=nV he
 obtain ⟨w,ew,rw'⟩:=r.get h2
 have hl:=r.length
 have hn:=ja
 have fin:EP X pins σ Q w s:=⟨z,H,I,rw',q⟩
 exact subscriptTail_builtinR (x:=w) pl.typeIs slot_tuple_getitem.lookup
  (getItem_tuple (j:=j) (Q:=fun r s'=>r=w/\EP X pins σ Q r s') pl (by lia) (by lia) (by rw [List.size_toArray,← hl];exact h1) (by simpa using ew) ⟨rfl,fin⟩) hs
theorem jQ (its:List Value) (n j:Nat) (u:Value):Obj.mapSeq (·.setIfInBounds j u) { cls:=.type "list",data:=.seq its.toArray n }={ cls:=.type "list",data:=.seq (its.set j u).toArray n }:=by
 simp [Obj.mapSeq]
theorem Inv.lst {pins:List (Addr×Obj)} {σ:St} {H:Hp} {s:Shared} {p:Addr} {xs:List V} (I:Inv X pins σ H s) (h:H p=some (.lst xs)) :
 ∃ (its:List Value) (n:Nat),Vals xs its/\s.heap.get? p=some { cls:=.type "list",data:=.seq its.toArray n }/\xs.length<=sizeLine:=by
 obtain ⟨z,its,n,r,e⟩:=I.hok p _ h
 exact ⟨its,n,r,e,z⟩
theorem Inv.lstUpd {pins:List (Addr×Obj)} {σ:St} {H:Hp} {s:Shared} {p:Addr} {xs ys:List V} {its its':List Value} {n n':Nat} {f:Obj->Obj} (I:Inv X pins σ H s) (h:H p=some (.lst xs))
 (ho:s.heap.get? p=some { cls:=.type "list",data:=.seq its.toArray n }) (hf:f { cls:=.type "list",data:=.seq its.toArray n }={ cls:=.type "list",data:=.seq its'.toArray n' }) (r:Vals ys its') (hz:ys.length<=sizeLine) (t:Nat) :
 Inv X pins σ (upd H p (.lst ys)) { s with heap:=s.heap.update p f,toks:=t }:=by
 have e:(s.heap.update p f).get? p=some { cls:=.type "list",data:=.seq its'.toArray n' }:=by
  rw [Heap.get?_update_self f ho (by rw [hf] <;> rfl),hf]
 refine I.write (x:=p) (e:=p) (by rw [h];trivial) (.inl rfl) (fun b u hb q=>(Heap.get?_update_other _ _ (Ne.symm hb)).trans q) ⟨_,e⟩ ?_
 exact ⟨hz,its',n',r,e⟩
def rSetL:V->V->V->Hp->(Hp->Prop)->Prop:=fun o i v H Q=>∃ p xs k j,o=.ref p/\i=.int k/\H p=some (.lst xs)/\ixN xs.length k=some j/\Q (upd H p (.lst (xs.set j v)))
theorem cn:PSet X rSetL:=by
 intro pins s σ H o i v ov iv u Q I ro ri rv h
 obtain ⟨p,xs,k,j,rfl,rfl,hp,hj,q⟩:=h
 cases ro
 obtain ⟨t,rfl⟩:=ri
 obtain ⟨its,n,r,ho,hz⟩:=I.lst hp
 obtain ⟨h1,h2,h3,h4⟩:=mI hj
 have hl:=r.length
 have hn:=ja
 have I':Inv X pins σ (upd H p (.lst (xs.set j v))) { s with heap:=s.heap.update p (Obj.mapSeq (·.setIfInBounds j u)) }:=
  I.lstUpd hp ho (jQ its n j u) (r.set rv j) (by rw [List.length_set];exact hz) s.toks
 by_cases h0:0<=k
 · have hk:k.toNat=j:=by
    rw [seqIndex_of h0 h4] at h1
    exact Option.some.inj h1
   exact PySem.W.ki_setAt ho h0 (by lia) (by rw [List.size_toArray,← hl];exact h4) (by rw [hk];exact ⟨_,I',q⟩)
 · have hk:(k+(its.toArray.size:Int)).toNat=j:=by
    rw [seqIndex_neg (by lia) h3] at h1
    rw [List.size_toArray,← hl]
    exact Option.some.inj h1
   exact PySem.W.ki_setBack ho (by lia) (by rw [List.size_toArray,← hl];exact h3) (by lia) (by rw [hk];exact ⟨_,I',q⟩)
theorem gp (lo hi:Option Int) (n:Nat):(sliceBounds lo hi none n).1=((HT.sIx n 0 lo:Nat):Int)/\(sliceBounds lo hi none n).2.1=((HT.sIx n n hi:Nat):Int)/\(sliceBounds lo hi none n).2.2=1:=by
 refine ⟨?_,?_,rfl⟩
 · cases lo with
   | none=>simp [sliceBounds,HT.sIx]
   | some i=>
     simp only [sliceBounds,HT.sIx,Option.getD_none,show (1:Int) > 0 by decide,if_true]
     by_cases h:i<0
     · simp only [h,if_true] <;> lia
     · simp only [h,if_false] <;> lia
 · cases hi with
   | none=>simp [sliceBounds,HT.sIx]
   | some i=>
     simp only [sliceBounds,HT.sIx,Option.getD_none,show (1:Int) > 0 by decide,if_true]
     by_cases h:i<0
     · simp only [h,if_true] <;> lia
     · simp only [h,if_false] <;> lia
theorem fJ (its:List Value) (lo hi:Option Int):slicePick its.toArray lo hi none=((its.drop (HT.sIx its.length 0 lo)).take (HT.sIx its.length its.length hi - HT.sIx its.length 0 lo)).toArray:=by
 obtain ⟨h1,h2,h3⟩:=gp lo hi its.toArray.size
 unfold slicePick
 rw [h1,h2,h3]
 simp only [sliceRange_one,pick_run,List.size_toArray] <;> rfl
def rSlL (K:PySem.W.Frag):V->Option Int->Option Int->Hp->VK->Prop:=fun x lo hi H Q=>∃ a xs,x=.ref a/\SqL K H a xs/\∀ p,H p=none->Q (.ref p) (upd H p (.lst (kd xs lo hi)))
theorem rm:SlR X (rSlL X.K):=by
 intro pins s σ H x v vl vu lo hi sl Q I rx hs pl pu h
 obtain ⟨a,xs,rfl,hx,q⟩:=h
 cases rx
 obtain ⟨its,r,ht,hz⟩:=I.list hx
 have hlen:=r.length
 refine ⟨"list",_,slot_list_getitem.lookup,ht.isList.typeIs,?_⟩
 refine wpAny_getItem_list_slice ht.isList hs pl pu .none (by simp) ?_ (by rw [List.size_toArray] <;> lia)
 rw [fJ,← hlen]
 refine ⟨.ref s.heap.objs.size,_,I.laid (t':=s.toks) (o:=.lst (kd xs lo hi)) (fun b ob q=>Heap.get?_push_of_some _ q) (Nat.le_refl _) ?_,rfl,q _ (I.hok.fresh (Nat.le_refl _))⟩
 exact ⟨Nat.le_trans (eA xs lo hi) hz,_,0,(r.drop (HT.sIx xs.length 0 lo)).take (HT.sIx xs.length xs.length hi - HT.sIx xs.length 0 lo),Heap.get?_push_size _ rfl⟩
def fV:V->Bool
 | .non=>true
 | .bl _=>true
 | .int _=>true
 | .str _=>true
 | _=>false
def eqV:V->V->Bool
 | .non,.non=>true
 | .bl a,.bl b=>a == b
 | .bl a,.int b=>(if a then 1 else 0) == b
 | .int a,.bl b=>a == (if b then 1 else 0)
 | .int a,.int b=>a == b
 | .str a,.str b=>a == b
 | _,_=>false
theorem eqAt_V {A:Around} {s:Shared} {y x:V} {u v:Value} (ry:RelV y u) (rx:RelV x v) (fy:fV y=true) (fx:fV x=true):SeqAt.EqAt A s u v (eqV y x):=by
 cases y with
 | non=>
   cases ry
   cases x with
   | non=>cases rx;exact SeqAt.EqAt.same _
   | bl b=>cases rx;exact SeqAt.EqAt.none_bool b
   | int b=>obtain ⟨t,rfl⟩:=rx;exact SeqAt.EqAt.none_int b t
   | str b=>obtain ⟨t,rfl⟩:=rx;exact SeqAt.EqAt.none_str b t
   | _=>exact absurd (show false=true from fx) Bool.false_ne_true
 | bl a=>
   cases ry
   cases x with
   | non=>cases rx;exact SeqAt.EqAt.bool_none a
   | bl b=>cases rx;exact SeqAt.EqAt.bool_bool a b
   | int b=>obtain ⟨t,rfl⟩:=rx;exact SeqAt.EqAt.bool_int a b t
   | str b=>obtain ⟨t,rfl⟩:=rx;exact SeqAt.EqAt.bool_str a b t
   | _=>exact absurd (show false=true from fx) Bool.false_ne_true
 | int a=>
   obtain ⟨t',rfl⟩:=ry
   cases x with
   | non=>cases rx;exact SeqAt.EqAt.int_none a t'
   | bl b=>cases rx;exact SeqAt.EqAt.int_bool a t' b
   | int b=>obtain ⟨t,rfl⟩:=rx;exact SeqAt.EqAt.int_int a t' b t
   | str b=>obtain ⟨t,rfl⟩:=rx;exact SeqAt.EqAt.int_str a t' b t
   | _=>exact absurd (show false=true from fx) Bool.false_ne_true
 | str a=>
   obtain ⟨t',rfl⟩:=ry
   cases x with
   | non=>cases rx;exact SeqAt.EqAt.str_none a t'
   | bl b=>cases rx;exact SeqAt.EqAt.str_bool a t' b
   | int b=>obtain ⟨t,rfl⟩:=rx;exact SeqAt.EqAt.str_int a t' b t
   | str b=>obtain ⟨t,rfl⟩:=rx;exact SeqAt.EqAt.str_str a t' b t
   | _=>exact absurd (show false=true from fx) Bool.false_ne_true
 | _=>exact absurd (show false=true from fy) Bool.false_ne_true
def eqU (x:V) (u:Value):Bool:=match u with
 | .none=>eqV .non x
 | .bool b=>eqV (.bl b) x
 | .int i _=>eqV (.int i) x
 | .str z _=>eqV (.str z) x
 | _=>false
theorem qM {x y:V} {u:Value} (r:RelV y u) (f:fV y=true):eqU x u=eqV y x:=by
 cases y with
 | non=>cases r;rfl
 | bl b=>cases r;rfl
 | int i=>obtain ⟨t,rfl⟩:=r;rfl
 | str z=>obtain ⟨t,rfl⟩:=r;rfl
 | _=>exact absurd (show false=true from f) Bool.false_ne_true
theorem iN {x:V}:∀ {xs:List V} {us:List Value},Vals xs us->xs.all fV=true->us.any (eqU x)=xs.any fun y=>eqV y x
 | _,_,.nil,_=>rfl
 | y::xs,u::us,.cons r t,f=>by
   rw [List.all_cons,Bool.and_eq_true] at f
   rw [List.any_cons,List.any_cons,qM r f.1,iN t f.2]
theorem fR {A:Around} {s:Shared} {x:V} {v:Value} (rx:RelV x v) (fx:fV x=true):∀ {xs:List V} {us:List Value},Vals xs us->xs.all fV=true->∀ u∈us,SeqAt.EqAt A s u v (eqU x u)
 | _,_,.nil,_=>fun u hu=>by cases hu
 | y::xs,u::us,.cons r t,f=>fun u' hu=>by
   rw [List.all_cons,Bool.and_eq_true] at f
   rcases List.mem_cons.mp hu with rfl | hu
   · rw [qM r f.1];exact eqAt_V r rx f.1 fx
   · exact fR rx fx t f.2 u' hu
def inV (x:V) (xs:List V):Bool:=xs.any fun y=>eqV y x
def rIn (K:PySem.W.Frag) (neg:Bool):R2:=fun x y H Q=>∃ p xs,y=.ref p/\(SqL K H p xs\/SqT K H p xs)/\fV x=true/\xs.all fV=true/\Q (.bl (if neg then !inV x xs else inV x xs)) H
theorem lX:OpR X (compareOp .In) (rIn X.K false):=by
 intro pins s σ H x y v u Q I rx ry h
 obtain ⟨p,xs,rfl,hq,fx,fs,q⟩:=h
 cases ry
 rcases hq with hq | hq
 · obtain ⟨its,r,pl,hz⟩:=I.list hq
   refine SeqAt.in_listAt (eqU x) pl.isList (fun w hw=>fR rx fx r fs w (by simpa using hw)) ⟨.bl _,H,I,rfl,?_⟩
   rw [show its.toArray.any (eqU x)=its.any (eqU x) by simp,iN r fs]
   exact q
 · obtain ⟨its,r,pl,hz⟩:=I.tuple hq
   refine SeqAt.in_tupleAt (eqU x) pl (fun w hw=>fR rx fx r fs w (by simpa using hw)) ⟨.bl _,H,I,rfl,?_⟩
   rw [show its.toArray.any (eqU x)=its.any (eqU x) by simp,iN r fs]
   exact q
theorem call_len_seq:CallR X (.builtin "len") (fun xs H Q=>∃ p ys,xs=[.ref p]/\(SqL X.K H p ys\/SqT X.K H p ys)/\Q (.int ys.length) H):=by
 intro pins s σ H xs us Q I r h
 obtain ⟨p,ys,rfl,hq,q⟩:=h
 obtain ⟨u,rfl,rx⟩:=bT r
 cases rx
 have hn:=ja
 rcases hq with hq | hq
 · obtain ⟨its,r',pl,hz⟩:=I.list hq
   have hlen:=r'.length
   exact Calls.call_len_list pl.isList (by simp only [List.size_toArray] <;> lia) ⟨.int ys.length,H,I.tok _,⟨s.toks+1,by rw [List.size_toArray,hlen]⟩,q⟩
 · obtain ⟨its,r',pl,hz⟩:=I.tuple hq
   have hlen:=r'.length
   exact len_tuple pl (by simp only [List.size_toArray] <;> lia) ⟨.int ys.length,H,I.tok _,⟨s.toks+1,by rw [List.size_toArray,hlen]⟩,q⟩
theorem call_list_of:CallR X (.type "list") (fun xs H Q=>∃ p ys,xs=[.ref p]/\(SqL X.K H p ys\/SqT X.K H p ys)/\∀ l,H l=none->Q (.ref l) (upd H l (.lst ys))):=by
 intro pins s σ H xs us Q I r h
 obtain ⟨p,ys,rfl,hq,q⟩:=h
 obtain ⟨u,rfl,rx⟩:=bT r
 cases rx
 have fin:∀ (its:List Value),Vals ys its->ys.length<=sizeLine->∀ (h':Heap) (c':Nat),(∀ b o',s.heap.get? b=some o'->h'.get? b=some o') ->
  h'.get? s.heap.objs.size=some { cls:=.type "list",dict:=none,data:=.seq its.toArray c',slots:=#[] }->EP X pins σ Q (.ref s.heap.objs.size) { s with heap:=h' }:=fun its r' hz h' c' kp e=>
  ⟨.ref s.heap.objs.size,_,I.laid (t':=s.toks) kp (Nat.le_refl _) (show ObjOk X.prog X.w _ h' _ (.lst ys) from ⟨hz,its,c',r',e⟩),rfl,q _ (I.hok.fresh (Nat.le_refl _))⟩
 rcases hq with hq | hq
 · obtain ⟨its,r',pl,hz⟩:=I.list hq
   have hlen:=r'.length
   obtain ⟨o,ho,hc,n,hd⟩:=pl.isList
   exact call_list_seq p (.inl rfl) ho hc hd (fun h' c' kp e=>fin its r' hz h' c' kp e) (by simp only [List.size_toArray] <;> lia)
 · obtain ⟨its,r',pl,hz⟩:=I.tuple hq
   have hlen:=r'.length
   obtain ⟨o,ho,hc,n,hd⟩:=pl
   exact call_list_seq p (.inr rfl) ho hc hd (fun h' c' kp e=>fin its r' hz h' c' kp e) (by simp only [List.size_toArray] <;> lia)
theorem call_tuple_of:CallR X (.type "tuple") (fun xs H Q=>∃ p ys,xs=[.ref p]/\((SqL X.K H p ys/\∀ l,H l=none->Q (.ref l) (upd H l (.tup ys)))\/(SqT X.K H p ys/\Q (.ref p) H))):=by
 intro pins s σ H xs us Q I r h
 obtain ⟨p,ys,rfl,h⟩:=h
 obtain ⟨u,rfl,rx⟩:=bT r
 cases rx
 rcases h with ⟨hq,q⟩ | ⟨hq,q⟩
 · obtain ⟨its,r',pl,hz⟩:=I.list hq
   have hlen:=r'.length
   refine call_tuple_list pl.isList (fun h' kp=>?_) (by simp only [List.size_toArray] <;> lia)
   have I1:Inv X pins σ H { s with heap:=h' }:=I.kept (t':=s.toks) kp
   have I2:Inv X pins σ (upd H h'.objs.size (.tup ys)) { s with heap:=h'.push { cls:=.type "tuple",data:=.seq its.toArray } }:=
    I1.laid (t':=s.toks) (fun b o e=>Heap.get?_push_of_some _ e) (Nat.le_refl _) (show ObjOk X.prog X.w _ _ _ (.tup ys) from ⟨hz,its,r',TupD.new _ _⟩)
   exact ⟨.ref h'.objs.size,_,I2,rfl,q _ (I1.hok.fresh (Nat.le_refl _))⟩
 · obtain ⟨its,r',pl,hz⟩:=I.tuple hq
   exact call_tuple_same pl ⟨.ref p,H,I,rfl,q⟩
def tyV (K:PySem.W.Frag) (T:String) (x:V) (H:Hp):Prop:=match x with
 | .str _=>T="str"
 | .int _=>T="int"
 | .ref p=>(T="list"/\∃ xs,SqL K H p xs)\/(T="tuple"/\∃ o,K.lookup p=some o/\o.cls=.type "tuple"/\o.dict=none) \/
  (T="dict"/\((∃ kvs,H p=some (.dK kvs))\/∃ kvs,H p=some (.dT kvs)))\/(T="set"/\∃ S n,H p=some (.set S n))\/(T="tuple"/\∃ xs,H p=some (.tup xs))
 | _=>False
theorem tyV_is {pins:List (Addr×Obj)} {σ:St} {H:Hp} {s:Shared} {T:String} {x:V} {v:Value} (I:Inv X pins σ H s) (r:RelV x v) (ty:tyV X.K T x H) :
 s.TypeIs v T/\∀ a,v=.ref a->∃ ob,s.heap.get? a=some ob/\ob.dict=none:=by
 cases x with
 | str z=>
   obtain ⟨t,rfl⟩:=r
   cases (show T="str" from ty)
   exact ⟨typeIs_str s z t,fun _ e=>nomatch e⟩
 | int i=>
   obtain ⟨t,rfl⟩:=r
   cases (show T="int" from ty)
   exact ⟨typeIs_int s i t,fun _ e=>nomatch e⟩
 | ref p=>
   cases r
   rcases ty with ⟨rfl,xs,hq⟩ | ⟨rfl,o,hk,hc,hd⟩ | ⟨rfl,hk⟩ | ⟨rfl,S,n,hk⟩ | ⟨rfl,xs,hk⟩
   · obtain ⟨its,_,pl,_⟩:=I.list hq
     refine ⟨pl.isList.typeIs,fun a e=>?_⟩
     cases e
     obtain ⟨o,n,e,c,hd,_⟩:=pl
     exact ⟨o,e,hd⟩
   · refine ⟨⟨o,I.kIn p o hk,hc⟩,fun a e=>?_⟩
     cases e
     exact ⟨o,I.kIn _ o hk,hd⟩
   · have z:∃ o,s.heap.get? p=some o/\o.ExactDict:=by
      rcases hk with ⟨kvs,hk⟩ | ⟨kvs,hk⟩
      · obtain ⟨_,_,_,_,o,_,_,e,ex,_⟩:=I.hok p _ hk
        exact ⟨o,e,ex⟩
      · obtain ⟨_,_,_,_,o,_,_,e,ex,_⟩:=I.hok p _ hk
        exact ⟨o,e,ex⟩
     obtain ⟨o,e,ex⟩:=z
     refine ⟨⟨o,e,ex.1⟩,fun a e2=>?_⟩
     cases e2
     exact ⟨o,e,ex.2.1⟩
   · obtain ⟨o,_,_,_,e,ex,_⟩:=I.hok p _ hk
     refine ⟨⟨o,e,ex.1⟩,fun a e2=>?_⟩
     cases e2
     exact ⟨o,e,ex.2.1⟩
   · obtain ⟨_,_,_,n,e⟩:=I.hok p _ hk
     refine ⟨⟨_,e,rfl⟩,fun a e2=>?_⟩
     cases e2
     exact ⟨_,e,rfl⟩
 | _=>exact False.elim ty
def tBM (K:PySem.W.Frag) (T:String) (r:V->List V->Hp->VK->Prop) (to:TE) (t:TA):TE:=fun σ H Q=>to σ H fun x H1=>tyV K T x H1/\t σ H1 fun xs H2=>r x xs H2 Q
variable {o e:Expr} {es:List Expr} {to:TE} {t:TA} {name:Str} {apos cpos:Pos} {T id:String} {r:V->List V->Hp->VK->Prop}
theorem sy (pa:PlainAttrs T) (slot:Slot T name id) (hty:typeOf (.builtin id)=pure (.type "method_descriptor")) (hm:MtR X id r) (ho:PE X o to) (ha:PA X (e::es) t)
 (hbase:attributeBase o name X.env (eval o X.env)=eval o X.env:=by rfl)
 (hfew:((backTo cpos (starEach (e::es) X.env)).all (fun x=>!x.1)&&(backToKw cpos (keywordEach [] X.env)).all (fun x=>x.1.isSome)
   && decide ((e::es).length+([]:List Keyword).length+(if ([]:List Keyword).isEmpty then 0 else 1)<30))=true:=by rfl)
 (hline:(apos.endLine == cpos.line)=true:=by rfl) (hs:starEach (e::es) X.env=(false,eval e X.env)::starEach es X.env:=by rfl) (hplain:(backTo cpos (starEach es X.env)).any (·.1)=false:=by rfl) :
 PE X (.Call (.Attribute o name apos) (e::es) [] cpos) (tBM X.K T r to t):=by
 intro pins s σ H Q I h
 refine wpAny_Call_method_late hbase hfew hline rfl (thn (ho pins s σ H _ I h) fun v s1 ⟨x,H1,I1,r1,ty,q1⟩=>?_)
 obtain ⟨h1,h2⟩:=tyV_is I1 r1 ty
 refine ⟨T,id,pa,slot,hty,h1,h2,?_⟩
 have hA:=ha cpos pins s1 σ H1 _ I1 q1
 rw [hs] at hA ⊢
 refine Calls.callWith_builtin (by show (false||(backTo cpos (starEach es X.env)).any (·.1))=false;rw [hplain] <;> rfl) (Calls.evalArgs_plain ?_)
 exact thn hA fun us s2 ⟨vs,H2,I2,r2,q2⟩=>hm pins s2 σ H2 x vs v us Q I2 r1 r2 q2
/- xs.append(e),list.index on a module's tuple .. are MtR facts of 06m -/
end
def MtM (X:Cx) (id:String) (r:V->List V->Hp->VK->Prop):Prop:=
 ∀ (pins:List (Addr×Obj)) (s:Shared) (σ:St) (H:Hp) (x:V) (xs:List V) (v:Value) (us:List Value) (Q:VK),Inv X pins σ H s->RelV x v->Vals xs us->r x xs H Q ->
   wpAny (model X.prog X.w) X.A (call (.builtin id) (v::us)) (EP X pins σ Q) X.xe s
theorem Vals.one:∀ {x:V} {us:List Value},Vals [x] us->∃ u,us=[u]/\RelV x u
 | _,_,.cons r .nil=>⟨_,rfl,r⟩
theorem Vals.rep {xs:List V} {us:List Value} (h:Vals xs us):∀ k:Nat,Vals (List.replicate k xs).flatten (List.replicate k us).flatten
 | 0=>.nil
 | k+1=>by
   rw [List.replicate_succ,List.replicate_succ,List.flatten_cons,List.flatten_cons]
   exact Vals.append h (Vals.rep h k)
theorem ej (its:List Value):∀ (k:Nat) (acc:List Value),
 List.foldl (fun x1 x2=>x1++x2) acc.toArray (List.replicate k its.toArray)=(acc++(List.replicate k its).flatten).toArray
 | 0,acc=>by simp
 | k+1,acc=>by
   have e:acc.toArray++its.toArray=(acc++its).toArray:=by simp
   have e2:(acc++its)++(List.replicate k its).flatten=acc++(List.replicate (k+1) its).flatten:=by
    rw [List.replicate_succ,List.flatten_cons,List.append_assoc]
   rw [← e2,← ej its k (acc++its),← e,List.replicate_succ,List.foldl_cons]
section
variable {X:Cx} {pins:List (Addr×Obj)} {σ:St} {H:Hp} {s:Shared} {l b:Addr} {xs ys zs:List V}
theorem Inv.lset {its its':List Value} {n:Nat} {f:Array Value->Array Value} {t':Nat} (I:Inv X pins σ H s) (hH:H l=some (.lst xs))
 (e:s.heap.get? l=some { cls:=.type "list",data:=.seq its.toArray n }) (hf:f its.toArray=its'.toArray) (hv:Vals ys its') (hz:ys.length<=sizeLine) :
 Inv X pins σ (upd H l (.lst ys)) { s with heap:=s.heap.update l (Obj.mapSeq f),toks:=t' }:=by
 have q:=PySem.IsL.update e f
 rw [hf] at q
 refine I.write (x:=l) (e:=l) (by rw [hH];exact trivial) (.inl rfl) (fun b' u hb hu=>(Heap.get?_update_other s.heap (Obj.mapSeq f) (Ne.symm hb)).trans hu) ⟨_,q⟩ ?_
 exact ⟨hz,its',_,hv,q⟩
theorem Inv.lnew {its:List Value} {t':Nat} (I:Inv X pins σ H s) (hv:Vals ys its) (hz:ys.length<=sizeLine) :
 Inv X pins σ (upd H s.heap.objs.size (.lst ys)) { s with heap:=s.heap.push { cls:=.type "list",data:=.seq its.toArray },toks:=t' }:=
 I.laid (fun _ _ q=>Heap.get?_push_of_some _ q) (Nat.le_refl _) ⟨hz,its,0,hv,Heap.get?_push_size _ rfl⟩
theorem Inv.fresh (I:Inv X pins σ H s):H s.heap.objs.size=none:=I.hok.fresh (Nat.le_refl _)
theorem Inv.lstM (I:Inv X pins σ H s) (hH:H l=some (.lst xs)):xs.length<=sizeLine/\∃ (its:List Value) (n:Nat),Vals xs its/\xs.length=its.length/\s.heap.get? l=some { cls:=.type "list",data:=.seq its.toArray n }:=by
 obtain ⟨z,its,n,r,e⟩:=I.hok l _ hH
 exact ⟨z,its,n,r,r.length,e⟩
theorem i6 {n:Nat} (h:n<=sizeLine):Builtin.List.listTooLong n=false:=by
 unfold Builtin.List.listTooLong
 exact decide_eq_false (by lia)
end
section
variable {X:Cx}
def rK:V->List V->Hp->VK->Prop:=fun x vs H Q=>∃ l xs y,x=.ref l/\vs=[y]/\H l=some (.lst xs)/\xs.length<sizeLine/\Q .non (upd H l (.lst (xs++[y])))
theorem mh:MtM X "list.append" rK:=by
 intro pins s σ H x vs v us Q I rx rv h
 obtain ⟨l,xs,y,rfl,rfl,hH,hz,q⟩:=h
 cases rx
 obtain ⟨u,rfl,ru⟩:=rv.one
 obtain ⟨z,its,n,r,hl,e⟩:=I.lstM hH
 refine call_meets F.slot_list_append ⟨_,e,rfl⟩ F.entry_list_append (F.args_list_append_2 _ _) (PySem.list_append l its.toArray n u (by rw [List.size_toArray];lia)) ⟨e,?_⟩
 refine ⟨.non,_,I.lset (its':=its++[u]) hH e (by simp) (r.append (.cons ru .nil)) ?_,rfl,q⟩
 rw [List.length_append,List.length_singleton]
 lia
def rJ:V->List V->Hp->VK->Prop:=fun x vs H Q=>∃ l b xs zs,x=.ref l/\vs=[.ref b]/\H l=some (.lst xs)/\H b=some (.lst zs)/\xs.length+zs.length<=sizeLine/\Q .non (upd H l (.lst (xs++zs)))
theorem md:MtM X "list.extend" rJ:=by
 intro pins s σ H x vs v us Q I rx rv h
 obtain ⟨l,b,xs,zs,rfl,rfl,hH,hB,hz,q⟩:=h
 cases rx
 obtain ⟨u,rfl,ru⟩:=rv.one
 cases ru
 obtain ⟨z,its,n,r,hl,e⟩:=I.lstM hH
 obtain ⟨z2,its2,n2,r2,hl2,e2⟩:=I.lstM hB
 have hsz:its.toArray.size+its2.toArray.size<=sizeLine:=by rw [List.size_toArray,List.size_toArray];lia
 have hlong:¬ (!its.toArray.isEmpty&&Builtin.List.listTooLong (its.toArray.size+its2.toArray.size))=true:=by
  rw [i6 hsz,Bool.and_false]
  exact Bool.false_ne_true
 refine call_meets F.slot_list_extend ⟨_,e,rfl⟩ F.entry_list_extend (F.args_list_extend_2 _ _)
  (AutoSeq1.list_extend_list_list_0 l its.toArray n b its2.toArray n2 hlong (by rw [List.size_toArray];lia) (by lia)) ⟨e,e2,?_⟩
 refine ⟨.non,_,I.lset (its':=its++its2) hH e (by simp) (r.append r2) ?_,rfl,q⟩
 rw [List.length_append]
 lia
def rCat:R2:=fun x y H Q=>∃ l b xs zs,x=.ref l/\y=.ref b/\H l=some (.lst xs)/\H b=some (.lst zs)/\xs.length+zs.length<=sizeLine/\∀ p,H p=none->Q (.ref p) (upd H p (.lst (xs++zs)))
theorem op_cat:OpR X (binaryOp .Add) rCat:=by
 intro pins s σ H x y v u Q I rx ry h
 obtain ⟨l,b,xs,zs,rfl,rfl,hH,hB,hz,q⟩:=h
 cases rx
 cases ry
 obtain ⟨z,its,n,r,hl,e⟩:=I.lstM hH
 obtain ⟨z2,its2,n2,r2,hl2,e2⟩:=I.lstM hB
 refine PySem.P.add_list e e2 ?_ (by rw [List.size_toArray,List.size_toArray];lia)
 have ea:its.toArray++its2.toArray=(its++its2).toArray:=by simp
 rw [ea]
 exact ⟨.ref _,_,I.lnew (t':=s.toks) (r.append r2) (by rw [List.length_append];lia),rfl,q _ I.fresh⟩
def rRep:R2:=fun x y H Q=>∃ l k xs,x=.ref l/\y=.int k/\H l=some (.lst xs)/\-(2 ^ 63)<=k/\k<2 ^ 63/\xs.length*k.toNat<=sizeLine /\
 ∀ p,H p=none->Q (.ref p) (upd H p (.lst (List.replicate k.toNat xs).flatten))
theorem iG {α:Type} (xs:List α) (k:Nat):(List.replicate k xs).flatten.length=k*xs.length:=by
 induction k with
 | zero=>simp
 | succ k ih=>rw [List.replicate_succ,List.flatten_cons,List.length_append,ih,Nat.succ_mul,Nat.add_comm]
theorem op_rep:OpR X (binaryOp .Mult) rRep:=by
 intro pins s σ H x y v u Q I rx ry h
 obtain ⟨l,k,xs,rfl,rfl,hH,h1,h2,hz,q⟩:=h
 cases rx
 obtain ⟨t,rfl⟩:=ry
 obtain ⟨z,its,n,r,hl,e⟩:=I.lstM hH
 have hlen:its.toArray.size*k.toNat<=sizeLine:=by rw [List.size_toArray,← hl];exact hz
 have hcap:¬ its.toArray.size*k.toNat > (2 ^ 63 - 1) / 8:=by
  have:(sizeLine:Nat)<=(2 ^ 63 - 1) / 8:=by decide
  lia
 have hfit:¬ (!Builtin.List.listFitsIndex k)=true:=by
  rw [fitsIndex_both h1 h2]
  exact Bool.false_ne_true
 have hlong:¬ Builtin.List.listTooLong (its.toArray.size*k.toNat)=true:=by
  rw [i6 hlen]
  exact Bool.false_ne_true
 have hnew:List.foldl (fun x1 x2=>x1++x2) #[] (List.replicate (if its.toArray.isEmpty=true then 0 else k.toNat) its.toArray)=(List.replicate k.toNat its).flatten.toArray:=by
  have f0:∀ m:Nat,List.foldl (fun x1 x2=>x1++x2) #[] (List.replicate m its.toArray)=(List.replicate m its).flatten.toArray:=fun m=>by
   have:=ej its m []
   rw [List.nil_append] at this
   exact this
  rw [f0]
  cases its with
  | nil=>simp
  | cons a r'=>rw [if_neg (by simp)]
 refine wpAny_binaryOp_repeat_ref (T:="list") (U:="int") (by decide) ⟨_,e,rfl⟩ (fun s'=>typeIs_int s' k t) noFill_list_mul F.fills_int_mul F.slot_int_rmul repeat_list F.slot_int_index.lookup
  (call_meets F.slot_int_rmul (typeIs_int s k t) F.entry_int_rmul (F.args_int_rmul_2 _ _) (int___rmul___int_list k t l its.toArray n)
    ⟨e,rfl,⟨_,e,rfl⟩,call_meets F.slot_list_mul ⟨_,e,rfl⟩ F.entry_list_mul (F.args_list_mul_2 _ _) (AutoListH.list___mul___list_int_3 l its.toArray n k t hfit hcap hlong) ⟨e,?_⟩⟩)
 rw [hnew]
 exact ⟨.ref _,_,I.lnew (t':=s.toks) (r.rep k.toNat) (by rw [iG,Nat.mul_comm];exact hz),rfl,q _ I.fresh⟩
end
end L2
namespace Att
open PySem PySem.W PySem.Calls PyProof.Rows
theorem ef {P:Params} {h:Heap}:∀ (ns:List Int) (vs:List Value),WellAll P h vs (ns.map WData.int)->IntsAre vs ns:=by
 intro ns
 induction ns with
 | nil=>
   intro vs w
   rw [List.map_nil] at w
   cases w
   exact .nil
 | cons n ns ih=>
   intro vs w
   rw [List.map_cons] at w
   cases w with
   | cons a b=>
     cases a
     exact .cons _ _ (ih _ b)
theorem lj {l:OpenLaw} {n:Nat} (hn:l.most=some n) {P:Params} {h:Heap} {args:List WData} {vals:List Value}
 (hpre:l.row.toRowW.claim.pre args=true) (hwl:WellAll P h vals args) :
 ∃ a vs ns,vals=[Value.ref a]/\args=[WData.list (ns.map WData.int)]/\h.get? a=some { cls:=.type "list",data:=.seq vs.toArray }/\IntsAre vs ns/\ns.length<=n:=by
 have hsh:WShape.hasAll [] args [.list .int]=true:=(pre_splitW hpre).1
 have hc:l.pre.holds [] { args:=args }=true:=(pre_splitW hpre).2
 obtain ⟨d,r,rfl,h1,h2⟩:=hasAllW_cons hsh
 obtain rfl:=hasAllW_nil h2
 obtain ⟨xs,rfl,h3⟩:=hasW_list h1
 obtain ⟨ns,rfl⟩:=items_int h3
 have hlen:ns.length<=n:=by
  unfold OpenLaw.pre at hc
  have h4:(WTm.not (.lt (.lit (.int (n:Int))) (.len (.arg 0)))).holds [] { args:=[.list (ns.map .int)] }=true:=by
   have h4:=(holds_andW hc).1
   rw [hn] at h4
   exact h4
  have h5:=condW_of h4 (w_not (w_lt w_lit (w_len_list (w_arg rfl))))
  rw [List.length_map] at h5
  refine Nat.le_of_not_lt fun q=>?_
  have q':(n:Int)<((ns.length:Nat):Int):=by lia
  first
   | (rw [decide_eq_true q'] at h5;exact absurd h5 (by decide))
   | (simp at h5;lia)
 cases hwl with
 | cons w1 w2=>
   cases w2
   cases w1 with
   | list ho hall=>exact ⟨_,_,ns,rfl,rfl,ho,ef ns _ hall,hlen⟩
theorem lI (l:OpenLaw) (args:List WData):l.row.toRowW.claim.post args (.bool true) args=true:=
 postW_of (r:=l.row.toRowW) (X:=(true == true))
  (show WShape.has [] (.bool true) .bool=true by first | rfl | decide | simp [WShape.has,WShape.arms,WShape.armsAll])
  (show (WTm.eq .res (.lit (.bool true))).value [] { args:=args,res:=some (.bool true),after:=args }=some (.bool (true == true)) from w_eq_bool (w_res rfl) w_lit) rfl
theorem attach_call {l:OpenLaw} {n:Nat} {q:Program} {loose:List Str} {XP:(Str->Option Value)->Heap->Prop} {YP:World->Heap->Prop} {d:DefRec}
 (hn:l.most=some n) (hdf:d.params.defaults=[])
 (call:∀ (w:World) (s₀ s₁:Shared) (mg mb:Str->Option Value) (fa:Addr) (o:Obj) (pm cd doc:Value) (a:Addr) (vs:List Value) (ns:List Int),
   Ground q loose [] XP w s₀ mg mb s₁.heap->YP w s₁.heap ->
   s₁.heap.get? fa=some o->o.data=.func (docDef d.name d.params d.body d.scope pm cd doc)->s₁.heap.CodeRec cd d.name->mg d.name=some (.ref fa) ->
   s₁.heap.get? a=some { cls:=.type "list",data:=.seq vs.toArray }->IntsAre vs ns->ns.length<=n->s₁.gens=#[] ->
   codeAny (model l.prog w) callerA (.call (.ref fa) ⟨[.ref a],[]⟩) (fun r s'=>r=.ok (.ret (.bool true))/\OldK s₁.heap s'.heap/\s'.os=s₁.os/\AllBare s'.gens) s₁) :
 WalkO q loose XP YP l.row.toRowW d [] (fun f vs=>PySem.call f vs):=by
 intro w s₀ s₁ mg mb G Y fa o pm cd doc dV kV ho hd hcd hD hmg hg args vals as hpre hlay hrd hwl hlo
 obtain rfl:dV=.none:=Dflts.none hD hdf
 obtain rfl:kV=.none:=Dflts.noKw hD
 obtain ⟨a,vs,ns,rfl,rfl,hobj,hints,hlen⟩:=lj hn hpre hwl
 refine enter_call (codeAny_mono (call w s₀ s₁ mg mb fa o pm cd doc a vs ns G Y ho (fd_plain hd) hcd hmg hobj hints hlen hg) fun r s' hq=>?_)
 obtain ⟨rfl,h2,h3,h4⟩:=hq
 exact ⟨.inl ⟨.bool true,.bool true,[],rfl,fun _=>rfl,.bool true,lI l _,fun _=>⟨List.Pairwise.nil,fun _ hm=>(nomatch hm)⟩⟩,h2,h3,h4⟩
end Att
namespace L2
open PySem PySem.Spec PyProof.Rows
theorem cJ:∀ {vs:List Value} {ns:List Int},IntsAre vs ns->Vals (ns.map V.int) vs
 | _,_,.nil=>.nil
 | _,_,.cons n t h=>.cons ⟨t,rfl⟩ (cJ h)
def Only (H:Hp):Prop:=∀ b,H b=none\/∃ o xs,H b=some (.frz o (.lst xs))
theorem pM {P:Program} {w:World} {K:PySem.W.Frag} {mg mb:Str->Option Value} {CX:CXT} {k:Nat} {fa a:Addr} {fd:FuncData} {x:Str} {sp:Sp} {s₁:Shared} {vs:List Value} {ns:List Int}
 (KX:K.In s₁.heap) (hns:s₁.heap.Ns mainGlobals mg) (hb:s₁.heap.Ns builtinsNs mb) (hbb:∀ x:Str,x≠"__name__"->mb x=bootBuiltins x) (hlim:s₁.heap.NoLimit) (hg:s₁.gens=#[])
 (ha:s₁.heap.get? a=some { cls:=.type "list",data:=.seq vs.toArray }) (hi:IntsAre vs ns) (hl:ns.length<=sizeLine) (hr:Room k callerA)
 (F:∀ base:Heap,K.In base->base.Ns mainGlobals mg->FnOk P w K mg base CX k fa fd [x] sp) (hbind:∀ (s:Shared) (u:Value),BindsTo s fd ⟨[u],[]⟩ [(x,u)])
 (hsp:∀ H:Hp,Only H->SqL K H a (ns.map V.int)->sp [.ref a] H (fun v _=>v=.bl true) fun _ _ _=>False)
 (hCX:∀ H e s',CX [] H s₁ (fun _ _ _=>False) e s'->False) :
 codeAny (model P w) callerA (.call (.ref fa) ⟨[.ref a],[]⟩) (fun r s'=>r=.ok (.ret (.bool true))/\OldK s₁.heap s'.heap/\s'.os=s₁.os/\AllBare s'.gens) s₁:=by
 have rv:=cJ hi
 have lenV:=hi.length
 -- from an abstract heap in which nothing but the script may be tracked
 have core:∀ H:Hp,Only H->SqL K H a (ns.map V.int)->HOk P w H s₁.heap->(∀ b,H b≠none->b=a)->(H a≠none->K.lookup a=none) ->
  codeAny (model P w) callerA (.call (.ref fa) ⟨[.ref a],[]⟩) (fun r s'=>r=.ok (.ret (.bool true))/\OldK s₁.heap s'.heap/\s'.os=s₁.os/\AllBare s'.gens) s₁:=by
  intro H hO hS hok hA hK
  have base_of:∀ {b:Addr} {o:Obj},s₁.heap.get? b=some o->H b=none->(pS s₁.heap H).get? b=some o:=fun e n=>pR e n
  have noA:∀ {b:Addr} {o:Obj} {es:Array DictEntry} {ep:Nat},s₁.heap.get? b=some o->o.data=.dict es ep->H b=none:=fun {b o es ep} e d=>by
   cases q:H b with
   | none=>rfl
   | some u=>
     have e':b=a:=hA b (by rw [q];simp)
     subst e'
     rw [ha] at e;cases e
     have d':Data.seq vs.toArray _=Data.dict es ep:=d
     cases d'
  have nsK:∀ {b:Addr} {m:Str->Option Value},s₁.heap.Ns b m->(pS s₁.heap H).Ns b m:=fun {b m} ⟨o,es,ep,e,d,r⟩=>⟨o,es,ep,base_of e (noA e d),d,r⟩
  have hKb:K.In (pS s₁.heap H):=fun b o e=>base_of (KX b o e) (by
   cases q:H b with
   | none=>rfl
   | some u=>
     have e':b=a:=hA b (by rw [q];simp)
     subst e'
     rw [hK (by rw [q];simp)] at e;cases e)
  have hM:Mod K mg (pS s₁.heap H):=⟨hKb,nsK hns,⟨mb,nsK hb,hbb⟩,let ⟨mc,h1,h2⟩:=hlim;⟨mc,nsK h1,h2⟩⟩
  have e0:Env0 P w K mg (pS s₁.heap H) callerA [] s₁ H:=⟨rfl,hM,fun b o e=>sR e,Nat.le_of_eq (mR _ _),trivial,fun b hb=>absurd (show b∈([]:List Addr) from hb) (by simp),hok,.of_eq hg⟩
  refine codeAny_mono ((F _ hKb (nsK hns)).run callerA [] s₁ H ⟨[.ref a],[]⟩ [.ref a] [.ref a] _ _ hr e0 (hbind s₁ (.ref a)) (.cons rfl .nil) (hsp H hO hS)) fun r s' h=>?_
  cases r with
  | error e=>exact (hCX H e s' h).elim
  | ok fl=>
    cases fl with
    | next=>exact False.elim h
    | brk=>exact False.elim h
    | cont=>exact False.elim h
    | ret u=>
      obtain ⟨v,H',os,bare,un,hok',r',q⟩:=h
      have q':v=.bl true:=q
      subst q'
      obtain rfl:u=Value.bool true:=r'
      refine ⟨rfl,OldK.of_keep fun b o e=>?_,os,bare⟩
      cases q:H b with
      | none=>exact un.keep b o e q (by intro z;exact absurd (show b∈([]:List Addr) from z) (by simp)) (by simp)
      | some u=>
        rcases hO b with z | ⟨ob,xs,z⟩
        · rw [q] at z;cases z
        · have z2:=un.frzs b ob _ z
          obtain ⟨e1,_⟩:=hok b _ z
          obtain ⟨e2,_⟩:=hok' b _ z2
          rw [e] at e1;cases e1
          exact e2
 cases hk:K.lookup a with
 | some o=>
   -- the script is one of the module's own objects
   have e:=KX a o hk
   rw [ha] at e
   cases e
   refine core (fun _=>none) (fun _=>.inl rfl) (.inr ⟨_,vs.toArray,_,hk,rfl,rfl,rfl,by rw [List.size_toArray,lenV];exact hl,by simpa using rv⟩) (fun b u z=>by have z':(none:Option HO)=some u:=z;cases z') (fun b z=>absurd rfl z) fun z=>absurd rfl z
 | none=>
   refine core (fun b=>if b=a then some (.frz { cls:=.type "list",data:=.seq vs.toArray } (.lst (ns.map V.int))) else none) (fun b=>?_) (.inl (.inr ⟨{ cls:=.type "list",data:=.seq vs.toArray },if_pos rfl⟩)) (fun b u z=>?_) (fun b z=>?_) fun _=>hk
   · by_cases hb:b=a
     · exact .inr ⟨_,_,if_pos hb⟩
     · exact .inl (if_neg hb)
   · by_cases hb:b=a
     · have z':=(if_pos hb).symm.trans z
       cases z'
       subst hb
       exact ⟨ha,by rw [List.length_map];exact hl,vs,_,rv,ha⟩
     · have z':=(if_neg hb).symm.trans z
       cases z'
   · by_cases hb:b=a
     · exact hb
     · exact absurd (if_neg hb) z
theorem walk_of {l:PySem.W.OpenLaw} {n k:Nat} {q:Program} {loose:List Str} {XP:(Str->Option Value)->Heap->Prop} {YP:World->Heap->Prop} {d:DefRec} {K:Params->PySem.W.Frag} {CX:World->CXT} {sp:World->Sp} {x:Str}
 (hn:l.most=some n) (hn2:n<=sizeLine) (hdf:d.params.defaults=[]) (hr:Room k callerA)
 (hY:∀ (w:World) (h:Heap),YP w h->(K w.params).In h)
 (F:∀ (w:World) (mg:Str->Option Value) (fa:Addr) (h:Heap),(K w.params).In h->h.Ns mainGlobals mg->mg d.name=some (.ref fa) ->
   ∃ fd:FuncData,(∀ (s:Shared) (u:Value),BindsTo s fd ⟨[u],[]⟩ [(x,u)]) /\
     ∀ base:Heap,(K w.params).In base->base.Ns mainGlobals mg->FnOk l.prog w (K w.params) mg base (CX w) k fa fd [x] (sp w))
 (hsp:∀ (w:World) (H:Hp) (a:Addr) (ns:List Int),ns.length<=n->Only H->SqL (K w.params) H a (ns.map V.int)->sp w [.ref a] H (fun v _=>v=.bl true) fun _ _ _=>False)
 (hCX:∀ (w:World) (H:Hp) (s:Shared) (e:Value) (s':Shared),CX w [] H s (fun _ _ _=>False) e s'->False) :
 PySem.W.WalkO q loose XP YP l.row.toRowW d [] (fun f vs=>PySem.call f vs):=by
 refine Att.attach_call hn hdf fun w s₀ s₁ mg mb fa o pm cd doc a vs ns G Y ho hd hcd hmg hobj hints hlen hg=>?_
 have KX:=hY w _ Y
 obtain ⟨fd,hb,hF⟩:=F w mg fa _ KX G.T.g hmg
 exact pM KX G.T.g G.T.b G.T.builtins G.T.nolimit hg hobj hints (Nat.le_trans hlen hn2) hr hF hb (fun H hO hS=>hsp w H a ns hlen hO hS) fun H e s'=>hCX w H s₁ e s'
end L2
/- THE LAST THEOREM (shape;LID,My.* are yours):
   My.Adr: a structure of the addresses that your layer names (classes,functions);My.Txt K t: a structure (Prop) of the equations over K;
   My.txt_mk:{K} {implicit addresses ..} (e1:nsIn K mainGlobals "law" = some (some (.ref f))) (e2:K.lookup f=some ⟨oc,od,.func (fnOf "law" "law" params body scope dV kV doc pm an cdv ct),sl⟩) (e3:codeIn K cdv "law" = true) .. : ∃ t,My.Txt K t
(the tactic k_is has no namespace: write k_is) -/
namespace L2
open PySem PySem.Spec PyProof.Rows
def aH (s:Stmt):Arguments:=match s with
 | .FunctionDef _ a _ _ _ _ _ _ _ _=>a
 | _=>{ posonlyargs:=[],args:=[],vararg:=none,kwonlyargs:=[],kw_defaults:=[],kwarg:=none,defaults:=[] }
def az (s:Stmt):List Stmt:=match s with
 | .FunctionDef _ _ b _ _ _ _ _ _ _=>b
 | _=>[]
def ah (s:Stmt):Scope:=match s with
 | .FunctionDef _ _ _ _ _ _ sc _ _ _=>sc
 | _=>{ kind:=.function,names:=[],isGenerator:=false,isCoroutine:=false }
abbrev CX0:CXT:=fun _ _ _ _ _ _=>False
abbrev E0:XK:=fun _ _ _=>False
theorem pass0 {X:Cx}:nZ CX0 X E0:=fun _ _ _ _ _ _ _ h=>h.elim
structure Fun (K:PySem.W.Frag) (x qual:Str) (st:Stmt) (f:Addr) (fd:FuncData):Prop where
 ex:∃ (oc:Value) (od:Option Addr) (kV doc pm:Value) (an:Option Addr) (cdv ct:Value) (osl:Array (Option Value)),
  fd=PySem.W.fnOf x qual (aH st) (az st) (ah st) .none kV doc pm an cdv ct/\K.lookup f=some ⟨oc,od,.func fd,osl⟩/\PySem.W.codeIn K cdv qual=true
 kp:PySem.W.keepIn K (.ref f)=true
section
variable {P:Program} {w:World} {K:PySem.W.Frag} {mg:Str->Option Value} {base:Heap}
theorem Fun.ok {x qual:Str} {st:Stmt} {f:Addr} {fd:FuncData} {N ps:List Str} {k:Nat} {sp:Sp} (F:Fun K x qual st f fd) (S:FnScope N ps (ah st)) (len:∀ vs H Q E,sp vs H Q E->vs.length=ps.length)
 (hbody:∀ (cdv:Value) (A:Around) (outer:List Env) (s:Shared) (H:Hp) (vs:List V) (Q:VK) (E:XK),Room k (A.deeper (envOfC qual (ah st) s.heap.objs.size f cdv))->sp vs H Q E ->
   ∃ t,PSs (cE CX0 P w K mg base N qual (ah st) f cdv A outer s H E).nox (az st) t/\t { nx:=fun _ H'=>Q .non H',rt:=Q } (start N vs) H):FnOk P w K mg base CX0 (k+1) f fd ps sp:=by
 obtain ⟨oc,od,kV,doc,pm,an,cdv,ct,osl,rfl,lk,hcd⟩:=F.ex
 refine fn_of lk hcd S len fun A outer s H vs Q E hr hsp=>?_
 obtain ⟨t,h,q⟩:=hbody cdv A outer s H vs Q E hr hsp
 exact ⟨t,h.nox,q⟩
theorem Fun.okz {x qual:Str} {st:Stmt} {f:Addr} {fd:FuncData} {N ps:List Str} {k:Nat} {sp:Sp} (F:Fun K x qual st f fd) (S:FnScope N ps (ah st)) (len:∀ vs H Q E,sp vs H Q E->vs.length=ps.length)
 (hbody:∀ (cdv:Value) (A:Around) (outer:List Env) (s:Shared) (H:Hp) (vs:List V) (Q:VK) (E:XK),Room k (A.deeper (envOfC qual (ah st) s.heap.objs.size f cdv))->sp vs H Q E ->
   ∃ t,ZSs (cE CX0 P w K mg base N qual (ah st) f cdv A outer s H E).nox (az st) t/\t { nx:=fun _ H'=>Q .non H',rt:=Q } (start N vs) H):FnOk P w K mg base CX0 (k+1) f fd ps sp:=
 F.ok S len fun cdv A outer s H vs Q E hr h=>let ⟨t,h1,h2⟩:=hbody cdv A outer s H vs Q E hr h;⟨t,h1.p,h2⟩
theorem Fun.binds {x qual:Str} {st:Stmt} {f:Addr} {fd:FuncData} {ps:List Str} (F:Fun K x qual st f fd)
 (h:∀ (kV doc pm:Value) (an:Option Addr) (cdv ct:Value) (us:List Value),us.length=ps.length->bindArgs (PySem.W.fnOf x qual (aH st) (az st) (ah st) .none kV doc pm an cdv ct) ⟨us,[]⟩=pure (ps.zip us)):Binds K fd ps []:=by
 obtain ⟨oc,od,kV,doc,pm,an,cdv,ct,osl,rfl,lk,hcd⟩:=F.ex
 exact .all (h kV doc pm an cdv ct)
theorem aX {x qual:Str} {st:Stmt} {f:Addr} {oc:Value} {od an:Option Addr} {osl:Array (Option Value)} {kV doc pm cdv ct:Value} (l:K.lookup f=some ⟨oc,od,.func (PySem.W.fnOf x qual (aH st) (az st) (ah st) .none kV doc pm an cdv ct),osl⟩)
 (c:PySem.W.codeIn K cdv qual=true) (k:PySem.W.keepIn K (.ref f)=true):Fun K x qual st f (PySem.W.fnOf x qual (aH st) (az st) (ah st) .none kV doc pm an cdv ct):=⟨⟨oc,od,kV,doc,pm,an,cdv,ct,osl,rfl,l,c⟩,k⟩
end
theorem hu_of {A:Around} {k:Nat} (hr:Room k A):A.units+1<cLine:=Nat.lt_of_le_of_lt (Nat.add_le_add_left (by decide:1<=64) _) hr.units
theorem aA {n:Nat} (h:n<=1000):n<sizeLine:=Nat.lt_of_le_of_lt h (by decide)
theorem iteF {A B:Prop} (h:B):if false=true then A else B:=by
 rw [if_neg Bool.false_ne_true]
 exact h
theorem iteT {A B:Prop} (h:A):if true=true then A else B:=by
 rw [if_pos rfl]
 exact h
def Same (H H':Hp):Prop:=∀ b o,H b=some o->H' b=some o
theorem Same.refl (H:Hp):Same H H:=fun _ _ h=>h
theorem Same.trans {H H1 H2:Hp} (a:Same H H1) (b:Same H1 H2):Same H H2:=fun c o h=>b c o (a c o h)
end L2
set_option maxHeartbeats 4000000
namespace L2
open PySem PySem.Spec PyProof.Rows
def ci (env:Env):List (Str×NameKind)->List (Str×Addr)->List (Str×Addr)
 | [],cs=>cs
 | y::r,cs=>ci env r (if (y.2 == .free)=true then (y.1,(env.cells.lookup y.1).getD 0)::cs else cs)
theorem cr {env:Env} {scope:Scope} (h:∀ y∈scope.names,y.2=.free->∃ c,env.cells.lookup y.1=some c):closureFor scope env=pure (ci env scope.names []):=by
 simp only [closureFor]
 generalize scope.names=ns at h
 have go:∀ (ns:List (Str×NameKind)) (cs:List (Str×Addr)),(∀ y∈ns,y.2=.free->∃ c,env.cells.lookup y.1=some c) ->
  (forIn ns cs fun (x:Str×NameKind) (r:List (Str×Addr))=>(if (x.2 == NameKind.free)=true then do let a ← cellOf env x.1;pure (ForInStep.yield ((x.1,a)::r)) else pure (ForInStep.yield r):Sem (ForInStep (List (Str×Addr)))))=(pure (ci env ns cs):Sem (List (Str×Addr))):=by
  intro ns
  induction ns with
  | nil=>intro cs _;rfl
  | cons y r ih=>
    intro cs hy
    rw [List.forIn_cons]
    have hr:=fun z hz=>hy z (List.mem_cons_of_mem _ hz)
    by_cases hf:(y.2 == NameKind.free)=true
    · obtain ⟨c,hc⟩:=hy y List.mem_cons_self (by simpa using hf)
      have e:cellOf env y.1=pure c:=by unfold cellOf;rw [hc]
      rw [if_pos hf,e]
      refine Eq.trans (ih ((y.1,c)::cs) hr) (congrArg pure ?_)
      show _=ci env r (if (y.2 == .free)=true then (y.1,(env.cells.lookup y.1).getD 0)::cs else cs)
      rw [if_pos hf,hc]
      rfl
    · rw [if_neg hf]
      refine Eq.trans (ih cs hr) (congrArg pure ?_)
      show _=ci env r (if (y.2 == .free)=true then (y.1,(env.cells.lookup y.1).getD 0)::cs else cs)
      rw [if_neg hf]
 have e:=go ns [] h
 exact (congrArg (fun (t:Sem (List (Str×Addr)))=>t >>= fun cs=>pure cs) e).trans rfl
theorem dm {env:Env}:∀ (ns:List (Str×NameKind)) (cs:List (Str×Addr)),(∀ y∈ns,y.2=.free->∃ c,env.cells.lookup y.1=some c)->(∀ n c,cs.lookup n=some c->env.cells.lookup n=some c) ->
 ∀ n c,(ci env ns cs).lookup n=some c->env.cells.lookup n=some c
 | [],cs,_,hc=>hc
 | y::r,cs,hy,hc=>by
   refine dm r _ (fun z hz=>hy z (List.mem_cons_of_mem _ hz)) fun n c e=>?_
   by_cases hf:(y.2 == NameKind.free)=true
   · rw [if_pos hf,List.lookup_cons] at e
     obtain ⟨c',hc'⟩:=hy y List.mem_cons_self (by simpa using hf)
     cases hn:n == y.1 with
     | true=>
       rw [hn] at e
       have en:n=y.1:=by simpa using hn
       rw [hc'] at e
       rw [en,hc']
       exact e
     | false=>rw [hn] at e;exact hc n c e
   · rw [if_neg hf] at e
     exact hc n c e
theorem cZ {env:Env}:∀ (ns:List (Str×NameKind)) (cs:List (Str×Addr)) (n:Str),((n,NameKind.free)∈ns\/∃ c,cs.lookup n=some c)->∃ c,(ci env ns cs).lookup n=some c
 | [],cs,n,h=>by
   rcases h with h | h
   · cases h
   · exact h
 | y::r,cs,n,h=>by
   refine cZ r _ n ?_
   rcases h with h | ⟨c,h⟩
   · rcases List.mem_cons.mp h with e | h
     · refine .inr ⟨(env.cells.lookup n).getD 0,?_⟩
       have e2:y.2=.free:=by rw [← e]
       have e1:y.1=n:=by rw [← e]
       rw [if_pos (by rw [e2];rfl),e1,List.lookup_cons]
       simp
     · exact .inl h
   · refine .inr ?_
     by_cases hf:(y.2 == NameKind.free)=true
     · rw [if_pos hf,List.lookup_cons]
       cases hn:n == y.1 with
       | true=>exact ⟨_,rfl⟩
       | false=>exact ⟨c,h⟩
     · rw [if_neg hf];exact ⟨c,h⟩
def qC (env:Env) (y:Str×NameKind):Str×NameKind:=if (y.2 == NameKind.free&&env.scope.kind == .function&&env.kindOf y.1 == some .cell)=true then (y.1,NameKind.cell) else (y.1,y.2)
theorem cy {env:Env}:∀ {names:List (Str×NameKind)} {x:Str} {k':NameKind},(names.map (qC env)).lookup x=some k' ->
 ∃ k,(x,k)∈names/\names.lookup x=some k/\(k'=k\/(k=.free/\k'=.cell))
 | [],_,_,h=>by simp at h
 | (n,k)::r,x,k',h=>by
   have ih:=@cy env r x k'
   rw [List.map_cons] at h
   unfold qC at h
   dsimp only at h
   cases hx:x == n with
   | true=>
     have en:x=n:=by simpa using hx
     refine ⟨k,by rw [en];exact List.mem_cons_self,by simp [List.lookup_cons,hx],?_⟩
     by_cases hc:(k == NameKind.free&&env.scope.kind == .function&&env.kindOf n == some .cell)=true
     · rw [if_pos hc,List.lookup_cons,hx] at h
       have hk:k=.free:=by
        have:=(Bool.and_eq_true_iff.mp (Bool.and_eq_true_iff.mp hc).1).1
        simpa using this
       exact .inr ⟨hk,by cases h;rfl⟩
     · rw [if_neg hc,List.lookup_cons,hx] at h
       exact .inl (by cases h;rfl)
   | false=>
     have h':(r.map (qC env)).lookup x=some k':=by
      by_cases hc:(k == NameKind.free&&env.scope.kind == .function&&env.kindOf n == some .cell)=true
      · rw [if_pos hc,List.lookup_cons,hx] at h;exact h
      · rw [if_neg hc,List.lookup_cons,hx] at h;exact h
     obtain ⟨k,h1,h2,h3⟩:=ih h'
     exact ⟨k,List.mem_cons_of_mem _ h1,by rw [List.lookup_cons,hx];exact h2,h3⟩
theorem lw {env:Env}:∀ {names:List (Str×NameKind)} {x:Str} {k:NameKind},names.lookup x=some k->∃ k',(names.map (qC env)).lookup x=some k'
 | [],_,_,h=>by simp at h
 | (n,k0)::r,x,k,h=>by
   have ih:=@lw env r x k
   rw [List.map_cons]
   have e1:(qC env (n,k0)).1=n:=by unfold qC;split <;> rfl
   have e0:qC env (n,k0)=(n,(qC env (n,k0)).2):=by rw [Prod.ext_iff];exact ⟨e1,rfl⟩
   rw [e0,List.lookup_cons]
   cases hx:x == n with
   | true=>exact ⟨_,rfl⟩
   | false=>
     rw [List.lookup_cons,hx] at h
     exact ih h
def bf (X:Cx) (nv:List Str) (ix:List (Str×Nat)) (scope:Scope) (C:Addr) (s₀:Shared) (H₀:Hp) (fp:List Addr):Cx:=
 { X with N:=nv++ix.map (·.1),s₀:=s₀,H₀:=H₀,env:=compEnvC scope (ci X.env scope.names []) C X.env,outer:=X.stack,stack:=X.stack,ex:=fp,fn:=fun _=>false,pn:=[],xe:=fun _ _=>False }
def frV (σ:St) (ix:List (Str×Nat)):St:=ix.map fun p=>(σ[p.2]?).join
def st0 (nv:List Str) (ix:List (Str×Nat)) (σ:St):St:=nv.map (fun _=>none)++frV σ ix
structure CompOk (X:Cx) (nv:List Str) (ix:List (Str×Nat)) (scope:Scope):Prop where
 kind:scope.kind=.function
 nocell:∀ y∈scope.names,y.2≠.cell
 names:∀ y∈scope.names,y.2=.local->scope.names.lookup y.1=some .local
 free:(scope.names.all fun y=>!(y.2 == NameKind.free)||(X.env.kindOf y.1 == some NameKind.cell||X.env.kindOf y.1 == some NameKind.free))=true
 ix:(ix.all fun p=>(scope.names.lookup p.1 == some NameKind.free)&&(X.N[p.2]? == some p.1))=true
section
variable {X:Cx} {nv:List Str} {ix:List (Str×Nat)} {scope:Scope} {pins:List (Addr×Obj)} {σ:St} {H:Hp} {s:Shared}
theorem CompOk.fk (co:CompOk X nv ix scope) {y:Str×NameKind} (hy:y∈scope.names) (hf:y.2=.free):X.env.kindOf y.1=some .cell\/X.env.kindOf y.1=some .free:=by
 have q:=List.all_eq_true.mp co.free y hy
 rw [hf] at q
 simpa using q
theorem CompOk.cells (co:CompOk X nv ix scope) (ok:X.Ok):∀ y∈scope.names,y.2=.free->∃ c,X.env.cells.lookup y.1=some c:=fun y hy hf=>ok.has y.1 (co.fk hy hf)
theorem CompOk.look (co:CompOk X nv ix scope) (ok:X.Ok) {n:Str} {c:Addr} (h:(ci X.env scope.names []).lookup n=some c):X.env.cells.lookup n=some c:=
 dm _ _ (co.cells ok) (fun _ _ e=>by cases e) n c h
theorem CompOk.ixp (co:CompOk X nv ix scope) {p:Str×Nat} (hp:p∈ix):scope.names.lookup p.1=some .free/\X.N[p.2]? = some p.1:=by
 have q:=Bool.and_eq_true_iff.mp (List.all_eq_true.mp co.ix p hp)
 exact ⟨by simpa using q.1,by simpa using q.2⟩
theorem bN {α:Type}:∀ {l:List (Str×α)} {n:Str} {k:α},l.lookup n=some k->(n,k)∈l
 | [],_,_,h=>by cases h
 | (m,j)::r,n,k,h=>by
   rw [List.lookup_cons] at h
   cases e:n == m with
   | true=>rw [e] at h;cases h;have:n=m:=by simpa using e
           rw [this];exact List.mem_cons_self
   | false=>rw [e] at h;exact List.mem_cons_of_mem _ (bN h)
theorem tI (co:CompOk X nv ix scope) (I:Inv X pins σ H s) {fp:List Addr} {C:Addr} (hC:s.heap.objs.size<=C) (hf:∀ b∈fp,cx X pins H b) (hlt:∀ b∈fp,b<s.heap.objs.size):(bf X nv ix scope C s H fp).Ok where
 mod:=I.mod
 kind:=co.kind
 glob:=I.ok.glob
 blt:=I.ok.blt
 above:=hC
 inj:=fun x y c a b=>I.ok.inj x y c (co.look I.ok a) (co.look I.ok b)
 has:=fun x hk=>by
  have z:∃ k,(x,k)∈scope.names/\k=.free:=by
   rcases hk with hk | hk
   · obtain ⟨k,h1,_,h3⟩:=cy (env:=X.env) (names:=scope.names) hk
     rcases h3 with h3 | ⟨h3,_⟩
     · exact absurd h3.symm (co.nocell _ h1)
     · exact ⟨k,h1,h3⟩
   · obtain ⟨k,h1,_,h3⟩:=cy (env:=X.env) (names:=scope.names) hk
     rcases h3 with h3 | ⟨_,h3⟩
     · exact ⟨k,h1,h3.symm⟩
     · cases h3
  obtain ⟨k,h1,rfl⟩:=z
  exact cZ _ _ x (.inl h1)
 cab:=fun x c h _=>by cases h
 hd:=I.ok.hd
 frames:=I.ok.frames
 stk:=.inl rfl
 exf:=fun b hb=>⟨Nat.ne_of_lt (Nat.lt_of_lt_of_le (hlt b hb) hC),fun x c e=>(hf b hb).2.2.2.2.1 x c (co.look I.ok e)⟩
 bs:=fun b o e=>I.bs b o e
 bsz:=Nat.le_trans I.ok.bsz I.sz
 noex:=fun b o e hb=>by
  rcases (hf b hb).2.2.2.1 with z | z
  · exact I.ok.noex b o e z
  · exact absurd (Nat.lt_of_lt_of_le (Heap.lt_size e) (Nat.le_trans I.ok.bsz z)) (Nat.lt_irrefl _)
 exfs:=fun b hb hs=>by
  rcases List.mem_cons.mp (I.stkSub b hs) with e | h
  · exact (hf b hb).2.1 e
  · exact (hf b hb).2.2.1 h
 funs:=I.stack
 frf:=I.stkFree
abbrev bA (its:List Value) (k:Nat):Obj:={ cls:=.type "list",data:=.seq its.toArray k }
theorem gC {o:Option (Option V)} {v:V} (h:o.join=some v):o=some (some v):=by
 cases o with
 | none=>cases h
 | some o'=>exact congrArg some h
theorem gN (co:CompOk X nv ix scope) (I:Inv X pins σ H s) {fp:List Addr} {h₁:Heap} {tk:Nat} {m:Str->Option Value} (hf:∀ b∈fp,cx X pins H b) (hlt:∀ b∈fp,b<s.heap.objs.size)
 (hn:h₁.Ns (s.heap.objs.size+1) m) (old:∀ b o,s.heap.get? b=some o->h₁.get? b=some o) (hD:h₁.get? s.heap.objs.size=some (bA [] 0)) :
 Inv (bf X nv ix scope (s.heap.objs.size+1) s H fp) [(s.heap.objs.size,bA [] 0)] (st0 nv ix σ) H { s with heap:=h₁,toks:=tk } where
 ok:=tI co I (Nat.le_succ _) hf hlt
 os:=rfl
 bare:=I.bare
 base:=Un.kept old
 loc:=by
  refine ⟨m,hn,fun i x v e1 e2 hv=>?_⟩
  obtain ⟨m₀,_,hl⟩:=I.loc
  have e1':(nv++ix.map (·.1))[i]? = some x:=e1
  unfold st0 at e2
  by_cases hi:i<nv.length
  · rw [List.getElem?_append_left (by rw [List.length_map];exact hi),List.getElem?_map] at e2
    cases q:nv[i]? with
    | none=>rw [q] at e2;cases e2
    | some z=>rw [q] at e2;cases e2
  · have hi':nv.length<=i:=Nat.not_lt.mp hi
    rw [List.getElem?_append_right hi',List.getElem?_map] at e1'
    rw [List.getElem?_append_right (by rw [List.length_map];exact hi'),List.length_map] at e2
    unfold frV at e2
    rw [List.getElem?_map] at e2
    cases q:ix[i - nv.length]? with
    | none=>rw [q] at e1';cases e1'
    | some p=>
      rw [q] at e1' e2
      have hp:p∈ix:=List.mem_of_getElem? q
      have ex:p.1=x:=Option.some.inj e1'
      have ev:σ[p.2]? = some (some v):=gC (Option.some.inj e2)
      obtain ⟨f1,f2⟩:=co.ixp hp
      have hk:=co.fk (bN f1) rfl
      obtain ⟨u,r,l⟩:=hl p.2 p.1 v f2 ev (hk.elim (fun z=>.inr (.inl z)) fun z=>.inr (.inr z))
      refine ⟨u,r,.inr ⟨?_,?_⟩⟩
      · obtain ⟨k',hk'⟩:=lw (env:=X.env) f1
        obtain ⟨k,h1,h2,h3⟩:=cy hk'
        rw [f1] at h2
        cases h2
        rw [← ex]
        rcases h3 with h3 | ⟨_,h3⟩
        · exact .inr (hk'.trans (congrArg some h3))
        · exact .inl (hk'.trans (congrArg some h3))
      · obtain ⟨c,hc⟩:=cZ (env:=X.env) scope.names [] p.1 (.inl (bN f1))
        refine ⟨c,by rw [← ex];exact hc,?_⟩
        have hc':=co.look I.ok hc
        rcases l with ⟨z,_⟩ | ⟨_,c',z1,o,z2,z3⟩
        · have z':X.env.kindOf p.1=some .local:=z
          rcases hk with hk | hk
          · have hk':X.env.kindOf p.1=some .cell:=hk
            rw [z'] at hk';cases hk'
          · have hk':X.env.kindOf p.1=some .free:=hk
            rw [z'] at hk';cases hk'
        · rw [hc'] at z1
          cases z1
          exact ⟨o,old _ _ z2,z3⟩
 cell:=fun x c e=>by
  obtain ⟨v,o,h1,h2⟩:=I.cell x c (co.look I.ok e)
  exact ⟨v,o,old _ _ h1,h2⟩
 free:=I.hok.fresh (Nat.le_succ _)
 freeC:=fun x c e=>I.freeC x c (co.look I.ok e)
 pin:=fun p hp=>by
  have e:p=(s.heap.objs.size,bA [] 0):=by simpa [bf] using hp
  subst e
  refine ⟨hD,I.hok.fresh (Nat.le_refl _),Nat.ne_of_lt (Nat.lt_succ_self _),fun hb=>?_,fun v z=>by cases z⟩
  rcases List.mem_cons.mp (I.stkSub _ hb) with e | h
  · exact absurd I.lt (by rw [← e];exact Nat.lt_irrefl _)
  · exact I.nofs (Nat.le_refl _) h
 hok:=I.hok.kept old
 len:=by
  show (nv.map (fun _=>none)++frV σ ix).length=(nv++ix.map (·.1)).length
  unfold frV
  simp
theorem Inv.track {D:Addr} {ys its:List _} {k:Nat} (I:Inv X pins σ H s) (rv:Vals ys its) (hz:ys.length<=sizeLine) (e:s.heap.get? D=some (bA its k)) (hn:H D=none) (hd:cx X pins H D):Inv X pins σ (upd H D (.lst ys)) s:=by
 have nD:∀ b u,H b=some u->b≠D:=fun b u q z=>by rw [z,hn] at q;cases q
 obtain ⟨h1,h2,h3,h4,h5,h6⟩:=hd
 refine I.step (s:=s) (h':=s.heap) (g':=s.gens) (t':=s.toks) (d':=s.drawn) (ch:=[D]) (fun b hb=>?_) (fun b o _ _ _ q _=>q) (fun b o _ _ _ q _=>⟨o.slots,q⟩) (fun b o hb _ q=>?_) (fun b o _ q=>⟨o,q⟩)
  (fun b xs q=>by rw [am (nD b _ q)];exact q) (fun b o u q=>by rw [am (nD b _ q)];exact q) (fun b ps q=>⟨#[],by rw [am (nD b _ q),q];simp⟩) (fun m hm=>hm) (fun b u q=>?_) I.bare
 · have e:b=D:=by simpa using hb
   subst e
   exact ⟨h4,h2,h5,h6⟩
 · rw [am (fun z=>hb (by simp [z]))];exact q
 · by_cases hb:b=D
   · subst hb
     rw [ad] at q
     cases q
     exact ⟨hz,its,k,rv,e⟩
   · rw [am hb] at q
     exact (I.hok b u q).stay (fun c v _ r=>r) (fun c r=>by rw [am (nD c _ r)];exact r) fun c xs r=>by rw [am (nD c _ r)];exact r
theorem no {ps2:List (Addr×Obj)} {σ2:St} {H':Hp} {s':Shared} {fp:List Addr} {C:Addr} (I:Inv X pins σ H s) (hf:∀ b∈fp,cx X pins H b) (Ic:Inv (bf X nv ix scope C s H fp) ps2 σ2 H' s'):Inv X pins σ H' s':=
 I.call' (ch:=fp) Ic.os Ic.base Ic.hok Ic.bare fun b hb=>⟨(hf b hb).2.2.2.1,(hf b hb).2.1,(hf b hb).2.2.2.2.1,(hf b hb).2.2.2.2.2⟩
def PIf (X:Cx) (ifs:List Expr) (t:TT):Prop:=
 ∀ (pins:List (Addr×Obj)) (s:Shared) (σ:St) (H:Hp) (Q:Bool->Hp->Prop),Inv X pins σ H s->t σ H Q ->
   wpAny (model X.prog X.w) X.A (forIn ifs true fun c r=>if r=true then do let ok ← isTrue c X.env (eval c X.env);pure (ForInStep.yield ok) else pure (ForInStep.yield r)) (TP X pins σ Q) X.xe s
@[irreducible] def ZIf (X:Cx) (ifs:List Expr) (t:TT):Prop:=PIf X ifs t
def tYes:TT:=fun _ H Q=>Q true H
theorem sk:PIf X [] tYes:=fun _ _ _ H _ I h=>wpAny_tests_nil ⟨H,I,h⟩
theorem aS:ZIf X [] tYes:=by with_unfolding_all exact sk
theorem sj {c:Expr} {t:TT} (h:PT X c t):PIf X [c] t:=fun pins s σ H Q I q=>wpAny_tests_one (h pins s σ H Q I q)
theorem hU {c:Expr} {t:TT} (h:ZT X c t):ZIf X [c] t:=by with_unfolding_all exact sj h
end
section
variable {prog:Program} {w:World} {A:Around} {E:Value->Shared->Prop} {R:Result->Shared->Prop} {s:Shared}
theorem eD {elt target iter:Expr} {ifs:List Expr} {scope:Scope} {pos:Pos} {it acc:Value} {env:Env} (I:Nat->Shared->Prop)
 (turn:∀ n s,I n s->wpAny (model prog w) A (pyNext it) (fun r s₁=>match r with
   | none=>R (.ok .next) s₁
   | some v=>wpAny (model prog w) A (letOwnedTupleGo target it v) (fun _ s₁'=>wpAny (model prog w) A (assign target env v) (fun _ s₂=>
    wpAny (model prog w) A (forIn ifs true fun c r=>if r=true then do let ok ← isTrue c env (eval c env);pure (ForInStep.yield ok) else pure (ForInStep.yield r)) (fun ok s₃=>
     if ok=true then wpAny (model prog w) A (eval elt env) (fun x s₄=>
      wpAny (model prog w) A (call (.builtin "list.append") [acc,x]) (fun _ s₅=>∃ m,m<n/\I m s₅) (fun _ _=>False) s₄) (fun _ _=>False) s₃
     else ∃ m,m<n/\I m s₃) (fun _ _=>False) s₂) (fun _ _=>False) s₁') (fun _ _=>False) s₁) (fun _ _=>False) s)
 (n:Nat) (h:I n s) :
 codeAny (model prog w) A (.compLoop (.ListComp elt [⟨target,iter,ifs,0⟩] scope pos) 0 it acc env) R s:=by
 refine codeAny_loop rfl I (fun n s hI=>?_) n h
 show wpAny _ A ((compTurn (.ListComp elt [⟨target,iter,ifs,0⟩] scope pos) 0 it acc env).onRaise (fun x=>do noteFrame x env;theTreesLotGoes x)) _ _ s
 refine wpAny_noted ?_
 rw [compTurn_list]
 refine wpAny_bind (wpAny_standAt (wpAny_bind (wpAny_mono (turn n s hI) (fun r s₁ h₁=>?_) fun _ _ h'=>h'.elim)))
 cases r with
 | none=>exact wpAny_pure h₁
 | some v=>
   refine wpAny_bind (wpAny_mono h₁ (fun _ s₁' h₁'=>?_) fun _ _ h'=>h'.elim)
   refine wpAny_bind (wpAny_mono h₁' (fun _ s₂ h₂=>wpAny_bind (wpAny_mono h₂ (fun ok s₃ h₃=>?_) fun _ _ h'=>h'.elim)) fun _ _ h'=>h'.elim)
   cases ok with
   | false=>exact wpAny_pure ⟨rfl,h₃⟩
   | true=>
     exact wpAny_bind (wpAny_bind (wpAny_mono h₃ (fun x s₄ h₄=>wpAny_bind (wpAny_mono h₄ (fun _ s₅ h₅=>wpAny_pure (wpAny_pure ⟨rfl,h₅⟩)) fun _ _ h'=>h'.elim)) fun _ _ h'=>h'.elim))
end
section
variable {X:Cx} {nv:List Str} {ix:List (Str×Nat)} {scope:Scope} {pins:List (Addr×Obj)} {σ:St} {H:Hp} {s:Shared} {elt tg iter:Expr} {ifs:List Expr} {pos:Pos}
def Kp (σ σ2:St):Prop:=σ.length=σ2.length/\∀ (i:Nat) v,σ[i]? = some (some v)->σ2[i]? = some (some v)
def KpG (nv:List Str) (g:TG):Prop:=∀ (fr:St) (v:V) (H:Hp) (Q:St->Hp->Prop),g v (nv.map (fun _=>none)++fr) H Q->g v (nv.map (fun _=>none)++fr) H fun σ2 H2=>Kp (nv.map (fun _=>none)++fr) σ2/\Q σ2 H2
theorem bj {x:Str}:KpG [x] (cV 0):=fun fr v H Q h=>by
 refine ⟨⟨by simp,fun i w e=>?_⟩,h⟩
 cases i with
 | zero=>cases e
 | succ i=>exact e
def n5 (nv:List Str) (ix:List (Str×Nat)) (g:TG) (ti:TT) (te:TE) (σ:St) (J:It) (Fin:List V->Hp->Prop) (H1:Hp):Prop:=
 ∃ W:Nat->Nat->List V->Hp->Prop,(∃ m,W 0 m [] H1)/\∀ i m ys H,W i m ys H ->
   (J.stop i H/\Fin ys H)\/(J.go i H/\ys.length<sizeLine/\∃ N:List V->Hp->Prop,(∀ ys' H',N ys' H'->∃ m',m' < m/\W (i+1) m' ys' H') /\
     ∀ x H',J.yld i H x H'->g x (st0 nv ix σ) H' fun σ2 H2=>ti σ2 H2 fun b H3=>if b=true then te σ2 H3 fun y H4=>N (ys++[y]) H4 else N ys H3)
theorem jt {J:It} {fp:List Addr} {it:Addr} {tn:Nat->Heap->Prop} {g:TG} {ti:TT} {te:TE} {Fin:List V->Hp->Prop} {E:Value->Shared->Prop} {RR:Value->Addr->Result->Shared->Prop}
 (co:CompOk X nv ix scope) (hc:X.calm=true) (I:Inv X pins σ H s) (T:Turn X.prog X.w X.K tg J fp it tn) (st:tn 0 s.heap) (hf:∀ b∈fp,cx X pins H b)
 (kg:KpG nv g) (hg:∀ C s₀ H₀ fp,PG (bf X nv ix scope C s₀ H₀ fp) tg g) (hi:∀ C s₀ H₀ fp,PIf (bf X nv ix scope C s₀ H₀ fp) ifs ti) (he:∀ C s₀ H₀ fp,PE (bf X nv ix scope C s₀ H₀ fp) elt te)
 (q:n5 nv ix g ti te σ J Fin H)
 (fin:∀ D C s' H' ys,Inv X pins σ (upd H' D (.lst ys)) s'->H' D=none->Fin ys H'->(∃ m,s'.heap.Ns C m)->cx X pins (upd H' D (.lst ys)) C->RR (.ref D) C (.ok .next) s') :
 wpAny (model X.prog X.w) X.A (newList []) (fun acc s₃=>wpAny (model X.prog X.w) X.A (newFunctionEnv scope X.env.globals (ci X.env scope.names []) [] X.env.qual none .none (some X.env)) (fun cenv s₄=>
  codeAny (model X.prog X.w) X.A (.compStart (.ListComp elt [⟨tg,iter,ifs,0⟩] scope pos) 0 (.ref it) acc { cenv with scope:=relabel scope X.env }) (RR acc cenv.locals) s₄) E s₃) E s:=by
 obtain ⟨W,⟨m0,w0⟩,turn⟩:=q
 refine wpAny_newObj_type (wpAny_newFunctionEnv co.nocell (by intro y hy;simp at hy) (fun h₁ hns₁ hsb₁=>?_) co.kind)
 dsimp only at hns₁ hsb₁ ⊢
 generalize hH2:s.heap.push { cls:=.type "list",dict:=none,data:=.seq ([]:List Value).toArray }=H2 at hns₁ hsb₁ ⊢
 have hC:H2.objs.size=s.heap.objs.size+1:=by rw [← hH2,Heap.size_push]
 rw [hC] at hns₁ hsb₁ ⊢
 have hDC:s.heap.objs.size≠s.heap.objs.size+1:=Nat.ne_of_lt (Nat.lt_succ_self _)
 have below:∀ b,b<s.heap.objs.size->b≠s.heap.objs.size+1/\b≠s.heap.objs.size:=fun b hb=>⟨Nat.ne_of_lt (Nat.lt_succ_of_lt hb),Nat.ne_of_lt hb⟩
 have old:∀ b o,s.heap.get? b=some o->h₁.get? b=some o:=fun b o e=>hsb₁.extBut b o (below b (Heap.lt_size e)).1 (Heap.get?_push_of_some _ (hH2▸Heap.get?_push_of_some _ e))
 have hacc:h₁.get? s.heap.objs.size=some (bA [] 0):=hsb₁.extBut _ _ hDC (Heap.get?_push_of_some _ (hH2▸Heap.get?_push_size _ rfl))
 have hlt:∀ b∈fp,b<s.heap.objs.size:=fun b hb=>by
  obtain ⟨o,e,_⟩:=T.obj 0 _ st b hb
  exact Heap.lt_size e
 have I₁:=fun tk=>gN (tk:=tk) co I hf hlt hns₁ old hacc
 have st₁:tn 0 h₁:=T.keep 0 _ _ st fun b _ o e=>old b o e
 have fpD:∀ {H':Hp},H' s.heap.objs.size=none->cx X pins H' s.heap.objs.size:=fun hn=>I.fpOk (Nat.le_refl _) hn
 have loop:∀ tk:Nat,codeAny (model X.prog X.w) X.A (.compLoop (.ListComp elt [⟨tg,iter,ifs,0⟩] scope pos) 0 (.ref it) (.ref s.heap.objs.size) (compEnvC scope (ci X.env scope.names []) (s.heap.objs.size+1) X.env))
  (RR (.ref s.heap.objs.size) (s.heap.objs.size+1)) { s with heap:=h₁,toks:=tk }:=by
  intro tk
  refine eD (fun n s'=>∃ i H' ys its k,Inv (bf X nv ix scope (s.heap.objs.size+1) s H fp) [(s.heap.objs.size,bA its k)] (st0 nv ix σ) H' s'/\Vals ys its/\ys.length<=sizeLine/\tn i s'.heap/\(∀ b∈fp,H' b=none)/\W i n ys H')
   ?_ m0 ⟨0,H,[],[],0,I₁ tk,.nil,Nat.zero_le _,st₁,fun b hb=>(hf b hb).1,w0⟩
  rintro n s3 ⟨i,H3,ys,its,k,I3,rv,hz,st3,fr3,w3⟩
  have fpc:∀ {H':Hp} {its:List Value} {k:Nat},(∀ b∈fp,H' b=none)->∀ b∈fp,cx (bf X nv ix scope (s.heap.objs.size+1) s H fp) [(s.heap.objs.size,bA its k)] H' b:=fun {H' its k} hn b hb=>by
   refine ⟨hn b hb,(below b (hlt b hb)).1,fun hs=>?_,.inl hb,fun x c e=>(hf b hb).2.2.2.2.1 x c (co.look I.ok e),fun p hp z=>?_⟩
   · rcases List.mem_cons.mp (I.stkSub b hs) with e | h
     · exact (hf b hb).2.1 e
     · exact (hf b hb).2.2.1 h
   · have e:p=(s.heap.objs.size,bA its k):=by simpa [bf] using hp
     subst e
     exact (below b (hlt b hb)).2 z.symm
  have pD:=fun {ps:List (Addr×Obj)} {σ':St} {H':Hp} {s':Shared} (I':Inv (bf X nv ix scope (s.heap.objs.size+1) s H fp) ((s.heap.objs.size,bA its k)::ps) σ' H' s')=>
   I'.pin (s.heap.objs.size,bA its k) (List.mem_append_right _ List.mem_cons_self)
  rcases turn i n ys H3 w3 with ⟨stop,fin0⟩ | ⟨go,hlt',N,hN,step⟩
  · refine thn (T.done (bf X nv ix scope (s.heap.objs.size+1) s H fp) rfl rfl rfl hc i _ s3 _ H3 _ I3 (fpc fr3) st3 stop) fun r s4 ⟨hr,I4⟩=>?_
    subst hr
    obtain ⟨p1,p2,_⟩:=pD I4
    have I5:=(no I hf I4).track rv hz p1 p2 (fpD p2)
    obtain ⟨mC,hmC,_⟩:=I4.loc
    exact fin _ _ s4 H3 ys I5 p2 fin0 ⟨mC,hmC⟩ (I.fpOk (Nat.le_succ _) (by rw [am (Ne.symm hDC)];exact I4.free))
  · refine thn (T.item (bf X nv ix scope (s.heap.objs.size+1) s H fp) rfl rfl rfl hc i _ s3 _ H3 _ I3 (fpc fr3) st3 go) fun r s4 ⟨u,hr,h4⟩=>?_
    subst hr
    refine thn h4 fun _ s5 ⟨x,H5,I5,r5,y5,st5,fr5⟩=>?_
    have I5':=I5.pinned (fpc fr5) (T.obj _ _ st5)
    refine thn (hg _ _ _ _ _ s5 _ H5 x u _ I5' r5 (kg _ _ _ _ (step x H5 y5))) fun _ s6 ⟨σ6,H6,I6,kp,q6⟩=>?_
    refine thn (hi _ _ _ _ _ s6 σ6 H6 _ I6 q6) fun b s7 ⟨H7,I7,q7⟩=>?_
    have again:∀ {s7:Shared} {H7:Hp} {ys' its':List _} {k':Nat},Inv (bf X nv ix scope (s.heap.objs.size+1) s H fp) ([(s.heap.objs.size,bA its' k')]++bh fp s5.heap) σ6 H7 s7->Vals ys' its'->ys'.length<=sizeLine->N ys' H7 ->
     ∃ m,m<n/\∃ i H' ys its k,Inv (bf X nv ix scope (s.heap.objs.size+1) s H fp) [(s.heap.objs.size,bA its k)] (st0 nv ix σ) H' s7/\Vals ys its/\ys.length<=sizeLine/\tn i s7.heap/\(∀ b∈fp,H' b=none)/\W i m ys H':=fun {s7 H7 ys' its' k'} I8 rv' hz' n8=>by
     obtain ⟨m',hm,w8⟩:=hN _ _ n8
     have pn:=fun (b:Addr) (o:Obj) (hb:b∈fp) (e:s5.heap.get? b=some o)=>I8.pin (b,o) (List.mem_append_right _ (List.mem_append_right _ (bz hb e)))
     refine ⟨m',hm,i+1,H7,ys',its',k',(I8.unpinned).weak kp.1 kp.2,rv',hz',T.keep _ _ _ st5 fun b hb o e=>(pn b o hb e).1,fun b hb=>?_,w8⟩
     obtain ⟨o,e,d⟩:=T.obj _ _ st5 b hb
     exact (pn b o hb e).2.1
    cases b with
    | false=>
      rw [if_neg Bool.false_ne_true] at q7 ⊢
      exact again I7 rv hz q7
    | true=>
      rw [if_pos rfl] at q7 ⊢
      refine thn (he _ _ _ _ _ s7 σ6 H7 _ I7 q7) fun u8 s8 ⟨y,H8,I8,r8,q8⟩=>?_
      obtain ⟨p1,p2,p3,p4,p5⟩:=pD I8
      refine append_at (hsz:=by rw [List.size_toArray,← rv.length];exact Nat.le_of_lt hlt') p1 fun h9 hs9 hD9=>?_
      have I9:Inv (bf X nv ix scope (s.heap.objs.size+1) s H fp) (bh fp s5.heap) σ6 H8 { s8 with heap:=h9 }:=by
       have Iu:Inv (bf X nv ix scope (s.heap.objs.size+1) s H fp) (bh fp s5.heap) σ6 H8 s8:=I8.pins_of fun p hp=>I8.pin p (List.mem_append_right _ (List.mem_append_right _ hp))
       refine Iu.turned (t':=s8.toks) (it:=s.heap.objs.size) (fun b o hb e=>(hs9.2 b hb).trans e) p2 p3 (.inr (Nat.le_refl _)) (fun x c e z=>?_) fun p hp z=>?_
       · obtain ⟨v,o,e1,_⟩:=I.cell x c (co.look I.ok e)
         exact absurd (Heap.lt_size e1) (by rw [z];exact Nat.lt_irrefl _)
       · have hp':p∈bh fp s5.heap:=by simpa [bf] using hp
         obtain ⟨hb,_⟩:=cc hp'
         exact (below _ (hlt _ hb)).2 z
      have I10:Inv (bf X nv ix scope (s.heap.objs.size+1) s H fp) ([(s.heap.objs.size,bA (its++[u8]) (k+1))]++bh fp s5.heap) σ6 H8 { s8 with heap:=h9 }:=
       I9.pins_of fun p hp=>by
        rcases List.mem_append.mp hp with hp | hp
        · have e:p=(s.heap.objs.size,bA (its++[u8]) (k+1)):=by simpa using hp
          subst e
          refine ⟨?_,p2,p3,p4,fun v z=>by cases z⟩
          rw [List.push_toArray] at hD9
          exact hD9
        · exact I9.pin p (List.mem_append_right _ hp)
      exact again I10 (rv.append (.cons r8 .nil)) (by rw [List.length_append,List.length_singleton];exact hlt') q8
 exact codeAny_compStart_list (loop _) (T.self _ 0 _ _ _ st₁ (loop _))
def jD (nv:List Str) (ix:List (Str×Nat)) (wi:TI) (g:TG) (ti:TT) (te:TE):TE:=fun σ H Q=>wi σ H fun J H1=>n5 nv ix g ti te σ J (fun ys H2=>∀ D,H2 D=none->Q (.ref D) (upd H2 D (.lst ys))) H1
theorem sv {wi:TI} {g:TG} {ti:TT} {te:TE} (nv:List Str) (ix:List (Str×Nat)) (hc:X.calm=true) (co:CompOk X nv ix scope) (hit:PI X tg iter wi) (kg:KpG nv g) (hg:∀ C s₀ H₀ fp,PG (bf X nv ix scope C s₀ H₀ fp) tg g)
 (hi:∀ C s₀ H₀ fp,PIf (bf X nv ix scope C s₀ H₀ fp) ifs ti) (he:∀ C s₀ H₀ fp,PE (bf X nv ix scope C s₀ H₀ fp) elt te)
 (hs:∀ x,foldedSetIterable iter X.env x=pure x:=by intro _;rfl):PE X (.ListComp elt [⟨tg,iter,ifs,0⟩] scope pos) (jD nv ix wi g ti te):=by
 intro pins s σ H Q I h
 rw [eval_ListComp]
 refine wpAny_comprehension_free (use:=none) rfl hs (cr (co.cells I.ok)) co.kind co.names (thn (hit pins s σ H _ I h) fun v s1 h1=>thn h1 fun itv s2 h2=>?_)
 obtain ⟨it,fp,tn,J,H2,e,I2,T,st2,f2,q⟩:=h2
 subst e
 refine jt co hc I2 T st2 f2 kg hg hi he q fun D C s' H' ys I' hD fin ⟨m,hm⟩ hC=>?_
 obtain ⟨c0,c1,c2,c3,c4,c5⟩:=hC
 exact ⟨m,hm,fun h' hs'=>⟨.ref D,_,I'.turned (t':=s'.toks) (fun b o hb e=>(hs'.2 b hb).trans e) c0 c1 c3 c4 c5,rfl,fin D hD⟩⟩
theorem ba {wi:TI} {g:TG} {ti:TT} {te:TE} (nv:List Str) (ix:List (Str×Nat)) (hc:X.calm=true) (co:CompOk X nv ix scope) (hit:ZI X tg iter wi) (kg:KpG nv g) (hg:∀ C s₀ H₀ fp,ZG (bf X nv ix scope C s₀ H₀ fp) tg g)
 (hi:∀ C s₀ H₀ fp,ZIf (bf X nv ix scope C s₀ H₀ fp) ifs ti) (he:∀ C s₀ H₀ fp,ZE (bf X nv ix scope C s₀ H₀ fp) elt te)
 (hs:∀ x,foldedSetIterable iter X.env x=pure x:=by intro _;rfl):ZE X (.ListComp elt [⟨tg,iter,ifs,0⟩] scope pos) (jD nv ix wi g ti te):=by with_unfolding_all exact sv nv ix hc co hit kg hg hi he hs
theorem jI {wi:TI} {g:TG} {ti:TT} {te:TE} {i:Nat} {y:Str} {py spos:Pos} (nv:List Str) (ix:List (Str×Nat)) (hc:X.calm=true) (hN:X.N.Nodup) (hi':X.N[i]? = some y) (hy:Loc X.env.scope y) (co:CompOk X nv ix scope) (hit:PI X tg iter wi) (kg:KpG nv g)
 (hg:∀ C s₀ H₀ fp,PG (bf X nv ix scope C s₀ H₀ fp) tg g) (hi:∀ C s₀ H₀ fp,PIf (bf X nv ix scope C s₀ H₀ fp) ifs ti) (he:∀ C s₀ H₀ fp,PE (bf X nv ix scope C s₀ H₀ fp) elt te)
 (hsw:swapsWith (.ListComp elt [⟨tg,iter,ifs,0⟩] scope pos) (some (.Name y py)) spos.line X.env=pure true:=by rfl)
 (hs:∀ x,foldedSetIterable iter X.env x=pure x:=by intro _;rfl) (hfn:X.fn y=true\/X.env.scope.names.lookup y=some .local:=by first | exact .inl rfl | exact .inr rfl | assumption) :
 PS X (.Assign [.Name y py] (.ListComp elt [⟨tg,iter,ifs,0⟩] scope pos) spos) (tX (jD nv ix wi g ti te) (cV i)):=by
 intro pins s σ H D I h
 rw [exec_Assign_Name_used _ _ _ _ hsw]
 refine wpAny_bind (wpAny_standAt (wpAny_bind ?_))
 show wpAny _ X.A (do let _ ← comprehension (.ListComp elt [⟨tg,iter,ifs,0⟩] scope pos) scope X.env _ (newList []) false (eval iter X.env) (some (assign (.Name y py) X.env))) _ _ s
 refine wpAny_bind (wpAny_mono (wpAny_comprehension_free (use:=some (assign (.Name y py) X.env)) (Q:=fun _ s'=>SP X pins D .next s') rfl hs (cr (co.cells I.ok)) co.kind co.names
  (thn (hit pins s σ H _ I h) fun v s1 h1=>thn h1 fun itv s2 h2=>?_)) (fun _ s' hq=>wpAny_pure (wpAny_pure hq)) fun _ _ e=>e)
 obtain ⟨it,fp,tn,J,H2,e,I2,T,st2,f2,q⟩:=h2
 subst e
 refine jt co hc I2 T st2 f2 kg hg hi he q fun DD C s' H' ys I' hD fin ⟨m,hm⟩ hC=>?_
 obtain ⟨c0,c1,c2,c3,c4,c5⟩:=hC
 show wpAny _ X.A (assign (.Name y py) X.env (.ref DD)) _ _ s'
 refine wpAny_assign_Name (gm I' hN hi' hy (show RelV (.ref DD) (.ref DD) from rfl) (fun s'' I'' ⟨a,sb,ha⟩=>?_) hfn)
 have hCa:C≠a:=by
  rcases ha with rfl | ha
  · exact c1
  · exact fun z=>c4 y a ha z.symm
 refine ⟨m,hm.sameBut sb hCa,fun h' hs'=>⟨_,_,I''.turned (t':=s''.toks) (fun b o hb e=>(hs'.2 b hb).trans e) c0 c1 c3 c4 c5,fin DD hD⟩⟩
theorem db {wi:TI} {g:TG} {ti:TT} {te:TE} {i:Nat} {y:Str} {py spos:Pos} (nv:List Str) (ix:List (Str×Nat)) (hc:X.calm=true) (hN:X.N.Nodup) (hi':X.N[i]? = some y) (hy:Loc X.env.scope y) (co:CompOk X nv ix scope) (hit:ZI X tg iter wi) (kg:KpG nv g)
 (hg:∀ C s₀ H₀ fp,ZG (bf X nv ix scope C s₀ H₀ fp) tg g) (hi:∀ C s₀ H₀ fp,ZIf (bf X nv ix scope C s₀ H₀ fp) ifs ti) (he:∀ C s₀ H₀ fp,ZE (bf X nv ix scope C s₀ H₀ fp) elt te)
 (hsw:swapsWith (.ListComp elt [⟨tg,iter,ifs,0⟩] scope pos) (some (.Name y py)) spos.line X.env=pure true:=by rfl)
 (hs:∀ x,foldedSetIterable iter X.env x=pure x:=by intro _;rfl) (hfn:X.fn y=true\/X.env.scope.names.lookup y=some .local:=by first | exact .inl rfl | exact .inr rfl | assumption) :
 ZS X (.Assign [.Name y py] (.ListComp elt [⟨tg,iter,ifs,0⟩] scope pos) spos) (tX (jD nv ix wi g ti te) (cV i)):=by with_unfolding_all exact jI nv ix hc hN hi' hy co hit kg hg hi he hsw hs hfn
end
section
variable {nv:List Str} {ix:List (Str×Nat)} {σ:St} {H:Hp} {g:TG} {ti:TT} {te:TE} {Fin:List V->Hp->Prop} {K:PySem.W.Frag} {a:Addr} {xs:List V}
theorem cY (Pv:Nat->List V->Hp->Prop) (h0:Pv 0 [] H) (hl:∀ i ys H,i<=xs.length->Pv i ys H->SqL K H a xs)
 (hs:∀ i x ys H,xs[i]? = some x->Pv i ys H->ys.length<sizeLine/\g x (st0 nv ix σ) H fun σ2 H2=>ti σ2 H2 fun b H3=>if b=true then te σ2 H3 fun y H4=>Pv (i+1) (ys++[y]) H4 else Pv (i+1) ys H3)
 (hd:∀ ys H,Pv xs.length ys H->Fin ys H):n5 nv ix g ti te σ (Itl K a) Fin H:=by
 refine ⟨fun i m ys H=>m=xs.length - i/\i<=xs.length/\Pv i ys H,⟨xs.length,by simp,Nat.zero_le _,h0⟩,?_⟩
 rintro i m ys H ⟨rfl,hi,p⟩
 have q:=hl i ys H hi p
 by_cases hlt:i<xs.length
 · have e:=hs i xs[i] ys H (by simp [hlt]) p
   refine .inr ⟨⟨xs,xs[i],q,by simp [hlt]⟩,e.1,Pv (i+1),fun σ' H' p'=>⟨xs.length - (i+1),by lia,rfl,hlt,p'⟩,fun x H' y=>?_⟩
   obtain ⟨e',y⟩:=y
   subst e'
   exact (hs i x ys _ (y xs q) p).2
 · have e:i=xs.length:=by lia
   subst e
   exact .inl ⟨⟨xs,q,Nat.le_refl _⟩,hd ys H p⟩
theorem iL (Pv:Nat->List V->Hp->Prop) (h0:Pv 0 [] H) (hl:∀ i ys H,i<=xs.length->Pv i ys H->SqT K H a xs)
 (hs:∀ i x ys H,xs[i]? = some x->Pv i ys H->ys.length<sizeLine/\g x (st0 nv ix σ) H fun σ2 H2=>ti σ2 H2 fun b H3=>if b=true then te σ2 H3 fun y H4=>Pv (i+1) (ys++[y]) H4 else Pv (i+1) ys H3)
 (hd:∀ ys H,Pv xs.length ys H->Fin ys H):n5 nv ix g ti te σ (Itt K a) Fin H:=by
 refine ⟨fun i m ys H=>m=xs.length - i/\i<=xs.length/\Pv i ys H,⟨xs.length,by simp,Nat.zero_le _,h0⟩,?_⟩
 rintro i m ys H ⟨rfl,hi,p⟩
 have q:=hl i ys H hi p
 by_cases hlt:i<xs.length
 · have e:=hs i xs[i] ys H (by simp [hlt]) p
   refine .inr ⟨⟨xs,xs[i],q,by simp [hlt]⟩,e.1,Pv (i+1),fun σ' H' p'=>⟨xs.length - (i+1),by lia,rfl,hlt,p'⟩,fun x H' y=>?_⟩
   obtain ⟨e',y⟩:=y
   subst e'
   exact (hs i x ys _ (y xs q) p).2
 · have e:i=xs.length:=by lia
   subst e
   exact .inl ⟨⟨xs,q,Nat.le_refl _⟩,hd ys H p⟩
theorem gO {lo:Int} {n:Nat} (Pv:Nat->List V->Hp->Prop) (h0:Pv 0 [] H)
 (hs:∀ i ys H,i<n->Pv i ys H->ys.length<sizeLine/\g (.int (lo+i)) (st0 nv ix σ) H fun σ2 H2=>ti σ2 H2 fun b H3=>if b=true then te σ2 H3 fun y H4=>Pv (i+1) (ys++[y]) H4 else Pv (i+1) ys H3)
 (hd:∀ ys H,Pv n ys H->Fin ys H):n5 nv ix g ti te σ (Itr lo n) Fin H:=by
 refine ⟨fun i m ys H=>m=n - i/\i<=n/\Pv i ys H,⟨n,by simp,Nat.zero_le _,h0⟩,?_⟩
 rintro i m ys H ⟨rfl,hi,p⟩
 by_cases hlt:i<n
 · refine .inr ⟨hlt,(hs i ys H hlt p).1,Pv (i+1),fun σ' H' p'=>⟨n - (i+1),by lia,rfl,hlt,p'⟩,fun x H' y=>?_⟩
   obtain ⟨e',y⟩:=y
   subst e' y
   exact (hs i ys _ hlt p).2
 · have e:i=n:=by lia
   subst e
   exact .inl ⟨Nat.le_refl _,hd ys H p⟩
end
theorem Same.new {H:Hp} {p:Addr} (h:H p=none) (o:HO):Same H (upd H p o):=fun b u q=>by rw [am (aV q h)];exact q
section
variable {X:Cx} {a b c:Expr} {ta tb tc:TE} {pos:Pos}
theorem sK:OpR X (binaryOp .Mult) (rI (fun i j=>IntMulOk i j) fun i j=>.int (i*j)):=opI fun _ _ _ _ _ _ _ hc q=>mul_int q hc
end
section
variable {prog:Program} {w:World} {A:Around} {E:Value->Shared->Prop} {s:Shared}
theorem cD {t sl:Addr} {items:Array Value} {vl vu:Value} {lo hi:Option Int} {Q:Value->Shared->Prop} (ht:IsTup s.heap t items) (hs:s.heap.IsSliceOf sl vl vu .none) (pl:IsPart vl lo) (pu:IsPart vu hi)
 (hw:HT.sIx items.size 0 lo=0/\HT.sIx items.size items.size hi=items.size)
 (h:Q (.ref t) s):wpAny (model prog w) A (getItem (.ref t) (.ref sl)) Q E s:=by
 obtain ⟨os,hos,hcs,hds⟩:=id hs
 have hTs:s.TypeIs (.ref sl) "slice":=⟨os,hos,hcs⟩
 unfold getItem
 try with_reducible refine wpAny_holding ?_
 first | refine wpAny_bind (wpAny_pure ?_) | skip
 refine wpAny_bind (wpAny_sequenceKey ht.typeIs (by decide) ?_)
 refine wpAny_bind (wpAny_callSpecial?_slot (name:=Str.ofString "__getitem__") ht.typeIs PyProof.Rows.slot_tuple_getitem
  (wpAny_call_entry PyProof.Rows.slot_tuple_getitem ht.typeIs entry_tuple_getitem ?_ (args_tuple_getitem _ _)))
 show wpAny _ _ (Builtin.Tuple.tupleItemsOf (.ref t) >>= _) _ _ s
 refine wpAny_bind (tupleItemsOf_ ht ?_)
 refine wpAny_bind (wpAny_typeOf hTs ?_)
 rw [if_pos (by decide)]
 refine wpAny_bind (HT.sliceApplied_gen hs pl pu ?_)
 have hyes:((((HT.sIx items.size 0 lo:Nat):Int) == 0&&(1:Int) == 1&&(HT.sIx items.size items.size hi - HT.sIx items.size 0 lo) == items.size)=true):=by
  rw [hw.1,hw.2]
  simp
 show wpAny _ _ (if (((HT.sIx items.size 0 lo:Nat):Int) == 0&&(1:Int) == 1&&(HT.sIx items.size items.size hi - HT.sIx items.size 0 lo) == items.size)=true then _ else _) _ _ s
 rw [if_pos hyes]
 refine wpAny_bind (m:=Builtin.Tuple.tupleIsExact _) ?_
 unfold Builtin.Tuple.tupleIsExact
 refine wpAny_bind (wpAny_typeOf ht.typeIs (wpAny_pure ?_))
 rw [if_pos (by decide)]
 exact wpAny_bind (wpAny_rule (wpAny_pure ⟨_,rfl,wpAny_pure h⟩))
end
section
variable {X:Cx} {a b c:Expr} {ta tb tc:TE} {pos:Pos}
def rSlP (K:PySem.W.Frag):V->Option Int->Option Int->Hp->VK->Prop:=fun x lo hi H Q=>∃ a,x=.ref a/\((∃ xs,H a=some (.tup xs)/\∀ r H',Same H H'->H' r=some (.tup (kd xs lo hi))->Q (.ref r) H') \/
 ∃ xs,SqL K H a xs/\∀ p,H p=none->Q (.ref p) (upd H p (.lst (kd xs lo hi))))
theorem sl_P:SlR X (rSlP X.K):=by
 intro pins s σ H x v vl vu lo hi sl Q I rx hs pl pu h
 obtain ⟨a,rfl,⟨xs,hx,q⟩ | ⟨xs,hx,q⟩⟩:=h
 · by_cases hw:HT.sIx xs.length 0 lo=0/\HT.sIx xs.length xs.length hi=xs.length
   · cases rx
     obtain ⟨its,r,ht,hz⟩:=I.tuple (SqT.of hx)
     have hlen:its.toArray.size=xs.length:=by rw [List.size_toArray];exact r.length.symm
     refine ⟨"tuple",_,PyProof.Rows.slot_tuple_getitem.lookup,ht.typeIs,?_⟩
     refine cD ht hs pl pu (by rw [hlen];exact hw) ⟨.ref a,H,I,rfl,q a H (Same.refl H) ?_⟩
     rw [hx]
     unfold kd
     rw [hw.1,hw.2,List.drop_zero,Nat.sub_zero,List.take_of_length_le (Nat.le_refl _)]
   · exact sl_tup pins s σ H _ v vl vu lo hi sl Q I rx hs pl pu ⟨a,xs,rfl,SqT.of hx,hw,fun p hp=>q p _ (Same.new hp _) ad⟩
 · exact rm pins s σ H _ v vl vu lo hi sl Q I rx hs pl pu ⟨a,xs,rfl,hx,q⟩
theorem PE.imp {e:Expr} {t t':TE} (h:PE X e t) (i:∀ σ H Q,t' σ H Q->t σ H Q):PE X e t':=fun pins s σ H Q I q=>h pins s σ H Q I (i σ H Q q)
theorem OpR.imp {f:Value->Value->Sem Value} {r r':R2} (h:OpR X f r) (i:∀ x y H Q,r' x y H Q->r x y H Q):OpR X f r':=fun pins s σ H x y v u Q I rx ry q=>h pins s σ H x y v u Q I rx ry (i x y H Q q)
def tV (i:Nat):TE:=fun σ H Q=>match σ[i]? with | some (some v)=>Q v H | _=>False
theorem tV_var {i:Nat} (σ:St) (H:Hp) (Q:VK) (h:tV i σ H Q):tVar i σ H Q:=by
 unfold tV at h
 split at h
 · exact ⟨_,by assumption,h⟩
 · exact h.elim
theorem pn (i:Nat) {x:Str} {pos:Pos} (hN:X.N[i]? = some x:=by rfl) (hv:Vis X.env.scope x:=by first | exact Or.inl rfl | exact Or.inr (Or.inl rfl) | exact Or.inr (Or.inr rfl)) (hd:(x == ("__debug__" : Str))=false:=by decide)
 (hcd:(x == ("__classdict__" : Str))=false:=by decide):PE X (.Name x pos) (tV i):=(pe_var hN hv hd hcd).imp tV_var
theorem zn (i:Nat) {x:Str} {pos:Pos} (hN:X.N[i]? = some x:=by rfl) (hv:Vis X.env.scope x:=by first | exact Or.inl rfl | exact Or.inr (Or.inl rfl) | exact Or.inr (Or.inr rfl)) (hd:(x == ("__debug__" : Str))=false:=by decide)
 (hcd:(x == ("__classdict__" : Str))=false:=by decide):ZE X (.Name x pos) (tV i):=by with_unfolding_all exact pn i hN hv hd hcd
def rM (K:PySem.W.Frag):R2:=fun x y H Q=>match x,y with
 | .int i,.int j=>Q (.int (i+j)) H
 | .str i,.str j=>i.length+j.length<=sizeLine/\Q (.str (i++j)) H
 | .ref a,.ref b=>(∃ xs ys,H a=some (.lst xs)/\H b=some (.lst ys)/\xs.length+ys.length<=sizeLine/\∀ p,H p=none->Q (.ref p) (upd H p (.lst (xs++ys)))) \/
  ∃ xs ys,H a=some (.tup xs)/\H b=some (.tup ys)/\xs.length+ys.length<=sizeLine/\∀ r H',Same H H'->H' r=some (.tup (xs++ys))->Q (.ref r) H'
 | _,_=>False
theorem pB:OpR X (binaryOp .Add) (fun x y H Q=>∃ a b xs ys,x=.ref a/\y=.ref b/\H a=some (.tup xs)/\H b=some (.tup ys)/\xs.length+ys.length<=sizeLine/\∀ r H',Same H H'->H' r=some (.tup (xs++ys))->Q (.ref r) H'):=by
 intro pins s σ H x y v u Q I rx ry h
 obtain ⟨a,b,xs,ys,rfl,rfl,ha,hb,hz,q⟩:=h
 by_cases hx:xs=[]
 · subst hx
   cases rx
   cases ry
   obtain ⟨its,r1,p1,_⟩:=I.tuple (SqT.of ha)
   obtain ⟨its2,r2,p2,_⟩:=I.tuple (SqT.of hb)
   cases r1
   obtain ⟨⟨cls,dd,data,sl⟩,ho,hc,n,hd⟩:=id p1
   obtain ⟨⟨cls2,dd2,data2,sl2⟩,ho2,hc2,n2,hd2⟩:=id p2
   simp only at hc hd hc2 hd2
   subst hc hd hc2 hd2
   exact concat_meets ⟨_,ho,rfl⟩ ⟨_,ho2,rfl⟩ noFill_tuple_add seq_tuple_add PySem.F.slot_tuple_add PySem.F.entry_tuple_add (PySem.F.args_tuple_add_2 _ _)
    (tuple_addW0 a b _ _ n n2 dd dd2 sl sl2 (by rfl)) ⟨ho,ho2,⟨.ref b,H,I,rfl,q b H (Same.refl H) hb⟩⟩
 · refine sL pins s σ H _ _ v u Q I rx ry ⟨a,b,xs,ys,rfl,rfl,SqT.of ha,SqT.of hb,hx,hz,fun e=>?_,fun e p hp=>?_⟩
   · subst e
     exact q a H (Same.refl H) (by rw [List.append_nil];exact ha)
   · exact q p _ (Same.new hp _) ad
theorem au:OpR X (binaryOp .Add) (rM X.K):=by
 intro pins s σ H x y v u Q I rx ry h
 unfold rM at h
 split at h
 · exact op_add pins s σ H _ _ v u Q I rx ry ⟨_,_,rfl,rfl,h⟩
 · exact jN pins s σ H _ _ v u Q I rx ry ⟨_,_,rfl,rfl,h⟩
 · rcases h with ⟨xs,ys,h1,h2,h3,q⟩ | ⟨xs,ys,h1,h2,h3,q⟩
   · exact op_cat pins s σ H _ _ v u Q I rx ry ⟨_,_,xs,ys,rfl,rfl,h1,h2,h3,q⟩
   · exact pB pins s σ H _ _ v u Q I rx ry ⟨_,_,xs,ys,rfl,rfl,h1,h2,h3,q⟩
 · exact h.elim
def rP (C:Int->Int->Prop) (g:Int->Int->V):R2:=fun x y H Q=>match x,y with | .int i,.int j=>C i j/\Q (g i j) H | _,_=>False
def rP0 (g:Int->Int->V):R2:=fun x y H Q=>match x,y with | .int i,.int j=>Q (g i j) H | _,_=>False
theorem rF {C:Int->Int->Prop} {g:Int->Int->V} (x y:V) (H:Hp) (Q:VK) (h:rP C g x y H Q):rI C g x y H Q:=by
 unfold rP at h
 split at h
 · exact ⟨_,_,rfl,rfl,h⟩
 · exact h.elim
theorem fM {g:Int->Int->V} (x y:V) (H:Hp) (Q:VK) (h:rP0 g x y H Q):rI0 g x y H Q:=by
 unfold rP0 at h
 split at h
 · exact ⟨_,_,rfl,rfl,h⟩
 · exact h.elim
theorem aN:OpR X (binaryOp .Sub) (rP0 fun i j=>.int (i - j)):=op_sub.imp fM
theorem bI:OpR X (binaryOp .Mod) (rP (fun _ j=>0<j) fun i j=>.int (i % j)):=op_mod.imp rF
theorem bv:OpR X (binaryOp .FloorDiv) (rP CDiv fun i j=>.int (i / j)):=op_fdiv.imp rF
theorem iy:OpR X (binaryOp .Pow) (rP CPow fun i j=>.int (i ^ j.toNat)):=op_pow.imp rF
theorem qG:OpR X (compareOp .LtE) (rP0 fun i j=>.bl (decide (i<=j))):=op_le.imp fM
theorem fq:OpR X (compareOp .Gt) (rP0 fun i j=>.bl (decide (j<i))):=op_gt.imp fM
theorem qI:OpR X (compareOp .GtE) (rP0 fun i j=>.bl (decide (j<=i))):=op_ge.imp fM
def rIsP (neg:Bool):R2:=fun x y H Q=>match y with
 | .non=>Q (.bl (if neg then !decide (x=y) else decide (x=y))) H
 | .bl _=>match x with
   | .flt _=>False
   | .byt _=>False
   | .ty _=>False
   | _=>Q (.bl (if neg then !decide (x=y) else decide (x=y))) H
 | _=>False
end
mutual
inductive DatV (H:Hp):V->PyData->Prop where
 | non:DatV H .non .none
 | bl (b:Bool):DatV H (.bl b) (.bool b)
 | int (i:Int):DatV H (.int i) (.int i)
 | str (x:Str):DatV H (.str x) (.str x)
 | lst {a:Addr} {xs:List V} {ds:List PyData} (e:H a=some (.lst xs)) (r:DatAll H xs ds):DatV H (.ref a) (.list ds)
 | tup {a:Addr} {xs:List V} {ds:List PyData} (e:H a=some (.tup xs)) (r:DatAll H xs ds):DatV H (.ref a) (.tuple ds)
inductive DatAll (H:Hp):List V->List PyData->Prop where
 | nil:DatAll H [] []
 | cons {x:V} {d:PyData} {xs:List V} {ds:List PyData} (h:DatV H x d) (r:DatAll H xs ds):DatAll H (x::xs) (d::ds)
end
mutual
theorem DatV.same {H H':Hp} (s:Same H H'):∀ {x:V} {d:PyData},DatV H x d->DatV H' x d
 | _,_,.non=>.non
 | _,_,.bl b=>.bl b
 | _,_,.int i=>.int i
 | _,_,.str x=>.str x
 | _,_,.lst e r=>.lst (s _ _ e) (DatAll.same s r)
 | _,_,.tup e r=>.tup (s _ _ e) (DatAll.same s r)
theorem DatAll.same {H H':Hp} (s:Same H H'):∀ {xs:List V} {ds:List PyData},DatAll H xs ds->DatAll H' xs ds
 | _,_,.nil=>.nil
 | _,_,.cons h r=>.cons (DatV.same s h) (DatAll.same s r)
end
theorem DatAll.ints {H:Hp}:∀ ns:List Int,DatAll H (ns.map V.int) (ns.map PyData.int)
 | []=>.nil
 | n::r=>.cons (.int n) (DatAll.ints r)
section
variable {X:Cx} {pins:List (Addr×Obj)} {σ:St} {H:Hp} {s:Shared}
mutual
theorem DatV.reads (I:Inv X pins σ H s):∀ {x:V} {d:PyData} {v:Value},DatV H x d->RelV x v->∃ as,Reads s.heap v d as
 | _,_,_,.non,r=>by cases r;exact ⟨_,.none⟩
 | _,_,_,.bl b,r=>by cases r;exact ⟨_,.bool b⟩
 | _,_,_,.int i,r=>by obtain ⟨t,rfl⟩:=r;exact ⟨_,.int i t⟩
 | _,_,_,.str x,r=>by obtain ⟨t,rfl⟩:=r;exact ⟨_,.str x t⟩
 | _,_,_,.lst e q,r=>by
   cases r
   obtain ⟨_,its,n,rv,h⟩:=I.lstM e
   obtain ⟨_,h⟩:=h
   obtain ⟨as,z⟩:=DatAll.reads I q rv
   exact ⟨_,reads_list_at h rfl rfl z⟩
 | _,_,_,.tup e q,r=>by
   cases r
   obtain ⟨its,rv,⟨o,h1,h2,n,h3⟩,_⟩:=I.tuple (SqT.of e)
   obtain ⟨as,z⟩:=DatAll.reads I q rv
   exact ⟨_,reads_tuple_at h1 h2 h3 z⟩
theorem DatAll.reads (I:Inv X pins σ H s):∀ {xs:List V} {ds:List PyData} {vs:List Value},DatAll H xs ds->Vals xs vs->∃ as,ReadsAll s.heap vs ds as
 | _,_,_,.nil,r=>by cases r;exact ⟨_,.nil⟩
 | _,_,_,.cons h q,r=>by
   cases r with
   | cons r1 r2=>
     obtain ⟨as,z⟩:=DatV.reads I h r1
     obtain ⟨bs,y⟩:=DatAll.reads I q r2
     exact ⟨_,.cons z y⟩
end
end
section
variable {X:Cx} {a b c:Expr} {ta tb tc:TE} {pos:Pos}
def rEqD (neg:Bool):R2:=fun x y H Q=>match scal x y with
 | true=>Q (.bl (if neg then !decide (x=y) else decide (x=y))) H
 | false=>∃ d e,DatV H x d/\DatV H y e/\SeqAt.shaped d=true/\SeqAt.shaped e=true/\Q (.bl (if neg then !PyData.eqv d e else PyData.eqv d e)) H
theorem cO (hu:X.A.units+64<cLine):OpR X (compareOp .Eq) (rEqD false):=by
 intro pins s σ H x y v u Q I rx ry h
 unfold rEqD at h
 split at h
 · exact op_eq pins s σ H x y v u Q I rx ry ⟨by assumption,h⟩
 · obtain ⟨d,e,h1,h2,h3,h4,q⟩:=h
   obtain ⟨as,r1⟩:=h1.reads I rx
   obtain ⟨bs,r2⟩:=h2.reads I ry
   exact eq_dataH r1 r2 h3 h4 hu ⟨.bl _,H,I,rfl,q⟩
theorem bS (hu:X.A.units+64<cLine):OpR X (compareOp .NotEq) (rEqD true):=by
 intro pins s σ H x y v u Q I rx ry h
 unfold rEqD at h
 split at h
 · exact op_ne pins s σ H x y v u Q I rx ry ⟨by assumption,h⟩
 · obtain ⟨d,e,h1,h2,h3,h4,q⟩:=h
   obtain ⟨as,r1⟩:=h1.reads I rx
   obtain ⟨bs,r2⟩:=h2.reads I ry
   exact ne_dataH r1 r2 h3 h4 hu ⟨.bl _,H,I,rfl,q⟩
theorem qH:OpR X (compareOp .Is) (rIsP false):=by
 intro pins s σ H x y v u Q I rx ry h
 unfold rIsP at h
 split at h
 · exact op_isN pins s σ H x _ v u Q I rx ry ⟨rfl,h⟩
 · rename_i k
   cases ry
   split at h
   · exact h.elim
   · exact h.elim
   · exact h.elim
   · rename_i hf hb ht
     cases x with
     | non=>cases rx;exact wpAny_is_plain rfl (aC I h (by simp))
     | bl j=>cases rx;exact wpAny_is_plain rfl (aC I h (by rw [Bool.eq_iff_iff];simp))
     | int j=>obtain ⟨t,rfl⟩:=rx;exact wpAny_is_plain rfl (aC I h (by simp))
     | str j=>obtain ⟨t,rfl⟩:=rx;exact wpAny_is_plain rfl (aC I h (by simp))
     | byt j=>exact absurd rfl (hb j)
     | flt j=>exact absurd rfl (hf j)
     | ref j=>cases rx;exact wpAny_is_plain rfl (aC I h (by simp))
     | ty j=>exact absurd rfl (ht j)
 · exact h.elim
theorem pA:OpR X (compareOp .IsNot) (rIsP true):=by
 intro pins s σ H x y v u Q I rx ry h
 unfold rIsP at h
 split at h
 · exact sJ pins s σ H x _ v u Q I rx ry ⟨rfl,h⟩
 · rename_i k
   cases ry
   split at h
   · exact h.elim
   · exact h.elim
   · exact h.elim
   · rename_i hf hb ht
     cases x with
     | non=>cases rx;exact wpAny_isNot_plain rfl (aC I h (by simp))
     | bl j=>cases rx;exact wpAny_isNot_plain rfl (aC I h (by rw [Bool.eq_iff_iff];simp))
     | int j=>obtain ⟨t,rfl⟩:=rx;exact wpAny_isNot_plain rfl (aC I h (by simp))
     | str j=>obtain ⟨t,rfl⟩:=rx;exact wpAny_isNot_plain rfl (aC I h (by simp))
     | byt j=>exact absurd rfl (hb j)
     | flt j=>exact absurd rfl (hf j)
     | ref j=>cases rx;exact wpAny_isNot_plain rfl (aC I h (by simp))
     | ty j=>exact absurd rfl (ht j)
 · exact h.elim
def tBlP (t:TE):TT:=fun σ H Q=>t σ H fun x H1=>match x with | .bl c=>Q c H1 | _=>False
theorem blP {x:V} {P:Bool->Prop} (h:match x with | .bl c=>P c | _=>False):∃ c,x=.bl c/\P c:=by
 cases x <;> first | exact ⟨_,rfl,h⟩ | exact h.elim
theorem rX {op:CmpOp} {r:R2} (ho:OpR X (compareOp op) r) (ha:PE X a ta) (hb:PE X b tb) (hm:behindInMarks op b=false):PT X (.Compare a [op] [b] pos) (tBlP (tOp r ta tb)):=by
 intro pins s σ H Q I h
 refine wpAny_isTrue_Compare1 (binT ha hb I h fun v u s2 x y H2 I2 rx ry q=>?_) hm
 refine thn (ho pins s2 σ H2 x y v u _ I2 rx ry q) fun z s3 ⟨w',H3,I3,r3,q3⟩=>?_
 obtain ⟨k,rfl,q3⟩:=blP q3
 cases r3
 exact wpAny_truthy_bool ⟨H3,I3,q3⟩
theorem aG {op:CmpOp} {r:R2} (ho:OpR X (compareOp op) r) (ha:ZE X a ta) (hb:ZE X b tb) (hm:behindInMarks op b=false):ZT X (.Compare a [op] [b] pos) (tBlP (tOp r ta tb)):=by with_unfolding_all exact rX ho ha hb hm
theorem rW {e:Expr} {t:TE} (h:PE X e t) (he:∀ whole,isTrue e X.env whole=(do let v ← whole;standAt e.pos;holding [v] (truthy v)):=by intro _;rfl):PT X e (tBlP t):=by
 intro pins s σ H Q I q
 refine isTrue_plain (thn (h pins s σ H _ I q) fun v s1 ⟨x,H1,I1,r1,q1⟩=>?_) (he _)
 obtain ⟨k,rfl,q1⟩:=blP q1
 cases r1
 exact wpAny_truthy_bool ⟨H1,I1,q1⟩
theorem bH {e:Expr} {t:TE} (h:ZE X e t) (he:∀ whole,isTrue e X.env whole=(do let v ← whole;standAt e.pos;holding [v] (truthy v)):=by intro _;rfl):ZT X e (tBlP t):=by with_unfolding_all exact rW h he
def tAndP (ta tb:TE):TE:=fun σ H Q=>ta σ H fun x H1=>match x with | .bl c=>if c=true then tb σ H1 Q else Q (.bl false) H1 | _=>False
variable {rest:List Expr}
theorem sB (ha:PE X a ta) (hb:PE X (.BoolOp .And (b::rest) pos) tb):PE X (.BoolOp .And (a::b::rest) pos) (tAndP ta tb):=by
 intro pins s σ H Q I h
 refine BoolOp_and (thn (ha pins s σ H _ I h) fun v s1 ⟨x,H1,I1,r1,q1⟩=>?_)
 obtain ⟨c,rfl,q1⟩:=blP q1
 cases r1
 refine wpAny_truthy_bool ?_
 cases c with
 | true=>exact hb pins s1 σ H1 Q I1 q1
 | false=>exact ⟨.bl false,H1,I1,rfl,q1⟩
theorem fC (ha:ZE X a ta) (hb:ZE X (.BoolOp .And (b::rest) pos) tb):ZE X (.BoolOp .And (a::b::rest) pos) (tAndP ta tb):=by with_unfolding_all exact sB ha hb
def rIxP (K:PySem.W.Frag):R2:=fun x y H Q=>match x,y with
 | .ref p,.int i=>(∃ xs,(SqL K H p xs\/H p=some (.tup xs))/\∃ v,atI xs i=some v/\Q v H)
 | _,_=>False
theorem dy:IxR X (rIxP X.K):=by
 intro value slice pins s σ H x y v u Q I rx ry h hs
 unfold rIxP at h
 split at h
 · obtain ⟨xs,h1 | h1,w,e,q⟩:=h
   · exact tq value slice pins s σ H _ _ v u Q I rx ry ⟨_,xs,_,w,rfl,rfl,h1,e,q⟩ hs
   · exact ix_tup value slice pins s σ H _ _ v u Q I rx ry ⟨_,xs,_,w,rfl,rfl,SqT.of h1,e,q⟩ hs
 · exact h.elim
theorem CallR.imp {f:Value} {r r':List V->Hp->VK->Prop} (h:CallR X f r) (i:∀ xs H Q,r' xs H Q->r xs H Q):CallR X f r':=fun pins s σ H xs us Q I rs q=>h pins s σ H xs us Q I rs (i xs H Q q)
def jG (K:PySem.W.Frag):List V->Hp->VK->Prop:=fun xs H Q=>match xs with
 | [.ref p]=>∃ ys,(SqL K H p ys\/H p=some (.tup ys))/\Q (.int ys.length) H
 | _=>False
theorem nF:CallR X (.builtin "len") (jG X.K):=call_len_seq.imp fun xs H Q h=>by
 unfold jG at h
 split at h
 · obtain ⟨ys,h1 | h1,q⟩:=h
   · exact ⟨_,ys,rfl,.inl h1,q⟩
   · exact ⟨_,ys,rfl,.inr (SqT.of h1),q⟩
 · exact h.elim
def bR (H:Hp):V->Option String
 | .non=>some "NoneType"
 | .bl _=>some "bool"
 | .int _=>some "int"
 | .str _=>some "str"
 | .ref a=>match H a with
   | some (.lst _)=>some "list"
   | some (.tup _)=>some "tuple"
   | some (.dK _)=>some "dict"
   | _=>none
 | _=>none
def dQ (t c:String):Bool:=t == c||(t == "bool"&&c == "int")
theorem kJ {K:PySem.W.Frag} {H:Hp} {x:V} {t:String} (h:bR H x=some t):TyOf K H x (.type t):=by
 unfold bR at h
 split at h
 all_goals first | (cases h;constructor) | skip
 · split at h
   all_goals first | (cases h;constructor;assumption) | cases h
 · cases h
def oO:List V->Hp->VK->Prop:=fun xs H Q=>match xs with
 | [x,.ty c]=>∃ t,bR H x=some t/\(c == "int"||c == "bool"||c == "tuple"||c == "str"||c == "list")=true/\Q (.bl (dQ t c)) H
 | _=>False
theorem mx {K:PySem.W.Frag} {H:Hp} {x:V} {t c:String} (h:bR H x=some t) (hc:(c == "int"||c == "bool"||c == "tuple"||c == "str"||c == "list")=true):PySem.W.kitOne K (.type t) (.type c)=some (dQ t c):=by
 have ht:t∈["NoneType","bool","int","str","list","tuple","dict"]:=by
  unfold bR at h
  split at h
  all_goals first | (cases h;decide) | skip
  · split at h
    all_goals first | (cases h;decide) | cases h
  · cases h
 have hc':c∈["int","bool","tuple","str","list"]:=by
  simp only [Bool.or_eq_true,beq_iff_eq] at hc
  simp only [List.mem_cons,List.not_mem_nil,or_false]
  rcases hc with (((hc | hc) | hc) | hc) | hc <;> simp [hc]
 have all:(["NoneType","bool","int","str","list","tuple","dict"].all fun t=>["int","bool","tuple","str","list"].all fun c=>decide (PySem.W.kitOne [] (.type t) (.type c)=some (dQ t c)))=true:=by decide +kernel
 have e:PySem.W.kitOne K (.type t) (.type c)=PySem.W.kitOne [] (.type t) (.type c):=rfl
 rw [e]
 exact of_decide_eq_true (List.all_eq_true.mp (List.all_eq_true.mp all t ht) c hc')
theorem nH:CallR X (.builtin "isinstance") oO:=by
 intro pins s σ H xs us Q I r h
 unfold oO at h
 split at h
 · obtain ⟨t,h1,h2,q⟩:=h
   obtain ⟨u,w',rfl,r1,r2⟩:=hW r
   cases r2
   exact mL I r1 (kJ h1) (mx h1 h2) fun tk=>⟨.bl _,H,I.tok tk,rfl,q⟩
 · exact h.elim
def lC (K:PySem.W.Frag):List V->Hp->VK->Prop:=fun xs H Q=>match xs with
 | [.ref p]=>∃ ys,(SqL K H p ys\/H p=some (.tup ys))/\∀ r H',Same H H'->H' r=some (.tup ys)->Q (.ref r) H'
 | _=>False
theorem nr:CallR X (.type "tuple") (lC X.K):=call_tuple_of.imp fun xs H Q h=>by
 unfold lC at h
 split at h
 · obtain ⟨ys,h1 | h1,q⟩:=h
   · exact ⟨_,ys,rfl,.inl ⟨h1,fun l hl=>q l _ (Same.new hl _) ad⟩⟩
   · exact ⟨_,ys,rfl,.inr ⟨SqT.of h1,q _ H (Same.refl H) h1⟩⟩
 · exact h.elim
def oM (K:PySem.W.Frag):List V->Hp->VK->Prop:=fun xs H Q=>match xs with
 | [.ref p]=>∃ ys,(SqL K H p ys\/H p=some (.tup ys))/\∀ l,H l=none->Q (.ref l) (upd H l (.lst ys))
 | _=>False
theorem nE:CallR X (.type "list") (oM X.K):=call_list_of.imp fun xs H Q h=>by
 unfold oM at h
 split at h
 · obtain ⟨ys,h1 | h1,q⟩:=h
   · exact ⟨_,ys,rfl,.inl h1,q⟩
   · exact ⟨_,ys,rfl,.inr (SqT.of h1),q⟩
 · exact h.elim
def oP:List V->Hp->VK->Prop:=fun xs H Q=>match xs with
 | [.int i]=>Q (.int i) H
 | [.bl k]=>Q (.int (if k then 1 else 0)) H
 | _=>False
theorem nJ:CallR X (.type "int") oP:=call_int1.imp fun xs H Q h=>by
 unfold oP at h
 split at h
 · exact .inl ⟨_,rfl,h⟩
 · exact .inr ⟨_,rfl,h⟩
 · exact h.elim
def oK:List V->Hp->VK->Prop:=fun xs H Q=>match xs with
 | [.int i,.int j]=>Q (.int (if j<i then j else i)) H
 | _=>False
theorem nz (hc:X.calm=true):CallR X (.builtin "min") oK:=(nA hc).imp fun xs H Q h=>by
 unfold oK at h
 split at h
 · exact ⟨_,_,rfl,h⟩
 · exact h.elim
structure FnA (P:Program) (w:World) (K:PySem.W.Frag) (mg:Str->Option Value) (base:Heap) (x:Str) (k:Nat) (ps:List Str) (sp:Sp):Prop where
 ex:∃ f fd,FnOk P w K mg base CX0 k f fd ps sp/\Binds K fd ps []/\PySem.W.keepIn K (.ref f)=true/\mg x=some (.ref f)
def tFn (sp:Sp) (t:TA):TE:=fun σ H Q=>t σ H fun vs H1=>sp vs H1 Q E0
theorem pe_fn {x:Str} {k k':Nat} {ps:List Str} {sp:Sp} {e:Expr} {es:List Expr} {t:TA} {p:Pos} (F:FnA X.prog X.w X.K X.mg X.base x k ps sp) (hr:Room k' X.A) (hk:k<=k') (hg:Gl X x)
 (ha:PA X (e::es) t) (hdb:(x == ("__debug__" : Str))=false:=by decide) (he:starEach (e::es) X.env=(false,eval e X.env)::starEach es X.env:=by rfl) (hpl:(backTo pos (starEach es X.env)).any (·.1)=false:=by rfl) :
 PE X (.Call (.Name x p) (e::es) [] pos) (tFn sp t):=by
 obtain ⟨f,fd,F1,b1,k1,m1⟩:=F.ex
 refine (sx (F1.mono hk) hr hg m1 k1 b1 .nil pass0 ha hdb he hpl).imp fun σ H Q h=>?_
 have e:(fun (vs:List V) (H1:Hp)=>sp (vs++[]) H1 Q E0)=fun vs H1=>sp vs H1 Q E0:=by
  funext vs H1
  rw [List.append_nil]
 show t σ H fun vs H1=>sp (vs++[]) H1 Q E0
 rw [e]
 exact h
theorem aJ {x:Str} {k k':Nat} {ps:List Str} {sp:Sp} {e:Expr} {es:List Expr} {t:TA} {p:Pos} (F:FnA X.prog X.w X.K X.mg X.base x k ps sp) (hr:Room k' X.A) (hk:k<=k') (hg:Gl X x)
 (ha:ZA X (e::es) t) (hdb:(x == ("__debug__" : Str))=false:=by decide) (he:starEach (e::es) X.env=(false,eval e X.env)::starEach es X.env:=by rfl) (hpl:(backTo pos (starEach es X.env)).any (·.1)=false:=by rfl) :
 ZE X (.Call (.Name x p) (e::es) [] pos) (tFn sp t):=by with_unfolding_all exact pe_fn F hr hk hg ha hdb he hpl
end
theorem jL {X:Cx} {x:Str} {T:String} {pos:Pos} (hg:Gl X x) (hm:X.mg x=none) (hv:bootBuiltins x=some (.type T)) (hn:x≠"__name__":=by decide) (hd:(x == ("__debug__" : Str))=false:=by decide):PE X (.Name x pos) (tC (.ty T)):=
 sA hg hm hv (show RelV (.ty T) (.type T) from rfl) hn hd
theorem mJ {p:Prop} [Decidable p] {A B:Prop} (h1:p->A) (h2:¬ p->B):if decide p=true then A else B:=by
 by_cases h:p
 · rw [decide_eq_true h];exact iteT (h1 h)
 · rw [decide_eq_false h];exact iteF (h2 h)
theorem mK {b:Bool} {A B:Prop} (h1:b=true->A) (h2:b=false->B):if b=true then A else B:=by
 cases b with
 | true=>exact iteT (h1 rfl)
 | false=>exact iteF (h2 rfl)
theorem bF:bootBuiltins "isinstance" = some (.builtin "isinstance"):=by decide +kernel
theorem cj:bootBuiltins "sorted" = some (.builtin "sorted"):=by decide +kernel
theorem gP:bootBuiltins "min" = some (.builtin "min"):=by decide +kernel
theorem nR:bootBuiltins "all" = some (.builtin "all"):=by decide +kernel
theorem gQ:bootBuiltins "int" = some (.type "int"):=by decide +kernel
theorem j6:bootBuiltins "bool" = some (.type "bool"):=by decide +kernel
theorem eF:bootBuiltins "tuple" = some (.type "tuple"):=by decide +kernel
theorem dq:bootBuiltins "list" = some (.type "list"):=by decide +kernel
theorem nP:bootBuiltins "str" = some (.type "str"):=by decide +kernel
def oS (K:PySem.W.Frag):List V->Hp->VK->Prop:=fun xs H Q=>match xs with
 | [.ref p]=>∃ bs:List Bool,SqL K H p (bs.map V.bl)/\Q (.bl (bs.all id)) H
 | _=>False
theorem nK {X:Cx} (hc:X.calm=true):CallR X (.builtin "all") (oS X.K):=by
 intro pins s σ H xs us Q I r h
 unfold oS at h
 split at h
 · rename_i p
   obtain ⟨bs,hq,q⟩:=h
   obtain ⟨u,rfl,rx⟩:=bT r
   cases rx
   obtain ⟨its,rv,pl,hz⟩:=I.list hq
   have hlen:its.length=bs.length:=by rw [← rv.length,List.length_map]
   have hlt:p<s.heap.objs.size:=by
    obtain ⟨_,e,_⟩:=pl.isList
    exact Heap.lt_size e
   refine call_all_walk (wpAny_pyIter_list pl.isList ?_)
   have W:Walks X.prog X.w X.A.in1 s.heap.objs.size [s.heap.objs.size,p] [s.heap.objs.size] its.toArray.size _ _:=Walks.list (show X.A.in1.handled=none from I.ok.hd hc) s.heap.objs.size p (Nat.ne_of_lt hlt) its.toArray
   refine ⟨s.heap.objs.size,_,_,_,_,_,fun i=>bs.getD i false,rfl,W,⟨⟨_,Heap.get?_push_size _ rfl,rfl,rfl⟩,pl.isList.push _⟩,?_,fun h' tk hk=>?_⟩
   · intro i v s' Q' E' hP hQ
     have hP':its[i]? = some v:=by simpa using hP
     have hi:i<bs.length:=by rw [← hlen];exact (List.getElem?_eq_some_iff.mp hP').1
     obtain ⟨w',e1,e2⟩:=rv.get (i:=i) (x:=.bl bs[i]) (by rw [List.getElem?_map,List.getElem?_eq_getElem hi];rfl)
     rw [hP'] at e1
     cases e1
     cases e2
     refine wpAny_truthy_bool ?_
     have e:bs.getD i false=bs[i]:=by rw [List.getD_eq_getElem?_getD,List.getElem?_eq_getElem hi];rfl
     have hQ':Q' (bs.getD i false) s':=hQ
     rw [e] at hQ'
     exact hQ'
   · have I1:Inv X pins σ H { s with heap:=h',toks:=tk }:=I.kept fun b o e=>hk b o (by simpa using Nat.ne_of_lt (Heap.lt_size e)) (Heap.get?_push_of_some _ e)
     refine ⟨.bl _,H,I1,rfl,?_⟩
     have e:(List.range its.toArray.size).all (fun i=>bs.getD i false)=bs.all id:=by
      rw [List.size_toArray,hlen]
      have key:∀ l:List Bool,(List.range l.length).all (fun i=>l.getD i false)=l.all id:=by
       intro l
       rw [Bool.eq_iff_iff,List.all_eq_true,List.all_eq_true]
       constructor
       · intro h x hx
         obtain ⟨i,hi,rfl⟩:=List.mem_iff_getElem.mp hx
         have:=h i (List.mem_range.mpr hi)
         rw [List.getD_eq_getElem?_getD,List.getElem?_eq_getElem hi] at this
         exact this
       · intro h i hi
         have hi':=List.mem_range.mp hi
         rw [List.getD_eq_getElem?_getD,List.getElem?_eq_getElem hi']
         exact h _ (List.getElem_mem hi')
      exact key bs
     rw [e]
     exact q
 · exact h.elim
theorem Inv.big {X:Cx} {pins:List (Addr×Obj)} {σ:St} {H:Hp} {s:Shared} (I:Inv X pins σ H s):sysModules<s.heap.objs.size:=by
 have h:mainGlobals<s.heap.objs.size:=(I.mod.glob.keeps I.bk).lt
 exact Nat.lt_trans (by decide) h
def tPar3 (i j k:Nat) (ta:TA):TS:=fun D σ H=>ta σ H fun vs H1=>match vs with | [v,w,z]=>D.nx (((σ.set i (some v)).set j (some w)).set k (some z)) H1 | _=>False
theorem se {X:Cx} {pos:Pos} {i j k:Nat} {x y z:Str} {a b c:Expr} {ta:TA} {px py pz pt:Pos} {kt k2 pt2} (hc:X.calm=true) (hN:X.N.Nodup) (hi:X.N[i]? = some x) (hj:X.N[j]? = some y) (hk:X.N[k]? = some z) (hij:i≠j) (hik:i≠k) (hjk:j≠k)
 (hx:X.env.scope.names.lookup x=some .local) (hy:X.env.scope.names.lookup y=some .local) (hz:X.env.scope.names.lookup z=some .local) (ha:PA X [a,b,c] ta)
 (hw:swappedStores [.Tuple [.Name x px,.Name y py,.Name z pz] kt pt] (.Tuple [a,b,c] k2 pt2) X.env=pure (some [x,y,z]))
 (hs:swapsWithSole [.Tuple [.Name x px,.Name y py,.Name z pz] kt pt] (.Tuple [a,b,c] k2 pt2) pos.line X.env=pure false:=by rfl) :
 PS X (.Assign [.Tuple [.Name x px,.Name y py,.Name z pz] kt pt] (.Tuple [a,b,c] k2 pt2) pos) (tPar3 i j k ta):=by
 intro pins s σ H D I h
 rw [exec_Assign_arm]
 refine wpAny_bind (wpAny_standAt ?_)
 rw [hs]
 refine wpAny_bind (wpAny_pure ?_)
 rw [if_neg (by decide)]
 refine wpAny_bind (Tuple_ (thn (ha _ pins s σ H _ I h) fun us s1 ⟨vs,H1,I1,r1,q1⟩=>?_))
 obtain ⟨v,w,t,e1,q1⟩:∃ v w t,vs=[v,w,t]/\D.nx (((σ.set i (some v)).set j (some w)).set k (some t)) H1:=by
  match vs,q1 with
  | [v,w,t],q1=>exact ⟨v,w,t,rfl,q1⟩
  | [],q1=>exact q1.elim
  | [_],q1=>exact q1.elim
  | [_,_],q1=>exact q1.elim
  | _::_::_::_::_,q1=>exact q1.elim
 subst e1
 obtain ⟨u1,u2,u3,rfl,rv,rw',rz⟩:∃ u1 u2 u3,us=[u1,u2,u3]/\RelV v u1/\RelV w u2/\RelV t u3:=by
  cases r1 with
  | cons p q=>
    cases q with
    | cons p' q'=>
      cases q' with
      | cons p2 q2=>
        cases q2
        exact ⟨_,_,_,rfl,p,p',p2⟩
 refine wpAny_newObj_type ?_ (by show 3<=sizeLine;decide)
 have I2:Inv X pins σ H1 { s1 with heap:=s1.heap.push { cls:=.type "tuple",data:=.seq [u1,u2,u3].toArray } }:=I1.kept (t':=s1.toks) fun b o e=>Heap.get?_push_of_some _ e
 rw [hw]
 refine wpAny_bind (wpAny_pure ?_)
 show wpAny (model X.prog X.w) X.A (do rule "assign.swapped-stores";let items ← unpackItems (.ref s1.heap.objs.size) 3 none;assignInOrder [fun v=>bindName X.env z v,fun v=>bindName X.env y v,fun v=>bindName X.env x v] items.reverse;pure Flow.next) _ _ _
 refine wpAny_bind (wpAny_rule (wpAny_bind (unpackItems_tuple (items:=#[u1,u2,u3]) (I.ok.hd hc) (IsTup.new s1.heap _) fun h' hx'=>?_)))
 have I3:=I2.kept (h':=h') (t':=s1.toks) fun b o e=>hx' b o (Nat.ne_of_lt (Heap.lt_size e)) e
 show wpAny _ _ (assignInOrder [fun v=>bindName X.env z v,fun v=>bindName X.env y v,fun v=>bindName X.env x v] [u3,u2,u1] >>= fun _=>pure Flow.next) _ _ _
 refine wpAny_bind (assignInOrder_cons (wpAny_bindName (bu I3 hN hk (.inl hz) rz (fun s2 I4=>?_) (.inr hz))))
 refine assignInOrder_cons (wpAny_bindName (bu I4 hN hj (.inl hy) rw' (fun s3 I5=>?_) (.inr hy)))
 refine assignInOrder_cons (wpAny_bindName (bu I5 hN hi (.inl hx) rv (fun s4 I6=>assignInOrder_nil (wpAny_pure ?_)) (.inr hx)))
 have e:((σ.set k (some t)).set j (some w)).set i (some v)=((σ.set i (some v)).set j (some w)).set k (some t):=by
  rw [List.set_comm _ _ (Ne.symm hij),List.set_comm _ _ (Ne.symm hik),List.set_comm _ _ (Ne.symm hjk)]
 rw [e] at I6
 exact ⟨_,H1,I6,q1⟩
theorem qW {X:Cx} {pos:Pos} {i j k:Nat} {x y z:Str} {a b c:Expr} {ta:TA} {px py pz pt:Pos} {kt k2 pt2} (hc:X.calm=true) (hN:X.N.Nodup) (hi:X.N[i]? = some x) (hj:X.N[j]? = some y) (hk:X.N[k]? = some z) (hij:i≠j) (hik:i≠k) (hjk:j≠k)
 (hx:X.env.scope.names.lookup x=some .local) (hy:X.env.scope.names.lookup y=some .local) (hz:X.env.scope.names.lookup z=some .local) (ha:ZA X [a,b,c] ta)
 (hw:swappedStores [.Tuple [.Name x px,.Name y py,.Name z pz] kt pt] (.Tuple [a,b,c] k2 pt2) X.env=pure (some [x,y,z]))
 (hs:swapsWithSole [.Tuple [.Name x px,.Name y py,.Name z pz] kt pt] (.Tuple [a,b,c] k2 pt2) pos.line X.env=pure false:=by rfl) :
 ZS X (.Assign [.Tuple [.Name x px,.Name y py,.Name z pz] kt pt] (.Tuple [a,b,c] k2 pt2) pos) (tPar3 i j k ta):=by with_unfolding_all exact se hc hN hi hj hk hij hik hjk hx hy hz ha hw hs
section
variable {X:Cx} {e:Expr} {es:List Expr} {t:TA} {p pos:Pos}
theorem lU (hg:Gl X "len") (hm:X.mg "len" = none) (ha:PA X (e::es) t) (he:starEach (e::es) X.env=(false,eval e X.env)::starEach es X.env) (hpl:(backTo pos (starEach es X.env)).any (·.1)=false) :
 PE X (.Call (.Name "len" p) (e::es) [] pos) (tCB (jG X.K) t):=aY nF hg hm PySem.boot_len ha (by decide) (by decide) he hpl
theorem bo (hg:Gl X "len") (hm:X.mg "len" = none) (ha:ZA X (e::es) t) (he:starEach (e::es) X.env=(false,eval e X.env)::starEach es X.env) (hpl:(backTo pos (starEach es X.env)).any (·.1)=false) :
 ZE X (.Call (.Name "len" p) (e::es) [] pos) (tCB (jG X.K) t):=by with_unfolding_all exact lU hg hm ha he hpl
theorem eQ (hg:Gl X "isinstance") (hm:X.mg "isinstance" = none) (ha:PA X (e::es) t) (he:starEach (e::es) X.env=(false,eval e X.env)::starEach es X.env) (hpl:(backTo pos (starEach es X.env)).any (·.1)=false) :
 PE X (.Call (.Name "isinstance" p) (e::es) [] pos) (tCB oO t):=aY nH hg hm bF ha (by decide) (by decide) he hpl
theorem aB (hg:Gl X "isinstance") (hm:X.mg "isinstance" = none) (ha:ZA X (e::es) t) (he:starEach (e::es) X.env=(false,eval e X.env)::starEach es X.env) (hpl:(backTo pos (starEach es X.env)).any (·.1)=false) :
 ZE X (.Call (.Name "isinstance" p) (e::es) [] pos) (tCB oO t):=by with_unfolding_all exact eQ hg hm ha he hpl
theorem sC (hc:X.calm=true) (hg:Gl X "min") (hm:X.mg "min" = none) (ha:PA X (e::es) t) (he:starEach (e::es) X.env=(false,eval e X.env)::starEach es X.env) (hpl:(backTo pos (starEach es X.env)).any (·.1)=false) :
 PE X (.Call (.Name "min" p) (e::es) [] pos) (tCB oK t):=aY (nz hc) hg hm gP ha (by decide) (by decide) he hpl
theorem kr (hc:X.calm=true) (hg:Gl X "min") (hm:X.mg "min" = none) (ha:ZA X (e::es) t) (he:starEach (e::es) X.env=(false,eval e X.env)::starEach es X.env) (hpl:(backTo pos (starEach es X.env)).any (·.1)=false) :
 ZE X (.Call (.Name "min" p) (e::es) [] pos) (tCB oK t):=by with_unfolding_all exact sC hc hg hm ha he hpl
theorem sF (hc:X.calm=true) (hg:Gl X "all") (hm:X.mg "all" = none) (ha:PA X (e::es) t) (he:starEach (e::es) X.env=(false,eval e X.env)::starEach es X.env) (hpl:(backTo pos (starEach es X.env)).any (·.1)=false) :
 PE X (.Call (.Name "all" p) (e::es) [] pos) (tCB (oS X.K) t):=aY (nK hc) hg hm nR ha (by decide) (by decide) he hpl
theorem kD (hc:X.calm=true) (hg:Gl X "all") (hm:X.mg "all" = none) (ha:ZA X (e::es) t) (he:starEach (e::es) X.env=(false,eval e X.env)::starEach es X.env) (hpl:(backTo pos (starEach es X.env)).any (·.1)=false) :
 ZE X (.Call (.Name "all" p) (e::es) [] pos) (tCB (oS X.K) t):=by with_unfolding_all exact sF hc hg hm ha he hpl
theorem sE (hg:Gl X "int") (hm:X.mg "int" = none) (ha:PA X (e::es) t) (he:starEach (e::es) X.env=(false,eval e X.env)::starEach es X.env) (hpl:(backTo pos (starEach es X.env)).any (·.1)=false) :
 PE X (.Call (.Name "int" p) (e::es) [] pos) (tCB oP t):=bD nJ hg hm gQ ha (by decide) (by decide) he hpl
theorem hV (hg:Gl X "int") (hm:X.mg "int" = none) (ha:ZA X (e::es) t) (he:starEach (e::es) X.env=(false,eval e X.env)::starEach es X.env) (hpl:(backTo pos (starEach es X.env)).any (·.1)=false) :
 ZE X (.Call (.Name "int" p) (e::es) [] pos) (tCB oP t):=by with_unfolding_all exact sE hg hm ha he hpl
theorem lN (hg:Gl X "tuple") (hm:X.mg "tuple" = none) (ha:PA X (e::es) t) (he:starEach (e::es) X.env=(false,eval e X.env)::starEach es X.env) (hpl:(backTo pos (starEach es X.env)).any (·.1)=false) :
 PE X (.Call (.Name "tuple" p) (e::es) [] pos) (tCB (lC X.K) t):=bD nr hg hm eF ha (by decide) (by decide) he hpl
theorem bL (hg:Gl X "tuple") (hm:X.mg "tuple" = none) (ha:ZA X (e::es) t) (he:starEach (e::es) X.env=(false,eval e X.env)::starEach es X.env) (hpl:(backTo pos (starEach es X.env)).any (·.1)=false) :
 ZE X (.Call (.Name "tuple" p) (e::es) [] pos) (tCB (lC X.K) t):=by with_unfolding_all exact lN hg hm ha he hpl
theorem pi (hg:Gl X "list") (hm:X.mg "list" = none) (ha:PA X (e::es) t) (he:starEach (e::es) X.env=(false,eval e X.env)::starEach es X.env) (hpl:(backTo pos (starEach es X.env)).any (·.1)=false) :
 PE X (.Call (.Name "list" p) (e::es) [] pos) (tCB (oM X.K) t):=bD nE hg hm dq ha (by decide) (by decide) he hpl
theorem dC (hg:Gl X "list") (hm:X.mg "list" = none) (ha:ZA X (e::es) t) (he:starEach (e::es) X.env=(false,eval e X.env)::starEach es X.env) (hpl:(backTo pos (starEach es X.env)).any (·.1)=false) :
 ZE X (.Call (.Name "list" p) (e::es) [] pos) (tCB (oM X.K) t):=by with_unfolding_all exact pi hg hm ha he hpl
theorem rV (hg:Gl X "int") (hm:X.mg "int" = none):PE X (.Name "int" pos) (tC (.ty "int")):=jL hg hm gQ (by decide) (by decide)
theorem ke (hg:Gl X "int") (hm:X.mg "int" = none):ZE X (.Name "int" pos) (tC (.ty "int")):=by with_unfolding_all exact rV hg hm
theorem oX (hg:Gl X "bool") (hm:X.mg "bool" = none):PE X (.Name "bool" pos) (tC (.ty "bool")):=jL hg hm j6 (by decide) (by decide)
theorem iO (hg:Gl X "bool") (hm:X.mg "bool" = none):ZE X (.Name "bool" pos) (tC (.ty "bool")):=by with_unfolding_all exact oX hg hm
theorem lD (hg:Gl X "tuple") (hm:X.mg "tuple" = none):PE X (.Name "tuple" pos) (tC (.ty "tuple")):=jL hg hm eF (by decide) (by decide)
theorem bU (hg:Gl X "tuple") (hm:X.mg "tuple" = none):ZE X (.Name "tuple" pos) (tC (.ty "tuple")):=by with_unfolding_all exact lD hg hm
end
section
variable {X:Cx}
theorem Inv.moved {wr:List Addr} {pins:List (Addr×Obj)} {σ:St} {H:Hp} {s s':Shared} {h2:Heap} {t2:Nat} (I:Inv X pins σ H s) (m:Moved wr (fun a b=>b=a) { s with heap:=h2,toks:=t2 } s') (hk:∀ b o,s.heap.get? b=some o->b∉wr/\h2.get? b=some o):Inv X pins σ H s':=by
 have e:s'={ s with heap:=s'.heap,toks:=s'.toks }:=by
  obtain ⟨_,h2,h3,h4,_⟩:=m
  cases s'
  simp only at h2 h3 h4
  subst h2 h3 h4
  rfl
 rw [e]
 exact I.kept fun b o q=>m.heap b o (hk b o q).1 (hk b o q).2
def jF (K:PySem.W.Frag):List V->Hp->VK->Prop:=fun xs H Q=>match xs with
 | [.ref p]=>∃ ns:List Int,(SqL K H p (ns.map V.int)\/H p=some (.tup (ns.map V.int)))/\Q (.int ns.sum) H
 | _=>False
theorem fo {f g:Nat->Int}:∀ n,(∀ i,i<n->f i=g i)->preSum f n=preSum g n
 | 0,_=>rfl
 | n+1,h=>by
   show preSum f n+f n=preSum g n+g n
   rw [fo n fun i hi=>h i (by lia),h n (by lia)]
theorem dX (f:Nat->Int):∀ n,preSum f (n+1)=f 0+preSum (fun i=>f (i+1)) n
 | 0=>by show (0:Int)+f 0=f 0+0;lia
 | n+1=>by
   show preSum f (n+1)+f (n+1)=f 0+(preSum (fun i=>f (i+1)) n+f (n+1))
   rw [dX f n];lia
theorem cz:∀ ns:List Int,preSum (fun i=>ns.getD i 0) ns.length=ns.sum
 | []=>rfl
 | n::r=>by
   rw [List.length_cons,dX,List.sum_cons]
   have e:preSum (fun i=>(n::r).getD (i+1) 0) r.length=preSum (fun i=>r.getD i 0) r.length:=fo _ fun i _=>by simp
   rw [e,cz r]
   rfl
theorem bJ {ns:List Int} {its:List Value} (rv:Vals (ns.map V.int) its) {i:Nat} {v:Value} (h:its.toArray[i]? = some v):∃ t,v=.int (ns.getD i 0) t:=by
 have h':its[i]? = some v:=by simpa using h
 have hl:its.length=ns.length:=by rw [← rv.length,List.length_map]
 have hi:i<ns.length:=by rw [← hl];exact (List.getElem?_eq_some_iff.mp h').1
 obtain ⟨w',e1,t,e2⟩:=rv.get (i:=i) (x:=.int ns[i]) (by rw [List.getElem?_map,List.getElem?_eq_getElem hi];rfl)
 rw [h'] at e1
 cases e1
 refine ⟨t,?_⟩
 rw [e2,List.getD_eq_getElem?_getD,List.getElem?_eq_getElem hi]
 rfl
theorem nu (hc:X.calm=true):CallR X (.builtin "sum") (jF X.K):=by
 intro pins s σ H xs us Q I r h
 unfold jF at h
 split at h
 · rename_i p
   obtain ⟨ns,hq,q⟩:=h
   obtain ⟨u,rfl,rx⟩:=bT r
   cases rx
   have hh:X.A.in1.handled=none:=I.ok.hd hc
   rcases hq with hq | hq
   · obtain ⟨its,rv,pl,hz⟩:=I.list hq
     have hlt:p<s.heap.objs.size:=by
      obtain ⟨_,e,_⟩:=pl.isList
      exact Heap.lt_size e
     refine call_sum_walkAnyS (wpAny_pyIter_list pl.isList ?_)
     refine ⟨s.heap.objs.size,_,_,_,_,_,_,fun i=>ns.getD i 0,rfl,(Walks.list hh s.heap.objs.size p (Nat.ne_of_lt hlt) its.toArray).toS,⟨⟨_,Heap.get?_push_size _ rfl,rfl,rfl⟩,pl.isList.push _⟩,?_,fun i v hv=>bJ rv hv,fun s' t' m=>?_⟩
     · intro b hb
       rw [Heap.size_push]
       rcases List.mem_cons.mp hb with rfl | hb
       · exact Nat.lt_succ_self _
       · rcases List.mem_cons.mp hb with rfl | hb
         · exact Nat.lt_succ_of_lt hlt
         · cases hb
     · have I1:Inv X pins σ H s':=I.moved m fun b o e=>⟨by simpa using Nat.ne_of_lt (Heap.lt_size e),Heap.get?_push_of_some _ e⟩
       refine ⟨.int _,H,I1,⟨t',rfl⟩,?_⟩
       rw [List.size_toArray,← rv.length,List.length_map,cz]
       exact q
   · obtain ⟨its,rv,pl,hz⟩:=I.tuple (SqT.of hq)
     have hlt:p<s.heap.objs.size:=pl.lt
     refine call_sum_walkAnyS (wpAny_pyIter_tuple (show s.heap.IsTuple p its.toArray from pl) ?_)
     refine ⟨s.heap.objs.size,_,_,_,_,_,_,fun i=>ns.getD i 0,rfl,(Walks.tuple hh s.heap.objs.size p (Nat.ne_of_lt hlt) its.toArray).toS,⟨⟨_,Heap.get?_push_size _ rfl,rfl,rfl⟩,?_⟩,?_,fun i v hv=>bJ rv hv,fun s' t' m=>?_⟩
     · exact IsTup.keeps pl fun b o e=>Heap.get?_push_of_some _ e
     · intro b hb
       rw [Heap.size_push]
       rcases List.mem_cons.mp hb with rfl | hb
       · exact Nat.lt_succ_self _
       · rcases List.mem_cons.mp hb with rfl | hb
         · exact Nat.lt_succ_of_lt hlt
         · cases hb
     · have I1:Inv X pins σ H s':=I.moved m fun b o e=>⟨by simpa using Nat.ne_of_lt (Heap.lt_size e),Heap.get?_push_of_some _ e⟩
       refine ⟨.int _,H,I1,⟨t',rfl⟩,?_⟩
       rw [List.size_toArray,← rv.length,List.length_map,cz]
       exact q
 · exact h.elim
def iZ (K:PySem.W.Frag):List V->Hp->VK->Prop:=fun xs H Q=>match xs with
 | [.int i,.int j]=>Q (.int (if j > i then j else i)) H
 | [.ref p]=>∃ ns:List Int,(SqL K H p (ns.map V.int)\/H p=some (.tup (ns.map V.int)))/\ns≠[]/\∀ M,M∈ns->(∀ n∈ns,n<=M)->Q (.int M) H
 | _=>False
theorem tM {ns:List Int} (h:ns≠[]):ns.getD (argBest (fun i j=>decide (ns.getD i 0 > ns.getD j 0)) (ns.length - 1)) 0∈ns/\∀ n∈ns,n<=ns.getD (argBest (fun i j=>decide (ns.getD i 0 > ns.getD j 0)) (ns.length - 1)) 0:=by
 have hp:0<ns.length:=List.length_pos_iff.mpr h
 obtain ⟨h1,h2⟩:=argBest_gt (fun i=>ns.getD i 0) (ns.length - 1)
 have hlt:argBest (fun i j=>decide (ns.getD i 0 > ns.getD j 0)) (ns.length - 1)<ns.length:=by lia
 refine ⟨?_,fun n hn=>?_⟩
 · rw [List.getD_eq_getElem?_getD,List.getElem?_eq_getElem hlt]
   exact List.getElem_mem hlt
 · obtain ⟨i,hi,rfl⟩:=List.mem_iff_getElem.mp hn
   have:=h2 i (by lia)
   have e:ns.getD i 0=ns[i]:=by rw [List.getD_eq_getElem?_getD,List.getElem?_eq_getElem hi];rfl
   rw [e] at this
   exact this
theorem nB (hc:X.calm=true):CallR X (.builtin "max") (iZ X.K):=by
 intro pins s σ H xs us Q I r h
 unfold iZ at h
 split at h
 · exact nC hc pins s σ H _ us Q I r ⟨_,_,rfl,h⟩
 · rename_i p
   obtain ⟨ns,hq,hne,q⟩:=h
   obtain ⟨u,rfl,rx⟩:=bT r
   cases rx
   have hh:X.A.in1.handled=none:=I.ok.hd hc
   have hb:=tM hne
   rcases hq with hq | hq
   · obtain ⟨its,rv,pl,hz⟩:=I.list hq
     have hlen:its.length=ns.length:=by rw [← rv.length,List.length_map]
     have hlt:p<s.heap.objs.size:=by
      obtain ⟨_,e,_⟩:=pl.isList
      exact Heap.lt_size e
     refine call_max_walk (wpAny_pyIter_list pl.isList ?_)
     refine ⟨s.heap.objs.size,_,_,_,_,_,_,rfl,Walks.list hh s.heap.objs.size p (Nat.ne_of_lt hlt) its.toArray,⟨⟨_,Heap.get?_push_size _ rfl,rfl,rfl⟩,pl.isList.push _⟩,?_,?_,CmpOf.ints_gt (fun i=>ns.getD i 0) (fun i v hv=>bJ rv hv),fun v h' tk hv hk=>?_⟩
     · intro b hb
       rw [Heap.size_push]
       rcases List.mem_cons.mp hb with rfl | hb
       · exact Nat.lt_succ_self _
       · rcases List.mem_cons.mp hb with rfl | hb
         · exact Nat.lt_succ_of_lt hlt
         · cases hb
     · rw [List.size_toArray,hlen];exact List.length_pos_iff.mpr hne
     · obtain ⟨t,rfl⟩:=bJ rv hv
       refine ⟨.int _,H,I.kept fun b o e=>hk b o (by simpa using Nat.ne_of_lt (Heap.lt_size e)) (Heap.get?_push_of_some _ e),⟨t,rfl⟩,?_⟩
       rw [List.size_toArray,hlen]
       exact q _ hb.1 hb.2
   · obtain ⟨its,rv,pl,hz⟩:=I.tuple (SqT.of hq)
     have hlen:its.length=ns.length:=by rw [← rv.length,List.length_map]
     have hlt:p<s.heap.objs.size:=pl.lt
     refine call_max_walk (wpAny_pyIter_tuple (show s.heap.IsTuple p its.toArray from pl) ?_)
     refine ⟨s.heap.objs.size,_,_,_,_,_,_,rfl,Walks.tuple hh s.heap.objs.size p (Nat.ne_of_lt hlt) its.toArray,⟨⟨_,Heap.get?_push_size _ rfl,rfl,rfl⟩,IsTup.keeps pl fun b o e=>Heap.get?_push_of_some _ e⟩,?_,?_,CmpOf.ints_gt (fun i=>ns.getD i 0) (fun i v hv=>bJ rv hv),fun v h' tk hv hk=>?_⟩
     · intro b hb
       rw [Heap.size_push]
       rcases List.mem_cons.mp hb with rfl | hb
       · exact Nat.lt_succ_self _
       · rcases List.mem_cons.mp hb with rfl | hb
         · exact Nat.lt_succ_of_lt hlt
         · cases hb
     · rw [List.size_toArray,hlen];exact List.length_pos_iff.mpr hne
     · obtain ⟨t,rfl⟩:=bJ rv hv
       refine ⟨.int _,H,I.kept fun b o e=>hk b o (by simpa using Nat.ne_of_lt (Heap.lt_size e)) (Heap.get?_push_of_some _ e),⟨t,rfl⟩,?_⟩
       rw [List.size_toArray,hlen]
       exact q _ hb.1 hb.2
 · exact h.elim
theorem dB:fillsNumberSlot (.type "tuple") "mul" = pure false:=
 PySem.fillsNumberSlot_seq (id:="tuple.__mul__") (r:=some (.builtin "tuple.__rmul__")) F.slot_tuple_mul.lookup (by decide +kernel) F.slot_tuple_rmul.lookup (by decide +kernel)
theorem gr:seqRepeat? (.type "tuple")=pure (some (.builtin "tuple.__mul__")):=by
 unfold seqRepeat?
 rw [PySem.seqSlot_of (T:="tuple") (name:="__mul__") (id:="tuple.__mul__") F.slot_tuple_mul.lookup (by decide +kernel),PySem.seqSlot_of (T:="tuple") (name:="__rmul__") (id:="tuple.__rmul__") F.slot_tuple_rmul.lookup (by decide +kernel)]
 rfl
theorem eV (a:Int) (t:Tok) (l:Addr) (items:Array Value) (n:Nat) :
 Meets (Builtin.«int.__rmul__» ⟨[.int a t,.ref l],[]⟩) (fun _ R s=>s.heap.get? l=some { cls:=.type "tuple",dict:=none,data:=.seq items n,slots:=#[] }/\R (.ok (.ret Value.notImplemented)) s):=
 .of_wp fun prog w A R s h=>by obtain ⟨hp,g,d,tk,os⟩:=s;obtain ⟨hl,h⟩:=h;wp_walk;exact ⟨_,rfl,h⟩
theorem eL (l:Addr) (items:Array Value) (n:Nat) (x:Int) (u:Tok) (h1:(decide (x < -(2 ^ 63))||decide (x>=2 ^ 63))=false) (h2:(items.isEmpty||x == 1)=true) :
 Meets (Builtin.«tuple.__mul__» ⟨[.ref l,.int x u],[]⟩) (fun _ R s=>s.heap.get? l=some { cls:=.type "tuple",dict:=none,data:=.seq items n,slots:=#[] }/\R (.ok (.ret (.ref l))) s):=
 .of_wp fun prog w A R s h=>by
  obtain ⟨hp,g,d,tk,os⟩:=s;obtain ⟨hl,h⟩:=h
  wp_walk;refine wpAny_ite_false (by rw [h1];rfl) ?_;wp_walk;exact ⟨_,rfl,h⟩
theorem eM (l:Addr) (items:Array Value) (n:Nat) (x:Int) (u:Tok) (h1:(decide (x < -(2 ^ 63))||decide (x>=2 ^ 63))=false) (h2:(items.isEmpty||x == 1)=false) (h3:(decide (x<=0)||items.isEmpty)=true) :
 Meets (Builtin.«tuple.__mul__» ⟨[.ref l,.int x u],[]⟩) (fun _ R s=>s.heap.get? l=some { cls:=.type "tuple",dict:=none,data:=.seq items n,slots:=#[] }/\R (.ok (.ret (.ref s.heap.objs.size))) { s with heap:=s.heap.push { cls:=.type "tuple",data:=.seq #[] } }):=
 .of_wp fun prog w A R s h=>by
  obtain ⟨hp,g,d,tk,os⟩:=s;obtain ⟨hl,h⟩:=h
  wp_walk;refine wpAny_ite_false (by rw [h1];rfl) ?_;wp_walk;exact ⟨_,rfl,h⟩
theorem eO (l:Addr) (items:Array Value) (n:Nat) (x:Int) (u:Tok) (h1:(decide (x < -(2 ^ 63))||decide (x>=2 ^ 63))=false) (h2:(items.isEmpty||x == 1)=false) (h3:(decide (x<=0)||items.isEmpty)=false) (h4:decide ((items.size:Int)*x > (2 ^ 63 - 1) / 8)=false) (h5:Builtin.Tuple.tupleTooMany ((items.size:Int)*x)=false) (hz:((List.replicate x.toNat items).foldl (·++·) #[]).size<=sizeLine) :
 Meets (Builtin.«tuple.__mul__» ⟨[.ref l,.int x u],[]⟩) (fun _ R s=>s.heap.get? l=some { cls:=.type "tuple",dict:=none,data:=.seq items n,slots:=#[] }/\R (.ok (.ret (.ref s.heap.objs.size))) { s with heap:=s.heap.push { cls:=.type "tuple",data:=.seq ((List.replicate x.toNat items).foldl (·++·) #[]) } }):=
 .of_wp fun prog w A R s h=>by
  obtain ⟨hp,g,d,tk,os⟩:=s;obtain ⟨hl,h⟩:=h
  wp_walk;refine wpAny_ite_false (by rw [h1];rfl) ?_;wp_walk;refine wpAny_ite_false h4 ?_;wp_walk;exact ⟨_,rfl,h⟩
end
section
variable {X:Cx}
def rMulQ:R2:=fun x y H Q=>match x,y with
 | .int i,.int j=>IntMulOk i j/\Q (.int (i*j)) H
 | .ref a,.int k=>(-(2 ^ 63)<=k/\k<2 ^ 63)/\((∃ xs,H a=some (.lst xs)/\xs.length*k.toNat<=sizeLine/\∀ p,H p=none->Q (.ref p) (upd H p (.lst (List.replicate k.toNat xs).flatten))) \/
  ∃ xs,H a=some (.tup xs)/\xs.length*k.toNat<=sizeLine/\∀ r H',Same H H'->H' r=some (.tup (List.replicate k.toNat xs).flatten)->Q (.ref r) H')
 | _,_=>False
theorem aF:OpR X (binaryOp .Mult) rMulQ:=by
 intro pins s σ H x y v u Q I rx ry h
 unfold rMulQ at h
 split at h
 · exact sK pins s σ H _ _ v u Q I rx ry ⟨_,_,rfl,rfl,h⟩
 · obtain ⟨⟨hk1,hk2⟩,⟨xs,h1,h4,q⟩ | ⟨xs,hH,hz,q⟩⟩:=h
   · exact op_rep pins s σ H _ _ v u Q I rx ry ⟨_,_,xs,rfl,rfl,h1,hk1,hk2,h4,q⟩
   rename_i l k
   cases rx
   obtain ⟨t,rfl⟩:=ry
   obtain ⟨z,its,r,n,e⟩:=I.hok l _ hH
   have hl:its.length=xs.length:=r.length.symm
   have hemp:its.toArray.isEmpty=xs.isEmpty:=by
    cases r <;> rfl
   have g1:(decide (k < -(2 ^ 63))||decide (k>=2 ^ 63))=false:=by
    rw [Bool.or_eq_false_iff]
    exact ⟨decide_eq_false (by lia),decide_eq_false (by lia)⟩
   refine wpAny_binaryOp_repeat_ref (T:="tuple") (U:="int") (by decide) ⟨_,e,rfl⟩ (fun s'=>typeIs_int s' k t) dB F.fills_int_mul F.slot_int_rmul gr F.slot_int_index.lookup
    (call_meets F.slot_int_rmul (typeIs_int s k t) F.entry_int_rmul (F.args_int_rmul_2 _ _) (eV k t l its.toArray n) ⟨e,rfl,⟨_,e,rfl⟩,?_⟩)
   by_cases c1:(its.toArray.isEmpty||k == 1)=true
   · refine call_meets F.slot_tuple_mul ⟨_,e,rfl⟩ F.entry_tuple_mul (F.args_tuple_mul_2 _ _) (eL l its.toArray n k t g1 c1) ⟨e,?_⟩
     refine ⟨.ref l,H,I,rfl,q l H (Same.refl H) ?_⟩
     rw [hH]
     rw [Bool.or_eq_true] at c1
     rcases c1 with c1 | c1
     · rw [hemp,List.isEmpty_iff] at c1
       subst c1
       have:(List.replicate k.toNat ([]:List V)).flatten=[]:=by
        induction k.toNat with
        | zero=>rfl
        | succ m ih=>rw [List.replicate_succ,List.flatten_cons,ih];rfl
       rw [this]
     · have:k=1:=by simpa using c1
       subst this
       show some (HO.tup xs)=some (.tup (List.replicate 1 xs).flatten)
       simp
   · have c1':(its.toArray.isEmpty||k == 1)=false:=by simpa using c1
     have he:its.toArray.isEmpty=false:=(Bool.or_eq_false_iff.mp c1').1
     by_cases c2:k<=0
     · refine call_meets F.slot_tuple_mul ⟨_,e,rfl⟩ F.entry_tuple_mul (F.args_tuple_mul_2 _ _) (eM l its.toArray n k t g1 c1' (by rw [decide_eq_true c2];rfl)) ⟨e,?_⟩
       have e0:(List.replicate k.toNat xs).flatten=[]:=by
        have:k.toNat=0:=by lia
        rw [this];rfl
       have I2:Inv X pins σ (upd H s.heap.objs.size (.tup [])) { s with heap:=s.heap.push { cls:=.type "tuple",data:=.seq #[] } }:=
        I.laid (t':=s.toks) (o:=.tup []) (fun b ob q=>Heap.get?_push_of_some _ q) (Nat.le_refl _) ⟨Nat.zero_le _,[],.nil,TupD.new _ _⟩
       exact ⟨.ref s.heap.objs.size,_,I2,rfl,q _ _ (Same.new (I.hok.fresh (Nat.le_refl _)) _) (by rw [e0];exact ad)⟩
     · have hcast:(its.toArray.size:Int)*k=((xs.length*k.toNat:Nat):Int):=by
        rw [List.size_toArray,hl]
        have:k=(k.toNat:Int):=by lia
        conv=>lhs;rw [this]
        norm_cast
       have hb:(sizeLine:Nat)<=(2 ^ 63 - 1) / 8:=by decide
       have g4:decide ((its.toArray.size:Int)*k > (2 ^ 63 - 1) / 8)=false:=by
        refine decide_eq_false ?_
        rw [hcast]
        lia
       have g5:Builtin.Tuple.tupleTooMany ((its.toArray.size:Int)*k)=false:=by
        unfold Builtin.Tuple.tupleTooMany
        rw [hcast]
        exact decide_eq_false (by lia)
       have f0:List.foldl (fun x1 x2=>x1++x2) #[] (List.replicate k.toNat its.toArray)=(List.replicate k.toNat its).flatten.toArray:=by
        have:=ej its k.toNat []
        rw [List.nil_append] at this
        exact this
       refine call_meets F.slot_tuple_mul ⟨_,e,rfl⟩ F.entry_tuple_mul (F.args_tuple_mul_2 _ _) (eO l its.toArray n k t g1 c1' (by rw [decide_eq_false c2,he];rfl) g4 g5 (by rw [f0,List.size_toArray,iG,hl,Nat.mul_comm];exact hz)) ⟨e,?_⟩
       rw [f0]
       have I2:Inv X pins σ (upd H s.heap.objs.size (.tup (List.replicate k.toNat xs).flatten)) { s with heap:=s.heap.push { cls:=.type "tuple",data:=.seq (List.replicate k.toNat its).flatten.toArray } }:=
        I.laid (t':=s.toks) (o:=.tup (List.replicate k.toNat xs).flatten) (fun b ob q=>Heap.get?_push_of_some _ q) (Nat.le_refl _) ⟨by rw [iG,Nat.mul_comm];exact hz,_,r.rep k.toNat,TupD.new _ _⟩
       exact ⟨.ref s.heap.objs.size,_,I2,rfl,q _ _ (Same.new (I.hok.fresh (Nat.le_refl _)) _) ad⟩
 · exact h.elim
theorem ik {a b c:Int} (hc:c≠0):0<=Builtin.Range.rangeSize a b c:=by
 unfold Builtin.Range.rangeSize
 split
 · split
   · have:=Int.ediv_nonneg (a:=b - a - 1) (b:=c) (by lia) (by lia);lia
   · lia
 · split
   · have:=Int.ediv_nonneg (a:=a - b - 1) (b:=-c) (by lia) (by lia);lia
   · lia
end
section
variable {X:Cx} {e:Expr} {es:List Expr} {t:TA} {p pos:Pos}
theorem nO:bootBuiltins "sum" = some (.builtin "sum"):=by decide +kernel
theorem nQ:bootBuiltins "max" = some (.builtin "max"):=by decide +kernel
theorem nS:bootBuiltins "abs" = some (.builtin "abs"):=by decide +kernel
theorem lO (hc:X.calm=true) (hg:Gl X "sum") (hm:X.mg "sum" = none) (ha:PA X (e::es) t) (he:starEach (e::es) X.env=(false,eval e X.env)::starEach es X.env) (hpl:(backTo pos (starEach es X.env)).any (·.1)=false) :
 PE X (.Call (.Name "sum" p) (e::es) [] pos) (tCB (jF X.K) t):=aY (nu hc) hg hm nO ha (by decide) (by decide) he hpl
theorem de (hc:X.calm=true) (hg:Gl X "sum") (hm:X.mg "sum" = none) (ha:ZA X (e::es) t) (he:starEach (e::es) X.env=(false,eval e X.env)::starEach es X.env) (hpl:(backTo pos (starEach es X.env)).any (·.1)=false) :
 ZE X (.Call (.Name "sum" p) (e::es) [] pos) (tCB (jF X.K) t):=by with_unfolding_all exact lO hc hg hm ha he hpl
theorem sD (hc:X.calm=true) (hg:Gl X "max") (hm:X.mg "max" = none) (ha:PA X (e::es) t) (he:starEach (e::es) X.env=(false,eval e X.env)::starEach es X.env) (hpl:(backTo pos (starEach es X.env)).any (·.1)=false) :
 PE X (.Call (.Name "max" p) (e::es) [] pos) (tCB (iZ X.K) t):=aY (nB hc) hg hm nQ ha (by decide) (by decide) he hpl
theorem ku (hc:X.calm=true) (hg:Gl X "max") (hm:X.mg "max" = none) (ha:ZA X (e::es) t) (he:starEach (e::es) X.env=(false,eval e X.env)::starEach es X.env) (hpl:(backTo pos (starEach es X.env)).any (·.1)=false) :
 ZE X (.Call (.Name "max" p) (e::es) [] pos) (tCB (iZ X.K) t):=by with_unfolding_all exact sD hc hg hm ha he hpl
def oT:List V->Hp->VK->Prop:=fun xs H Q=>match xs with
 | [.int i]=>Q (.int (if i<0 then -i else i)) H
 | _=>False
theorem nL:CallR X (.builtin "abs") oT:=call_abs.imp fun xs H Q h=>by
 unfold oT at h
 split at h
 · exact ⟨_,rfl,h⟩
 · exact h.elim
theorem sH (hg:Gl X "abs") (hm:X.mg "abs" = none) (ha:PA X (e::es) t) (he:starEach (e::es) X.env=(false,eval e X.env)::starEach es X.env) (hpl:(backTo pos (starEach es X.env)).any (·.1)=false) :
 PE X (.Call (.Name "abs" p) (e::es) [] pos) (tCB oT t):=aY nL hg hm nS ha (by decide) (by decide) he hpl
theorem q5 (hg:Gl X "abs") (hm:X.mg "abs" = none) (ha:ZA X (e::es) t) (he:starEach (e::es) X.env=(false,eval e X.env)::starEach es X.env) (hpl:(backTo pos (starEach es X.env)).any (·.1)=false) :
 ZE X (.Call (.Name "abs" p) (e::es) [] pos) (tCB oT t):=by with_unfolding_all exact sH hg hm ha he hpl
def oR:V->List V->Hp->VK->Prop:=fun x vs H Q=>match x,vs with
 | .ref l,[y]=>∃ xs,H l=some (.lst xs)/\xs.length<sizeLine/\Q .non (upd H l (.lst (xs++[y])))
 | _,_=>False
theorem sV:MtM X "list.append" oR:=fun pins s σ H x vs v us Q I rx rv h=>by
 unfold oR at h
 split at h
 · obtain ⟨xs,h1,h2,q⟩:=h
   exact mh pins s σ H _ _ v us Q I rx rv ⟨_,xs,_,rfl,rfl,h1,h2,q⟩
 · exact h.elim
variable {o:Expr} {to:TE} {apos cpos:Pos}
theorem lK (ho:PE X o to) (ha:PA X (e::es) t) (hbase:attributeBase o "append" X.env (eval o X.env)=eval o X.env:=by rfl)
 (hfew:((backTo cpos (starEach (e::es) X.env)).all (fun x=>!x.1)&&(backToKw cpos (keywordEach [] X.env)).all (fun x=>x.1.isSome)
   && decide ((e::es).length+([]:List Keyword).length+(if ([]:List Keyword).isEmpty then 0 else 1)<30))=true:=by rfl)
 (hline:(apos.endLine == cpos.line)=true:=by rfl) (hs:starEach (e::es) X.env=(false,eval e X.env)::starEach es X.env:=by rfl) (hplain:(backTo cpos (starEach es X.env)).any (·.1)=false:=by rfl) :
 PE X (.Call (.Attribute o "append" apos) (e::es) [] cpos) (fun σ H Q=>to σ H fun x H1=>tyV X.K "list" x H1/\t σ H1 fun xs H2=>oR x xs H2 Q):=
 sy PySem.F.plainAttrs_list PySem.F.slot_list_append PySem.F.type_list_append sV ho ha hbase hfew hline hs hplain
theorem cI (ho:ZE X o to) (ha:ZA X (e::es) t) (hbase:attributeBase o "append" X.env (eval o X.env)=eval o X.env:=by rfl)
 (hfew:((backTo cpos (starEach (e::es) X.env)).all (fun x=>!x.1)&&(backToKw cpos (keywordEach [] X.env)).all (fun x=>x.1.isSome)
   && decide ((e::es).length+([]:List Keyword).length+(if ([]:List Keyword).isEmpty then 0 else 1)<30))=true:=by rfl)
 (hline:(apos.endLine == cpos.line)=true:=by rfl) (hs:starEach (e::es) X.env=(false,eval e X.env)::starEach es X.env:=by rfl) (hplain:(backTo cpos (starEach es X.env)).any (·.1)=false:=by rfl) :
 ZE X (.Call (.Attribute o "append" apos) (e::es) [] cpos) (fun σ H Q=>to σ H fun x H1=>tyV X.K "list" x H1/\t σ H1 fun xs H2=>oR x xs H2 Q):=by with_unfolding_all exact lK ho ha hbase hfew hline hs hplain
theorem tyL {K:PySem.W.Frag} {H:Hp} {l:Addr} {xs:List V} (h:H l=some (.lst xs)):tyV K "list" (.ref l) H:=.inl ⟨rfl,xs,SqL.of h⟩
end
theorem DatV.ints {H:Hp} {a:Addr} {ns:List Int} (e:H a=some (.tup (ns.map V.int))):DatV H (.ref a) (.tuple (ns.map PyData.int)):=.tup e (DatAll.ints ns)
theorem Same.updN {H H':Hp} {t:Addr} {o:HO} (y:Same H H') (h:H t=none):Same H (upd H' t o):=fun b u e=>by
 rw [am (aV e h)]
 exact y b u e
theorem fZ:∀ ns:List Int,PyData.canLayAll0 (ns.map PyData.int)=true/\PyData.depthAll (ns.map PyData.int)<=1
 | []=>⟨by simp [PyData.canLayAll0],by simp [PyData.depthAll]⟩
 | n::r=>by
   obtain ⟨h1,h2⟩:=fZ r
   refine ⟨by simp only [List.map_cons,PyData.canLayAll0,PyData.canLay0,h1,Bool.and_self],?_⟩
   simp only [List.map_cons,PyData.depthAll,PyData.depth]
   lia
theorem aP (ns:List Int):SeqAt.shaped (.tuple (ns.map PyData.int))=true:=by
 obtain ⟨h1,h2⟩:=fZ ns
 unfold SeqAt.shaped
 rw [Bool.and_eq_true]
 exact ⟨by simp only [PyData.canLay0];exact h1,decide_eq_true (by simp only [PyData.depth];lia)⟩
theorem aR (ns:List Int):SeqAt.shaped (.list (ns.map PyData.int))=true:=by
 obtain ⟨h1,h2⟩:=fZ ns
 unfold SeqAt.shaped
 rw [Bool.and_eq_true]
 exact ⟨by simp only [PyData.canLay0];exact h1,decide_eq_true (by simp only [PyData.depth];lia)⟩
theorem dL {d:PyData} (h:SeqAt.shaped d=true):PyData.eqv d d=true:=SeqAt.eqv_refl d (SeqAt.canLay_of_shaped h)
theorem SqL.same {K:PySem.W.Frag} {H H':Hp} {a:Addr} {xs:List V} (e:Same H H') (h:SqL K H a xs):SqL K H' a xs:=by
 rcases h with (h | ⟨o,h⟩) | h
 · exact .inl (.inl (e _ _ h))
 · exact .inl (.inr ⟨o,e _ _ h⟩)
 · exact .inr h
theorem ge {c:TT} {tb:TS} {D:Ends} {σ:St} {H:Hp} (Pv:Nat->St->Hp->Prop) (m0:Nat) (h0:Pv m0 σ H)
 (hs:∀ m σ H,Pv m σ H->c σ H fun b H1=>if b=true then ∃ N:St->Hp->Prop,(∀ σ' H',N σ' H'->∃ m',m' < m/\Pv m' σ' H')/\tb { D with nx:=N,ct:=N,bk:=D.nx } σ H1 else D.nx σ H1):kO c tb D σ H:=⟨Pv,⟨m0,h0⟩,hs⟩
theorem DatV.listInts {H:Hp} {a:Addr} {ns:List Int} (e:H a=some (.lst (ns.map V.int))):DatV H (.ref a) (.list (ns.map PyData.int)):=.lst e (DatAll.ints ns)
section
variable {X:Cx} {e:Expr} {es:List Expr} {t:TA} {p pos:Pos} {K:PySem.W.Frag} {o:Expr} {to:TE} {apos cpos:Pos}
theorem pj (hg:Gl X "len") (hm:X.mg "len" = none) (ha:PA X (e::es) t) (he:starEach (e::es) X.env=(false,eval e X.env)::starEach es X.env) (hpl:(backTo pos (starEach es X.env)).any (·.1)=false) (hK:X.K=K) :
 PE X (.Call (.Name "len" p) (e::es) [] pos) (tCB (jG K) t):=by subst hK;exact lU hg hm ha he hpl
theorem dE (hg:Gl X "len") (hm:X.mg "len" = none) (ha:ZA X (e::es) t) (he:starEach (e::es) X.env=(false,eval e X.env)::starEach es X.env) (hpl:(backTo pos (starEach es X.env)).any (·.1)=false) (hK:X.K=K) :
 ZE X (.Call (.Name "len" p) (e::es) [] pos) (tCB (jG K) t):=by with_unfolding_all exact pj hg hm ha he hpl hK
theorem ph (hc:X.calm=true) (hg:Gl X "sum") (hm:X.mg "sum" = none) (ha:PA X (e::es) t) (he:starEach (e::es) X.env=(false,eval e X.env)::starEach es X.env) (hpl:(backTo pos (starEach es X.env)).any (·.1)=false) (hK:X.K=K) :
 PE X (.Call (.Name "sum" p) (e::es) [] pos) (tCB (jF K) t):=by subst hK;exact lO hc hg hm ha he hpl
theorem oj (hc:X.calm=true) (hg:Gl X "sum") (hm:X.mg "sum" = none) (ha:ZA X (e::es) t) (he:starEach (e::es) X.env=(false,eval e X.env)::starEach es X.env) (hpl:(backTo pos (starEach es X.env)).any (·.1)=false) (hK:X.K=K) :
 ZE X (.Call (.Name "sum" p) (e::es) [] pos) (tCB (jF K) t):=by with_unfolding_all exact ph hc hg hm ha he hpl hK
end
end L2
namespace L2
open PySem
def dj:Stmt->List Stmt
 | .For _ _ b _ _=>b
 | .While _ b _ _=>b
 | _=>[]
end L2
namespace L2
open PySem PySem.Spec PyProof.Rows
section
variable {M:Model} {A:Around} {E:Value->Shared->Prop} {s:Shared}
theorem sT {scope:Scope} {globals:Addr} {cl:List (Str×Addr)} {qual:Str} {env:Env} {x:Str} {Q:Env->Shared->Prop}
 (hcl:∀ n acc,cellsFrom n scope.names acc=(x,n)::acc) (hpc:∀ h:Heap,pushCells h scope.names=h.push { cls:=.type "cell",data:=.cell none })
 (h:Q { scope,locals:=s.heap.objs.size,globals,cells:=(x,s.heap.objs.size+1)::cl,qual,func:=none,code:=env.code,frame:=env.frame,builtins:=env.builtins }
   { s with heap:=(s.heap.push { cls:=.type "dict",data:=.dict #[] }).push { cls:=.type "cell",data:=.cell none } }) :
 wpAny M A (newFunctionEnv scope globals cl [] qual none .none (some env)) Q E s:=by
 simp only [newFunctionEnv,Option.isSome_some,if_true]
 refine wpAny_bind (wpAny_alloc ?_)
 refine wpAny_bind (wpAny_layCells _ (fun name kind cells=>by cases hkc:kind == NameKind.cell <;> simp [hkc]) _ _ _ _ ?_)
 rw [hcl,hpc,show ({ s with heap:=s.heap.push { cls:=.type "dict",data:=.dict #[] } }:Shared).heap.objs.size=s.heap.objs.size+1 from Heap.size_push ..]
 rw [List.forIn_nil]
 exact wpAny_bind (wpAny_pure (wpAny_pure h))
end
def da (X:Cx) (x:Str) (scope:Scope) (C:Addr):List (Str×Addr):=(x,C+1)::ci X.env scope.names []
def bp (X:Cx) (x:Str) (nv:List Str) (ix:List (Str×Nat)) (scope:Scope) (C:Addr) (s₀:Shared) (H₀:Hp) (fp:List Addr):Cx:=
 { X with N:=nv++ix.map (·.1),s₀:=s₀,H₀:=H₀,env:={ compEnvC scope (ci X.env scope.names []) C X.env with cells:=da X x scope C },outer:=X.stack,stack:=X.stack,ex:=fp,fn:=fun y=>y == x,pn:=[],xe:=fun _ _=>False }
structure CompOk1 (X:Cx) (x:Str) (nv:List Str) (ix:List (Str×Nat)) (scope:Scope):Prop where
 kind:scope.kind=.function
 names:∀ y∈scope.names,y.2=.local->scope.names.lookup y.1=some .local
 free:(scope.names.all fun y=>!(y.2 == NameKind.free)||((X.env.kindOf y.1 == some NameKind.cell||X.env.kindOf y.1 == some NameKind.free)&&!(y.1 == x)))=true
 ix:(ix.all fun p=>(scope.names.lookup p.1 == some NameKind.free)&&(X.N[p.2]? == some p.1))=true
 cl:∀ n acc,cellsFrom n scope.names acc=(x,n)::acc
 pc:∀ h:Heap,pushCells h scope.names=h.push { cls:=.type "cell",data:=.cell none }
 own:(scope.names.all fun y=>!(y.2 == NameKind.cell)||(y.1 == x))=true
section
variable {X:Cx} {x:Str} {nv:List Str} {ix:List (Str×Nat)} {scope:Scope} {pins:List (Addr×Obj)} {σ:St} {H:Hp} {s:Shared}
theorem CompOk1.fk (co:CompOk1 X x nv ix scope) {y:Str×NameKind} (hy:y∈scope.names) (hf:y.2=.free):(X.env.kindOf y.1=some .cell\/X.env.kindOf y.1=some .free)/\y.1≠x:=by
 have q:=List.all_eq_true.mp co.free y hy
 rw [hf] at q
 simpa using q
theorem CompOk1.cells (co:CompOk1 X x nv ix scope) (ok:X.Ok):∀ y∈scope.names,y.2=.free->∃ c,X.env.cells.lookup y.1=some c:=fun y hy hf=>ok.has y.1 (co.fk hy hf).1
theorem CompOk1.look0 (co:CompOk1 X x nv ix scope) (ok:X.Ok) {n:Str} {c:Addr} (h:(ci X.env scope.names []).lookup n=some c):X.env.cells.lookup n=some c:=
 dm _ _ (co.cells ok) (fun _ _ e=>by cases e) n c h
theorem CompOk1.look (co:CompOk1 X x nv ix scope) (ok:X.Ok) {n:Str} {c C:Addr} (h:(da X x scope C).lookup n=some c):(n=x/\c=C+1)\/X.env.cells.lookup n=some c:=by
 unfold da at h
 rw [List.lookup_cons] at h
 cases e:n == x with
 | true=>rw [e] at h;cases h;exact .inl ⟨by simpa using e,rfl⟩
 | false=>rw [e] at h;exact .inr (co.look0 ok h)
theorem CompOk1.ixp (co:CompOk1 X x nv ix scope) {p:Str×Nat} (hp:p∈ix):scope.names.lookup p.1=some .free/\X.N[p.2]? = some p.1:=by
 have q:=Bool.and_eq_true_iff.mp (List.all_eq_true.mp co.ix p hp)
 exact ⟨by simpa using q.1,by simpa using q.2⟩
theorem CompOk1.isx (co:CompOk1 X x nv ix scope) {y:Str} (hy:(y,NameKind.cell)∈scope.names):y=x:=by
 have q:=List.all_eq_true.mp co.own _ hy
 simpa using q
theorem fv (co:CompOk1 X x nv ix scope) {y:Str} {C:Addr} (hy:(y,NameKind.free)∈scope.names):∃ c,(da X x scope C).lookup y=some c:=by
 unfold da
 rw [List.lookup_cons]
 cases e:y == x with
 | true=>exact ⟨_,rfl⟩
 | false=>exact cZ _ _ y (.inl hy)
theorem qf (co:CompOk1 X x nv ix scope) (I:Inv X pins σ H s) {fp:List Addr} {C:Addr} (hC:s.heap.objs.size<=C) (hf:∀ b∈fp,cx X pins H b) (hlt:∀ b∈fp,b<s.heap.objs.size):(bp X x nv ix scope C s H fp).Ok where
 mod:=I.mod
 kind:=co.kind
 glob:=I.ok.glob
 blt:=I.ok.blt
 above:=hC
 inj:=fun y z c a b=>by
  have low:∀ {n:Str},X.env.cells.lookup n=some c->c=C+1->False:=fun {n} e q=>by
   obtain ⟨v,o,e1,_⟩:=I.cell n c e
   have:=Heap.lt_size e1
   rw [q] at this
   exact Nat.lt_irrefl _ (Nat.lt_of_lt_of_le (Nat.lt_of_succ_lt this) hC)
  rcases co.look I.ok a with ⟨h1,h2⟩ | h1 <;> rcases co.look I.ok b with ⟨g1,g2⟩ | g1
  · rw [h1,g1]
  · exact (low g1 h2).elim
  · exact (low h1 g2).elim
  · exact I.ok.inj y z c h1 g1
 has:=fun y hk=>by
  have z:(y,NameKind.free)∈scope.names\/y=x:=by
   rcases hk with hk | hk
   · obtain ⟨k,h1,_,h3⟩:=cy (env:=X.env) (names:=scope.names) hk
     rcases h3 with h3 | ⟨h3,_⟩
     · rw [← h3] at h1;exact .inr (co.isx h1)
     · rw [h3] at h1;exact .inl h1
   · obtain ⟨k,h1,_,h3⟩:=cy (env:=X.env) (names:=scope.names) hk
     rcases h3 with h3 | ⟨_,h3⟩
     · rw [← h3] at h1;exact .inl h1
     · cases h3
  rcases z with z | rfl
  · exact fv co z
  · refine ⟨C+1,?_⟩
    show (da X y scope C).lookup y=_
    unfold da
    simp
 cab:=fun y c h e=>by
  rcases co.look I.ok e with ⟨_,h2⟩ | h2
  · rw [h2];exact Nat.le_succ_of_le hC
  · have hy:y=x:=by simpa [bp] using h
    have e':(da X x scope C).lookup y=some c:=e
    unfold da at e'
    rw [hy] at e'
    have:c=C+1:=by simpa using e'.symm
    rw [this];exact Nat.le_succ_of_le hC
 hd:=I.ok.hd
 frames:=I.ok.frames
 stk:=.inl rfl
 exf:=fun b hb=>⟨Nat.ne_of_lt (Nat.lt_of_lt_of_le (hlt b hb) hC),fun y c e=>by
  rcases co.look I.ok e with ⟨_,h2⟩ | h2
  · have:=hlt b hb
    intro z
    rw [← z,h2] at this
    exact Nat.lt_irrefl _ (Nat.lt_of_lt_of_le (Nat.lt_of_succ_lt this) hC)
  · exact (hf b hb).2.2.2.2.1 y c h2⟩
 bs:=fun b o e=>I.bs b o e
 bsz:=Nat.le_trans I.ok.bsz I.sz
 noex:=fun b o e hb=>by
  rcases (hf b hb).2.2.2.1 with z | z
  · exact I.ok.noex b o e z
  · exact absurd (Nat.lt_of_lt_of_le (Heap.lt_size e) (Nat.le_trans I.ok.bsz z)) (Nat.lt_irrefl _)
 exfs:=fun b hb hs=>by
  rcases List.mem_cons.mp (I.stkSub b hs) with e | h
  · exact (hf b hb).2.1 e
  · exact (hf b hb).2.2.1 h
 funs:=I.stack
 frf:=I.stkFree
theorem jW (co:CompOk1 X x nv ix scope) (I:Inv X pins σ H s) {fp:List Addr} {h₁:Heap} {tk:Nat} {m:Str->Option Value} (hf:∀ b∈fp,cx X pins H b) (hlt:∀ b∈fp,b<s.heap.objs.size)
 (hn:h₁.Ns (s.heap.objs.size+1) m) (old:∀ b o,s.heap.get? b=some o->h₁.get? b=some o) (hD:h₁.get? s.heap.objs.size=some (bA [] 0)) (hce:h₁.IsCell (s.heap.objs.size+1+1) none) :
 Inv (bp X x nv ix scope (s.heap.objs.size+1) s H fp) [(s.heap.objs.size,bA [] 0)] (st0 nv ix σ) H { s with heap:=h₁,toks:=tk } where
 ok:=qf co I (Nat.le_succ _) hf hlt
 os:=rfl
 bare:=I.bare
 base:=Un.kept old
 loc:=by
  refine ⟨m,hn,fun i y v e1 e2 hv=>?_⟩
  obtain ⟨m₀,_,hl⟩:=I.loc
  have e1':(nv++ix.map (·.1))[i]? = some y:=e1
  unfold st0 at e2
  by_cases hi:i<nv.length
  · rw [List.getElem?_append_left (by rw [List.length_map];exact hi),List.getElem?_map] at e2
    cases q:nv[i]? with
    | none=>rw [q] at e2;cases e2
    | some z=>rw [q] at e2;cases e2
  · have hi':nv.length<=i:=Nat.not_lt.mp hi
    rw [List.getElem?_append_right hi',List.getElem?_map] at e1'
    rw [List.getElem?_append_right (by rw [List.length_map];exact hi'),List.length_map] at e2
    unfold frV at e2
    rw [List.getElem?_map] at e2
    cases q:ix[i - nv.length]? with
    | none=>rw [q] at e1';cases e1'
    | some p=>
      rw [q] at e1' e2
      have hp:p∈ix:=List.mem_of_getElem? q
      have ex:p.1=y:=Option.some.inj e1'
      have ev:σ[p.2]? = some (some v):=gC (Option.some.inj e2)
      obtain ⟨f1,f2⟩:=co.ixp hp
      obtain ⟨hk,hpx⟩:=co.fk (bN f1) rfl
      obtain ⟨u,r,l⟩:=hl p.2 p.1 v f2 ev (hk.elim (fun z=>.inr (.inl z)) fun z=>.inr (.inr z))
      refine ⟨u,r,.inr ⟨?_,?_⟩⟩
      · obtain ⟨k',hk'⟩:=lw (env:=X.env) f1
        obtain ⟨k,h1,h2,h3⟩:=cy hk'
        rw [f1] at h2
        cases h2
        rw [← ex]
        rcases h3 with h3 | ⟨_,h3⟩
        · exact .inr (hk'.trans (congrArg some h3))
        · exact .inl (hk'.trans (congrArg some h3))
      · obtain ⟨c,hc⟩:=fv (C:=s.heap.objs.size+1) co (bN f1)
        refine ⟨c,by rw [← ex];exact hc,?_⟩
        have hc':X.env.cells.lookup p.1=some c:=by
         rcases co.look I.ok hc with ⟨z,_⟩ | z
         · exact absurd z hpx
         · exact z
        rcases l with ⟨z,_⟩ | ⟨_,c',z1,o,z2,z3⟩
        · have z':X.env.kindOf p.1=some .local:=z
          rcases hk with hk | hk
          · have hk':X.env.kindOf p.1=some .cell:=hk
            rw [z'] at hk';cases hk'
          · have hk':X.env.kindOf p.1=some .free:=hk
            rw [z'] at hk';cases hk'
        · rw [hc'] at z1
          cases z1
          exact ⟨o,old _ _ z2,z3⟩
 cell:=fun y c e=>by
  rcases co.look I.ok e with ⟨_,h2⟩ | h2
  · rw [h2];exact ⟨_,hce⟩
  · obtain ⟨v,o,h1,h2⟩:=I.cell y c h2
    exact ⟨v,o,old _ _ h1,h2⟩
 free:=I.hok.fresh (Nat.le_succ _)
 freeC:=fun y c e=>by
  rcases co.look I.ok e with ⟨_,h2⟩ | h2
  · rw [h2];exact I.hok.fresh (by lia)
  · exact I.freeC y c h2
 pin:=fun p hp=>by
  have e:p=(s.heap.objs.size,bA [] 0):=by simpa [bp] using hp
  subst e
  refine ⟨hD,I.hok.fresh (Nat.le_refl _),Nat.ne_of_lt (Nat.lt_succ_self _),fun hb=>?_,fun v z=>by cases z⟩
  rcases List.mem_cons.mp (I.stkSub _ hb) with e | h
  · exact absurd I.lt (by rw [← e];exact Nat.lt_irrefl _)
  · exact I.nofs (Nat.le_refl _) h
 hok:=I.hok.kept old
 len:=by
  show (nv.map (fun _=>none)++frV σ ix).length=(nv++ix.map (·.1)).length
  unfold frV
  simp
theorem qe {ps2:List (Addr×Obj)} {σ2:St} {H':Hp} {s':Shared} {fp:List Addr} {C:Addr} (I:Inv X pins σ H s) (hf:∀ b∈fp,cx X pins H b) (Ic:Inv (bp X x nv ix scope C s H fp) ps2 σ2 H' s'):Inv X pins σ H' s':=
 I.call' (ch:=fp) Ic.os Ic.base Ic.hok Ic.bare fun b hb=>⟨(hf b hb).2.2.2.1,(hf b hb).2.1,(hf b hb).2.2.2.2.1,(hf b hb).2.2.2.2.2⟩
end
section
variable {X:Cx} {x:Str} {nv:List Str} {ix:List (Str×Nat)} {scope:Scope} {pins:List (Addr×Obj)} {σ:St} {H:Hp} {s:Shared} {elt tg iter:Expr} {ifs:List Expr} {pos:Pos}
theorem nh {J:It} {fp:List Addr} {it:Addr} {tn:Nat->Heap->Prop} {g:TG} {ti:TT} {te:TE} {Fin:List V->Hp->Prop} {E:Value->Shared->Prop} {RR:Value->Addr->Result->Shared->Prop}
 (co:CompOk1 X x nv ix scope) (hc:X.calm=true) (I:Inv X pins σ H s) (T:Turn X.prog X.w X.K tg J fp it tn) (st:tn 0 s.heap) (hf:∀ b∈fp,cx X pins H b)
 (kg:KpG nv g) (hg:∀ C s₀ H₀ fp,PG (bp X x nv ix scope C s₀ H₀ fp) tg g) (hi:∀ C s₀ H₀ fp,PIf (bp X x nv ix scope C s₀ H₀ fp) ifs ti) (he:∀ C s₀ H₀ fp,PE (bp X x nv ix scope C s₀ H₀ fp) elt te)
 (q:n5 nv ix g ti te σ J Fin H)
 (fin:∀ D C s' H' ys,Inv X pins σ (upd H' D (.lst ys)) s'->H' D=none->Fin ys H'->(∃ m,s'.heap.Ns C m)->cx X pins (upd H' D (.lst ys)) C->RR (.ref D) C (.ok .next) s') :
 wpAny (model X.prog X.w) X.A (newList []) (fun acc s₃=>wpAny (model X.prog X.w) X.A (newFunctionEnv scope X.env.globals (ci X.env scope.names []) [] X.env.qual none .none (some X.env)) (fun cenv s₄=>
  codeAny (model X.prog X.w) X.A (.compStart (.ListComp elt [⟨tg,iter,ifs,0⟩] scope pos) 0 (.ref it) acc { cenv with scope:=relabel scope X.env }) (RR acc cenv.locals) s₄) E s₃) E s:=by
 obtain ⟨W,⟨m0,w0⟩,turn⟩:=q
 refine wpAny_newObj_type (sT (x:=x) co.cl co.pc ?_)
 dsimp only
 generalize hH2:s.heap.push { cls:=.type "list",dict:=none,data:=.seq ([]:List Value).toArray }=H2
 have hC:H2.objs.size=s.heap.objs.size+1:=by rw [← hH2,Heap.size_push]
 rw [hC]
 generalize hh1:(H2.push { cls:=.type "dict",data:=.dict #[] }).push { cls:=.type "cell",data:=.cell none }=h₁
 have hns₁:h₁.Ns (s.heap.objs.size+1) (fun _=>none):=by
  rw [← hh1,← hC]
  exact (Heap.Ns.new H2 (.type "dict")).keeps fun b o e=>Heap.get?_push_of_some _ e
 have hcell:h₁.IsCell (s.heap.objs.size+1+1) none:=by
  rw [← hh1,← hC]
  have e:(H2.push { cls:=.type "dict",data:=.dict #[] }).objs.size=H2.objs.size+1:=Heap.size_push ..
  rw [← e]
  exact ⟨_,Heap.get?_push_size _ rfl,rfl⟩
 have hDC:s.heap.objs.size≠s.heap.objs.size+1:=Nat.ne_of_lt (Nat.lt_succ_self _)
 have below:∀ b,b<s.heap.objs.size->b≠s.heap.objs.size+1/\b≠s.heap.objs.size:=fun b hb=>⟨Nat.ne_of_lt (Nat.lt_succ_of_lt hb),Nat.ne_of_lt hb⟩
 have old:∀ b o,s.heap.get? b=some o->h₁.get? b=some o:=fun b o e=>by
  rw [← hh1,← hH2]
  exact Heap.get?_push_of_some _ (Heap.get?_push_of_some _ (Heap.get?_push_of_some _ e))
 have hacc:h₁.get? s.heap.objs.size=some (bA [] 0):=by
  rw [← hh1,← hH2]
  exact Heap.get?_push_of_some _ (Heap.get?_push_of_some _ (Heap.get?_push_size _ rfl))
 have hlt:∀ b∈fp,b<s.heap.objs.size:=fun b hb=>by
  obtain ⟨o,e,_⟩:=T.obj 0 _ st b hb
  exact Heap.lt_size e
 have I₁:=fun tk=>jW (tk:=tk) co I hf hlt hns₁ old hacc hcell
 have st₁:tn 0 h₁:=T.keep 0 _ _ st fun b _ o e=>old b o e
 have fpD:∀ {H':Hp},H' s.heap.objs.size=none->cx X pins H' s.heap.objs.size:=fun hn=>I.fpOk (Nat.le_refl _) hn
 have loop:∀ tk:Nat,codeAny (model X.prog X.w) X.A (.compLoop (.ListComp elt [⟨tg,iter,ifs,0⟩] scope pos) 0 (.ref it) (.ref s.heap.objs.size) (bp X x nv ix scope (s.heap.objs.size+1) s H fp).env)
  (RR (.ref s.heap.objs.size) (s.heap.objs.size+1)) { s with heap:=h₁,toks:=tk }:=by
  intro tk
  refine eD (fun n s'=>∃ i H' ys its k,Inv (bp X x nv ix scope (s.heap.objs.size+1) s H fp) [(s.heap.objs.size,bA its k)] (st0 nv ix σ) H' s'/\Vals ys its/\ys.length<=sizeLine/\tn i s'.heap/\(∀ b∈fp,H' b=none)/\W i n ys H')
   ?_ m0 ⟨0,H,[],[],0,I₁ tk,.nil,Nat.zero_le _,st₁,fun b hb=>(hf b hb).1,w0⟩
  rintro n s3 ⟨i,H3,ys,its,k,I3,rv,hz,st3,fr3,w3⟩
  have fpc:∀ {H':Hp} {its:List Value} {k:Nat},(∀ b∈fp,H' b=none)->∀ b∈fp,cx (bp X x nv ix scope (s.heap.objs.size+1) s H fp) [(s.heap.objs.size,bA its k)] H' b:=fun {H' its k} hn b hb=>by
   refine ⟨hn b hb,(below b (hlt b hb)).1,fun hs=>?_,.inl hb,fun y c e=>?_,fun p hp z=>?_⟩
   · rcases List.mem_cons.mp (I.stkSub b hs) with e | h
     · exact (hf b hb).2.1 e
     · exact (hf b hb).2.2.1 h
   · rcases co.look I.ok e with ⟨_,h2⟩ | h2
     · have:=hlt b hb
       intro z
       rw [← z,h2] at this
       exact Nat.lt_irrefl _ (Nat.lt_of_succ_lt (Nat.lt_of_succ_lt this))
     · exact (hf b hb).2.2.2.2.1 y c h2
   · have e:p=(s.heap.objs.size,bA its k):=by simpa [bp] using hp
     subst e
     exact (below b (hlt b hb)).2 z.symm
  have pD:=fun {ps:List (Addr×Obj)} {σ':St} {H':Hp} {s':Shared} (I':Inv (bp X x nv ix scope (s.heap.objs.size+1) s H fp) ((s.heap.objs.size,bA its k)::ps) σ' H' s')=>
   I'.pin (s.heap.objs.size,bA its k) (List.mem_append_right _ List.mem_cons_self)
  rcases turn i n ys H3 w3 with ⟨stop,fin0⟩ | ⟨go,hlt',N,hN,step⟩
  · refine thn (T.done (bp X x nv ix scope (s.heap.objs.size+1) s H fp) rfl rfl rfl hc i _ s3 _ H3 _ I3 (fpc fr3) st3 stop) fun r s4 ⟨hr,I4⟩=>?_
    subst hr
    obtain ⟨p1,p2,_⟩:=pD I4
    have I5:=(qe I hf I4).track rv hz p1 p2 (fpD p2)
    obtain ⟨mC,hmC,_⟩:=I4.loc
    exact fin _ _ s4 H3 ys I5 p2 fin0 ⟨mC,hmC⟩ (I.fpOk (Nat.le_succ _) (by rw [am (Ne.symm hDC)];exact I4.free))
  · refine thn (T.item (bp X x nv ix scope (s.heap.objs.size+1) s H fp) rfl rfl rfl hc i _ s3 _ H3 _ I3 (fpc fr3) st3 go) fun r s4 ⟨u,hr,h4⟩=>?_
    subst hr
    refine thn h4 fun _ s5 ⟨z,H5,I5,r5,y5,st5,fr5⟩=>?_
    have I5':=I5.pinned (fpc fr5) (T.obj _ _ st5)
    refine thn (hg _ _ _ _ _ s5 _ H5 z u _ I5' r5 (kg _ _ _ _ (step z H5 y5))) fun _ s6 ⟨σ6,H6,I6,kp,q6⟩=>?_
    refine thn (hi _ _ _ _ _ s6 σ6 H6 _ I6 q6) fun b s7 ⟨H7,I7,q7⟩=>?_
    have again:∀ {s7:Shared} {H7:Hp} {ys' its':List _} {k':Nat},Inv (bp X x nv ix scope (s.heap.objs.size+1) s H fp) ([(s.heap.objs.size,bA its' k')]++bh fp s5.heap) σ6 H7 s7->Vals ys' its'->ys'.length<=sizeLine->N ys' H7 ->
     ∃ m,m<n/\∃ i H' ys its k,Inv (bp X x nv ix scope (s.heap.objs.size+1) s H fp) [(s.heap.objs.size,bA its k)] (st0 nv ix σ) H' s7/\Vals ys its/\ys.length<=sizeLine/\tn i s7.heap/\(∀ b∈fp,H' b=none)/\W i m ys H':=fun {s7 H7 ys' its' k'} I8 rv' hz' n8=>by
     obtain ⟨m',hm,w8⟩:=hN _ _ n8
     have pn:=fun (b:Addr) (o:Obj) (hb:b∈fp) (e:s5.heap.get? b=some o)=>I8.pin (b,o) (List.mem_append_right _ (List.mem_append_right _ (bz hb e)))
     refine ⟨m',hm,i+1,H7,ys',its',k',(I8.unpinned).weak kp.1 kp.2,rv',hz',T.keep _ _ _ st5 fun b hb o e=>(pn b o hb e).1,fun b hb=>?_,w8⟩
     obtain ⟨o,e,d⟩:=T.obj _ _ st5 b hb
     exact (pn b o hb e).2.1
    cases b with
    | false=>
      rw [if_neg Bool.false_ne_true] at q7 ⊢
      exact again I7 rv hz q7
    | true=>
      rw [if_pos rfl] at q7 ⊢
      refine thn (he _ _ _ _ _ s7 σ6 H7 _ I7 q7) fun u8 s8 ⟨y,H8,I8,r8,q8⟩=>?_
      obtain ⟨p1,p2,p3,p4,p5⟩:=pD I8
      refine append_at (hsz:=by rw [List.size_toArray,← rv.length];exact Nat.le_of_lt hlt') p1 fun h9 hs9 hD9=>?_
      have I9:Inv (bp X x nv ix scope (s.heap.objs.size+1) s H fp) (bh fp s5.heap) σ6 H8 { s8 with heap:=h9 }:=by
       have Iu:Inv (bp X x nv ix scope (s.heap.objs.size+1) s H fp) (bh fp s5.heap) σ6 H8 s8:=I8.pins_of fun p hp=>I8.pin p (List.mem_append_right _ (List.mem_append_right _ hp))
       refine Iu.turned (t':=s8.toks) (it:=s.heap.objs.size) (fun b o hb e=>(hs9.2 b hb).trans e) p2 p3 (.inr (Nat.le_refl _)) (fun y c e z=>?_) fun p hp z=>?_
       · rcases co.look I.ok e with ⟨_,h2⟩ | h2
         · rw [h2] at z
           exact Nat.lt_irrefl s.heap.objs.size (by have:s.heap.objs.size<s.heap.objs.size+1+1:=Nat.lt_succ_of_lt (Nat.lt_succ_self _);rw [z] at this;exact this)
         · obtain ⟨v,o,e1,_⟩:=I.cell y c h2
           exact absurd (Heap.lt_size e1) (by rw [z];exact Nat.lt_irrefl _)
       · have hp':p∈bh fp s5.heap:=by simpa [bp] using hp
         obtain ⟨hb,_⟩:=cc hp'
         exact (below _ (hlt _ hb)).2 z
      have I10:Inv (bp X x nv ix scope (s.heap.objs.size+1) s H fp) ([(s.heap.objs.size,bA (its++[u8]) (k+1))]++bh fp s5.heap) σ6 H8 { s8 with heap:=h9 }:=
       I9.pins_of fun p hp=>by
        rcases List.mem_append.mp hp with hp | hp
        · have e:p=(s.heap.objs.size,bA (its++[u8]) (k+1)):=by simpa using hp
          subst e
          refine ⟨?_,p2,p3,p4,fun v z=>by cases z⟩
          rw [List.push_toArray] at hD9
          exact hD9
        · exact I9.pin p (List.mem_append_right _ hp)
      exact again I10 (rv.append (.cons r8 .nil)) (by rw [List.length_append,List.length_singleton];exact hlt') q8
 exact codeAny_compStart_list (loop _) (T.self _ 0 _ _ _ st₁ (loop _))
theorem pf {wi:TI} {g:TG} {ti:TT} {te:TE} (x:Str) (nv:List Str) (ix:List (Str×Nat)) (hc:X.calm=true) (co:CompOk1 X x nv ix scope) (hit:PI X tg iter wi) (kg:KpG nv g) (hg:∀ C s₀ H₀ fp,PG (bp X x nv ix scope C s₀ H₀ fp) tg g)
 (hi:∀ C s₀ H₀ fp,PIf (bp X x nv ix scope C s₀ H₀ fp) ifs ti) (he:∀ C s₀ H₀ fp,PE (bp X x nv ix scope C s₀ H₀ fp) elt te)
 (hs:∀ y,foldedSetIterable iter X.env y=pure y:=by intro _;rfl):PE X (.ListComp elt [⟨tg,iter,ifs,0⟩] scope pos) (jD nv ix wi g ti te):=by
 intro pins s σ H Q I h
 rw [eval_ListComp]
 refine wpAny_comprehension_free (use:=none) rfl hs (cr (co.cells I.ok)) co.kind co.names (thn (hit pins s σ H _ I h) fun v s1 h1=>thn h1 fun itv s2 h2=>?_)
 obtain ⟨it,fp,tn,J,H2,e,I2,T,st2,f2,q⟩:=h2
 subst e
 refine nh co hc I2 T st2 f2 kg hg hi he q fun D C s' H' ys I' hD fin ⟨m,hm⟩ hC=>?_
 obtain ⟨c0,c1,c2,c3,c4,c5⟩:=hC
 exact ⟨m,hm,fun h' hs'=>⟨.ref D,_,I'.turned (t':=s'.toks) (fun b o hb e=>(hs'.2 b hb).trans e) c0 c1 c3 c4 c5,rfl,fin D hD⟩⟩
theorem oi {wi:TI} {g:TG} {ti:TT} {te:TE} (x:Str) (nv:List Str) (ix:List (Str×Nat)) (hc:X.calm=true) (co:CompOk1 X x nv ix scope) (hit:ZI X tg iter wi) (kg:KpG nv g) (hg:∀ C s₀ H₀ fp,ZG (bp X x nv ix scope C s₀ H₀ fp) tg g)
 (hi:∀ C s₀ H₀ fp,ZIf (bp X x nv ix scope C s₀ H₀ fp) ifs ti) (he:∀ C s₀ H₀ fp,ZE (bp X x nv ix scope C s₀ H₀ fp) elt te)
 (hs:∀ y,foldedSetIterable iter X.env y=pure y:=by intro _;rfl):ZE X (.ListComp elt [⟨tg,iter,ifs,0⟩] scope pos) (jD nv ix wi g ti te):=by with_unfolding_all exact pf x nv ix hc co hit kg hg hi he hs
end
section
variable {X:Cx} {K:PySem.W.Frag}
theorem o5 {tg l:Expr} {tl:TE} (hl:PE X l tl) (h:X.K=K):PI X tg l (pQ K tl):=by subst h;exact lM hl
theorem n9 {tg l:Expr} {tl:TE} (hl:ZE X l tl) (h:X.K=K):ZI X tg l (pQ K tl):=by with_unfolding_all exact o5 hl h
end
section
variable {prog:Program} {w:World} {A:Around} {E:Value->Shared->Prop} {s:Shared}
theorem dY {it t:Addr} {i:Nat} {items:Array Value} {x:Value} {Q:Value->Shared->Prop} (hit:s.heap.IsTupleIter it t i) (ht:s.heap.IsTuple t items) (hx:items[i]? = some x)
 (hQ:∀ h',h'.IsTupleIter it t (i+1)->Heap.SameBut it s.heap h'->Q x { s with heap:=h' }):wpAny (model prog w) A (Builtin.SmallTypes.nextOf (.ref it)) Q E s:=by
 obtain ⟨ot,h1,c1,d1⟩:=id hit
 obtain ⟨og,h2,c2,n2,d2⟩:=ht
 unfold Builtin.SmallTypes.nextOf
 refine wpAny_bind (wpAny_callSpecial?_slot hit.typeIs F.slot_tuple_iterator_next (wpAny_call_entry F.slot_tuple_iterator_next hit.typeIs F.entry_tuple_iterator_next ?_ (F.args_tuple_iterator_next_1 _)))
 refine wpAny_bind (m:=field (.ref it) 0) (wpAny_field h1 d1 (x:=.ref t) rfl ?_)
 have hnn:¬ ((Value.ref t == Value.none)=true):=fun z=>Bool.false_ne_true z
 show wpAny _ _ (if (Value.ref t == Value.none)=true then _ else _) _ _ _
 rw [if_neg hnn]
 refine wpAny_bind (m:=field (.ref it) 1) (wpAny_field h1 d1 (x:=.int i 0) rfl (wpAny_bind (m:=seqItems? (.ref t)) (wpAny_seqItems h2 d2 ?_)))
 simp only [Int.toNat_natCast,hx]
 refine wpAny_bind (wpAny_setField h1 d1 (by simp) (wpAny_pure ⟨_,rfl,wpAny_pure (hQ _ ⟨_,Heap.get?_update_self _ h1 (Obj.isFreed_of_fields (Obj.data_mapFields d1 _)),(Obj.cls_mapFields ..).trans c1,?_⟩ (Heap.SameBut.update ..))⟩))
 rw [Obj.data_mapFields d1]
 simp [rawInt]
theorem eU {it t:Addr} {i:Nat} {items:Array Value} {Q:Value->Shared->Prop} (hh:A.handled=none) (hit:s.heap.IsTupleIter it t i) (ht:s.heap.IsTuple t items) (hx:items[i]? = none)
 (hE:∀ h' e,Heap.ExtBut it s.heap h'->(∃ o,h'.get? e=some o/\o.cls=.type "StopIteration")->E (.ref e) { s with heap:=h' }):wpAny (model prog w) A (Builtin.SmallTypes.nextOf (.ref it)) Q E s:=by
 obtain ⟨ot,h1,c1,d1⟩:=id hit
 obtain ⟨og,h2,c2,n2,d2⟩:=ht
 unfold Builtin.SmallTypes.nextOf
 refine wpAny_bind (wpAny_callSpecial?_slot hit.typeIs F.slot_tuple_iterator_next (wpAny_call_entry F.slot_tuple_iterator_next hit.typeIs F.entry_tuple_iterator_next ?_ (F.args_tuple_iterator_next_1 _)))
 refine wpAny_bind (m:=field (.ref it) 0) (wpAny_field h1 d1 (x:=.ref t) rfl ?_)
 have hnn:¬ ((Value.ref t == Value.none)=true):=fun z=>Bool.false_ne_true z
 show wpAny _ _ (if (Value.ref t == Value.none)=true then _ else _) _ _ _
 rw [if_neg hnn]
 refine wpAny_bind (m:=field (.ref it) 1) (wpAny_field h1 d1 (x:=.int i 0) rfl (wpAny_bind (m:=seqItems? (.ref t)) (wpAny_seqItems h2 d2 ?_)))
 simp only [Int.toNat_natCast,hx]
 refine wpAny_bind (wpAny_rule (wpAny_bind (wpAny_setField h1 d1 (by simp) (wpAny_bind (m:=newExc (.type "StopIteration") []) ?_))))
 simp only [newExc,newTuple,raiseNew]
 refine wpAny_bind (wpAny_newObj_type (wpAny_bind (m:=firstArgMember _ _) (wpAny_of_eq (a:=Value.none) (by first | rfl | (simp only [firstArgMember];rfl)) (wpAny_newObj_type (wpAny_bind (wpAny_handled ?_)) (by size_fits)))) (by size_fits))
 first | rw [show A.in1.handled=none from hh] | rw [hh]
 exact wpAny_bind (wpAny_pure (wpAny_throw (hE _ _ (((Heap.SameBut.update ..).extBut.push _).push _) ⟨_,Heap.get?_push_size _ rfl,rfl⟩)))
end
section
variable {X:Cx} {pins:List (Addr×Obj)} {σ:St} {H:Hp} {s:Shared}
theorem Inv.turned2 {h':Heap} {t':Nat} {e it:Addr} (I:Inv X pins σ H s) (hk:∀ b o,b≠e->b≠it->s.heap.get? b=some o->h'.get? b=some o) (fe:cx X pins H e) (fi:cx X pins H it):Inv X pins σ H { s with heap:=h',toks:=t' }:=by
 have ne:∀ {b},b∉[e,it]->b≠e/\b≠it:=fun {b} hb=>⟨fun z=>hb (by simp [z]),fun z=>hb (by simp [z])⟩
 refine I.step (g':=s.gens) (d':=s.drawn) (ch:=[e,it]) (fun b hb=>?_) (fun b o _ _ hb q _=>hk b o (ne hb).1 (ne hb).2 q) (fun b o _ _ hb q _=>⟨o.slots,hk b o (ne hb).1 (ne hb).2 q⟩) (fun b o _ _ n=>n) (fun b o hb q=>⟨o,hk b o (ne hb).1 (ne hb).2 q⟩)
  (fun _ _ q=>q) (fun _ _ _ q=>q) (fun b ps q=>⟨#[],by rw [q];simp⟩) (fun m hm=>?_) (fun b u q=>?_) I.bare
 · rcases List.mem_cons.mp hb with rfl | hb
   · exact ⟨fe.2.2.2.1,fe.2.1,fe.2.2.2.2.1,fe.2.2.2.2.2⟩
   · have:b=it:=by simpa using hb
     subst this
     exact ⟨fi.2.2.2.1,fi.2.1,fi.2.2.2.2.1,fi.2.2.2.2.2⟩
 · obtain ⟨o,es,ep,ho,r⟩:=hm
   exact ⟨o,es,ep,hk _ o (Ne.symm fe.2.1) (Ne.symm fi.2.1) ho,r⟩
 · refine (I.hok b u q).stay (fun c v hc r=>?_) (fun c r=>r) fun c xs r=>r
   have nn:∀ x,cx X pins H x->c≠x:=fun x fx z=>by
    subst z
    rcases hc with rfl | hc
    · rw [fx.1] at q;cases q
    · rw [fx.1] at hc;cases hc
   exact hk c v (nn e fe) (nn it fi) r
theorem Inv.trackT {D:Addr} {ys:List V} {its:List Value} (I:Inv X pins σ H s) (rv:Vals ys its) (hz:ys.length<=sizeLine) (e:TupD s.heap D its.toArray) (hd:cx X pins H D):Inv X pins σ (upd H D (.tup ys)) s:=by
 obtain ⟨h1,h2,h3,h4,h5,h6⟩:=hd
 have nD:∀ b u,H b=some u->b≠D:=fun b u q z=>by rw [z,h1] at q;cases q
 refine I.step (s:=s) (h':=s.heap) (g':=s.gens) (t':=s.toks) (d':=s.drawn) (ch:=[D]) (fun b hb=>?_) (fun b o _ _ _ q _=>q) (fun b o _ _ _ q _=>⟨o.slots,q⟩) (fun b o hb _ q=>?_) (fun b o _ q=>⟨o,q⟩)
  (fun b xs q=>(am (nD b _ q)).trans q) (fun b o u q=>(am (nD b _ q)).trans q) (fun b ps q=>⟨#[],by rw [am (nD b _ q),q];simp⟩) (fun m hm=>hm) (fun b u q=>?_) I.bare
 · have:b=D:=by simpa using hb
   subst this
   exact ⟨h4,h2,h5,h6⟩
 · rw [am (fun z=>hb (by simp [z]))];exact q
 · by_cases hb:b=D
   · subst hb
     rw [ad] at q
     cases q
     exact ⟨hz,its,rv,e⟩
   · rw [am hb] at q
     exact (I.hok b u q).stay (fun c v _ r=>r) (fun c r=>(am (nD c _ r)).trans r) fun c xs r=>(am (nD c _ r)).trans r
theorem eG:bootBuiltins "enumerate" = some (.type "enumerate"):=by decide +kernel
def tZ (p:Addr) (i j c:Int):HO:=.ext fun h=>∃ t u v,IsRange h p i j c t u v
theorem iY {pins:List (Addr×Obj)} {σ:St} {H:Hp} {s:Shared} {i j c:Int} {t u v:Tok} {tk:Nat} (I:Inv X pins σ H s):Inv X pins σ (upd H s.heap.objs.size (tZ s.heap.objs.size i j c)) { s with heap:=s.heap.push { cls:=.type "range",data:=.fields #[.int i t,.int j u,.int c v] },toks:=tk }:=by
 refine I.laid (fun b o e=>Heap.get?_push_of_some _ e) (Nat.le_refl _) ⟨⟨t,u,v,IsRange.new ..⟩,⟨_,Heap.get?_push_size _ rfl⟩,?_⟩
 rintro h1 h2 ⟨t,u,v,e⟩ k
 exact ⟨t,u,v,k _ e⟩
def rRng:List V->Hp->VK->Prop:=fun vs H1 Q=>match vs with
 | [.int i,.int j]=>∀ p,H1 p=none->Q (.ref p) (upd H1 p (tZ p i j 1))
 | [.int i,.int j,.int c]=>(c≠0/\c<2 ^ 29/\-(2 ^ 29)<c)/\∀ p,H1 p=none->Q (.ref p) (upd H1 p (tZ p i j c))
 | _=>False
theorem qh:CallR X (.type "range") rRng:=by
 intro pins s σ H xs us Q I r h
 unfold rRng at h
 split at h
 · obtain ⟨u1,u2,rfl,⟨t1,rfl⟩,t2,rfl⟩:=hW r
   exact call_range_2 ⟨.ref s.heap.objs.size,_,iY I,rfl,h _ (I.hok.fresh (Nat.le_refl _))⟩
 · obtain ⟨⟨h1,h2,h3⟩,q⟩:=h
   cases r with
   | cons a1 r=>
     cases r with
     | cons a2 r=>
       cases r with
       | cons a3 r=>
         cases r
         obtain ⟨t1,rfl⟩:=a1
         obtain ⟨t2,rfl⟩:=a2
         obtain ⟨t3,rfl⟩:=a3
         exact PySem.call_range_3 h1 ⟨.ref s.heap.objs.size,_,iY I,rfl,q _ (I.hok.fresh (Nat.le_refl _))⟩ (Or.inl (PyProof.noPylong_small (by lia)))
 · exact h.elim
theorem fD {F:Nat->Int}:∀ (n:Nat) {us:List Value},us.length=n->(∀ (j:Nat) (v:Value),us[j]? = some v->∃ t,v=.int (F j) t)->Vals (((List.range n).map F).map V.int) us:=by
 intro n us hl h
 have:∀ (us:List Value) (G:Nat->Int),(∀ (j:Nat) (v:Value),us[j]? = some v->∃ t,v=.int (G j) t)->Vals (((List.range us.length).map G).map V.int) us:=by
  intro us
  induction us with
  | nil=>intro G _;exact .nil
  | cons u r ih=>
    intro G hG
    rw [List.length_cons,List.range_succ_eq_map,List.map_cons,List.map_cons]
    refine .cons (hG 0 u rfl) ?_
    have:=ih (fun j=>G (j+1)) fun j v e=>hG (j+1) v (by simpa using e)
    have e:((List.range r.length).map Nat.succ).map G=(List.range r.length).map (fun j=>G (j+1)):=by rw [List.map_map];rfl
    rw [e]
    exact this
 have:=this us F h
 rw [hl] at this
 exact this
variable {e:Expr} {es:List Expr} {t:TA} {p pos:Pos}
theorem lS (hg:Gl X "range") (hm:X.mg "range" = none) (ha:PA X (e::es) t) (he:starEach (e::es) X.env=(false,eval e X.env)::starEach es X.env) (hpl:(backTo pos (starEach es X.env)).any (·.1)=false) :
 PE X (.Call (.Name "range" p) (e::es) [] pos) (tCB rRng t):=bD qh hg hm boot_range ha (by decide) (by decide) he hpl
theorem kq (hg:Gl X "range") (hm:X.mg "range" = none) (ha:ZA X (e::es) t) (he:starEach (e::es) X.env=(false,eval e X.env)::starEach es X.env) (hpl:(backTo pos (starEach es X.env)).any (·.1)=false) :
 ZE X (.Call (.Name "range" p) (e::es) [] pos) (tCB rRng t):=by with_unfolding_all exact lS hg hm ha he hpl
end
def Itq (h:Heap) (i l:Addr) (k:Nat) (xs:Array Value):Prop:=(h.IsListIter i l k/\h.IsList l xs)\/(h.IsTupleIter i l k/\h.IsTuple l xs)
theorem Itq.at {h h':Heap} {i l:Addr} {k:Nat} {xs:Array Value} (x:Itq h i l k xs) (hi:∀ o,h.get? i=some o->h'.get? i=some o) (hl:∀ o,h.get? l=some o->h'.get? l=some o):Itq h' i l k xs:=
 x.elim (fun a=>.inl ⟨a.1.at hi,a.2.at hl⟩) fun a=>.inr ⟨a.1.at hi,a.2.at hl⟩
theorem Itq.but {h h':Heap} {i l z:Addr} {k:Nat} {xs:Array Value} (x:Itq h i l k xs) (e:Heap.ExtBut z h h') (n1:i≠z) (n2:l≠z):Itq h' i l k xs:=x.at (fun o q=>e _ _ n1 q) fun o q=>e _ _ n2 q
section
variable {prog:Program} {w:World} {A:Around} {E:Value->Shared->Prop} {s:Shared}
theorem Itq.item {i l:Addr} {k:Nat} {xs:Array Value} {v:Value} {Q:Value->Shared->Prop} (x:Itq s.heap i l k xs) (hne:l≠i) (hx:xs[k]? = some v)
 (hQ:∀ h',Itq h' i l (k+1) xs->Heap.SameBut i s.heap h'->Q v { s with heap:=h' }):wpAny (model prog w) A (Builtin.SmallTypes.nextOf (.ref i)) Q E s:=by
 rcases x with ⟨x1,x2⟩ | ⟨x1,x2⟩
 · exact wpAny_nextOf_list_item x1 x2 hx fun h' a b=>hQ h' (.inl ⟨a,x2.extBut b.extBut hne⟩) b
 · exact dY x1 x2 hx fun h' a b=>hQ h' (.inr ⟨a,x2.extBut b.extBut hne⟩) b
theorem Itq.fin {i l:Addr} {k:Nat} {xs:Array Value} {Q:Value->Shared->Prop} (hh:A.handled=none) (x:Itq s.heap i l k xs) (hx:xs[k]? = none)
 (hE:∀ h' e,Heap.ExtBut i s.heap h'->(∃ o,h'.get? e=some o/\o.cls=.type "StopIteration")->E (.ref e) { s with heap:=h' }):wpAny (model prog w) A (Builtin.SmallTypes.nextOf (.ref i)) Q E s:=by
 rcases x with ⟨x1,x2⟩ | ⟨x1,x2⟩
 · exact wpAny_nextOf_list_end hh x1 x2 hx hE
 · exact eU hh x1 x2 hx hE
theorem qY {z TI TO i1 i2 l1 l2:Addr} {k1 k2:Nat} {xs ys:Array Value} {x y a b:Value} {Q:Value->Shared->Prop} (D:ZipApart z TI TO i1 i2 l1 l2) (n12:l1≠TI) (n22:l2≠TI)
 (hz:IsZip s.heap z TI TO .none) (hTI:IsPair s.heap TI (.ref i1) (.ref i2)) (hTO:IsPair s.heap TO a b) (h1:Itq s.heap i1 l1 k1 xs) (h2:Itq s.heap i2 l2 k2 ys) (hx:xs[k1]? = some x) (hy:ys[k2]? = some y)
 (hQ:∀ h',IsZip h' z TI TO (rawInt s.heap.objs.size)->IsPair h' TO x y->Itq h' i1 l1 (k1+1) xs->Itq h' i2 l2 (k2+1) ys->IsPair h' s.heap.objs.size x y->h'.objs.size=s.heap.objs.size+1 ->
   (∀ c o,c≠z->c≠TO->c≠i1->c≠i2->s.heap.get? c=some o->h'.get? c=some o)->Q (.ref s.heap.objs.size) { s with heap:=h' }) :
 wpAny (model prog w) A (Builtin.«zip.__next__» ⟨[.ref z],[]⟩) (fun fin s'=>∃ v,fin=.done (.ret v)/\Q v s') E s:=by
 show wpAny _ _ (field (.ref z) 2 >>= _) _ _ _;refine wpAny_bind (wpAny_field hz rfl (x:=.bool false) rfl ?_)
 show wpAny _ _ (field (.ref z) 3 >>= _) _ _ _;refine wpAny_bind (wpAny_field hz rfl (x:=.ref TI) rfl ?_)
 refine wpAny_bind (wpAny_seqItems hTI rfl ?_);show wpAny _ _ (Builtin.SmallTypes.ownedTupleIsFree (.ref z) >>= _) _ _ _
 refine wpAny_bind ?_;unfold Builtin.SmallTypes.ownedTupleIsFree
 refine wpAny_bind (wpAny_field hz rfl (x:=.none) rfl (wpAny_pure ?_));simp only [if_true]
 refine wpAny_bind (wpAny_rule ?_);refine wpAny_bind (wpAny_field hz rfl (x:=.ref TO) rfl ?_)
 refine wpAny_bind (wpAny_setField_rec hz (by simp) fun g1 hz1 e1=>?_)
 replace hz1:IsZip g1 z TI TO .ellipsis:=hz1
 refine wpAny_bind ?_;simp only [List.zipIdx_cons,List.zipIdx_nil,List.forIn_cons,List.forIn_nil]
 refine wpAny_bind (wpAny_bind (wpAny_onRaise ?_));show wpAny _ _ (Builtin.SmallTypes.nextOf (.ref i1) >>= _) _ _ _
 have h1a:Itq g1 i1 l1 k1 xs:=h1.but e1.extBut D.i1z D.l1z
 have h2a:Itq g1 i2 l2 k2 ys:=h2.but e1.extBut D.i2z D.l2z
 refine wpAny_bind (Itq.item (s:={ s with heap:=g1 }) h1a D.l1i1 hx fun g2 h1b e2=>wpAny_pure ?_)
 have hTO2:IsPair g2 TO a b:=e2.extBut _ _ D.TOi1 (e1.extBut _ _ D.TOz hTO)
 have h2b:Itq g2 i2 l2 k2 ys:=h2a.but e2.extBut (Ne.symm D.i12) D.l2i1
 refine wpAny_bind (wpAny_seqItems hTO2 rfl ?_);refine wpAny_bind (wpAny_updateSeq_pair hTO2 fun g3 hTO3 e3=>?_)
 replace hTO3:IsPair g3 TO x b:=hTO3
 have h1c:Itq g3 i1 l1 (k1+1) xs:=h1b.but e3.extBut (Ne.symm D.TOi1) D.l1TO
 have h2c:Itq g3 i2 l2 k2 ys:=h2b.but e3.extBut (Ne.symm D.TOi2) D.l2TO
 refine wpAny_bind (wpAny_letGo (wpAny_pure ?_));refine wpAny_bind (wpAny_bind (wpAny_onRaise ?_))
 show wpAny _ _ (Builtin.SmallTypes.nextOf (.ref i2) >>= _) _ _ _
 refine wpAny_bind (Itq.item (s:={ s with heap:=g3 }) h2c D.l2i2 hy fun g4 h2d e4=>wpAny_pure ?_)
 have hTO4:IsPair g4 TO x b:=e4.extBut _ _ D.TOi2 hTO3
 have h1d:Itq g4 i1 l1 (k1+1) xs:=h1c.but e4.extBut D.i12 D.l1i2
 refine wpAny_bind (wpAny_seqItems hTO4 rfl ?_);refine wpAny_bind (wpAny_updateSeq_pair hTO4 fun g5 hTO5 e5=>?_)
 replace hTO5:IsPair g5 TO x y:=hTO5
 have h1e:Itq g5 i1 l1 (k1+1) xs:=h1d.but e5.extBut (Ne.symm D.TOi1) D.l1TO
 have h2e:Itq g5 i2 l2 (k2+1) ys:=h2d.but e5.extBut (Ne.symm D.TOi2) D.l2TO
 refine wpAny_bind (wpAny_letGo (wpAny_pure (wpAny_pure ?_)));refine wpAny_bind (wpAny_seqItems hTO5 rfl ?_);refine wpAny_bind (wpAny_newTuple ?_)
 have hsz:g5.objs.size=s.heap.objs.size:=by rw [e5.1,e4.1,e3.1,e2.1,e1.1]
 have hz5:IsZip g5 z TI TO .ellipsis:=e5.extBut _ _ (Ne.symm D.TOz) (e4.extBut _ _ (Ne.symm D.i2z) (e3.extBut _ _ (Ne.symm D.TOz) (e2.extBut _ _ (Ne.symm D.i1z) hz1)))
 have k5:∀ c o,c≠z->c≠TO->c≠i1->c≠i2->s.heap.get? c=some o->g5.get? c=some o:=fun c o c1 c2 c3 c4 q=>e5.extBut _ _ c2 (e4.extBut _ _ c4 (e3.extBut _ _ c2 (e2.extBut _ _ c3 (e1.extBut _ _ c1 q))))
 have zlt:z<g5.objs.size:=Heap.lt_size hz5
 show wpAny _ _ (Builtin.SmallTypes.ownedTupleHandOut (.ref z) (.ref g5.objs.size) >>= _) _ _ _
 refine wpAny_bind ?_;unfold Builtin.SmallTypes.ownedTupleHandOut
 have hz6:IsZip (g5.push { cls:=.type "tuple",data:=.seq #[x,y] }) z TI TO .ellipsis:=Heap.get?_push_of_some _ hz5
 refine wpAny_bind (wpAny_setField_rec hz6 (by simp) fun g7 hz7 e7=>?_)
 replace hz7:IsZip g7 z TI TO (rawInt g5.objs.size):=hz7
 refine wpAny_setField_rec hz7 (by simp) fun g8 hz8 e8=>?_
 replace hz8:IsZip g8 z TI TO (rawInt g5.objs.size):=hz8
 have up:∀ c o,c≠z->g5.get? c=some o->g8.get? c=some o:=fun c o c1 q=>e8.extBut _ _ c1 (e7.extBut _ _ c1 (Heap.get?_push_of_some _ q))
 have hT8:IsPair g8 g5.objs.size x y:=e8.extBut _ _ (Nat.ne_of_gt zlt) (e7.extBut _ _ (Nat.ne_of_gt zlt) (Heap.get?_push_size _ rfl))
 have hs8:g8.objs.size=g5.objs.size+1:=by rw [e8.1,e7.1,Heap.size_push]
 rw [hsz] at hz8 hT8 hs8
 refine wpAny_pure ⟨_,rfl,?_⟩;show Q (.ref g5.objs.size) _;rw [hsz]
 exact hQ g8 hz8 (up _ _ D.TOz hTO5) (h1e.at (fun o q=>up _ o D.i1z q) fun o q=>up _ o D.l1z q) (h2e.at (fun o q=>up _ o D.i2z q) fun o q=>up _ o D.l2z q) hT8 hs8 fun c o c1 c2 c3 c4 q=>up c o c1 (k5 c o c1 c2 c3 c4 q)
theorem zq_end {z TI TO i1 i2 l1 l2:Addr} {k1 k2:Nat} {xs ys:Array Value} {a b:Value} {Q:PySem.Fin->Shared->Prop} (hh:A.handled=none) (D:ZipApart z TI TO i1 i2 l1 l2)
 (hz:IsZip s.heap z TI TO .none) (hTI:IsPair s.heap TI (.ref i1) (.ref i2)) (hTO:IsPair s.heap TO a b) (h1:Itq s.heap i1 l1 k1 xs) (h2:Itq s.heap i2 l2 k2 ys) (hend:xs[k1]? = none\/ys[k2]? = none)
 (hE:∀ h' e,(∀ c o,c≠z->c≠TO->c≠i1->c≠i2->s.heap.get? c=some o->h'.get? c=some o)->(∃ o,h'.get? e=some o/\o.cls=.type "StopIteration")->E (.ref e) { s with heap:=h' }):wpAny (model prog w) A (Builtin.«zip.__next__» ⟨[.ref z],[]⟩) Q E s:=by
 show wpAny _ _ (field (.ref z) 2 >>= _) _ _ _;refine wpAny_bind (wpAny_field hz rfl (x:=.bool false) rfl ?_)
 show wpAny _ _ (field (.ref z) 3 >>= _) _ _ _;refine wpAny_bind (wpAny_field hz rfl (x:=.ref TI) rfl ?_)
 refine wpAny_bind (wpAny_seqItems hTI rfl ?_);show wpAny _ _ (Builtin.SmallTypes.ownedTupleIsFree (.ref z) >>= _) _ _ _
 refine wpAny_bind ?_;unfold Builtin.SmallTypes.ownedTupleIsFree
 refine wpAny_bind (wpAny_field hz rfl (x:=.none) rfl (wpAny_pure ?_));simp only [if_true]
 refine wpAny_bind (wpAny_rule ?_);refine wpAny_bind (wpAny_field hz rfl (x:=.ref TO) rfl ?_)
 refine wpAny_bind (wpAny_setField_rec hz (by simp) fun g1 hz1 e1=>?_)
 replace hz1:IsZip g1 z TI TO .ellipsis:=hz1
 refine wpAny_bind ?_;simp only [List.zipIdx_cons,List.zipIdx_nil,List.forIn_cons,List.forIn_nil]
 refine wpAny_bind (wpAny_bind (wpAny_onRaise ?_));show wpAny _ _ (Builtin.SmallTypes.nextOf (.ref i1) >>= _) _ _ _
 have h1a:Itq g1 i1 l1 k1 xs:=h1.but e1.extBut D.i1z D.l1z
 have h2a:Itq g1 i2 l2 k2 ys:=h2.but e1.extBut D.i2z D.l2z
 cases hx:xs[k1]? with
 | none=>
   refine wpAny_bind (Itq.fin (s:={ s with heap:=g1 }) hh h1a hx fun g2 e e2 he=>?_)
   obtain ⟨oe,hoe,hce⟩:=he
   have hz2:IsZip g2 z TI TO .ellipsis:=e2 _ _ (Ne.symm D.i1z) hz1
   have hez:e≠z:=fun q=>by subst q;rw [hz2] at hoe;cases hoe;simp at hce
   exact wpAny_setField_rec hz2 (by simp) fun g3 _ e3=>hE g3 e (fun c o c1 _ c3 _ q=>e3.extBut _ _ c1 (e2 _ _ c3 (e1.extBut _ _ c1 q))) ⟨oe,e3.extBut _ _ hez hoe,hce⟩
 | some x=>
   have hy:ys[k2]? = none:=by
    rcases hend with h | h
    · rw [hx] at h;cases h
    · exact h
   refine wpAny_bind (Itq.item (s:={ s with heap:=g1 }) h1a D.l1i1 hx fun g2 h1b e2=>wpAny_pure ?_)
   have hTO2:IsPair g2 TO a b:=e2.extBut _ _ D.TOi1 (e1.extBut _ _ D.TOz hTO)
   have h2b:Itq g2 i2 l2 k2 ys:=h2a.but e2.extBut (Ne.symm D.i12) D.l2i1
   refine wpAny_bind (wpAny_seqItems hTO2 rfl ?_);refine wpAny_bind (wpAny_updateSeq_pair hTO2 fun g3 hTO3 e3=>?_)
   have h2c:Itq g3 i2 l2 k2 ys:=h2b.but e3.extBut (Ne.symm D.TOi2) D.l2TO
   refine wpAny_bind (wpAny_letGo (wpAny_pure ?_));refine wpAny_bind (wpAny_bind (wpAny_onRaise ?_))
   show wpAny _ _ (Builtin.SmallTypes.nextOf (.ref i2) >>= _) _ _ _
   refine wpAny_bind (Itq.fin (s:={ s with heap:=g3 }) hh h2c hy fun g4 e e4 he=>?_)
   obtain ⟨oe,hoe,hce⟩:=he
   have hz4:IsZip g4 z TI TO .ellipsis:=e4 _ _ (Ne.symm D.i2z) (e3.extBut _ _ (Ne.symm D.TOz) (e2.extBut _ _ (Ne.symm D.i1z) hz1))
   have hez:e≠z:=fun q=>by subst q;rw [hz4] at hoe;cases hoe;simp at hce
   exact wpAny_setField_rec hz4 (by simp) fun g5 _ e5=>hE g5 e (fun c o c1 c2 c3 c4 q=>e5.extBut _ _ c1 (e4 _ _ c4 (e3.extBut _ _ c2 (e2.extBut _ _ c3 (e1.extBut _ _ c1 q))))) ⟨oe,e5.extBut _ _ hez hoe,hce⟩
def itCls (b:Bool):String:=if b then "tuple_iterator" else "list_iterator"
def IsSq (h:Heap) (b:Bool) (l:Addr) (xs:Array Value):Prop:=if b=true then h.IsTuple l xs else h.IsList l xs
abbrev zqI (b:Bool) (l:Addr):Obj:={ cls:=.type (itCls b),data:=.fields #[.ref l,.int 0 0] }
theorem IsSq.push {h:Heap} {b:Bool} {l:Addr} {xs:Array Value} (x:IsSq h b l xs) (o:Obj):IsSq (h.push o) b l xs:=by
 cases b with
 | true=>exact (show h.IsTuple l xs from x).at fun u q=>Heap.get?_push_of_some _ q
 | false=>exact (show h.IsList l xs from x).push o
theorem fT {b:Bool} {l:Addr} {xs:Array Value} {Q:Value->Shared->Prop} (x:IsSq s.heap b l xs) (h:Q (.ref s.heap.objs.size) { s with heap:=s.heap.push (zqI b l) }):wpAny (model prog w) A (pyIter (.ref l)) Q E s:=by
 cases b with
 | true=>exact wpAny_pyIter_tuple (show s.heap.IsTuple l xs from x) h
 | false=>exact wpAny_pyIter_list (show s.heap.IsList l xs from x) h
end
abbrev zq1 (h:Heap) (b:Bool) (l:Addr):Heap:=h.push (zqI b l)
abbrev zq2 (h:Heap) (b c:Bool) (l m:Addr):Heap:=(zq1 h b l).push (zqI c m)
abbrev zq3 (h:Heap) (b c:Bool) (l m:Addr):Heap:=(zq2 h b c l m).push { cls:=.type "tuple",data:=.seq #[.ref h.objs.size,.ref (zq1 h b l).objs.size] }
abbrev zq4 (h:Heap) (b c:Bool) (l m:Addr):Heap:=(zq3 h b c l m).push { cls:=.type "tuple",data:=.seq #[.none,.none] }
abbrev zq5 (h:Heap) (b c:Bool) (l m:Addr):Heap:=(zq4 h b c l m).push { cls:=.type "zip",data:=.fields #[.none,.bool false,.bool false,.ref (zq2 h b c l m).objs.size,.ref (zq3 h b c l m).objs.size] }
theorem pK (b c:Bool) (l m:Addr) (xs ys:Array Value):Meets (Builtin.«zip.__new__» ⟨[.type "zip",.ref l,.ref m],[]⟩) (fun _ R s=>IsSq s.heap b l xs/\IsSq s.heap c m ys/\R (.ok (.ret (.ref (zq4 s.heap b c l m).objs.size))) { s with heap:=zq5 s.heap b c l m }):=
 .of_wp fun prog w A R s h=>by
  obtain ⟨hp,g,d,tk,os⟩:=s;obtain ⟨q1,q2,h⟩:=h
  have hsub:=sub_zip
  have r1:IsSq (Shared.heap ⟨hp,g,d,tk,os⟩) b l xs:=q1
  have r2:IsSq (Shared.heap ⟨hp.push (zqI b l),g,d,tk,os⟩) c m ys:=IsSq.push q2 _
  wp_walk using fT r1,fT r2
  exact ⟨_,rfl,h⟩
section
variable {prog:Program} {w:World} {A:Around} {E:Value->Shared->Prop} {s:Shared}
theorem tK {b c:Bool} {l m:Addr} {xs ys:Array Value} {Q:Value->Shared->Prop} (q1:IsSq s.heap b l xs) (q2:IsSq s.heap c m ys)
 (h:∀ h',IsZip h' (s.heap.objs.size+4) (s.heap.objs.size+2) (s.heap.objs.size+3) .none->IsPair h' (s.heap.objs.size+2) (.ref s.heap.objs.size) (.ref (s.heap.objs.size+1)) ->
   IsPair h' (s.heap.objs.size+3) .none .none->Itq h' s.heap.objs.size l 0 xs->Itq h' (s.heap.objs.size+1) m 0 ys->(∀ c o,s.heap.get? c=some o->h'.get? c=some o)->Q (.ref (s.heap.objs.size+4)) { s with heap:=h' }) :
 wpAny (model prog w) A (call (.type "zip") [.ref l,.ref m]) Q E s:=by
 refine callType_new F.called_zip (by decide) (F.typeCall_zip_2 _ _) (F.newCall_zip_2 _ _) (fun obj=>F.args_object_init_3 obj _ _) F.entry_zip_new (pK b c l m xs ys) ⟨q1,q2,?_⟩
 have z1:(zq1 s.heap b l).objs.size=s.heap.objs.size+1:=Heap.size_push ..
 have z2:(zq2 s.heap b c l m).objs.size=s.heap.objs.size+2:=by rw [Heap.size_push,z1]
 have z3:(zq3 s.heap b c l m).objs.size=s.heap.objs.size+3:=by rw [Heap.size_push,z2]
 have z4:(zq4 s.heap b c l m).objs.size=s.heap.objs.size+4:=by rw [Heap.size_push,z3]
 have g5:(zq5 s.heap b c l m).get? (zq4 s.heap b c l m).objs.size=some _:=Heap.get?_push_size _ rfl
 have g4:(zq5 s.heap b c l m).get? (zq3 s.heap b c l m).objs.size=some _:=Heap.get?_push_of_some _ (Heap.get?_push_size _ rfl)
 have g3:(zq5 s.heap b c l m).get? (zq2 s.heap b c l m).objs.size=some _:=Heap.get?_push_of_some _ (Heap.get?_push_of_some _ (Heap.get?_push_size _ rfl))
 have g2:(zq5 s.heap b c l m).get? (zq1 s.heap b l).objs.size=some (zqI c m):=Heap.get?_push_of_some _ (Heap.get?_push_of_some _ (Heap.get?_push_of_some _ (Heap.get?_push_size _ rfl)))
 have g1:(zq5 s.heap b c l m).get? s.heap.objs.size=some (zqI b l):=Heap.get?_push_of_some _ (Heap.get?_push_of_some _ (Heap.get?_push_of_some _ (Heap.get?_push_of_some _ (Heap.get?_push_size _ rfl))))
 have kp:∀ c' o,s.heap.get? c'=some o->(zq5 s.heap b c l m).get? c'=some o:=fun c' o q=>Heap.get?_push_of_some _ (Heap.get?_push_of_some _ (Heap.get?_push_of_some _ (Heap.get?_push_of_some _ (Heap.get?_push_of_some _ q))))
 show _/\_
 rw [z2,z3,z4] at g5
 rw [z1,z2] at g3
 rw [z3] at g4
 rw [z1] at g2
 rw [z4]
 have j1:Itq (zq5 s.heap b c l m) s.heap.objs.size l 0 xs:=by
  cases b with
  | true=>exact .inr ⟨⟨_,g1,rfl,rfl⟩,(show s.heap.IsTuple l xs from q1).at fun o q=>kp _ o q⟩
  | false=>exact .inl ⟨⟨_,g1,rfl,rfl⟩,(show s.heap.IsList l xs from q1).at fun o q=>kp _ o q⟩
 have j2:Itq (zq5 s.heap b c l m) (s.heap.objs.size+1) m 0 ys:=by
  cases c with
  | true=>exact .inr ⟨⟨_,g2,rfl,rfl⟩,(show s.heap.IsTuple m ys from q2).at fun o q=>kp _ o q⟩
  | false=>exact .inl ⟨⟨_,g2,rfl,rfl⟩,(show s.heap.IsList m ys from q2).at fun o q=>kp _ o q⟩
 exact ⟨⟨_,g5,rfl⟩,h _ g5 g3 g4 j1 j2 kp⟩
end
section
variable {X:Cx} {pins:List (Addr×Obj)} {σ:St} {H:Hp} {s:Shared}
theorem Inv.turnedL {h':Heap} {t':Nat} {ch:List Addr} (I:Inv X pins σ H s) (hk:∀ b o,b∉ch->s.heap.get? b=some o->h'.get? b=some o) (fc:∀ e∈ch,cx X pins H e):Inv X pins σ H { s with heap:=h',toks:=t' }:=by
 refine I.step (g':=s.gens) (d':=s.drawn) (ch:=ch) (fun b hb=>?_) (fun b o _ _ hb q _=>hk b o hb q) (fun b o _ _ hb q _=>⟨o.slots,hk b o hb q⟩) (fun b o _ _ n=>n) (fun b o hb q=>⟨o,hk b o hb q⟩)
  (fun _ _ q=>q) (fun _ _ _ q=>q) (fun b ps q=>⟨#[],by rw [q];simp⟩) (fun m hm=>?_) (fun b u q=>?_) I.bare
 · have f:=fc b hb
   exact ⟨f.2.2.2.1,f.2.1,f.2.2.2.2.1,f.2.2.2.2.2⟩
 · obtain ⟨o,es,ep,ho,r⟩:=hm
   exact ⟨o,es,ep,hk _ o (fun z=>(fc _ z).2.1 rfl) ho,r⟩
 · refine (I.hok b u q).stay (fun c v hc r=>hk c v (fun z=>?_) r) (fun c r=>r) fun c xs r=>r
   have f:=fc c z
   rcases hc with rfl | hc
   · rw [f.1] at q;cases q
   · rw [f.1] at hc;cases hc
def SqK (H:Hp) (c:Bool) (a:Addr) (xs:List V):Prop:=H a=some (if c=true then HO.tup xs else HO.lst xs)
theorem SqK.inj {c:Bool} {a:Addr} {xs ys:List V} (h:SqK H c a xs) (h':SqK H c a ys):xs=ys:=by
 unfold SqK at h h'
 rw [h] at h'
 cases c <;> (injection h' with h';injection h')
theorem SqK.ne {c:Bool} {a b:Addr} {xs:List V} (h:SqK H c a xs) (hb:H b=none):a≠b:=fun z=>by
 subst z
 unfold SqK at h
 rw [hb] at h;cases h
theorem SqK.same {H':Hp} {c:Bool} {a:Addr} {xs:List V} (h:SqK H c a xs) (y:Same H H'):SqK H' c a xs:=y _ _ h
theorem SqK.tup {a:Addr} {xs:List V} (h:H a=some (.tup xs)):SqK H true a xs:=h
theorem SqK.lst {a:Addr} {xs:List V} (h:H a=some (.lst xs)):SqK H false a xs:=h
theorem Inv.sqK {c:Bool} {a:Addr} {xs:List V} (I:Inv X pins σ H s) (h:SqK H c a xs):∃ its:List Value,Vals xs its/\IsSq s.heap c a its.toArray:=by
 cases c with
 | true=>
   obtain ⟨its,r,p,_⟩:=I.tuple (SqT.of h)
   exact ⟨its,r,(show s.heap.IsTuple a its.toArray from p)⟩
 | false=>
   obtain ⟨its,r,p,_⟩:=I.list (SqL.of h)
   exact ⟨its,r,p.isList⟩
def Itz (c d:Bool) (a b:Addr):It:=⟨fun i H=>∃ xs ys x y,SqK H c a xs/\SqK H d b ys/\xs[i]? = some x/\ys[i]? = some y,
 fun i H v H'=>∃ p,H p=none/\v=.ref p/\∀ xs ys,SqK H c a xs->SqK H d b ys->∃ x y,xs[i]? = some x/\ys[i]? = some y/\H'=upd H p (.tup [x,y]),
 fun i H=>∃ xs ys,SqK H c a xs/\SqK H d b ys/\(xs[i]? = none\/ys[i]? = none)⟩
def Itk (h:Heap) (c:Bool) (i l:Addr) (k:Nat):Prop:=if c=true then h.IsTupleIter i l k else h.IsListIter i l k
theorem Itk.at {h h':Heap} {c:Bool} {i l:Addr} {k:Nat} (x:Itk h c i l k) (hi:∀ o,h.get? i=some o->h'.get? i=some o):Itk h' c i l k:=by
 cases c with
 | true=>exact (show h.IsTupleIter i l k from x).at hi
 | false=>exact (show h.IsListIter i l k from x).at hi
theorem Itk.obj {h:Heap} {c:Bool} {i l:Addr} {k:Nat} (x:Itk h c i l k):∃ o,h.get? i=some o/\∀ v,o.data≠.cell v:=by
 cases c with
 | true=>obtain ⟨o,e,_,d⟩:=(show h.IsTupleIter i l k from x);exact ⟨o,e,fun v z=>by rw [d] at z;cases z⟩
 | false=>obtain ⟨o,e,_,d⟩:=(show h.IsListIter i l k from x);exact ⟨o,e,fun v z=>by rw [d] at z;cases z⟩
theorem Itk.q {h:Heap} {c:Bool} {i l:Addr} {k:Nat} {xs:Array Value} (x:Itk h c i l k) (q:IsSq h c l xs):Itq h i l k xs:=by
 cases c with
 | true=>exact .inr ⟨x,q⟩
 | false=>exact .inl ⟨x,q⟩
theorem kM {h:Heap} {l:Addr} {xs ys:Array Value} (p:h.IsTuple l xs) (q:h.IsList l ys):False:=by
 obtain ⟨o,e,c1,_⟩:=p
 obtain ⟨o',e',c2,_⟩:=q
 rw [e] at e';cases e'
 rw [c1] at c2
 injection c2 with c2
 exact absurd c2 (by decide)
theorem Itq.k {h:Heap} {c:Bool} {i l:Addr} {k:Nat} {xs:Array Value} (x:Itq h i l k xs) (q:IsSq h c l xs):Itk h c i l k:=by
 rcases x with ⟨x1,x2⟩ | ⟨x1,x2⟩
 · cases c with
   | false=>exact x1
   | true=>exact (kM (show h.IsTuple l xs from q) x2).elim
 · cases c with
   | true=>exact x1
   | false=>exact (kM x2 (show h.IsList l xs from q)).elim
theorem IsSq.at {h h':Heap} {c:Bool} {l:Addr} {xs:Array Value} (x:IsSq h c l xs) (hl:∀ o,h.get? l=some o->h'.get? l=some o):IsSq h' c l xs:=by
 cases c with
 | true=>exact (show h.IsTuple l xs from x).at hl
 | false=>exact (show h.IsList l xs from x).at hl
def ZTn (c d:Bool) (z TI TO i1 i2 a b:Addr) (i:Nat) (h:Heap):Prop:=IsZip h z TI TO .none/\IsPair h TI (.ref i1) (.ref i2)/\(∃ u v,IsPair h TO u v)/\Itk h c i1 a i/\Itk h d i2 b i
structure ZAp (z TI TO i1 i2:Addr):Prop where
 h1:TI≠z
 h2:TO≠z
 h3:i1≠z
 h4:i2≠z
 h5:TI≠TO
 h6:TI≠i1
 h7:TI≠i2
 h8:TO≠i1
 h9:TO≠i2
 h10:i1≠i2
theorem ZAp.apart {z TI TO i1 i2 a b:Addr} (p:ZAp z TI TO i1 i2) (ha:∀ e∈[z,TI,TO,i1,i2],a≠e) (hb:∀ e∈[z,TI,TO,i1,i2],b≠e):ZipApart z TI TO i1 i2 a b:=
 ⟨p.h1,p.h2,p.h3,p.h4,p.h5,p.h6,p.h7,p.h8,p.h9,p.h10,ha _ (by simp),ha _ (by simp),ha _ (by simp),ha _ (by simp),hb _ (by simp),hb _ (by simp),hb _ (by simp),hb _ (by simp)⟩
theorem oo {P:Program} {w:World} {K:PySem.W.Frag} {elts:List Expr} {k:Nat} {pos:Pos} {c d:Bool} {z TI TO i1 i2 a b:Addr} (ap:ZAp z TI TO i1 i2) :
 Turn P w K (.Tuple elts k pos) (Itz c d a b) [z,TI,TO,i1,i2] z (ZTn c d z TI TO i1 i2 a b) where
 mem:=List.mem_cons_self ..
 obj:=fun i h st e he=>by
  obtain ⟨hz,hTI,⟨u,v,hTO⟩,k1,k2⟩:=st
  simp only [List.mem_cons,List.not_mem_nil,or_false] at he
  rcases he with rfl | rfl | rfl | rfl | rfl
  · exact ⟨_,hz,fun v q=>by cases q⟩
  · exact ⟨_,hTI,fun v q=>by cases q⟩
  · exact ⟨_,hTO,fun v q=>by cases q⟩
  · exact k1.obj
  · exact k2.obj
 keep:=fun i h h' st kp=>by
  obtain ⟨hz,hTI,⟨u,v,hTO⟩,k1,k2⟩:=st
  exact ⟨kp z (by simp) _ hz,kp TI (by simp) _ hTI,⟨u,v,kp TO (by simp) _ hTO⟩,k1.at fun o q=>kp i1 (by simp) o q,k2.at fun o q=>kp i2 (by simp) o q⟩
 item:=by
  intro X hP hw hK hc i pins s σ H E I hf st hg
  subst hP hw hK
  obtain ⟨xs,ys,x,y,ha,hb,hx,hy⟩:=hg
  obtain ⟨hz,hTI,⟨u,v,hTO⟩,k1,k2⟩:=st
  obtain ⟨its,rv,q1⟩:=I.sqK ha
  obtain ⟨jts,rw',q2⟩:=I.sqK hb
  obtain ⟨u1,hu1,ru1⟩:=rv.get hx
  obtain ⟨u2,hu2,ru2⟩:=rw'.get hy
  have na:∀ e∈[z,TI,TO,i1,i2],a≠e:=fun e he=>ha.ne (hf e he).1
  have nb:∀ e∈[z,TI,TO,i1,i2],b≠e:=fun e he=>hb.ne (hf e he).1
  have D:=ap.apart na nb
  have hT:s.TypeIs (.ref z) "zip":=⟨_,hz,rfl⟩
  have step:wpAny (model X.prog X.w) X.A (pyNext (.ref z)) (fun r s1=>∃ h',r=some (.ref s.heap.objs.size)/\s1={ s with heap:=h' }/\IsZip h' z TI TO (rawInt s.heap.objs.size)/\IsPair h' TO u1 u2/\Itq h' i1 a (i+1) its.toArray/\Itq h' i2 b (i+1) jts.toArray/\IsPair h' s.heap.objs.size u1 u2/\∀ c o,c≠z->c≠TO->c≠i1->c≠i2->s.heap.get? c=some o->h'.get? c=some o) E s:=by
   unfold pyNext
   exact wpAny_bind (wpAny_attempt (wpAny_callSpecial?_slot (name:=Str.ofString "__next__") hT F.slot_zip_next (wpAny_call_entry F.slot_zip_next hT F.entry_zip_next (qY D (na _ (by simp)) (nb _ (by simp)) hz hTI hTO (k1.q q1) (k2.q q2) (by simpa using hu1) (by simpa using hu2) fun h' a1 a2 a3 a4 a5 a6 a7=>wpAny_pure ⟨h',rfl,rfl,a1,a2,a3,a4,a5,a7⟩) (F.args_zip_next_1 _))))
  refine thn step fun r s1 ⟨h',e1,e2,a1,a2,a3,a4,a5,a7⟩=>?_
  subst e1 e2
  refine ⟨_,rfl,wpAny_letOwnedTupleGo_zip a1 fun h2 b1 b2=>?_⟩
  have hn:H s.heap.objs.size=none:=I.hok.fresh (Nat.le_refl _)
  have zlt:z<s.heap.objs.size:=Heap.lt_size hz
  have up:∀ c o,c∉[z,TO,i1,i2]->s.heap.get? c=some o->h2.get? c=some o:=fun c o hc' q=>by
   simp only [List.mem_cons,List.not_mem_nil,or_false,not_or] at hc'
   exact b2.extBut _ _ hc'.1 (a7 c o hc'.1 hc'.2.1 hc'.2.2.1 hc'.2.2.2 q)
  have I1:Inv X pins σ H { s with heap:=h2,toks:=s.toks }:=I.turnedL (ch:=[z,TO,i1,i2]) up fun e he=>hf e (by
   simp only [List.mem_cons,List.not_mem_nil,or_false] at he ⊢
   rcases he with rfl | rfl | rfl | rfl <;> simp)
  have hTd:TupD h2 s.heap.objs.size [u1,u2].toArray:=⟨0,b2.extBut _ _ (Nat.ne_of_gt zlt) a5⟩
  have I2:=I1.trackT (ys:=[x,y]) (.cons ru1 (.cons ru2 .nil)) (by show 2<=sizeLine;decide) hTd (I.fpOk (Nat.le_refl _) hn)
  have q1':IsSq h' c a its.toArray:=q1.at fun o q=>a7 _ o (na _ (by simp)) (na _ (by simp)) (na _ (by simp)) (na _ (by simp)) q
  have q2':IsSq h' d b jts.toArray:=q2.at fun o q=>a7 _ o (nb _ (by simp)) (nb _ (by simp)) (nb _ (by simp)) (nb _ (by simp)) q
  refine ⟨.ref s.heap.objs.size,_,I2,rfl,⟨_,hn,rfl,fun xs' ys' ha' hb'=>?_⟩,⟨b1,b2.extBut _ _ ap.h1 (a7 _ _ ap.h1 ap.h5 ap.h6 ap.h7 hTI),⟨_,_,b2.extBut _ _ ap.h2 a2⟩,(a3.k q1').at fun o q=>b2.extBut _ _ ap.h3 q,(a4.k q2').at fun o q=>b2.extBut _ _ ap.h4 q⟩,fun e he=>?_⟩
  · cases ha.inj ha'
    cases hb.inj hb'
    exact ⟨x,y,hx,hy,rfl⟩
  · have le:e<s.heap.objs.size:=by
     obtain ⟨o,q,_⟩:∃ o,s.heap.get? e=some o/\True:=by
      simp only [List.mem_cons,List.not_mem_nil,or_false] at he
      rcases he with rfl | rfl | rfl | rfl | rfl
      · exact ⟨_,hz,trivial⟩
      · exact ⟨_,hTI,trivial⟩
      · exact ⟨_,hTO,trivial⟩
      · obtain ⟨o,q,_⟩:=k1.obj;exact ⟨o,q,trivial⟩
      · obtain ⟨o,q,_⟩:=k2.obj;exact ⟨o,q,trivial⟩
     exact Heap.lt_size q
    rw [am (Nat.ne_of_lt le)]
    exact (hf e he).1
 done:=by
  intro X hP hw hK hc i pins s σ H E I hf st hg
  subst hP hw hK
  obtain ⟨xs,ys,ha,hb,hend⟩:=hg
  obtain ⟨hz,hTI,⟨u,v,hTO⟩,k1,k2⟩:=st
  obtain ⟨its,rv,q1⟩:=I.sqK ha
  obtain ⟨jts,rw',q2⟩:=I.sqK hb
  have na:∀ e∈[z,TI,TO,i1,i2],a≠e:=fun e he=>ha.ne (hf e he).1
  have nb:∀ e∈[z,TI,TO,i1,i2],b≠e:=fun e he=>hb.ne (hf e he).1
  have D:=ap.apart na nb
  have hT:s.TypeIs (.ref z) "zip":=⟨_,hz,rfl⟩
  have e1:its.toArray[i]? = none\/jts.toArray[i]? = none:=by
   have l1:=rv.length
   have l2:=rw'.length
   rcases hend with h | h
   · left
     rw [List.getElem?_eq_none_iff] at h
     simp;lia
   · right
     rw [List.getElem?_eq_none_iff] at h
     simp;lia
  unfold pyNext
  refine wpAny_bind (wpAny_attempt (wpAny_callSpecial?_slot (name:=Str.ofString "__next__") hT F.slot_zip_next (wpAny_call_entry F.slot_zip_next hT F.entry_zip_next (zq_end (I.ok.hd hc) D hz hTI hTO (k1.q q1) (k2.q q2) e1 fun h' e hk he=>?_) (F.args_zip_next_1 _))))
  obtain ⟨o,ho,hcl⟩:=he
  refine wpAny_bind (wpAny_isInstance (T:="StopIteration") (b:=true) ⟨o,ho,hcl⟩ isSubtype_stop (wpAny_pure ⟨rfl,?_⟩))
  refine I.turnedL (t':=s.toks) (ch:=[z,TO,i1,i2]) (fun c o hc' q=>?_) fun e he=>hf e (by
   simp only [List.mem_cons,List.not_mem_nil,or_false] at he ⊢
   rcases he with rfl | rfl | rfl | rfl <;> simp)
  simp only [List.mem_cons,List.not_mem_nil,or_false,not_or] at hc'
  exact hk c o hc'.1 hc'.2.1 hc'.2.2.1 hc'.2.2.2 q
 self:=fun A i s Q E st h=>wpAny_pyIter_zip st.1 h
theorem nN:bootBuiltins "zip" = some (.type "zip"):=by decide +kernel
def iZip (ta:TA):TI:=fun σ H R=>ta σ H fun vs H1=>match vs with
 | [.ref a,.ref b]=>∃ c d xs ys,SqK H1 c a xs/\SqK H1 d b ys/\R (Itz c d a b) H1
 | _=>False
theorem pi_zip {l m:Expr} {ta:TA} {elts:List Expr} {k:Nat} {tp p pos:Pos} (hg:Gl X "zip") (hm:X.mg "zip" = none) (ha:PA X [l,m] ta) (hs:starEach [l,m] X.env=[(false,eval l X.env),(false,eval m X.env)]:=by rfl) (hs2:starEach [m] X.env=[(false,eval m X.env)]:=by rfl) :
 PI X (.Tuple elts k tp) (.Call (.Name "zip" p) [l,m] [] pos) (iZip ta):=by
 intro pins s σ H R I h
 refine Call_ (dw I hg hm nN (PyProof.Rows.callWith_type1 (thn (ha pos pins s σ H _ I h) fun us s1 ⟨vs,H1,I1,r1,q1⟩=>?_) (by rw [hs,hs2]) (by rw [hs2];rfl)))
 dsimp only at q1
 split at q1
 · rename_i a b
   obtain ⟨c,d,xs,ys,ka,kb,q⟩:=q1
   obtain ⟨u,u',rfl,rx,ry⟩:=hW r1
   cases rx
   cases ry
   obtain ⟨its,rv,p1⟩:=I1.sqK ka
   obtain ⟨jts,rv',p2⟩:=I1.sqK kb
   refine tK p1 p2 fun h' hz hTI hTO j1 j2 hk=>?_
   have I2:Inv X pins σ H1 { s1 with heap:=h' }:=I1.kept (t':=s1.toks) hk
   have ap:ZAp (s1.heap.objs.size+4) (s1.heap.objs.size+2) (s1.heap.objs.size+3) s1.heap.objs.size (s1.heap.objs.size+1):=by
    have e:∀ n m:Nat,n≠m->s1.heap.objs.size+n≠s1.heap.objs.size+m:=fun n m h z=>h (Nat.add_left_cancel z)
    exact ⟨e 2 4 (by decide),e 3 4 (by decide),e 0 4 (by decide),e 1 4 (by decide),e 2 3 (by decide),e 2 0 (by decide),e 2 1 (by decide),e 3 0 (by decide),e 3 1 (by decide),e 0 1 (by decide)⟩
   refine wpAny_pyIter_zip (s:={ s1 with heap:=h' }) hz ⟨s1.heap.objs.size+4,_,_,_,H1,rfl,I2,oo ap,⟨hz,hTI,⟨_,_,hTO⟩,j1.k (p1.at fun o q=>hk _ o q),j2.k (p2.at fun o q=>hk _ o q)⟩,fun e he=>?_,q⟩
   have hb':s1.heap.objs.size<=e:=by
    simp only [List.mem_cons,List.not_mem_nil,or_false] at he
    rcases he with rfl | rfl | rfl | rfl | rfl
    · exact Nat.le_add_right _ 4
    · exact Nat.le_add_right _ 2
    · exact Nat.le_add_right _ 3
    · exact Nat.le_refl _
    · exact Nat.le_add_right _ 1
   exact I1.fpOk hb' (I1.hok.fresh hb')
 · exact q1.elim
theorem qo {l m:Expr} {ta:TA} {elts:List Expr} {k:Nat} {tp p pos:Pos} (hg:Gl X "zip") (hm:X.mg "zip" = none) (ha:ZA X [l,m] ta) (hs:starEach [l,m] X.env=[(false,eval l X.env),(false,eval m X.env)]:=by rfl) (hs2:starEach [m] X.env=[(false,eval m X.env)]:=by rfl) :
 ZI X (.Tuple elts k tp) (.Call (.Name "zip" p) [l,m] [] pos) (iZip ta):=by with_unfolding_all exact pi_zip hg hm ha hs hs2
theorem nk {nv:List Str} {ix:List (Str×Nat)} {σ:St} {g:TG} {ti:TT} {te:TE} {Fin:List V->Hp->Prop} {c d:Bool} {a b:Addr} {xs ys:List V} (Pv:Nat->List V->Hp->Prop) (h0:Pv 0 [] H) (hl:∀ i zs H,i<=min xs.length ys.length->Pv i zs H->SqK H c a xs/\SqK H d b ys)
 (hn:∀ i zs H,i<min xs.length ys.length->Pv i zs H->zs.length<sizeLine)
 (hs:∀ i x y zs H p,xs[i]? = some x->ys[i]? = some y->Pv i zs H->H p=none->g (.ref p) (st0 nv ix σ) (upd H p (.tup [x,y])) fun σ2 H2=>ti σ2 H2 fun b H3=>if b=true then te σ2 H3 fun y H4=>Pv (i+1) (zs++[y]) H4 else Pv (i+1) zs H3)
 (hd:∀ zs H,Pv (min xs.length ys.length) zs H->Fin zs H):n5 nv ix g ti te σ (Itz c d a b) Fin H:=by
 refine ⟨fun i m zs H=>m=min xs.length ys.length - i/\i<=min xs.length ys.length/\Pv i zs H,⟨_,rfl,Nat.zero_le _,h0⟩,?_⟩
 rintro i m zs H ⟨rfl,hi,p⟩
 obtain ⟨q1,q2⟩:=hl i zs H hi p
 by_cases hlt:i<min xs.length ys.length
 · have l1:i<xs.length:=by lia
   have l2:i<ys.length:=by lia
   refine .inr ⟨⟨xs,ys,xs[i],ys[i],q1,q2,by simp [l1],by simp [l2]⟩,hn i zs H hlt p,Pv (i+1),fun σ' H' p'=>⟨_,by lia,rfl,hlt,p'⟩,fun x H' y=>?_⟩
   obtain ⟨pp,hn',rfl,hy⟩:=y
   obtain ⟨x1,y1,e1,e2,rfl⟩:=hy xs ys q1 q2
   exact hs i x1 y1 zs H pp e1 e2 p hn'
 · have e:i=min xs.length ys.length:=by lia
   refine .inl ⟨⟨xs,ys,q1,q2,?_⟩,hd zs H (e▸p)⟩
   by_cases l1:i<xs.length
   · right;rw [List.getElem?_eq_none_iff];lia
   · left;rw [List.getElem?_eq_none_iff];lia
theorem cf {K:PySem.W.Frag} {x y:Str}:KpG [x,y] (gTup K 2 (gF (cV 0) (gF (cV 1) gNil))):=fun fr v H Q h=>by
 obtain ⟨a,xs,e,hq,hl,v1,r1,e1,v2,r2,e2,e3,q⟩:=h
 refine ⟨a,xs,e,hq,hl,v1,r1,e1,v2,r2,e2,e3,⟨by simp,fun i w e=>?_⟩,q⟩
 match i,e with
 | 0,e=>cases e
 | 1,e=>cases e
 | i+2,e=>exact e
theorem qN {prog:Program} {w:World} {A:Around} (hh:A.handled=none) (c:Bool) (it l:Addr) (hne:l≠it) (items:Array Value) :
 Draws prog w A it [it,l] items.size (fun i v=>items[i]? = some v) (fun i h=>Itk h c it l i/\IsSq h c l items) where
 live:=fun _ _ st=>let ⟨o,ho,_⟩:=st.1.obj;⟨o,ho⟩
 frame:=fun _ _ _ st k=>⟨st.1.at fun o e=>k it (List.mem_cons_self ..) o e,st.2.at fun o e=>k l (by simp) o e⟩
 item:=fun i s Q E hi st hQ=>Itq.item (v:=items[i]) (st.1.q st.2) hne (by simp [hi]) fun h' a b=>hQ items[i] h' s.toks (by simp [hi]) ⟨a.k (st.2.at fun o e=>b.extBut _ _ hne e),st.2.at fun o e=>b.extBut _ _ hne e⟩ b
 done:=fun s Q E st hE=>Itq.fin hh (st.1.q st.2) (by simp) hE
theorem iE (c:Bool) (l:Addr) (items:Array Value) :
 Meets (Builtin.«enumerate.__new__» ⟨[.type "enumerate",.ref l],[]⟩) (fun _ R s=>IsSq s.heap c l items /\
  R (.ok (.ret (.ref (s.heap.push (zqI c l)).objs.size))) { s with heap:=(s.heap.push (zqI c l)).push { cls:=.type "enumerate",data:=.fields #[.none,.bool false,.ref s.heap.objs.size,rawInt 0,.none,.none] } }):=
 .of_wp fun prog w A R s h=>by
  obtain ⟨hp,g,d,tk,os⟩:=s
  obtain ⟨hl,h⟩:=h
  have hsub:=sub_enumerate
  have hS:IsSq (Shared.heap ⟨hp,g,d,tk,os⟩) c l items:=hl
  obtain ⟨o,ho,_⟩:∃ o,hp.get? l=some o/\True:=by
   cases c with
   | true=>obtain ⟨o,e,_⟩:=(show hp.IsTuple l items from hl);exact ⟨o,e,trivial⟩
   | false=>obtain ⟨o,e,_⟩:=(show hp.IsList l items from hl);exact ⟨o,e,trivial⟩
  wp_walk using AutoSeq1.wpAny_loadPart' ho
  refine wpAny_stack_any fun st=>wpAny_pure ?_
  split
  · rename_i c' _ _ _ _ _
    cases (c' == Value.type "enumerate") <;> (wp_walk using AutoSeq1.wpAny_loadPart' ho,fT hS) <;> exact ⟨_,rfl,h⟩
  · wp_walk using AutoSeq1.wpAny_loadPart' ho,fT hS
    exact ⟨_,rfl,h⟩
def ItE (c:Bool) (a:Addr):It:=⟨fun i H=>∃ xs x,SqK H c a xs/\xs[i]? = some x,fun i H v H'=>∃ p,H p=none/\v=.ref p/\∀ xs,SqK H c a xs->∃ y,xs[i]? = some y/\H'=upd H p (.tup [.int i,y]),fun i H=>∃ xs,SqK H c a xs/\xs.length=i⟩
theorem jC {P:Program} {w:World} {K:PySem.W.Frag} {elts:List Expr} {k:Nat} {pos:Pos} {c:Bool} {e it a:Addr} (hei:e≠it) :
 Turn P w K (.Tuple elts k pos) (ItE c a) [e,it] e (fun i h=>(∃ old,IsEnum h e it i old)/\Itk h c it a i) where
 mem:=List.mem_cons_self ..
 obj:=fun i h st b hb=>by
  obtain ⟨⟨old,he⟩,kt⟩:=st
  rcases List.mem_cons.mp hb with rfl | hb
  · exact ⟨_,he,fun v z=>by cases z⟩
  · have:b=it:=by simpa using hb
    subst this
    exact kt.obj
 keep:=fun i h h' st k=>⟨let ⟨old,he⟩:=st.1;⟨old,k e (by simp) _ he⟩,st.2.at fun o q=>k it (by simp) o q⟩
 item:=by
  intro X hP hw hK hc i pins s σ H E I hf st hg
  subst hP hw hK
  obtain ⟨xs,x,hq,hx⟩:=hg
  obtain ⟨⟨old,he⟩,hit⟩:=st
  obtain ⟨its,rv,p⟩:=I.sqK hq
  obtain ⟨u,hu,ru⟩:=rv.get hx
  have fe:=hf e (by simp)
  have fi:=hf it (by simp)
  have hae:a≠e:=hq.ne fe.1
  have hai:a≠it:=hq.ne fi.1
  have hlt:i<its.toArray.size:=by rw [List.size_toArray];exact (List.getElem?_eq_some_iff.mp hu).1
  refine wpAny_pyNext_enum_itemD (qN (A:=X.A.in1) (I.ok.hd hc) c it a hai its.toArray) he ⟨hit,p⟩ hlt hei (by simp [hei,Ne.symm hae]) fun x' h' tk hPx ho hst' hTup hsz hk=>?_
  have ex:x'=u:=by
   have:its[i]? = some x':=by simpa using hPx
   rw [hu] at this
   exact (Option.some.inj this).symm
  subst ex
  refine ⟨_,rfl,wpAny_letOwnedTupleGo_enum ho fun h2 he2 hs2=>?_⟩
  have hel:e<s.heap.objs.size:=Heap.lt_size he
  have I1:Inv X pins σ H { s with heap:=h2,toks:=tk+1 }:=I.turned2 (fun b o n1 n2 q=>(hs2.2 b n1).trans (hk b o n1 n2 q)) fe fi
  have hTd:TupD h2 s.heap.objs.size [.int i tk,x'].toArray:=⟨0,(hs2.2 _ (Nat.ne_of_gt hel)).trans hTup⟩
  have hn:H s.heap.objs.size=none:=I.hok.fresh (Nat.le_refl _)
  have I2:=I1.trackT (ys:=[.int i,x]) (.cons ⟨tk,rfl⟩ (.cons ru .nil)) (by show 2<=sizeLine;decide) hTd (I.fpOk (Nat.le_refl _) hn)
  have hil:it<s.heap.objs.size:=by obtain ⟨o,q,_⟩:=hit.obj;exact Heap.lt_size q
  refine ⟨.ref s.heap.objs.size,_,I2,rfl,⟨_,hn,rfl,fun ys hy=>?_⟩,⟨⟨x',by simpa using he2⟩,hst'.1.at fun o q=>(hs2.2 it (Ne.symm hei)).trans q⟩,fun b hb=>?_⟩
  · cases hq.inj hy
    exact ⟨x,hx,rfl⟩
  · rcases List.mem_cons.mp hb with rfl | hb
    · rw [am (Nat.ne_of_lt hel)];exact fe.1
    · have:b=it:=by simpa using hb
      subst this
      rw [am (Nat.ne_of_lt hil)];exact fi.1
 done:=by
  intro X hP hw hK hc i pins s σ H E I hf st hg
  subst hP hw hK
  obtain ⟨xs,hq,hx⟩:=hg
  obtain ⟨⟨old,he⟩,hit⟩:=st
  obtain ⟨its,rv,p⟩:=I.sqK hq
  have fi:=hf it (by simp)
  have hai:a≠it:=hq.ne fi.1
  have hn:its.toArray.size=i:=by rw [List.size_toArray,← rv.length];exact hx
  refine wpAny_pyNext_enum_endD (qN (A:=X.A.in1) (I.ok.hd hc) c it a hai its.toArray) he ⟨by rw [hn];exact hit,p⟩ fun h' hb=>⟨rfl,I.turned (t':=s.toks) (it:=it) (fun b o n q=>hb b o n q) fi.1 fi.2.1 fi.2.2.2.1 fi.2.2.2.2.1 fi.2.2.2.2.2⟩
 self:=fun A i s Q E st h=>let ⟨⟨_,he⟩,_⟩:=st;wpAny_pyIter_enum he h
theorem j3 {prog:Program} {w:World} {A:Around} {E:Value->Shared->Prop} {s:Shared} {c:Bool} {l:Addr} {items:Array Value} {Q:Value->Shared->Prop} (hL:IsSq s.heap c l items)
 (h:∀ h',IsEnum h' (s.heap.objs.size+1) s.heap.objs.size 0 .none->Itk h' c s.heap.objs.size l 0->(∀ b o,s.heap.get? b=some o->h'.get? b=some o)->Q (.ref (s.heap.objs.size+1)) { s with heap:=h' }) :
 wpAny (model prog w) A (call (.type "enumerate") [.ref l]) Q E s:=by
 have hz:(s.heap.push (zqI c l)).objs.size=s.heap.objs.size+1:=Heap.size_push ..
 refine callType_new F.called_enumerate (by decide) (F.typeCall_enumerate_1 _) (F.newCall_enumerate_1 _) (fun obj=>F.args_object_init_2 obj _) F.entry_enumerate_new (iE c l items) ⟨hL,?_⟩
 have g:=Heap.get?_push_size (s.heap.push (zqI c l)) (o:={ cls:=.type "enumerate",data:=.fields #[.none,.bool false,.ref s.heap.objs.size,rawInt 0,.none,.none] }) rfl
 rw [hz] at g
 show _/\_
 rw [hz]
 refine ⟨⟨_,g,rfl⟩,h _ g ?_ fun b o q=>Heap.get?_push_of_some _ (Heap.get?_push_of_some _ q)⟩
 have e:=Heap.get?_push_of_some { cls:=.type "enumerate",data:=.fields #[.none,.bool false,.ref s.heap.objs.size,rawInt 0,.none,.none] } (Heap.get?_push_size s.heap (o:=zqI c l) rfl)
 cases c with
 | true=>exact ⟨_,e,rfl,rfl⟩
 | false=>exact ⟨_,e,rfl,rfl⟩
def qL (ta:TA):TI:=fun σ H R=>ta σ H fun vs H1=>match vs with
 | [.ref a]=>∃ c xs,SqK H1 c a xs/\R (ItE c a) H1
 | _=>False
theorem o6 {l:Expr} {ta:TA} {elts:List Expr} {k:Nat} {tp p pos:Pos} (hg:Gl X "enumerate") (hm:X.mg "enumerate" = none) (ha:PA X [l] ta) (hs:starEach [l] X.env=[(false,eval l X.env)]:=by rfl) :
 PI X (.Tuple elts k tp) (.Call (.Name "enumerate" p) [l] [] pos) (qL ta):=by
 intro pins s σ H R I h
 refine Call_ (dw I hg hm eG (PyProof.Rows.callWith_type1 (thn (ha pos pins s σ H _ I h) fun us s1 ⟨vs,H1,I1,r1,q1⟩=>?_) hs rfl))
 dsimp only at q1
 split at q1
 · rename_i a
   obtain ⟨c,xs,hx,q⟩:=q1
   obtain ⟨u,rfl,rx⟩:=bT r1
   cases rx
   obtain ⟨its,rv,pt⟩:=I1.sqK hx
   refine j3 pt fun h' he hit hk=>?_
   have I2:Inv X pins σ H1 { s1 with heap:=h' }:=I1.kept (t':=s1.toks) hk
   refine wpAny_pyIter_enum (s:={ s1 with heap:=h' }) he ⟨s1.heap.objs.size+1,[s1.heap.objs.size+1,s1.heap.objs.size],_,_,H1,rfl,I2,jC (Nat.succ_ne_self _),⟨⟨_,he⟩,hit⟩,fun b hb=>?_,q⟩
   have hb':s1.heap.objs.size<=b:=by
    rcases List.mem_cons.mp hb with rfl | hb
    · exact Nat.le_succ _
    · have:b=s1.heap.objs.size:=by simpa using hb
      exact Nat.le_of_eq this.symm
   exact I1.fpOk hb' (I1.hok.fresh hb')
 · exact q1.elim
theorem bq {l:Expr} {ta:TA} {elts:List Expr} {k:Nat} {tp p pos:Pos} (hg:Gl X "enumerate") (hm:X.mg "enumerate" = none) (ha:ZA X [l] ta) (hs:starEach [l] X.env=[(false,eval l X.env)]:=by rfl) :
 ZI X (.Tuple elts k tp) (.Call (.Name "enumerate" p) [l] [] pos) (qL ta):=by with_unfolding_all exact o6 hg hm ha hs
theorem ei {c:Bool} {a:Addr} {xs:List V} {g:TG} {tb:TS} {D:Ends} {σ:St} {H:Hp} (Pv:Nat->St->Hp->Prop) (h0:Pv 0 σ H) (hl:∀ i σ H,i<=xs.length->Pv i σ H->SqK H c a xs)
 (hs:∀ i x σ H p,xs[i]? = some x->Pv i σ H->H p=none->g (.ref p) σ (upd H p (.tup [.int i,x])) fun σ2 H2=>tb { D with nx:=Pv (i+1),ct:=Pv (i+1),bk:=D.nx } σ2 H2) (hd:∀ σ H,Pv xs.length σ H->D.nx σ H) :
 ∃ W:Nat->Nat->St->Hp->Prop,(∃ m,W 0 m σ H)/\∀ i m σ H,W i m σ H ->
   ((ItE c a).stop i H/\D.nx σ H)\/((ItE c a).go i H/\∃ N:St->Hp->Prop,(∀ σ' H',N σ' H'->∃ m',m' < m/\W (i+1) m' σ' H')/\∀ x H',(ItE c a).yld i H x H'->g x σ H' fun σ2 H2=>tb { D with nx:=N,ct:=N,bk:=D.nx } σ2 H2):=by
 refine ⟨fun i m σ H=>m=xs.length - i/\i<=xs.length/\Pv i σ H,⟨xs.length,by simp,Nat.zero_le _,h0⟩,?_⟩
 rintro i m σ H ⟨rfl,hi,p⟩
 have q:=hl i σ H hi p
 by_cases hlt:i<xs.length
 · refine .inr ⟨⟨xs,xs[i],q,by simp [hlt]⟩,Pv (i+1),fun σ' H' p'=>⟨xs.length - (i+1),by lia,rfl,hlt,p'⟩,fun x H' y=>?_⟩
   obtain ⟨pp,hn,rfl,hy⟩:=y
   obtain ⟨z,hz,rfl⟩:=hy xs q
   exact hs i z σ H pp hz p hn
 · have e:i=xs.length:=by lia
   subst e
   exact .inl ⟨⟨xs,q,rfl⟩,hd σ H p⟩
theorem bO {nv:List Str} {ix:List (Str×Nat)} {σ:St} {g:TG} {ti:TT} {te:TE} {Fin:List V->Hp->Prop} {c:Bool} {a:Addr} {xs:List V} (Pv:Nat->List V->Hp->Prop) (h0:Pv 0 [] H) (hl:∀ i zs H,i<=xs.length->Pv i zs H->SqK H c a xs)
 (hn:∀ i zs H,i<xs.length->Pv i zs H->zs.length<sizeLine)
 (hs:∀ i x zs H p,xs[i]? = some x->Pv i zs H->H p=none->g (.ref p) (st0 nv ix σ) (upd H p (.tup [.int i,x])) fun σ2 H2=>ti σ2 H2 fun b H3=>if b=true then te σ2 H3 fun y H4=>Pv (i+1) (zs++[y]) H4 else Pv (i+1) zs H3)
 (hd:∀ zs H,Pv xs.length zs H->Fin zs H):n5 nv ix g ti te σ (ItE c a) Fin H:=by
 refine ⟨fun i m zs H=>m=xs.length - i/\i<=xs.length/\Pv i zs H,⟨_,rfl,Nat.zero_le _,h0⟩,?_⟩
 rintro i m zs H ⟨rfl,hi,p⟩
 have q:=hl i zs H hi p
 by_cases hlt:i<xs.length
 · refine .inr ⟨⟨xs,xs[i],q,by simp [hlt]⟩,hn i zs H hlt p,Pv (i+1),fun σ' H' p'=>⟨_,by lia,rfl,hlt,p'⟩,fun x H' y=>?_⟩
   obtain ⟨pp,hn',rfl,hy⟩:=y
   obtain ⟨z,hz,rfl⟩:=hy xs q
   exact hs i z zs H pp hz p hn'
 · have e:i=xs.length:=by lia
   subst e
   exact .inl ⟨⟨xs,q,rfl⟩,hd zs H p⟩
end
end L2
namespace SRT
open PySem PyProof.Rows
def kv (p:Keyed):Int:=numOf p.1
def IsI (p:Keyed):Prop:=∃ t,p.1=.int (kv p) t
def AllI (xs:Array Keyed):Prop:=∀ p∈xs.toList,IsI p
section
variable {prog:Program} {w:World} {A:Around} {E:Value->Shared->Prop} {s:Shared}
theorem s_lt {st:SortSt} {x y:Keyed} {Q:Option Bool->SortSt->Prop} (hk:kindOf st=oneType') (hx:IsI x) (hy:IsI y) (h:Q (some (decide (kv x<kv y))) st):wpS (model prog w) A E s (lt' x y) Q st:=by
 obtain ⟨t,e⟩:=hx;obtain ⟨u,e'⟩:=hy
 rw [lt'_eq];refine wpS_bind (wpS_get ?_)
 rw [hk,keyLt'_oneType,e,e'];exact wpS_bind (wpS_lift (wpAny_attempt (oneLt_int ⟨rfl,wpS_pure h⟩)))
theorem iX {st:SortSt} {xs:Array Keyed} {i:Nat} {p:Keyed} {Q:Keyed->SortSt->Prop} (e:xs[i]? = some p) (h:Q p st):wpS (model prog w) A E s (elem' xs i) Q st:=by
 rw [elem'_eq,e];exact wpS_pure h
def gal:Bool->Keyed->Array Keyed->Nat->Nat->Nat->StateT SortSt Sem (Option Nat):=sortPriv% PySem.Builtin.gallop
theorem gal_eq (lf:Bool) (ky:Keyed) (ar:Array Keyed) (bs n ht:Nat):gal lf ky ar bs n ht=(do
 let byd (i:Nat):StateT SortSt Sem (Option Bool):=do
  let x ← elem' ar (bs+i)
  if lf then lt' x ky else return (← lt' ky x).map (!·)
 let mut la:=0
 let mut os:=1
 let mut lo:=0
 let mut hi:=0
 let some rt ← byd ht | return none
 if rt then
  let mo:=n - ht
  for _ in [0:n] do
   if os>=mo then break
   let some mr ← byd (ht+os) | return none
   if !mr then break
   la:=os
   os:=2*os+1
  lo:=ht+la+1
  hi:=ht+min os mo
 else
  let mo:=ht+1
  for _ in [0:n] do
   if os>=mo then break
   let some fd ← byd (ht - os) | return none
   if fd then break
   la:=os
   os:=2*os+1
  lo:=ht+1 - min os mo
  hi:=ht - la
 for _ in [0:n] do
  if lo>=hi then break
  let m:=lo+(hi - lo) / 2
  let some mr ← byd m | return none
  if mr then lo:=m+1 else hi:=m
 return some hi):=rfl
def Byd (lf:Bool) (ky:Keyed) (ar:Array Keyed) (bs i:Nat):Bool:=if lf then decide (K ar (bs+i)<kv ky) else !decide (kv ky<K ar (bs+i))
theorem tS {ar:Array Keyed} {i:Nat} {p:Keyed} (e:ar[i]? = some p):K ar i=kv p:=by unfold K kv;rw [e]
theorem at_of {ar:Array Keyed} {i:Nat} (h:i<ar.size) (hI:AllI ar):∃ p,ar[i]? = some p/\IsI p:=⟨ar[i],getElem?_pos ar i h,hI _ (by simp)⟩
theorem s_byd {st:SortSt} {lf:Bool} {ky:Keyed} {ar:Array Keyed} {bs i:Nat} {Q:Option Bool->SortSt->Prop} (hk:kindOf st=oneType') (hI:AllI ar) (hy:IsI ky) (hi:bs+i<ar.size) (h:Q (some (Byd lf ky ar bs i)) st) :
 wpS (model prog w) A E s (do let x ← elem' ar (bs+i);if lf then lt' x ky else return (← lt' ky x).map (!·)) Q st:=by
 obtain ⟨p,e,hp⟩:=at_of hi hI
 have hK:=tS e
 unfold Byd at h
 refine wpS_bind (iX e ?_)
 cases lf with
 | true=>
   simp only [if_true] at h ⊢
   rw [hK] at h
   exact s_lt hk hp hy h
 | false=>
   simp only [Bool.false_eq_true,if_false] at h ⊢
   rw [hK] at h
   exact wpS_bind (s_lt hk hy hp (wpS_pure h))
theorem cM {st:SortSt} {lf:Bool} {ky:Keyed} {ar:Array Keyed} {bs n ht c:Nat} {Q:Option Nat->SortSt->Prop} (hk:kindOf st=oneType') (hI:AllI ar) (hy:IsI ky) (hn:bs+n<=ar.size) (hh:ht<n) (hc:c<=n)
 (cut:∀ i,i<n->Byd lf ky ar bs i=decide (i<c)) (h:Q (some c) st):wpS (model prog w) A E s (gal lf ky ar bs n ht) Q st:=by
 have byd:∀ {i:Nat} {R:Option Bool->SortSt->Prop},i<n->R (some (decide (i<c))) st->wpS (model prog w) A E s (do let x ← elem' ar (bs+i);if lf then lt' x ky else return (← lt' ky x).map (!·)) R st:=fun {i R} hi hR=>
  s_byd hk hI hy (by lia) (by rw [cut i hi];exact hR)
 rw [gal_eq]
 dsimp only
 refine wpS_bind (byd hh ?_)
 by_cases hr:ht<c
 · simp only [hr,decide_true,if_true]
   refine wpS_bind (wpS_mono (wpS_forRange (I:=fun x r st'=>st=st'/\∃ l o,r=(none,l,o)/\ht+l<c/\l<o/\x+1<=o) (Q:=fun r st'=>st=st'/\∃ l o,r=(none,l,o)/\ht+l<c/\l<o/\c<=ht+min o (n - ht)) ?_ ?_ ⟨rfl,0,1,rfl,by lia,by lia,by lia⟩) ?_)
   · rintro x r st' _ hx ⟨rfl,l,o,rfl,g1,g2,g3⟩
     dsimp only
     by_cases hge:o>=n - ht
     · rw [if_pos hge]
       exact wpS_pure ⟨rfl,l,o,rfl,g1,g2,by lia⟩
     · rw [if_neg hge]
       refine wpS_bind (byd (by lia) ?_)
       by_cases hm:ht+o<c
       · simp only [hm,decide_true,Bool.not_true,Bool.false_eq_true,if_false]
         exact wpS_pure ⟨rfl,_,_,rfl,hm,by lia,by lia⟩
       · simp only [hm,decide_false,Bool.not_false,if_true]
         exact wpS_pure ⟨rfl,l,o,rfl,g1,g2,by lia⟩
   · rintro r st' ⟨rfl,l,o,rfl,g1,g2,g3⟩
     exact ⟨rfl,l,o,rfl,g1,g2,by lia⟩
   · rintro r st' ⟨rfl,l,o,rfl,g1,g2,g3⟩
     dsimp only
     refine wpS_bind (wpS_mono (wpS_forRange (I:=fun x r st'=>st=st'/\∃ l u,r=(none,l,u)/\l<=c/\c<=u/\u<=n/\u - l<=n - x) (Q:=fun r st'=>st=st'/\∃ l,r=(none,l,c)) ?_ ?_ ⟨rfl,(ht+l+1),(ht+min o (n - ht)),rfl,(by lia),g3,(by lia),by lia⟩) ?_)
     · rintro x r st' _ hx ⟨rfl,l,u,rfl,g1,g2,g3,g4⟩
       dsimp only
       by_cases hge:l>=u
       · rw [if_pos hge]
         have:u=c:=by lia
         subst this
         exact wpS_pure ⟨rfl,l,rfl⟩
       · rw [if_neg hge]
         refine wpS_bind (byd (by lia) ?_)
         by_cases hm:l+(u - l) / 2<c
         · simp only [hm,decide_true,if_true]
           exact wpS_pure ⟨rfl,_,_,rfl,by lia,g2,g3,by lia⟩
         · simp only [hm,decide_false,Bool.false_eq_true,if_false]
           exact wpS_pure ⟨rfl,_,_,rfl,g1,by lia,by lia,by lia⟩
     · rintro r st' ⟨rfl,l,u,rfl,g1,g2,g3,g4⟩
       have:u=c:=by
        have:max 0 n=n:=by lia
        lia
       subst this
       exact ⟨rfl,l,rfl⟩
     · rintro r st' ⟨rfl,l,rfl⟩
       exact wpS_pure h
 · simp only [hr,decide_false,Bool.false_eq_true,if_false]
   refine wpS_bind (wpS_mono (wpS_forRange (I:=fun x r st'=>st=st'/\∃ l o,r=(none,l,o)/\c<=ht - l/\l<=ht/\l<o/\x+1<=o) (Q:=fun r st'=>st=st'/\∃ l o,r=(none,l,o)/\c<=ht - l/\l<=ht/\l<o/\ht+1 - min o (ht+1)<=c) ?_ ?_ ⟨rfl,0,1,rfl,by lia,by lia,by lia,by lia⟩) ?_)
   · rintro x r st' _ hx ⟨rfl,l,o,rfl,g1,g0,g2,g3⟩
     dsimp only
     by_cases hge:o>=ht+1
     · rw [if_pos hge]
       exact wpS_pure ⟨rfl,l,o,rfl,g1,g0,g2,by lia⟩
     · rw [if_neg hge]
       refine wpS_bind (byd (by lia) ?_)
       by_cases hm:ht - o<c
       · simp only [hm,decide_true,if_true]
         exact wpS_pure ⟨rfl,l,o,rfl,g1,g0,g2,by lia⟩
       · simp only [hm,decide_false,Bool.false_eq_true,if_false]
         exact wpS_pure ⟨rfl,_,_,rfl,by lia,by lia,by lia,by lia⟩
   · rintro r st' ⟨rfl,l,o,rfl,g1,g0,g2,g3⟩
     exact ⟨rfl,l,o,rfl,g1,g0,g2,by lia⟩
   · rintro r st' ⟨rfl,l,o,rfl,g1,g0,g2,g3⟩
     dsimp only
     refine wpS_bind (wpS_mono (wpS_forRange (I:=fun x r st'=>st=st'/\∃ l u,r=(none,l,u)/\l<=c/\c<=u/\u<=n/\u - l<=n - x) (Q:=fun r st'=>st=st'/\∃ l,r=(none,l,c)) ?_ ?_ ⟨rfl,(ht+1 - min o (ht+1)),(ht - l),rfl,g3,g1,(by lia),by lia⟩) ?_)
     · rintro x r st' _ hx ⟨rfl,l,u,rfl,g1,g2,g3,g4⟩
       dsimp only
       by_cases hge:l>=u
       · rw [if_pos hge]
         have:u=c:=by lia
         subst this
         exact wpS_pure ⟨rfl,l,rfl⟩
       · rw [if_neg hge]
         refine wpS_bind (byd (by lia) ?_)
         by_cases hm:l+(u - l) / 2<c
         · simp only [hm,decide_true,if_true]
           exact wpS_pure ⟨rfl,_,_,rfl,by lia,g2,g3,by lia⟩
         · simp only [hm,decide_false,Bool.false_eq_true,if_false]
           exact wpS_pure ⟨rfl,_,_,rfl,g1,by lia,by lia,by lia⟩
     · rintro r st' ⟨rfl,l,u,rfl,g1,g2,g3,g4⟩
       have:u=c:=by
        have:max 0 n=n:=by lia
        lia
       subst this
       exact ⟨rfl,l,rfl⟩
     · rintro r st' ⟨rfl,l,rfl⟩
       exact wpS_pure h
end
def Le (x y:Keyed):Prop:=kv x<=kv y
structure MI (A B:List Keyed) (o:List Keyed) (ia ib:Nat):Prop where
 perm:o.Perm (A.take ia++B.take ib)
 srt:o.Pairwise Le
 lea:∀ x∈o,∀ y∈A.drop ia,kv x<=kv y
 leb:∀ x∈o,∀ y∈B.drop ib,kv x<=kv y
structure Mer (A B:List Keyed) (o:List Keyed):Prop where
 perm:o.Perm (A++B)
 srt:o.Pairwise Le
theorem ir {l:List Keyed} (h:l.Pairwise Le) {i:Nat} (hi:i<l.length):∀ y∈l.drop (i+1),kv l[i]<=kv y:=by
 have e:l.drop i=l[i]::l.drop (i+1):=List.drop_eq_getElem_cons hi
 have h2:(l.drop i).Pairwise Le:=h.sublist (List.drop_sublist i l)
 rw [e] at h2
 exact (List.pairwise_cons.mp h2).1
theorem cQ {l:List Keyed} {i:Nat} {y:Keyed} (h:y∈l.drop (i+1)):y∈l.drop i:=by
 rw [← List.drop_drop] at h
 exact List.mem_of_mem_drop h
theorem MI.pushB {A B o:List Keyed} {ia ib:Nat} (m:MI A B o ia ib) (hB:B.Pairwise Le) (hi:ib<B.length) (h:∀ z∈A.drop ia,kv B[ib]<=kv z):MI A B (o++[B[ib]]) ia (ib+1):=by
 have hm:B[ib]∈B.drop ib:=by rw [List.drop_eq_getElem_cons hi];exact List.mem_cons_self
 refine ⟨?_,?_,fun x hx y hy=>?_,fun x hx y hy=>?_⟩
 · have e:B.take (ib+1)=B.take ib++[B[ib]]:=by rw [List.take_succ,List.getElem?_eq_getElem hi];rfl
   rw [e,← List.append_assoc]
   exact m.perm.append_right _
 · refine List.pairwise_append.mpr ⟨m.srt,List.pairwise_singleton _ _,fun x hx y hy=>?_⟩
   rw [List.mem_singleton.mp hy]
   exact m.leb x hx _ hm
 · rcases List.mem_append.mp hx with hx | hx
   · exact m.lea x hx y hy
   · rw [List.mem_singleton.mp hx];exact h y hy
 · rcases List.mem_append.mp hx with hx | hx
   · exact m.leb x hx y (cQ hy)
   · rw [List.mem_singleton.mp hx];exact ir hB hi y hy
theorem MI.pushA {A B o:List Keyed} {ia ib:Nat} (m:MI A B o ia ib) (hA:A.Pairwise Le) (hi:ia<A.length) (h:∀ z∈B.drop ib,kv A[ia]<=kv z):MI A B (o++[A[ia]]) (ia+1) ib:=by
 have hm:A[ia]∈A.drop ia:=by rw [List.drop_eq_getElem_cons hi];exact List.mem_cons_self
 refine ⟨?_,?_,fun x hx y hy=>?_,fun x hx y hy=>?_⟩
 · have e:A.take (ia+1)=A.take ia++[A[ia]]:=by rw [List.take_succ,List.getElem?_eq_getElem hi];rfl
   rw [e,List.append_assoc]
   refine (m.perm.append_right _).trans ?_
   rw [List.append_assoc]
   exact List.Perm.append_left _ List.perm_append_comm
 · refine List.pairwise_append.mpr ⟨m.srt,List.pairwise_singleton _ _,fun x hx y hy=>?_⟩
   rw [List.mem_singleton.mp hy]
   exact m.lea x hx _ hm
 · rcases List.mem_append.mp hx with hx | hx
   · exact m.lea x hx y (cQ hy)
   · rw [List.mem_singleton.mp hx];exact ir hA hi y hy
 · rcases List.mem_append.mp hx with hx | hx
   · exact m.leb x hx y hy
   · rw [List.mem_singleton.mp hx];exact h y hy
theorem MI.extA {A B o:List Keyed} {ia ib:Nat} (m:MI A B o ia ib) (hA:A.Pairwise Le):∀ (k:Nat),ia+k<=A.length->(∀ i (hi:ia+i<A.length),i<k->∀ z∈B.drop ib,kv A[ia+i]<=kv z)->MI A B (o++(A.drop ia).take k) (ia+k) ib
 | 0,_,_=>by rw [List.take_zero,List.append_nil];exact m
 | k+1,hk,h=>by
   have ih:=MI.extA m hA k (by lia) fun i hi hik=>h i hi (by lia)
   have hi:ia+k<A.length:=by lia
   have e:(A.drop ia).take (k+1)=(A.drop ia).take k++[A[ia+k]]:=by rw [List.take_succ,List.getElem?_drop,List.getElem?_eq_getElem hi];rfl
   rw [e,← List.append_assoc]
   exact ih.pushA hA hi (h k hi (by lia))
theorem MI.extB {A B o:List Keyed} {ia ib:Nat} (m:MI A B o ia ib) (hB:B.Pairwise Le):∀ (k:Nat),ib+k<=B.length->(∀ i (hi:ib+i<B.length),i<k->∀ z∈A.drop ia,kv B[ib+i]<=kv z)->MI A B (o++(B.drop ib).take k) ia (ib+k)
 | 0,_,_=>by rw [List.take_zero,List.append_nil];exact m
 | k+1,hk,h=>by
   have ih:=MI.extB m hB k (by lia) fun i hi hik=>h i hi (by lia)
   have hi:ib+k<B.length:=by lia
   have e:(B.drop ib).take (k+1)=(B.drop ib).take k++[B[ib+k]]:=by rw [List.take_succ,List.getElem?_drop,List.getElem?_eq_getElem hi];rfl
   rw [e,← List.append_assoc]
   exact ih.pushB hB hi (h k hi (by lia))
theorem dJ (a b c d:List Keyed):(a++b++(c++d)).Perm (a++c++(b++d)):=by
 rw [List.append_assoc,List.append_assoc]
 refine List.Perm.append_left a ?_
 rw [← List.append_assoc,← List.append_assoc]
 exact List.Perm.append_right d List.perm_append_comm
theorem MI.finAB {A B o:List Keyed} {ia ib:Nat} (m:MI A B o ia ib) (hA:A.Pairwise Le) (hB:B.Pairwise Le) (h:∀ x∈A.drop ia,∀ y∈B.drop ib,kv x<=kv y):Mer A B (o++A.drop ia++B.drop ib):=by
 refine ⟨?_,?_⟩
 · have e:=(m.perm.append_right (A.drop ia++B.drop ib)).trans (dJ (A.take ia) (B.take ib) (A.drop ia) (B.drop ib))
   rw [List.take_append_drop,List.take_append_drop] at e
   rw [List.append_assoc];exact e
 · refine List.pairwise_append.mpr ⟨List.pairwise_append.mpr ⟨m.srt,hA.sublist (List.drop_sublist _ _),fun x hx y hy=>m.lea x hx y hy⟩,hB.sublist (List.drop_sublist _ _),fun x hx y hy=>?_⟩
   rcases List.mem_append.mp hx with hx | hx
   · exact m.leb x hx y hy
   · exact h x hx y hy
theorem MI.finBA {A B o:List Keyed} {ia ib:Nat} (m:MI A B o ia ib) (hA:A.Pairwise Le) (hB:B.Pairwise Le) (h:∀ x∈A.drop ia,∀ y∈B.drop ib,kv y<=kv x):Mer A B (o++B.drop ib++A.drop ia):=by
 refine ⟨?_,?_⟩
 · have e:=(m.perm.append_right (A.drop ia++B.drop ib)).trans (dJ (A.take ia) (B.take ib) (A.drop ia) (B.drop ib))
   rw [List.take_append_drop,List.take_append_drop] at e
   rw [List.append_assoc]
   exact (List.Perm.append_left o List.perm_append_comm).trans e
 · refine List.pairwise_append.mpr ⟨List.pairwise_append.mpr ⟨m.srt,hB.sublist (List.drop_sublist _ _),fun x hx y hy=>m.leb x hx y hy⟩,hA.sublist (List.drop_sublist _ _),fun x hx y hy=>?_⟩
   rcases List.mem_append.mp hx with hx | hx
   · exact m.lea x hx y hy
   · exact h y hy x hx
def mlo:Array Keyed->Array Keyed->StateT SortSt Sem (Array Keyed):=sortPriv% PySem.Builtin.mergeLo
def setG:Nat->StateT SortSt Sem Unit:=sortPriv% PySem.Builtin.setMinGallop
theorem rp (g:Nat):setG g=modify fun z=>SortSt.mk' (kindOf z) (arrOf z) (pendingOf z) g (failedOf z):=rfl
theorem mlo_eq (xa xb:Array Keyed):mlo xa xb=(do
 rule "list.sort.merge-lo"
 let tot:=xa.size+xb.size
 let dn (ou:Array Keyed) (i j:Nat):=ou++xa.extract i xa.size++xb.extract j xb.size
 let la (ou:Array Keyed) (i j:Nat):=ou++xb.extract j xb.size++xa.extract i xa.size
 let mut ou:Array Keyed:=#[← elem' xb 0]
 let mut i:=0
 let mut j:=1
 if j == xb.size then return dn ou i j
 if i+1 == xa.size then return la ou i j
 let mut mg:=gallopOf (← get)
 for _ in [0:tot] do
  let mut ac:=0
  let mut bc:=0
  for _ in [0:tot] do
   let some bw ← lt' (← elem' xb j) (← elem' xa i) | return dn ou i j
   if bw then
    ou:=ou.push (← elem' xb j);j:=j+1;bc:=bc+1;ac:=0
    if j == xb.size then return dn ou i j
    if bc>=mg then break
   else
    ou:=ou.push (← elem' xa i);i:=i+1;ac:=ac+1;bc:=0
    if i+1 == xa.size then return la ou i j
    if ac>=mg then break
  rule "list.sort.gallop"
  mg:=mg+1
  for _ in [0:tot] do
   if mg > 1 then mg:=mg - 1
   setG mg
   let some k ← gal false (← elem' xb j) xa i (xa.size - i) 0 | return dn ou i j
   ac:=k
   if k > 0 then
    ou:=ou++xa.extract i (i+k);i:=i+k
    if i+1 == xa.size then return la ou i j
    if i == xa.size then return dn ou i j
   ou:=ou.push (← elem' xb j);j:=j+1
   if j == xb.size then return dn ou i j
   let some k ← gal true (← elem' xa i) xb j (xb.size - j) 0 | return dn ou i j
   bc:=k
   if k > 0 then
    ou:=ou++xb.extract j (j+k);j:=j+k
    if j == xb.size then return dn ou i j
   ou:=ou.push (← elem' xa i);i:=i+1
   if i+1 == xa.size then return la ou i j
   if ac<7&&bc<7 then break
  mg:=mg+1
  setG mg
 unsupported "internal:list.sort.merge-bound"):=rfl
structure SameSt (a b:SortSt):Prop where
 kind:kindOf b=kindOf a
 arr:arrOf b=arrOf a
 pend:pendingOf b=pendingOf a
 fail:failedOf b=failedOf a
theorem SameSt.refl (a:SortSt):SameSt a a:=⟨rfl,rfl,rfl,rfl⟩
theorem SameSt.setG {a b:SortSt} (h:SameSt a b) (g:Nat):SameSt a (SortSt.mk' (kindOf b) (arrOf b) (pendingOf b) g (failedOf b)):=⟨h.kind,h.arr,h.pend,h.fail⟩
theorem ic (o x y:Array Keyed) (i j:Nat):(o++x.extract i x.size++y.extract j y.size).toList=o.toList++x.toList.drop i++y.toList.drop j:=by
 have e:∀ (z:Array Keyed) (k:Nat),(z.extract k z.size).toList=z.toList.drop k:=fun z k=>by
  rw [Array.toList_extract,List.extract_eq_drop_take,List.take_of_length_le]
  rw [List.length_drop,Array.length_toList]
  exact Nat.le_refl _
 rw [Array.toList_append,Array.toList_append,e,e]
theorem dO (o x:Array Keyed) (i k:Nat):(o++x.extract i (i+k)).toList=o.toList++(x.toList.drop i).take k:=by
 rw [Array.toList_append,Array.toList_extract,List.extract_eq_drop_take,Nat.add_sub_cancel_left]
section
variable {A B:List Keyed} {o:List Keyed} {ia ib:Nat}
theorem cX {l:List Keyed} {i:Nat} (h:i=l.length):l.drop i=[]:=List.drop_of_length_le (by lia)
theorem pC {l:List Keyed} {i:Nat} (h:i+1=l.length):∀ x∈l.drop i,kv x=kv (l[l.length - 1]'(by lia)):=fun x hx=>by
 have e:l.drop i=l[i]::l.drop (i+1):=List.drop_eq_getElem_cons (by lia)
 rw [e,cX h] at hx
 have:x=l[i]:=by simpa using hx
 subst this
 congr 2
 lia
end
section
variable {prog:Program} {w:World} {A:Around} {E:Value->Shared->Prop} {s:Shared}
theorem ao {st:SortSt} {xs:Array Keyed} {i:Nat} {Q:Keyed->SortSt->Prop} (hi:i<xs.toList.length) (h:Q xs.toList[i] st):wpS (model prog w) A E s (elem' xs i) Q st:=
 iX (by rw [← Array.getElem?_toList,List.getElem?_eq_getElem hi]) h
theorem fg {st:SortSt} {g:Nat} {Q:Unit->SortSt->Prop} (h:Q () (SortSt.mk' (kindOf st) (arrOf st) (pendingOf st) g (failedOf st))):wpS (model prog w) A E s (setG g) Q st:=by
 rw [rp];exact wpS_modify h
theorem cw {xs:Array Keyed} (hs:xs.toList.Pairwise Le) (ky:Keyed) (lf:Bool) (bs n:Nat) (hn:bs+n<=xs.size):∃ c,c<=n/\∀ i,i<n->Byd lf ky xs bs i=decide (i<c):=by
 have mono:∀ i j,i<=j->bs+j<xs.size->K xs (bs+i)<=K xs (bs+j):=fun i j hij hj=>by
  have e1:xs[bs+i]? = some (xs.toList[bs+i]'(by rw [Array.length_toList];lia)):=by rw [← Array.getElem?_toList,List.getElem?_eq_getElem]
  have e2:xs[bs+j]? = some (xs.toList[bs+j]'(by rw [Array.length_toList];lia)):=by rw [← Array.getElem?_toList,List.getElem?_eq_getElem]
  rw [tS e1,tS e2]
  by_cases h:i=j
  · subst h;exact Int.le_refl _
  · exact List.pairwise_iff_getElem.mp hs _ _ _ _ (by lia)
 have down:∀ i j,i<=j->j<n->Byd lf ky xs bs j=true->Byd lf ky xs bs i=true:=fun i j hij hj h=>by
  have:=mono i j hij (by lia)
  unfold Byd at h ⊢
  cases lf with
  | true=>simp only [if_true,decide_eq_true_eq] at h ⊢;lia
  | false=>simp only [Bool.false_eq_true,if_false,Bool.not_eq_true',decide_eq_false_iff_not] at h ⊢;lia
 induction n with
 | zero=>exact ⟨0,Nat.le_refl _,fun i hi=>absurd hi (Nat.not_lt_zero _)⟩
 | succ n ih=>
   obtain ⟨c,hc,hd⟩:=ih (by lia) (fun i j hij hj h=>down i j hij (by lia) h)
   by_cases hb:Byd lf ky xs bs n=true
   · refine ⟨n+1,Nat.le_refl _,fun i hi=>?_⟩
     rw [decide_eq_true hi]
     exact down i n (by lia) (by lia) hb
   · refine ⟨c,by lia,fun i hi=>?_⟩
     by_cases h:i=n
     · subst h
       rw [decide_eq_false (by lia)]
       exact Bool.not_eq_true _▸(by simpa using hb)
     · exact hd i (by lia)
theorem n4 {xs:Array Keyed} {i:Nat} (hi:i<xs.toList.length):K xs i=kv xs.toList[i]:=tS (by rw [← Array.getElem?_toList,List.getElem?_eq_getElem hi])
end
theorem ce {l:List Keyed} {k:Nat} {z:Keyed} (h:z∈l.drop k):∃ u,∃ h:k+u<l.length,z=l[k+u]:=by
 obtain ⟨u,hu,rfl⟩:=List.mem_iff_getElem.mp h
 rw [List.length_drop] at hu
 exact ⟨u,by lia,by rw [List.getElem_drop]⟩
theorem cg {l:List Keyed} (h:l.Pairwise Le) {i:Nat} (hi:i<l.length):∀ z∈l.drop i,kv l[i]<=kv z:=fun z hz=>by
 rw [List.drop_eq_getElem_cons hi] at hz
 rcases List.mem_cons.mp hz with rfl | hz
 · exact Int.le_refl _
 · exact ir h hi z hz
theorem gfalse {xs:Array Keyed} {ky:Keyed} {bs n c:Nat} (hn:bs+n=xs.toList.length) (cut:∀ i,i<n->Byd false ky xs bs i=decide (i<c)) :
 (∀ t (h:bs+t<xs.toList.length),t<c->kv xs.toList[bs+t]<=kv ky)/\(∀ z∈xs.toList.drop (bs+c),kv ky<kv z):=by
 constructor
 · intro t h ht
   have:=cut t (by lia)
   rw [decide_eq_true ht] at this
   unfold Byd at this
   rw [n4 h] at this
   simp only [Bool.false_eq_true,if_false,Bool.not_eq_true',decide_eq_false_iff_not] at this
   lia
 · intro z hz
   obtain ⟨u,hu,rfl⟩:=ce hz
   have:=cut (c+u) (by lia)
   rw [decide_eq_false (by lia)] at this
   unfold Byd at this
   have e:bs+(c+u)=bs+c+u:=by lia
   rw [e,n4 hu] at this
   simpa using this
theorem pU {xs:Array Keyed} {ky:Keyed} {bs n c:Nat} (hn:bs+n=xs.toList.length) (cut:∀ i,i<n->Byd true ky xs bs i=decide (i<c)) :
 (∀ t (h:bs+t<xs.toList.length),t<c->kv xs.toList[bs+t]<kv ky)/\(∀ z∈xs.toList.drop (bs+c),kv ky<=kv z):=by
 constructor
 · intro t h ht
   have:=cut t (by lia)
   rw [decide_eq_true ht] at this
   unfold Byd at this
   rw [n4 h] at this
   simpa using this
 · intro z hz
   obtain ⟨u,hu,rfl⟩:=ce hz
   have:=cut (c+u) (by lia)
   rw [decide_eq_false (by lia)] at this
   unfold Byd at this
   have e:bs+(c+u)=bs+c+u:=by lia
   rw [e,n4 hu] at this
   simpa using this
theorem MI.start {A B:List Keyed} (hB:B.Pairwise Le) (hb:0<B.length) (h0:∀ z∈A,kv B[0]<=kv z):MI A B [B[0]] 0 1:=by
 have m:MI A B [] 0 0:=⟨by simp,List.Pairwise.nil,fun x hx=>(nomatch hx),fun x hx=>(nomatch hx)⟩
 exact m.pushB hB hb fun z hz=>h0 z (by simpa using hz)
theorem MI.doneB {xa xb ou:Array Keyed} {i j:Nat} (m:MI xa.toList xb.toList ou.toList i j) (hA:xa.toList.Pairwise Le) (hB:xb.toList.Pairwise Le) (h:j=xb.toList.length):Mer xa.toList xb.toList (ou++xa.extract i xa.size++xb.extract j xb.size).toList:=by
 rw [ic]
 exact m.finAB hA hB fun x _ y hy=>by rw [cX h] at hy;cases hy
theorem MI.doneA {xa xb ou:Array Keyed} {i j:Nat} (m:MI xa.toList xb.toList ou.toList i j) (hA:xa.toList.Pairwise Le) (hB:xb.toList.Pairwise Le) (h:i=xa.toList.length):Mer xa.toList xb.toList (ou++xa.extract i xa.size++xb.extract j xb.size).toList:=by
 rw [ic]
 exact m.finAB hA hB fun x hx y _=>by rw [cX h] at hx;cases hx
theorem MI.last {xa xb ou:Array Keyed} {i j:Nat} (m:MI xa.toList xb.toList ou.toList i j) (hA:xa.toList.Pairwise Le) (hB:xb.toList.Pairwise Le) (h:i+1=xa.toList.length) (hl:∀ z∈xb.toList,kv z<=kv (xa.toList[xa.toList.length - 1]'(by lia))):Mer xa.toList xb.toList (ou++xb.extract j xb.size++xa.extract i xa.size).toList:=by
 rw [ic]
 exact m.finBA hA hB fun x hx y hy=>by rw [pC h x hx];exact hl y (List.mem_of_mem_drop hy)
section
variable {prog:Program} {w:World} {A:Around} {E:Value->Shared->Prop} {s:Shared}
theorem s_mlo {st:SortSt} {xa xb:Array Keyed} {Q:Array Keyed->SortSt->Prop} (hk:kindOf st=oneType') (hIa:AllI xa) (hIb:AllI xb) (hA:xa.toList.Pairwise Le) (hB:xb.toList.Pairwise Le) (ha:0<xa.toList.length) (hb:0<xb.toList.length)
 (h0:∀ z∈xa.toList,kv (xb.toList[0])<=kv z) (hl:∀ z∈xb.toList,kv z<=kv (xa.toList[xa.toList.length - 1]'(by lia)))
 (h:∀ o st',SameSt st st'->Mer xa.toList xb.toList o.toList->Q o st'):wpS (model prog w) A E s (mlo xa xb) Q st:=by
 have hsa:xa.size=xa.toList.length:=(Array.length_toList ..).symm
 have hsb:xb.size=xb.toList.length:=(Array.length_toList ..).symm
 rw [mlo_eq]
 refine wpS_bind (wpS_lift (wpAny_rule ⟨rfl,?_⟩))
 dsimp only
 refine wpS_bind (ao hb ?_)
 have m0:MI xa.toList xb.toList (#[xb.toList[0]]:Array Keyed).toList 0 1:=MI.start hB hb h0
 by_cases c1:1=xb.size
 · rw [if_pos (by simpa using c1)]
   exact wpS_pure (h _ _ (SameSt.refl _) (m0.doneB hA hB (by lia)))
 rw [if_neg (by simpa using c1)]
 by_cases c2:0+1=xa.size
 · rw [if_pos (by simpa using c2)]
   exact wpS_pure (h _ _ (SameSt.refl _) (m0.last hA hB (by lia) hl))
 rw [if_neg (by simpa using c2)]
 refine wpS_bind (wpS_get ?_)
 refine wpS_bind (wpS_mono (wpS_forRange (I:=fun x c st'=>SameSt st st'/\∃ ou i j mg,c=(none,ou,i,j,mg)/\MI xa.toList xb.toList ou.toList i j/\i+1<xa.size/\j<xb.toList.length/\x+1<=i+j) (Q:=fun c st'=>SameSt st st'/\∃ res rest,c=(some res,rest)/\Mer xa.toList xb.toList res.toList) ?step ?fin ⟨SameSt.refl _,_,_,_,_,rfl,m0,by lia,by lia,by lia⟩) ?post)
 case post=>
  rintro c st' ⟨sm,res,rest,rfl,me⟩
  exact wpS_pure (h _ _ sm me)
 case fin=>
  rintro c st' ⟨sm,ou,i,j,mg,rfl,m,hi,hj,hx⟩
  exfalso
  lia
 case step=>
  rintro x c st1 _ hx ⟨sm,ou,i,j,mg,rfl,m,hi,hj,hx2⟩
  dsimp only
  refine wpS_bind (wpS_mono (wpS_forRange (I:=fun y c st'=>SameSt st st'/\∃ ou i j ac bc,c=(none,ou,i,j,ac,bc)/\MI xa.toList xb.toList ou.toList i j/\i+1<xa.size/\j<xb.toList.length/\x+1+min y 1<=i+j)
   (Q:=fun c st'=>SameSt st st'/\((∃ res rest,c=(some res,rest)/\Mer xa.toList xb.toList res.toList)\/∃ ou i j ac bc,c=(none,ou,i,j,ac,bc)/\MI xa.toList xb.toList ou.toList i j/\i+1<xa.size/\j<xb.toList.length/\x+2<=i+j)) ?s1 ?f1 ⟨sm,_,_,_,_,_,rfl,m,hi,hj,by lia⟩) ?p1)
  case f1=>
   rintro c st2 ⟨sm2,ou,i,j,ac,bc,rfl,m,hi,hj,hx3⟩
   exact ⟨sm2,.inr ⟨_,_,_,_,_,rfl,m,hi,hj,by lia⟩⟩
  case s1=>
   rintro y c st2 _ hy ⟨sm2,ou,i,j,ac,bc,rfl,m,hi,hj,hx3⟩
   dsimp only
   refine wpS_bind (ao hj (wpS_bind (ao (i:=i) (by lia) ?_)))
   refine wpS_bind (s_lt (sm2.kind.trans hk) (hIb _ (List.getElem_mem _)) (hIa _ (List.getElem_mem _)) ?_)
   by_cases bw:kv xb.toList[j]<kv (xa.toList[i]'(by lia))
   · simp only [bw,decide_true,if_true]
     refine wpS_bind (ao hj ?_)
     have m2:MI xa.toList xb.toList (ou.push xb.toList[j]).toList i (j+1):=by
      rw [Array.toList_push]
      exact m.pushB hB hj fun z hz=>Int.le_trans (Int.le_of_lt bw) (cg hA (by lia) z hz)
     by_cases e1:j+1=xb.size
     · rw [if_pos (by simpa using e1)]
       exact wpS_pure ⟨sm2,.inl ⟨_,_,rfl,m2.doneB hA hB (by lia)⟩⟩
     · rw [if_neg (by simpa using e1)]
       split
       · exact wpS_pure ⟨sm2,.inr ⟨_,_,_,_,_,rfl,m2,hi,by lia,by lia⟩⟩
       · exact wpS_pure ⟨sm2,_,_,_,_,_,rfl,m2,hi,by lia,by lia⟩
   · simp only [bw,decide_false,Bool.false_eq_true,if_false]
     refine wpS_bind (ao (i:=i) (by lia) ?_)
     have m2:MI xa.toList xb.toList (ou.push (xa.toList[i]'(by lia))).toList (i+1) j:=by
      rw [Array.toList_push]
      exact m.pushA hA (by lia) fun z hz=>Int.le_trans (Int.not_lt.mp bw) (cg hB hj z hz)
     by_cases e1:i+1+1=xa.size
     · rw [if_pos (by simpa using e1)]
       exact wpS_pure ⟨sm2,.inl ⟨_,_,rfl,m2.last hA hB (by lia) hl⟩⟩
     · rw [if_neg (by simpa using e1)]
       split
       · exact wpS_pure ⟨sm2,.inr ⟨_,_,_,_,_,rfl,m2,by lia,hj,by lia⟩⟩
       · exact wpS_pure ⟨sm2,_,_,_,_,_,rfl,m2,by lia,hj,by lia⟩
  case p1=>
   rintro c st2 ⟨sm2,⟨res,rest,rfl,me⟩ | ⟨ou,i,j,ac,bc,rfl,m,hi,hj,hx3⟩⟩
   · exact wpS_pure ⟨sm2,_,_,rfl,me⟩
   dsimp only
   refine wpS_bind (wpS_lift (wpAny_rule ⟨rfl,?_⟩))
   refine wpS_bind (wpS_mono (wpS_forRange (I:=fun y c st'=>SameSt st st'/\∃ ou i j mg ac bc,c=(none,ou,i,j,mg,ac,bc)/\MI xa.toList xb.toList ou.toList i j/\i+1<xa.size/\j<xb.toList.length/\x+2<=i+j)
    (Q:=fun c st'=>SameSt st st'/\((∃ res rest,c=(some res,rest)/\Mer xa.toList xb.toList res.toList)\/∃ ou i j mg ac bc,c=(none,ou,i,j,mg,ac,bc)/\MI xa.toList xb.toList ou.toList i j/\i+1<xa.size/\j<xb.toList.length/\x+2<=i+j)) ?s2 ?f2 ⟨sm2,_,_,_,_,_,_,rfl,m,hi,hj,hx3⟩) ?p2)
   case f2=>
    rintro c st3 ⟨sm3,ou,i,j,mg,ac,bc,rfl,m,hi,hj,hx4⟩
    exact ⟨sm3,.inr ⟨_,_,_,_,_,_,rfl,m,hi,hj,hx4⟩⟩
   case p2=>
    rintro c st3 ⟨sm3,⟨res,rest,rfl,me⟩ | ⟨ou,i,j,mg,ac,bc,rfl,m,hi,hj,hx4⟩⟩
    · exact wpS_pure ⟨sm3,_,_,rfl,me⟩
    · dsimp only
      refine wpS_bind (fg ?_)
      exact wpS_pure ⟨sm3.setG _,_,_,_,_,rfl,m,hi,hj,by lia⟩
   case s2=>
    rintro y c st3 _ hy ⟨sm3',ou,i,j,mg,ac,bc,rfl,m,hi,hj,hx4⟩
    dsimp only
    have sm3:=fun g=>sm3'.setG g
    obtain ⟨c1,hc1,cut1⟩:=cw hA xb.toList[j] false i (xa.size - i) (by lia)
    obtain ⟨le1,gt1⟩:=gfalse (by lia) cut1
    have m1:MI xa.toList xb.toList (ou++xa.extract i (i+c1)).toList (i+c1) j:=by
     rw [dO]
     exact m.extA hA c1 (by lia) fun t ht htc z hz=>Int.le_trans (le1 t ht htc) (cg hB hj z hz)
    by_cases hmg:mg > 1
    · rw [if_pos hmg]
      refine wpS_bind (fg (wpS_bind (ao hj ?_)))
      refine wpS_bind (cM (c:=c1) ((sm3 _).kind.trans hk) hIa (hIb _ (List.getElem_mem _)) (by lia) (by lia) hc1 cut1 ?_)
      dsimp only
      by_cases k0:c1 > 0
      · rw [if_pos k0]
        by_cases e1:i+c1+1=xa.size
        · rw [if_pos (by simpa using e1)]
          exact wpS_pure ⟨sm3 _,.inl ⟨_,_,rfl,m1.last hA hB (by lia) hl⟩⟩
        · rw [if_neg (by simpa using e1)]
          by_cases e2:i+c1=xa.size
          · rw [if_pos (by simpa using e2)]
            exact wpS_pure ⟨sm3 _,.inl ⟨_,_,rfl,m1.doneA hA hB (by lia)⟩⟩
          · rw [if_neg (by simpa using e2)]
            refine wpS_bind (ao hj ?_)
            have M2:MI xa.toList xb.toList (Array.push (ou++xa.extract i (i+c1)) xb.toList[j]).toList (i+c1) (j+1):=by rw [Array.toList_push];exact MI.pushB m1 hB hj (fun z hz=>Int.le_of_lt (gt1 z hz))
            by_cases e3:j+1=xb.size
            · rw [if_pos (by simpa using e3)]
              exact wpS_pure ⟨sm3 _,.inl ⟨_,_,rfl,M2.doneB hA hB (by lia)⟩⟩
            · rw [if_neg (by simpa using e3)]
              refine wpS_bind (ao (i:=(i+c1)) (by lia) ?_)
              obtain ⟨c2,hc2,cut2⟩:=cw hB (xa.toList[(i+c1)]'(by lia)) true (j+1) (xb.size - (j+1)) (by lia)
              obtain ⟨lt2,ge2⟩:=pU (by lia) cut2
              refine wpS_bind (cM (c:=c2) ((sm3 _).kind.trans hk) hIb (hIa _ (List.getElem_mem _)) (by lia) (by lia) hc2 cut2 ?_)
              dsimp only
              by_cases k1:c2 > 0
              · rw [if_pos k1]
                have M3:MI xa.toList xb.toList (Array.push (ou++xa.extract i (i+c1)) xb.toList[j]++xb.extract (j+1) (j+1+c2)).toList (i+c1) (j+1+c2):=by
                 rw [dO]
                 exact M2.extB hB c2 (by lia) fun t ht htc z hz=>Int.le_trans (Int.le_of_lt (lt2 t ht htc)) (cg hA (by lia) z hz)
                by_cases e4:j+1+c2=xb.size
                · rw [if_pos (by simpa using e4)]
                  exact wpS_pure ⟨sm3 _,.inl ⟨_,_,rfl,M3.doneB hA hB (by lia)⟩⟩
                · rw [if_neg (by simpa using e4)]
                  refine wpS_bind (ao (i:=(i+c1)) (by lia) ?_)
                  have M4:MI xa.toList xb.toList (Array.push (Array.push (ou++xa.extract i (i+c1)) xb.toList[j]++xb.extract (j+1) (j+1+c2)) (xa.toList[(i+c1)]'(by lia))).toList ((i+c1)+1) (j+1+c2):=by rw [Array.toList_push];exact MI.pushA M3 hA (by lia) ge2
                  by_cases e5:(i+c1)+1+1=xa.size
                  · rw [if_pos (by simpa using e5)]
                    exact wpS_pure ⟨sm3 _,.inl ⟨_,_,rfl,M4.last hA hB (by lia) hl⟩⟩
                  · rw [if_neg (by simpa using e5)]
                    split
                    · exact wpS_pure ⟨sm3 _,.inr ⟨_,_,_,_,_,_,rfl,M4,by lia,by lia,by lia⟩⟩
                    · exact wpS_pure ⟨sm3 _,_,_,_,_,_,_,rfl,M4,by lia,by lia,by lia⟩
              · rw [if_neg k1]
                have c20:c2=0:=by lia
                refine wpS_bind (ao (i:=(i+c1)) (by lia) ?_)
                have M4:MI xa.toList xb.toList (Array.push (Array.push (ou++xa.extract i (i+c1)) xb.toList[j]) (xa.toList[(i+c1)]'(by lia))).toList ((i+c1)+1) (j+1):=by rw [Array.toList_push];exact MI.pushA M2 hA (by lia) (fun z hz=>ge2 z (by rw [c20,Nat.add_zero];exact hz))
                by_cases e5:(i+c1)+1+1=xa.size
                · rw [if_pos (by simpa using e5)]
                  exact wpS_pure ⟨sm3 _,.inl ⟨_,_,rfl,M4.last hA hB (by lia) hl⟩⟩
                · rw [if_neg (by simpa using e5)]
                  split
                  · exact wpS_pure ⟨sm3 _,.inr ⟨_,_,_,_,_,_,rfl,M4,by lia,by lia,by lia⟩⟩
                  · exact wpS_pure ⟨sm3 _,_,_,_,_,_,_,rfl,M4,by lia,by lia,by lia⟩
      · rw [if_neg k0]
        have c10:c1=0:=by lia
        refine wpS_bind (ao hj ?_)
        have M2:MI xa.toList xb.toList (Array.push ou xb.toList[j]).toList i (j+1):=by rw [Array.toList_push];exact MI.pushB m hB hj (fun z hz=>Int.le_of_lt (gt1 z (by rw [c10,Nat.add_zero];exact hz)))
        by_cases e3:j+1=xb.size
        · rw [if_pos (by simpa using e3)]
          exact wpS_pure ⟨sm3 _,.inl ⟨_,_,rfl,M2.doneB hA hB (by lia)⟩⟩
        · rw [if_neg (by simpa using e3)]
          refine wpS_bind (ao (i:=i) (by lia) ?_)
          obtain ⟨c2,hc2,cut2⟩:=cw hB (xa.toList[i]'(by lia)) true (j+1) (xb.size - (j+1)) (by lia)
          obtain ⟨lt2,ge2⟩:=pU (by lia) cut2
          refine wpS_bind (cM (c:=c2) ((sm3 _).kind.trans hk) hIb (hIa _ (List.getElem_mem _)) (by lia) (by lia) hc2 cut2 ?_)
          dsimp only
          by_cases k1:c2 > 0
          · rw [if_pos k1]
            have M3:MI xa.toList xb.toList (Array.push ou xb.toList[j]++xb.extract (j+1) (j+1+c2)).toList i (j+1+c2):=by
             rw [dO]
             exact M2.extB hB c2 (by lia) fun t ht htc z hz=>Int.le_trans (Int.le_of_lt (lt2 t ht htc)) (cg hA (by lia) z hz)
            by_cases e4:j+1+c2=xb.size
            · rw [if_pos (by simpa using e4)]
              exact wpS_pure ⟨sm3 _,.inl ⟨_,_,rfl,M3.doneB hA hB (by lia)⟩⟩
            · rw [if_neg (by simpa using e4)]
              refine wpS_bind (ao (i:=i) (by lia) ?_)
              have M4:MI xa.toList xb.toList (Array.push (Array.push ou xb.toList[j]++xb.extract (j+1) (j+1+c2)) (xa.toList[i]'(by lia))).toList (i+1) (j+1+c2):=by rw [Array.toList_push];exact MI.pushA M3 hA (by lia) ge2
              by_cases e5:i+1+1=xa.size
              · rw [if_pos (by simpa using e5)]
                exact wpS_pure ⟨sm3 _,.inl ⟨_,_,rfl,M4.last hA hB (by lia) hl⟩⟩
              · rw [if_neg (by simpa using e5)]
                split
                · exact wpS_pure ⟨sm3 _,.inr ⟨_,_,_,_,_,_,rfl,M4,by lia,by lia,by lia⟩⟩
                · exact wpS_pure ⟨sm3 _,_,_,_,_,_,_,rfl,M4,by lia,by lia,by lia⟩
          · rw [if_neg k1]
            have c20:c2=0:=by lia
            refine wpS_bind (ao (i:=i) (by lia) ?_)
            have M4:MI xa.toList xb.toList (Array.push (Array.push ou xb.toList[j]) (xa.toList[i]'(by lia))).toList (i+1) (j+1):=by rw [Array.toList_push];exact MI.pushA M2 hA (by lia) (fun z hz=>ge2 z (by rw [c20,Nat.add_zero];exact hz))
            by_cases e5:i+1+1=xa.size
            · rw [if_pos (by simpa using e5)]
              exact wpS_pure ⟨sm3 _,.inl ⟨_,_,rfl,M4.last hA hB (by lia) hl⟩⟩
            · rw [if_neg (by simpa using e5)]
              split
              · exact wpS_pure ⟨sm3 _,.inr ⟨_,_,_,_,_,_,rfl,M4,by lia,by lia,by lia⟩⟩
              · exact wpS_pure ⟨sm3 _,_,_,_,_,_,_,rfl,M4,by lia,by lia,by lia⟩
    · rw [if_neg hmg]
      refine wpS_bind (fg (wpS_bind (ao hj ?_)))
      refine wpS_bind (cM (c:=c1) ((sm3 _).kind.trans hk) hIa (hIb _ (List.getElem_mem _)) (by lia) (by lia) hc1 cut1 ?_)
      dsimp only
      by_cases k0:c1 > 0
      · rw [if_pos k0]
        by_cases e1:i+c1+1=xa.size
        · rw [if_pos (by simpa using e1)]
          exact wpS_pure ⟨sm3 _,.inl ⟨_,_,rfl,m1.last hA hB (by lia) hl⟩⟩
        · rw [if_neg (by simpa using e1)]
          by_cases e2:i+c1=xa.size
          · rw [if_pos (by simpa using e2)]
            exact wpS_pure ⟨sm3 _,.inl ⟨_,_,rfl,m1.doneA hA hB (by lia)⟩⟩
          · rw [if_neg (by simpa using e2)]
            refine wpS_bind (ao hj ?_)
            have M2:MI xa.toList xb.toList (Array.push (ou++xa.extract i (i+c1)) xb.toList[j]).toList (i+c1) (j+1):=by rw [Array.toList_push];exact MI.pushB m1 hB hj (fun z hz=>Int.le_of_lt (gt1 z hz))
            by_cases e3:j+1=xb.size
            · rw [if_pos (by simpa using e3)]
              exact wpS_pure ⟨sm3 _,.inl ⟨_,_,rfl,M2.doneB hA hB (by lia)⟩⟩
            · rw [if_neg (by simpa using e3)]
              refine wpS_bind (ao (i:=(i+c1)) (by lia) ?_)
              obtain ⟨c2,hc2,cut2⟩:=cw hB (xa.toList[(i+c1)]'(by lia)) true (j+1) (xb.size - (j+1)) (by lia)
              obtain ⟨lt2,ge2⟩:=pU (by lia) cut2
              refine wpS_bind (cM (c:=c2) ((sm3 _).kind.trans hk) hIb (hIa _ (List.getElem_mem _)) (by lia) (by lia) hc2 cut2 ?_)
              dsimp only
              by_cases k1:c2 > 0
              · rw [if_pos k1]
                have M3:MI xa.toList xb.toList (Array.push (ou++xa.extract i (i+c1)) xb.toList[j]++xb.extract (j+1) (j+1+c2)).toList (i+c1) (j+1+c2):=by
                 rw [dO]
                 exact M2.extB hB c2 (by lia) fun t ht htc z hz=>Int.le_trans (Int.le_of_lt (lt2 t ht htc)) (cg hA (by lia) z hz)
                by_cases e4:j+1+c2=xb.size
                · rw [if_pos (by simpa using e4)]
                  exact wpS_pure ⟨sm3 _,.inl ⟨_,_,rfl,M3.doneB hA hB (by lia)⟩⟩
                · rw [if_neg (by simpa using e4)]
                  refine wpS_bind (ao (i:=(i+c1)) (by lia) ?_)
                  have M4:MI xa.toList xb.toList (Array.push (Array.push (ou++xa.extract i (i+c1)) xb.toList[j]++xb.extract (j+1) (j+1+c2)) (xa.toList[(i+c1)]'(by lia))).toList ((i+c1)+1) (j+1+c2):=by rw [Array.toList_push];exact MI.pushA M3 hA (by lia) ge2
                  by_cases e5:(i+c1)+1+1=xa.size
                  · rw [if_pos (by simpa using e5)]
                    exact wpS_pure ⟨sm3 _,.inl ⟨_,_,rfl,M4.last hA hB (by lia) hl⟩⟩
                  · rw [if_neg (by simpa using e5)]
                    split
                    · exact wpS_pure ⟨sm3 _,.inr ⟨_,_,_,_,_,_,rfl,M4,by lia,by lia,by lia⟩⟩
                    · exact wpS_pure ⟨sm3 _,_,_,_,_,_,_,rfl,M4,by lia,by lia,by lia⟩
              · rw [if_neg k1]
                have c20:c2=0:=by lia
                refine wpS_bind (ao (i:=(i+c1)) (by lia) ?_)
                have M4:MI xa.toList xb.toList (Array.push (Array.push (ou++xa.extract i (i+c1)) xb.toList[j]) (xa.toList[(i+c1)]'(by lia))).toList ((i+c1)+1) (j+1):=by rw [Array.toList_push];exact MI.pushA M2 hA (by lia) (fun z hz=>ge2 z (by rw [c20,Nat.add_zero];exact hz))
                by_cases e5:(i+c1)+1+1=xa.size
                · rw [if_pos (by simpa using e5)]
                  exact wpS_pure ⟨sm3 _,.inl ⟨_,_,rfl,M4.last hA hB (by lia) hl⟩⟩
                · rw [if_neg (by simpa using e5)]
                  split
                  · exact wpS_pure ⟨sm3 _,.inr ⟨_,_,_,_,_,_,rfl,M4,by lia,by lia,by lia⟩⟩
                  · exact wpS_pure ⟨sm3 _,_,_,_,_,_,_,rfl,M4,by lia,by lia,by lia⟩
      · rw [if_neg k0]
        have c10:c1=0:=by lia
        refine wpS_bind (ao hj ?_)
        have M2:MI xa.toList xb.toList (Array.push ou xb.toList[j]).toList i (j+1):=by rw [Array.toList_push];exact MI.pushB m hB hj (fun z hz=>Int.le_of_lt (gt1 z (by rw [c10,Nat.add_zero];exact hz)))
        by_cases e3:j+1=xb.size
        · rw [if_pos (by simpa using e3)]
          exact wpS_pure ⟨sm3 _,.inl ⟨_,_,rfl,M2.doneB hA hB (by lia)⟩⟩
        · rw [if_neg (by simpa using e3)]
          refine wpS_bind (ao (i:=i) (by lia) ?_)
          obtain ⟨c2,hc2,cut2⟩:=cw hB (xa.toList[i]'(by lia)) true (j+1) (xb.size - (j+1)) (by lia)
          obtain ⟨lt2,ge2⟩:=pU (by lia) cut2
          refine wpS_bind (cM (c:=c2) ((sm3 _).kind.trans hk) hIb (hIa _ (List.getElem_mem _)) (by lia) (by lia) hc2 cut2 ?_)
          dsimp only
          by_cases k1:c2 > 0
          · rw [if_pos k1]
            have M3:MI xa.toList xb.toList (Array.push ou xb.toList[j]++xb.extract (j+1) (j+1+c2)).toList i (j+1+c2):=by
             rw [dO]
             exact M2.extB hB c2 (by lia) fun t ht htc z hz=>Int.le_trans (Int.le_of_lt (lt2 t ht htc)) (cg hA (by lia) z hz)
            by_cases e4:j+1+c2=xb.size
            · rw [if_pos (by simpa using e4)]
              exact wpS_pure ⟨sm3 _,.inl ⟨_,_,rfl,M3.doneB hA hB (by lia)⟩⟩
            · rw [if_neg (by simpa using e4)]
              refine wpS_bind (ao (i:=i) (by lia) ?_)
              have M4:MI xa.toList xb.toList (Array.push (Array.push ou xb.toList[j]++xb.extract (j+1) (j+1+c2)) (xa.toList[i]'(by lia))).toList (i+1) (j+1+c2):=by rw [Array.toList_push];exact MI.pushA M3 hA (by lia) ge2
              by_cases e5:i+1+1=xa.size
              · rw [if_pos (by simpa using e5)]
                exact wpS_pure ⟨sm3 _,.inl ⟨_,_,rfl,M4.last hA hB (by lia) hl⟩⟩
              · rw [if_neg (by simpa using e5)]
                split
                · exact wpS_pure ⟨sm3 _,.inr ⟨_,_,_,_,_,_,rfl,M4,by lia,by lia,by lia⟩⟩
                · exact wpS_pure ⟨sm3 _,_,_,_,_,_,_,rfl,M4,by lia,by lia,by lia⟩
          · rw [if_neg k1]
            have c20:c2=0:=by lia
            refine wpS_bind (ao (i:=i) (by lia) ?_)
            have M4:MI xa.toList xb.toList (Array.push (Array.push ou xb.toList[j]) (xa.toList[i]'(by lia))).toList (i+1) (j+1):=by rw [Array.toList_push];exact MI.pushA M2 hA (by lia) (fun z hz=>ge2 z (by rw [c20,Nat.add_zero];exact hz))
            by_cases e5:i+1+1=xa.size
            · rw [if_pos (by simpa using e5)]
              exact wpS_pure ⟨sm3 _,.inl ⟨_,_,rfl,M4.last hA hB (by lia) hl⟩⟩
            · rw [if_neg (by simpa using e5)]
              split
              · exact wpS_pure ⟨sm3 _,.inr ⟨_,_,_,_,_,_,rfl,M4,by lia,by lia,by lia⟩⟩
              · exact wpS_pure ⟨sm3 _,_,_,_,_,_,_,rfl,M4,by lia,by lia,by lia⟩
end
structure MH (A B:List Keyed) (o:List Keyed) (na nb:Nat):Prop where
 perm:o.Perm (A.drop na++B.drop nb)
 srt:o.Pairwise Le
 lea:∀ x∈o,∀ y∈A.take na,kv y<=kv x
 leb:∀ x∈o,∀ y∈B.take nb,kv y<=kv x
theorem iq {l:List Keyed} (h:l.Pairwise Le) {i:Nat} (hi:i<l.length):∀ y∈l.take i,kv y<=kv l[i]:=fun y hy=>by
 obtain ⟨u,hu,rfl⟩:=List.mem_iff_getElem.mp hy
 rw [List.length_take] at hu
 rw [List.getElem_take]
 exact List.pairwise_iff_getElem.mp h _ _ _ _ (by lia)
theorem cP {l:List Keyed} {i:Nat} {y:Keyed} (h:y∈l.take i):y∈l.take (i+1):=(List.take_sublist_take_left (Nat.le_succ i)).mem h
theorem dZ {l:List Keyed} {i:Nat} (hi:i<l.length):l[i]∈l.take (i+1):=by
 rw [List.take_succ,List.getElem?_eq_getElem hi]
 exact List.mem_append_right _ (List.mem_singleton.mpr rfl)
theorem MH.pushA {A B o:List Keyed} {na nb:Nat} (m:MH A B o (na+1) nb) (hA:A.Pairwise Le) (hi:na<A.length) (h:∀ z∈B.take nb,kv z<=kv A[na]):MH A B (A[na]::o) na nb:=by
 refine ⟨?_,?_,fun x hx y hy=>?_,fun x hx y hy=>?_⟩
 · rw [List.drop_eq_getElem_cons hi,List.cons_append]
   exact List.Perm.cons _ m.perm
 · exact List.pairwise_cons.mpr ⟨fun x hx=>m.lea x hx _ (dZ hi),m.srt⟩
 · rcases List.mem_cons.mp hx with rfl | hx
   · exact iq hA hi y hy
   · exact m.lea x hx y (cP hy)
 · rcases List.mem_cons.mp hx with rfl | hx
   · exact h y hy
   · exact m.leb x hx y hy
theorem MH.pushB {A B o:List Keyed} {na nb:Nat} (m:MH A B o na (nb+1)) (hB:B.Pairwise Le) (hi:nb<B.length) (h:∀ z∈A.take na,kv z<=kv B[nb]):MH A B (B[nb]::o) na nb:=by
 refine ⟨?_,?_,fun x hx y hy=>?_,fun x hx y hy=>?_⟩
 · rw [List.drop_eq_getElem_cons hi]
   exact (List.Perm.cons _ m.perm).trans List.perm_middle.symm
 · exact List.pairwise_cons.mpr ⟨fun x hx=>m.leb x hx _ (dZ hi),m.srt⟩
 · rcases List.mem_cons.mp hx with rfl | hx
   · exact h y hy
   · exact m.lea x hx y hy
 · rcases List.mem_cons.mp hx with rfl | hx
   · exact iq hB hi y hy
   · exact m.leb x hx y (cP hy)
theorem MH.extA {A B o:List Keyed} {nb:Nat} (hA:A.Pairwise Le):∀ (k c:Nat),MH A B o (c+k) nb->c+k<=A.length->(∀ i (hi:i<A.length),c<=i->i<c+k->∀ z∈B.take nb,kv z<=kv A[i])->MH A B ((A.drop c).take k++o) c nb
 | 0,c,m,_,_=>by rw [List.take_zero];exact m
 | k+1,c,m,hk,h=>by
   have m':MH A B o (c+1+k) nb:=by rw [show c+1+k=c+(k+1) by lia];exact m
   have ih:=MH.extA hA k (c+1) m' (by lia) fun i hi h1 h2=>h i hi (by lia) (by lia)
   have hi:c<A.length:=by lia
   rw [List.drop_eq_getElem_cons hi,List.take_succ_cons,List.cons_append]
   exact ih.pushA hA hi (h c hi (Nat.le_refl _) (by lia))
theorem MH.extB {A B o:List Keyed} {na:Nat} (hB:B.Pairwise Le):∀ (k c:Nat),MH A B o na (c+k)->c+k<=B.length->(∀ i (hi:i<B.length),c<=i->i<c+k->∀ z∈A.take na,kv z<=kv B[i])->MH A B ((B.drop c).take k++o) na c
 | 0,c,m,_,_=>by rw [List.take_zero];exact m
 | k+1,c,m,hk,h=>by
   have m':MH A B o na (c+1+k):=by rw [show c+1+k=c+(k+1) by lia];exact m
   have ih:=MH.extB hB k (c+1) m' (by lia) fun i hi h1 h2=>h i hi (by lia) (by lia)
   have hi:c<B.length:=by lia
   rw [List.drop_eq_getElem_cons hi,List.take_succ_cons,List.cons_append]
   exact ih.pushB hB hi (h c hi (Nat.le_refl _) (by lia))
theorem MH.finAB {A B o:List Keyed} {na nb:Nat} (m:MH A B o na nb) (hA:A.Pairwise Le) (hB:B.Pairwise Le) (h:∀ x∈A.take na,∀ y∈B.take nb,kv x<=kv y):Mer A B (A.take na++B.take nb++o):=by
 refine ⟨?_,?_⟩
 · have e:=(List.Perm.append_left (A.take na++B.take nb) m.perm).trans (dJ (A.take na) (B.take nb) (A.drop na) (B.drop nb))
   rw [List.take_append_drop,List.take_append_drop] at e
   exact e
 · refine List.pairwise_append.mpr ⟨List.pairwise_append.mpr ⟨hA.sublist (List.take_sublist _ _),hB.sublist (List.take_sublist _ _),fun x hx y hy=>h x hx y hy⟩,m.srt,fun x hx y hy=>?_⟩
   rcases List.mem_append.mp hx with hx | hx
   · exact m.lea y hy x hx
   · exact m.leb y hy x hx
theorem MH.finBA {A B o:List Keyed} {na nb:Nat} (m:MH A B o na nb) (hA:A.Pairwise Le) (hB:B.Pairwise Le) (h:∀ x∈A.take na,∀ y∈B.take nb,kv y<=kv x):Mer A B (B.take nb++A.take na++o):=by
 refine ⟨?_,?_⟩
 · have e:=(List.Perm.append_left (A.take na++B.take nb) m.perm).trans (dJ (A.take na) (B.take nb) (A.drop na) (B.drop nb))
   rw [List.take_append_drop,List.take_append_drop] at e
   exact (List.Perm.append_right o List.perm_append_comm).trans e
 · refine List.pairwise_append.mpr ⟨List.pairwise_append.mpr ⟨hB.sublist (List.take_sublist _ _),hA.sublist (List.take_sublist _ _),fun x hx y hy=>h y hy x hx⟩,m.srt,fun x hx y hy=>?_⟩
   rcases List.mem_append.mp hx with hx | hx
   · exact m.leb y hy x hx
   · exact m.lea y hy x hx
theorem gj (o x y:Array Keyed) (i j:Nat):(x.extract 0 i++y.extract 0 j++o.reverse).toList=x.toList.take i++y.toList.take j++o.toList.reverse:=by
 have e:∀ (z:Array Keyed) (k:Nat),(z.extract 0 k).toList=z.toList.take k:=fun z k=>by
  rw [Array.toList_extract,List.extract_eq_drop_take,List.drop_zero,Nat.sub_zero]
 rw [Array.toList_append,Array.toList_append,e,e,Array.toList_reverse]
theorem gi (o:Array Keyed) (z:Keyed):(o.push z).toList.reverse=z::o.toList.reverse:=by
 rw [Array.toList_push,List.reverse_append];rfl
theorem iS (o x:Array Keyed) (c n:Nat):(o++(x.extract c n).reverse).toList.reverse=(x.toList.drop c).take (n - c)++o.toList.reverse:=by
 rw [Array.toList_append,List.reverse_append,Array.toList_reverse,List.reverse_reverse,Array.toList_extract,List.extract_eq_drop_take]
def MHa (xa xb ou:Array Keyed) (na nb:Nat):Prop:=MH xa.toList xb.toList ou.toList.reverse na nb
section
variable {xa xb ou:Array Keyed} {na nb:Nat}
theorem MHa.done0 (m:MHa xa xb ou na nb) (hA:xa.toList.Pairwise Le) (hB:xb.toList.Pairwise Le) (h:na=0\/nb=0):Mer xa.toList xb.toList (xa.extract 0 na++xb.extract 0 nb++ou.reverse).toList:=by
 rw [gj]
 refine MH.finAB m hA hB fun x hx y hy=>?_
 rcases h with h | h
 · rw [h] at hx;simp at hx
 · rw [h] at hy;simp at hy
theorem MHa.first (m:MHa xa xb ou na nb) (hA:xa.toList.Pairwise Le) (hB:xb.toList.Pairwise Le) (hb:0<xb.toList.length) (h:nb=1) (h0:∀ z∈xa.toList,kv xb.toList[0]<=kv z):Mer xa.toList xb.toList (xb.extract 0 nb++xa.extract 0 na++ou.reverse).toList:=by
 rw [gj]
 refine MH.finBA m hA hB fun x hx y hy=>?_
 rw [h,List.take_succ,List.getElem?_eq_getElem hb] at hy
 have:y=xb.toList[0]:=by simpa using hy
 rw [this]
 exact h0 x (List.mem_of_mem_take hx)
theorem MHa.pushA (m:MHa xa xb ou (na+1) nb) (hA:xa.toList.Pairwise Le) (hi:na<xa.toList.length) (h:∀ z∈xb.toList.take nb,kv z<=kv xa.toList[na]):MHa xa xb (ou.push xa.toList[na]) na nb:=by
 unfold MHa;rw [gi];exact MH.pushA m hA hi h
theorem MHa.pushB (m:MHa xa xb ou na (nb+1)) (hB:xb.toList.Pairwise Le) (hi:nb<xb.toList.length) (h:∀ z∈xa.toList.take na,kv z<=kv xb.toList[nb]):MHa xa xb (ou.push xb.toList[nb]) na nb:=by
 unfold MHa;rw [gi];exact MH.pushB m hB hi h
theorem MHa.extA {c:Nat} (m:MHa xa xb ou na nb) (hA:xa.toList.Pairwise Le) (hc:c<=na) (hn:na<=xa.toList.length) (h:∀ i (hi:i<xa.toList.length),c<=i->i<na->∀ z∈xb.toList.take nb,kv z<=kv xa.toList[i]):MHa xa xb (ou++(xa.extract c na).reverse) c nb:=by
 unfold MHa;rw [iS]
 exact MH.extA hA (na - c) c (by rw [show c+(na - c)=na by lia];exact m) (by lia) fun i hi h1 h2=>h i hi h1 (by lia)
theorem MHa.extB {c:Nat} (m:MHa xa xb ou na nb) (hB:xb.toList.Pairwise Le) (hc:c<=nb) (hn:nb<=xb.toList.length) (h:∀ i (hi:i<xb.toList.length),c<=i->i<nb->∀ z∈xa.toList.take na,kv z<=kv xb.toList[i]):MHa xa xb (ou++(xb.extract c nb).reverse) na c:=by
 unfold MHa;rw [iS]
 exact MH.extB hB (nb - c) c (by rw [show c+(nb - c)=nb by lia];exact m) (by lia) fun i hi h1 h2=>h i hi h1 (by lia)
end
theorem ffalse {xs:Array Keyed} {ky:Keyed} {n c:Nat} (hn:n<=xs.toList.length) (hc:c<=n) (cut:∀ i,i<n->Byd false ky xs 0 i=decide (i<c)) :
 (∀ z∈xs.toList.take c,kv z<=kv ky)/\(∀ i (h:i<xs.toList.length),c<=i->i<n->kv ky<kv xs.toList[i]):=by
 have key:∀ i (h:i<xs.toList.length),i<n->(!decide (kv ky<kv xs.toList[i]))=decide (i<c):=fun i h hi=>by
  have:=cut i hi
  unfold Byd at this
  rw [Nat.zero_add,n4 h] at this
  simpa using this
 constructor
 · intro z hz
   obtain ⟨u,hu,rfl⟩:=List.mem_iff_getElem.mp hz
   rw [List.length_take] at hu
   have:=key u (by lia) (by lia)
   rw [List.getElem_take]
   rw [decide_eq_true (show u<c by lia)] at this
   simpa using this
 · intro i h h1 h2
   have:=key i h h2
   rw [decide_eq_false (show ¬ i<c by lia)] at this
   simpa using this
theorem pW {xs:Array Keyed} {ky:Keyed} {n c:Nat} (hn:n<=xs.toList.length) (hc:c<=n) (cut:∀ i,i<n->Byd true ky xs 0 i=decide (i<c)) :
 (∀ z∈xs.toList.take c,kv z<kv ky)/\(∀ i (h:i<xs.toList.length),c<=i->i<n->kv ky<=kv xs.toList[i]):=by
 have key:∀ i (h:i<xs.toList.length),i<n->decide (kv xs.toList[i]<kv ky)=decide (i<c):=fun i h hi=>by
  have:=cut i hi
  unfold Byd at this
  rw [Nat.zero_add,n4 h] at this
  simpa using this
 constructor
 · intro z hz
   obtain ⟨u,hu,rfl⟩:=List.mem_iff_getElem.mp hz
   rw [List.length_take] at hu
   have:=key u (by lia) (by lia)
   rw [List.getElem_take]
   rw [decide_eq_true (show u<c by lia)] at this
   simpa using this
 · intro i h h1 h2
   have:=key i h h2
   rw [decide_eq_false (show ¬ i<c by lia)] at this
   simpa using this
theorem bY {l:List Keyed} (h:l.Pairwise Le) {n:Nat} (hn:n<l.length):∀ z∈l.take (n+1),kv z<=kv l[n]:=fun z hz=>by
 rw [List.take_succ,List.getElem?_eq_getElem hn] at hz
 rcases List.mem_append.mp hz with hz | hz
 · exact iq h hn z hz
 · have:z=l[n]:=by simpa using hz
   rw [this];exact Int.le_refl _
def mhi:Array Keyed->Array Keyed->StateT SortSt Sem (Array Keyed):=sortPriv% PySem.Builtin.mergeHi
theorem mhi_eq (xa xb:Array Keyed):mhi xa xb=(do
 rule "list.sort.merge-hi"
 let tot:=xa.size+xb.size
 let dn (ou:Array Keyed) (i j:Nat):=xa.extract 0 i++xb.extract 0 j++ou.reverse
 let fb (ou:Array Keyed) (i j:Nat):=xb.extract 0 j++xa.extract 0 i++ou.reverse
 let mut i:=xa.size - 1
 let mut j:=xb.size
 let mut ou:Array Keyed:=#[← elem' xa i]
 if i == 0 then return dn ou i j
 if j == 1 then return fb ou i j
 let mut mg:=gallopOf (← get)
 for _ in [0:tot] do
  let mut ac:=0
  let mut bc:=0
  for _ in [0:tot] do
   let some aw ← lt' (← elem' xb (j - 1)) (← elem' xa (i - 1)) | return dn ou i j
   if aw then
    i:=i - 1;ou:=ou.push (← elem' xa i);ac:=ac+1;bc:=0
    if i == 0 then return dn ou i j
    if ac>=mg then break
   else
    j:=j - 1;ou:=ou.push (← elem' xb j);bc:=bc+1;ac:=0
    if j == 1 then return fb ou i j
    if bc>=mg then break
  rule "list.sort.gallop"
  mg:=mg+1
  for _ in [0:tot] do
   if mg > 1 then mg:=mg - 1
   setG mg
   let some t ← gal false (← elem' xb (j - 1)) xa 0 i (i - 1) | return dn ou i j
   let k:=i - t
   ac:=k
   if k > 0 then
    ou:=ou++(xa.extract t i).reverse;i:=t
    if i == 0 then return dn ou i j
   j:=j - 1;ou:=ou.push (← elem' xb j)
   if j == 1 then return fb ou i j
   let some t ← gal true (← elem' xa (i - 1)) xb 0 j (j - 1) | return dn ou i j
   let k:=j - t
   bc:=k
   if k > 0 then
    ou:=ou++(xb.extract t j).reverse;j:=t
    if j == 1 then return fb ou i j
    if j == 0 then return dn ou i j
   i:=i - 1;ou:=ou.push (← elem' xa i)
   if i == 0 then return dn ou i j
   if ac<7&&bc<7 then break
  mg:=mg+1
  setG mg
 unsupported "internal:list.sort.merge-bound"):=rfl
section
variable {prog:Program} {w:World} {A:Around} {E:Value->Shared->Prop} {s:Shared}
theorem s_mhi {st:SortSt} {xa xb:Array Keyed} {Q:Array Keyed->SortSt->Prop} (hk:kindOf st=oneType') (hIa:AllI xa) (hIb:AllI xb) (hA:xa.toList.Pairwise Le) (hB:xb.toList.Pairwise Le) (ha:0<xa.toList.length) (hb:0<xb.toList.length)
 (h0:∀ z∈xa.toList,kv (xb.toList[0])<=kv z) (hl:∀ z∈xb.toList,kv z<=kv (xa.toList[xa.toList.length - 1]'(by lia)))
 (h:∀ o st',SameSt st st'->Mer xa.toList xb.toList o.toList->Q o st'):wpS (model prog w) A E s (mhi xa xb) Q st:=by
 have hsa:xa.size=xa.toList.length:=(Array.length_toList ..).symm
 have hsb:xb.size=xb.toList.length:=(Array.length_toList ..).symm
 rw [mhi_eq]
 refine wpS_bind (wpS_lift (wpAny_rule ⟨rfl,?_⟩))
 dsimp only
 refine wpS_bind (ao (i:=xa.size - 1) (by lia) ?_)
 have m0:MHa xa xb #[xa.toList[xa.size - 1]'(by lia)] (xa.size - 1) xb.size:=by
  have mm:MHa xa xb #[] (xa.size - 1+1) xb.size:=by
   refine ⟨?_,List.Pairwise.nil,fun x hx=>(nomatch hx),fun x hx=>(nomatch hx)⟩
   rw [cX (show xa.size - 1+1=xa.toList.length by lia),cX hsb]
   exact List.Perm.refl _
  refine mm.pushA hA (by lia) fun z hz=>?_
  have:=hl z (List.mem_of_mem_take hz)
  have e:xa.toList[xa.toList.length - 1]'(by lia)=xa.toList[xa.size - 1]'(by lia):=by congr 1
  rw [← e];exact this
 by_cases c1:xa.size - 1=0
 · rw [if_pos (by simpa using c1)]
   exact wpS_pure (h _ _ (SameSt.refl _) (m0.done0 hA hB (.inl c1)))
 rw [if_neg (by simpa using c1)]
 by_cases c2:xb.size=1
 · rw [if_pos (by simpa using c2)]
   exact wpS_pure (h _ _ (SameSt.refl _) (m0.first hA hB hb c2 h0))
 rw [if_neg (by simpa using c2)]
 refine wpS_bind (wpS_get ?_)
 refine wpS_bind (wpS_mono (wpS_forRange (I:=fun x c st'=>SameSt st st'/\∃ i j ou mg,c=(none,i,j,ou,mg)/\MHa xa xb ou i j/\0<i/\i<xa.size/\1<j/\j<=xb.size/\i+j+x+1<=xa.size+xb.size) (Q:=fun c st'=>SameSt st st'/\∃ res rest,c=(some res,rest)/\Mer xa.toList xb.toList res.toList) ?step ?fin ⟨SameSt.refl _,_,_,_,_,rfl,m0,by lia,by lia,by lia,by lia,by lia⟩) ?post)
 case post=>
  rintro c st' ⟨sm,res,rest,rfl,me⟩
  exact wpS_pure (h _ _ sm me)
 case fin=>
  rintro c st' ⟨sm,i,j,ou,mg,rfl,m,hi,hi2,hj,hj2,hx⟩
  exfalso
  lia
 case step=>
  rintro x c st1 _ hx ⟨sm,i,j,ou,mg,rfl,m,hi,hi2,hj,hj2,hx2⟩
  dsimp only
  refine wpS_bind (wpS_mono (wpS_forRange (I:=fun y c st'=>SameSt st st'/\∃ i j ou ac bc,c=(none,i,j,ou,ac,bc)/\MHa xa xb ou i j/\0<i/\i<xa.size/\1<j/\j<=xb.size/\i+j+x+1+min y 1<=xa.size+xb.size)
   (Q:=fun c st'=>SameSt st st'/\((∃ res rest,c=(some res,rest)/\Mer xa.toList xb.toList res.toList)\/∃ i j ou ac bc,c=(none,i,j,ou,ac,bc)/\MHa xa xb ou i j/\0<i/\i<xa.size/\1<j/\j<=xb.size/\i+j+x+2<=xa.size+xb.size)) ?s1 ?f1 ⟨sm,_,_,_,_,_,rfl,m,hi,hi2,hj,hj2,by lia⟩) ?p1)
  case f1=>
   rintro c st2 ⟨sm2,i,j,ou,ac,bc,rfl,m,hi,hi2,hj,hj2,hx3⟩
   exact ⟨sm2,.inr ⟨_,_,_,_,_,rfl,m,hi,hi2,hj,hj2,by lia⟩⟩
  case s1=>
   rintro y c st2 _ hy ⟨sm2,i,j,ou,ac,bc,rfl,m,hi,hi2,hj,hj2,hx3⟩
   dsimp only
   refine wpS_bind (ao (i:=j - 1) (by lia) (wpS_bind (ao (i:=i - 1) (by lia) ?_)))
   refine wpS_bind (s_lt (sm2.kind.trans hk) (hIb _ (List.getElem_mem _)) (hIa _ (List.getElem_mem _)) ?_)
   by_cases aw:kv (xb.toList[j - 1]'(by lia))<kv (xa.toList[i - 1]'(by lia))
   · simp only [aw,decide_true,if_true]
     refine wpS_bind (ao (i:=i - 1) (by lia) ?_)
     have m2:MHa xa xb (ou.push (xa.toList[i - 1]'(by lia))) (i - 1) j:=MHa.pushA (by rw [show i - 1+1=i by lia];exact m) hA (by lia) fun z hz=>by
      refine Int.le_trans ?_ (Int.le_of_lt aw)
      exact bY hB (n:=j - 1) (by lia) z (by rw [show j - 1+1=j by lia];exact hz)
     by_cases e1:i - 1=0
     · rw [if_pos (by simpa using e1)]
       exact wpS_pure ⟨sm2,.inl ⟨_,_,rfl,m2.done0 hA hB (.inl e1)⟩⟩
     · rw [if_neg (by simpa using e1)]
       split
       · exact wpS_pure ⟨sm2,.inr ⟨_,_,_,_,_,rfl,m2,by lia,by lia,hj,hj2,by lia⟩⟩
       · exact wpS_pure ⟨sm2,_,_,_,_,_,rfl,m2,by lia,by lia,hj,hj2,by lia⟩
   · simp only [aw,decide_false,Bool.false_eq_true,if_false]
     refine wpS_bind (ao (i:=j - 1) (by lia) ?_)
     have m2:MHa xa xb (ou.push (xb.toList[j - 1]'(by lia))) i (j - 1):=MHa.pushB (by rw [show j - 1+1=j by lia];exact m) hB (by lia) fun z hz=>by
      refine Int.le_trans ?_ (Int.not_lt.mp aw)
      exact bY hA (n:=i - 1) (by lia) z (by rw [show i - 1+1=i by lia];exact hz)
     by_cases e1:j - 1=1
     · rw [if_pos (by simpa using e1)]
       exact wpS_pure ⟨sm2,.inl ⟨_,_,rfl,m2.first hA hB hb e1 h0⟩⟩
     · rw [if_neg (by simpa using e1)]
       split
       · exact wpS_pure ⟨sm2,.inr ⟨_,_,_,_,_,rfl,m2,hi,hi2,by lia,by lia,by lia⟩⟩
       · exact wpS_pure ⟨sm2,_,_,_,_,_,rfl,m2,hi,hi2,by lia,by lia,by lia⟩
  case p1=>
   rintro c st2 ⟨sm2,⟨res,rest,rfl,me⟩ | ⟨i,j,ou,ac,bc,rfl,m,hi,hi2,hj,hj2,hx3⟩⟩
   · exact wpS_pure ⟨sm2,_,_,rfl,me⟩
   dsimp only
   refine wpS_bind (wpS_lift (wpAny_rule ⟨rfl,?_⟩))
   refine wpS_bind (wpS_mono (wpS_forRange (I:=fun y c st'=>SameSt st st'/\∃ i j ou mg ac bc,c=(none,i,j,ou,mg,ac,bc)/\MHa xa xb ou i j/\0<i/\i<xa.size/\1<j/\j<=xb.size/\i+j+x+2<=xa.size+xb.size)
    (Q:=fun c st'=>SameSt st st'/\((∃ res rest,c=(some res,rest)/\Mer xa.toList xb.toList res.toList)\/∃ i j ou mg ac bc,c=(none,i,j,ou,mg,ac,bc)/\MHa xa xb ou i j/\0<i/\i<xa.size/\1<j/\j<=xb.size/\i+j+x+2<=xa.size+xb.size)) ?s2 ?f2 ⟨sm2,_,_,_,_,_,_,rfl,m,hi,hi2,hj,hj2,hx3⟩) ?p2)
   case f2=>
    rintro c st3 ⟨sm3,i,j,ou,mg,ac,bc,rfl,m,hi,hi2,hj,hj2,hx4⟩
    exact ⟨sm3,.inr ⟨_,_,_,_,_,_,rfl,m,hi,hi2,hj,hj2,hx4⟩⟩
   case p2=>
    rintro c st3 ⟨sm3,⟨res,rest,rfl,me⟩ | ⟨i,j,ou,mg,ac,bc,rfl,m,hi,hi2,hj,hj2,hx4⟩⟩
    · exact wpS_pure ⟨sm3,_,_,rfl,me⟩
    · dsimp only
      refine wpS_bind (fg ?_)
      exact wpS_pure ⟨sm3.setG _,_,_,_,_,rfl,m,hi,hi2,hj,hj2,by lia⟩
   case s2=>
    rintro y c st3 _ hy ⟨sm3',i,j,ou,mg,ac,bc,rfl,m,hi,hi2,hj,hj2,hx4⟩
    dsimp only
    have sm3:=fun g=>sm3'.setG g
    obtain ⟨c1,hc1,cut1⟩:=cw hA (xb.toList[j - 1]'(by lia)) false 0 i (by lia)
    obtain ⟨le1,gt1⟩:=ffalse (by lia) hc1 cut1
    have m1:MHa xa xb (ou++(xa.extract c1 i).reverse) c1 j:=m.extA hA hc1 (by lia) fun t ht h1 h2 z hz=>by
     refine Int.le_trans ?_ (Int.le_of_lt (gt1 t ht h1 h2))
     exact bY hB (n:=j - 1) (by lia) z (by rw [show j - 1+1=j by lia];exact hz)
    by_cases hmg:mg > 1
    · rw [if_pos hmg]
      refine wpS_bind (fg (wpS_bind (ao (i:=j - 1) (by lia) ?_)))
      refine wpS_bind (cM (c:=c1) ((sm3 _).kind.trans hk) hIa (hIb _ (List.getElem_mem _)) (by lia) (by lia) hc1 cut1 ?_)
      dsimp only
      by_cases k0:i - c1 > 0
      · rw [if_pos k0]
        by_cases e1:c1=0
        · rw [if_pos (by simpa using e1)]
          exact wpS_pure ⟨sm3 _,.inl ⟨_,_,rfl,m1.done0 hA hB (.inl e1)⟩⟩
        · rw [if_neg (by simpa using e1)]
          refine wpS_bind (ao (i:=j - 1) (by lia) ?_)
          have M2:MHa xa xb (Array.push (ou++(xa.extract c1 i).reverse) (xb.toList[j - 1]'(by lia))) c1 (j - 1):=MHa.pushB (by rw [show j - 1+1=j by lia];exact m1) hB (by lia) (fun z hz=>le1 z hz)
          by_cases e3:j - 1=1
          · rw [if_pos (by simpa using e3)]
            exact wpS_pure ⟨sm3 _,.inl ⟨_,_,rfl,M2.first hA hB hb e3 h0⟩⟩
          · rw [if_neg (by simpa using e3)]
            refine wpS_bind (ao (i:=c1 - 1) (by lia) ?_)
            obtain ⟨c2,hc2,cut2⟩:=cw hB (xa.toList[c1 - 1]'(by lia)) true 0 (j - 1) (by lia)
            obtain ⟨lt2,ge2⟩:=pW (by lia) hc2 cut2
            refine wpS_bind (cM (c:=c2) ((sm3 _).kind.trans hk) hIb (hIa _ (List.getElem_mem _)) (by lia) (by lia) hc2 cut2 ?_)
            dsimp only
            by_cases k1:j - 1 - c2 > 0
            · rw [if_pos k1]
              have M3:MHa xa xb (Array.push (ou++(xa.extract c1 i).reverse) (xb.toList[j - 1]'(by lia))++(xb.extract c2 (j - 1)).reverse) c1 c2:=M2.extB hB hc2 (by lia) fun t ht h1 h2 z hz=>by
               refine Int.le_trans ?_ (ge2 t ht h1 h2)
               exact bY hA (n:=c1 - 1) (by lia) z (by rw [show c1 - 1+1=c1 by lia];exact hz)
              by_cases e4:c2=1
              · rw [if_pos (by simpa using e4)]
                exact wpS_pure ⟨sm3 _,.inl ⟨_,_,rfl,M3.first hA hB hb e4 h0⟩⟩
              · rw [if_neg (by simpa using e4)]
                by_cases e6:c2=0
                · rw [if_pos (by simpa using e6)]
                  exact wpS_pure ⟨sm3 _,.inl ⟨_,_,rfl,M3.done0 hA hB (.inr e6)⟩⟩
                · rw [if_neg (by simpa using e6)]
                  refine wpS_bind (ao (i:=c1 - 1) (by lia) ?_)
                  have M4:MHa xa xb (Array.push (Array.push (ou++(xa.extract c1 i).reverse) (xb.toList[j - 1]'(by lia))++(xb.extract c2 (j - 1)).reverse) (xa.toList[c1 - 1]'(by lia))) (c1 - 1) c2:=MHa.pushA (by rw [show c1 - 1+1=c1 by lia];exact M3) hA (by lia) (fun z hz=>Int.le_of_lt (lt2 z hz))
                  by_cases e5:c1 - 1=0
                  · rw [if_pos (by simpa using e5)]
                    exact wpS_pure ⟨sm3 _,.inl ⟨_,_,rfl,M4.done0 hA hB (.inl e5)⟩⟩
                  · rw [if_neg (by simpa using e5)]
                    split
                    · exact wpS_pure ⟨sm3 _,.inr ⟨_,_,_,_,_,_,rfl,M4,by lia,by lia,by lia,by lia,by lia⟩⟩
                    · exact wpS_pure ⟨sm3 _,_,_,_,_,_,_,rfl,M4,by lia,by lia,by lia,by lia,by lia⟩
            · rw [if_neg k1]
              have c20:c2=j - 1:=by lia
              refine wpS_bind (ao (i:=c1 - 1) (by lia) ?_)
              have M4:MHa xa xb (Array.push (Array.push (ou++(xa.extract c1 i).reverse) (xb.toList[j - 1]'(by lia))) (xa.toList[c1 - 1]'(by lia))) (c1 - 1) (j - 1):=MHa.pushA (by rw [show c1 - 1+1=c1 by lia];exact M2) hA (by lia) (fun z hz=>Int.le_of_lt (lt2 z (by rw [c20];exact hz)))
              by_cases e5:c1 - 1=0
              · rw [if_pos (by simpa using e5)]
                exact wpS_pure ⟨sm3 _,.inl ⟨_,_,rfl,M4.done0 hA hB (.inl e5)⟩⟩
              · rw [if_neg (by simpa using e5)]
                split
                · exact wpS_pure ⟨sm3 _,.inr ⟨_,_,_,_,_,_,rfl,M4,by lia,by lia,by lia,by lia,by lia⟩⟩
                · exact wpS_pure ⟨sm3 _,_,_,_,_,_,_,rfl,M4,by lia,by lia,by lia,by lia,by lia⟩
      · rw [if_neg k0]
        have c10:c1=i:=by lia
        refine wpS_bind (ao (i:=j - 1) (by lia) ?_)
        have M2:MHa xa xb (Array.push ou (xb.toList[j - 1]'(by lia))) i (j - 1):=MHa.pushB (by rw [show j - 1+1=j by lia];exact m) hB (by lia) (fun z hz=>le1 z (by rw [c10];exact hz))
        by_cases e3:j - 1=1
        · rw [if_pos (by simpa using e3)]
          exact wpS_pure ⟨sm3 _,.inl ⟨_,_,rfl,M2.first hA hB hb e3 h0⟩⟩
        · rw [if_neg (by simpa using e3)]
          refine wpS_bind (ao (i:=i - 1) (by lia) ?_)
          obtain ⟨c2,hc2,cut2⟩:=cw hB (xa.toList[i - 1]'(by lia)) true 0 (j - 1) (by lia)
          obtain ⟨lt2,ge2⟩:=pW (by lia) hc2 cut2
          refine wpS_bind (cM (c:=c2) ((sm3 _).kind.trans hk) hIb (hIa _ (List.getElem_mem _)) (by lia) (by lia) hc2 cut2 ?_)
          dsimp only
          by_cases k1:j - 1 - c2 > 0
          · rw [if_pos k1]
            have M3:MHa xa xb (Array.push ou (xb.toList[j - 1]'(by lia))++(xb.extract c2 (j - 1)).reverse) i c2:=M2.extB hB hc2 (by lia) fun t ht h1 h2 z hz=>by
             refine Int.le_trans ?_ (ge2 t ht h1 h2)
             exact bY hA (n:=i - 1) (by lia) z (by rw [show i - 1+1=i by lia];exact hz)
            by_cases e4:c2=1
            · rw [if_pos (by simpa using e4)]
              exact wpS_pure ⟨sm3 _,.inl ⟨_,_,rfl,M3.first hA hB hb e4 h0⟩⟩
            · rw [if_neg (by simpa using e4)]
              by_cases e6:c2=0
              · rw [if_pos (by simpa using e6)]
                exact wpS_pure ⟨sm3 _,.inl ⟨_,_,rfl,M3.done0 hA hB (.inr e6)⟩⟩
              · rw [if_neg (by simpa using e6)]
                refine wpS_bind (ao (i:=i - 1) (by lia) ?_)
                have M4:MHa xa xb (Array.push (Array.push ou (xb.toList[j - 1]'(by lia))++(xb.extract c2 (j - 1)).reverse) (xa.toList[i - 1]'(by lia))) (i - 1) c2:=MHa.pushA (by rw [show i - 1+1=i by lia];exact M3) hA (by lia) (fun z hz=>Int.le_of_lt (lt2 z hz))
                by_cases e5:i - 1=0
                · rw [if_pos (by simpa using e5)]
                  exact wpS_pure ⟨sm3 _,.inl ⟨_,_,rfl,M4.done0 hA hB (.inl e5)⟩⟩
                · rw [if_neg (by simpa using e5)]
                  split
                  · exact wpS_pure ⟨sm3 _,.inr ⟨_,_,_,_,_,_,rfl,M4,by lia,by lia,by lia,by lia,by lia⟩⟩
                  · exact wpS_pure ⟨sm3 _,_,_,_,_,_,_,rfl,M4,by lia,by lia,by lia,by lia,by lia⟩
          · rw [if_neg k1]
            have c20:c2=j - 1:=by lia
            refine wpS_bind (ao (i:=i - 1) (by lia) ?_)
            have M4:MHa xa xb (Array.push (Array.push ou (xb.toList[j - 1]'(by lia))) (xa.toList[i - 1]'(by lia))) (i - 1) (j - 1):=MHa.pushA (by rw [show i - 1+1=i by lia];exact M2) hA (by lia) (fun z hz=>Int.le_of_lt (lt2 z (by rw [c20];exact hz)))
            by_cases e5:i - 1=0
            · rw [if_pos (by simpa using e5)]
              exact wpS_pure ⟨sm3 _,.inl ⟨_,_,rfl,M4.done0 hA hB (.inl e5)⟩⟩
            · rw [if_neg (by simpa using e5)]
              split
              · exact wpS_pure ⟨sm3 _,.inr ⟨_,_,_,_,_,_,rfl,M4,by lia,by lia,by lia,by lia,by lia⟩⟩
              · exact wpS_pure ⟨sm3 _,_,_,_,_,_,_,rfl,M4,by lia,by lia,by lia,by lia,by lia⟩
    · rw [if_neg hmg]
      refine wpS_bind (fg (wpS_bind (ao (i:=j - 1) (by lia) ?_)))
      refine wpS_bind (cM (c:=c1) ((sm3 _).kind.trans hk) hIa (hIb _ (List.getElem_mem _)) (by lia) (by lia) hc1 cut1 ?_)
      dsimp only
      by_cases k0:i - c1 > 0
      · rw [if_pos k0]
        by_cases e1:c1=0
        · rw [if_pos (by simpa using e1)]
          exact wpS_pure ⟨sm3 _,.inl ⟨_,_,rfl,m1.done0 hA hB (.inl e1)⟩⟩
        · rw [if_neg (by simpa using e1)]
          refine wpS_bind (ao (i:=j - 1) (by lia) ?_)
          have M2:MHa xa xb (Array.push (ou++(xa.extract c1 i).reverse) (xb.toList[j - 1]'(by lia))) c1 (j - 1):=MHa.pushB (by rw [show j - 1+1=j by lia];exact m1) hB (by lia) (fun z hz=>le1 z hz)
          by_cases e3:j - 1=1
          · rw [if_pos (by simpa using e3)]
            exact wpS_pure ⟨sm3 _,.inl ⟨_,_,rfl,M2.first hA hB hb e3 h0⟩⟩
          · rw [if_neg (by simpa using e3)]
            refine wpS_bind (ao (i:=c1 - 1) (by lia) ?_)
            obtain ⟨c2,hc2,cut2⟩:=cw hB (xa.toList[c1 - 1]'(by lia)) true 0 (j - 1) (by lia)
            obtain ⟨lt2,ge2⟩:=pW (by lia) hc2 cut2
            refine wpS_bind (cM (c:=c2) ((sm3 _).kind.trans hk) hIb (hIa _ (List.getElem_mem _)) (by lia) (by lia) hc2 cut2 ?_)
            dsimp only
            by_cases k1:j - 1 - c2 > 0
            · rw [if_pos k1]
              have M3:MHa xa xb (Array.push (ou++(xa.extract c1 i).reverse) (xb.toList[j - 1]'(by lia))++(xb.extract c2 (j - 1)).reverse) c1 c2:=M2.extB hB hc2 (by lia) fun t ht h1 h2 z hz=>by
               refine Int.le_trans ?_ (ge2 t ht h1 h2)
               exact bY hA (n:=c1 - 1) (by lia) z (by rw [show c1 - 1+1=c1 by lia];exact hz)
              by_cases e4:c2=1
              · rw [if_pos (by simpa using e4)]
                exact wpS_pure ⟨sm3 _,.inl ⟨_,_,rfl,M3.first hA hB hb e4 h0⟩⟩
              · rw [if_neg (by simpa using e4)]
                by_cases e6:c2=0
                · rw [if_pos (by simpa using e6)]
                  exact wpS_pure ⟨sm3 _,.inl ⟨_,_,rfl,M3.done0 hA hB (.inr e6)⟩⟩
                · rw [if_neg (by simpa using e6)]
                  refine wpS_bind (ao (i:=c1 - 1) (by lia) ?_)
                  have M4:MHa xa xb (Array.push (Array.push (ou++(xa.extract c1 i).reverse) (xb.toList[j - 1]'(by lia))++(xb.extract c2 (j - 1)).reverse) (xa.toList[c1 - 1]'(by lia))) (c1 - 1) c2:=MHa.pushA (by rw [show c1 - 1+1=c1 by lia];exact M3) hA (by lia) (fun z hz=>Int.le_of_lt (lt2 z hz))
                  by_cases e5:c1 - 1=0
                  · rw [if_pos (by simpa using e5)]
                    exact wpS_pure ⟨sm3 _,.inl ⟨_,_,rfl,M4.done0 hA hB (.inl e5)⟩⟩
                  · rw [if_neg (by simpa using e5)]
                    split
                    · exact wpS_pure ⟨sm3 _,.inr ⟨_,_,_,_,_,_,rfl,M4,by lia,by lia,by lia,by lia,by lia⟩⟩
                    · exact wpS_pure ⟨sm3 _,_,_,_,_,_,_,rfl,M4,by lia,by lia,by lia,by lia,by lia⟩
            · rw [if_neg k1]
              have c20:c2=j - 1:=by lia
              refine wpS_bind (ao (i:=c1 - 1) (by lia) ?_)
              have M4:MHa xa xb (Array.push (Array.push (ou++(xa.extract c1 i).reverse) (xb.toList[j - 1]'(by lia))) (xa.toList[c1 - 1]'(by lia))) (c1 - 1) (j - 1):=MHa.pushA (by rw [show c1 - 1+1=c1 by lia];exact M2) hA (by lia) (fun z hz=>Int.le_of_lt (lt2 z (by rw [c20];exact hz)))
              by_cases e5:c1 - 1=0
              · rw [if_pos (by simpa using e5)]
                exact wpS_pure ⟨sm3 _,.inl ⟨_,_,rfl,M4.done0 hA hB (.inl e5)⟩⟩
              · rw [if_neg (by simpa using e5)]
                split
                · exact wpS_pure ⟨sm3 _,.inr ⟨_,_,_,_,_,_,rfl,M4,by lia,by lia,by lia,by lia,by lia⟩⟩
                · exact wpS_pure ⟨sm3 _,_,_,_,_,_,_,rfl,M4,by lia,by lia,by lia,by lia,by lia⟩
      · rw [if_neg k0]
        have c10:c1=i:=by lia
        refine wpS_bind (ao (i:=j - 1) (by lia) ?_)
        have M2:MHa xa xb (Array.push ou (xb.toList[j - 1]'(by lia))) i (j - 1):=MHa.pushB (by rw [show j - 1+1=j by lia];exact m) hB (by lia) (fun z hz=>le1 z (by rw [c10];exact hz))
        by_cases e3:j - 1=1
        · rw [if_pos (by simpa using e3)]
          exact wpS_pure ⟨sm3 _,.inl ⟨_,_,rfl,M2.first hA hB hb e3 h0⟩⟩
        · rw [if_neg (by simpa using e3)]
          refine wpS_bind (ao (i:=i - 1) (by lia) ?_)
          obtain ⟨c2,hc2,cut2⟩:=cw hB (xa.toList[i - 1]'(by lia)) true 0 (j - 1) (by lia)
          obtain ⟨lt2,ge2⟩:=pW (by lia) hc2 cut2
          refine wpS_bind (cM (c:=c2) ((sm3 _).kind.trans hk) hIb (hIa _ (List.getElem_mem _)) (by lia) (by lia) hc2 cut2 ?_)
          dsimp only
          by_cases k1:j - 1 - c2 > 0
          · rw [if_pos k1]
            have M3:MHa xa xb (Array.push ou (xb.toList[j - 1]'(by lia))++(xb.extract c2 (j - 1)).reverse) i c2:=M2.extB hB hc2 (by lia) fun t ht h1 h2 z hz=>by
             refine Int.le_trans ?_ (ge2 t ht h1 h2)
             exact bY hA (n:=i - 1) (by lia) z (by rw [show i - 1+1=i by lia];exact hz)
            by_cases e4:c2=1
            · rw [if_pos (by simpa using e4)]
              exact wpS_pure ⟨sm3 _,.inl ⟨_,_,rfl,M3.first hA hB hb e4 h0⟩⟩
            · rw [if_neg (by simpa using e4)]
              by_cases e6:c2=0
              · rw [if_pos (by simpa using e6)]
                exact wpS_pure ⟨sm3 _,.inl ⟨_,_,rfl,M3.done0 hA hB (.inr e6)⟩⟩
              · rw [if_neg (by simpa using e6)]
                refine wpS_bind (ao (i:=i - 1) (by lia) ?_)
                have M4:MHa xa xb (Array.push (Array.push ou (xb.toList[j - 1]'(by lia))++(xb.extract c2 (j - 1)).reverse) (xa.toList[i - 1]'(by lia))) (i - 1) c2:=MHa.pushA (by rw [show i - 1+1=i by lia];exact M3) hA (by lia) (fun z hz=>Int.le_of_lt (lt2 z hz))
                by_cases e5:i - 1=0
                · rw [if_pos (by simpa using e5)]
                  exact wpS_pure ⟨sm3 _,.inl ⟨_,_,rfl,M4.done0 hA hB (.inl e5)⟩⟩
                · rw [if_neg (by simpa using e5)]
                  split
                  · exact wpS_pure ⟨sm3 _,.inr ⟨_,_,_,_,_,_,rfl,M4,by lia,by lia,by lia,by lia,by lia⟩⟩
                  · exact wpS_pure ⟨sm3 _,_,_,_,_,_,_,rfl,M4,by lia,by lia,by lia,by lia,by lia⟩
          · rw [if_neg k1]
            have c20:c2=j - 1:=by lia
            refine wpS_bind (ao (i:=i - 1) (by lia) ?_)
            have M4:MHa xa xb (Array.push (Array.push ou (xb.toList[j - 1]'(by lia))) (xa.toList[i - 1]'(by lia))) (i - 1) (j - 1):=MHa.pushA (by rw [show i - 1+1=i by lia];exact M2) hA (by lia) (fun z hz=>Int.le_of_lt (lt2 z (by rw [c20];exact hz)))
            by_cases e5:i - 1=0
            · rw [if_pos (by simpa using e5)]
              exact wpS_pure ⟨sm3 _,.inl ⟨_,_,rfl,M4.done0 hA hB (.inl e5)⟩⟩
            · rw [if_neg (by simpa using e5)]
              split
              · exact wpS_pure ⟨sm3 _,.inr ⟨_,_,_,_,_,_,rfl,M4,by lia,by lia,by lia,by lia,by lia⟩⟩
              · exact wpS_pure ⟨sm3 _,_,_,_,_,_,_,rfl,M4,by lia,by lia,by lia,by lia,by lia⟩
end
def PM:List (Nat×Nat×Nat)->List (List Keyed)->Nat->Prop
 | [],[],_=>True
 | p::r,l::ls,lo=>p.1=lo/\p.2.1=l.length/\PM r ls (lo+l.length)
 | _,_,_=>False
theorem PM.len:∀ {ps:List (Nat×Nat×Nat)} {ls:List (List Keyed)} {lo:Nat},PM ps ls lo->ps.length=ls.length
 | [],[],_,_=>rfl
 | _::r,_::ls,lo,h=>by rw [List.length_cons,List.length_cons,PM.len h.2.2]
 | [],_::_,_,h=>h.elim
 | _::_,[],_,h=>h.elim
theorem PM.at:∀ {ps:List (Nat×Nat×Nat)} {a:List (List Keyed)} {l:List Keyed} {b:List (List Keyed)} {lo:Nat},PM ps (a++l::b) lo->∃ pw,ps[a.length]? = some (lo+a.flatten.length,l.length,pw)
 | (s,n,p)::r,[],l,b,lo,h=>⟨p,by have h1:=h.1;have h2:=h.2.1;simp only at h1 h2;subst h1 h2;rfl⟩
 | p::r,x::a,l,b,lo,h=>by
   obtain ⟨pw,e⟩:=PM.at (a:=a) h.2.2
   refine ⟨pw,?_⟩
   rw [List.length_cons,List.getElem?_cons_succ,e,List.flatten_cons,List.length_append,Nat.add_assoc]
 | [],[],_,_,_,h=>h.elim
 | [],_::_,_,_,_,h=>h.elim
theorem PM.merge:∀ {ps:List (Nat×Nat×Nat)} {a:List (List Keyed)} {l m:List Keyed} {b:List (List Keyed)} {lo:Nat} {x:List Keyed} {pw:Nat},PM ps (a++l::m::b) lo->x.length=l.length+m.length ->
 PM ((ps.set a.length (lo+a.flatten.length,l.length+m.length,pw)).eraseIdx (a.length+1)) (a++x::b) lo
 | p::q::r,[],l,m,b,lo,x,pw,h,hx=>by
   obtain ⟨h1,h2,h3,h4,h5⟩:=h
   show PM ((lo+0,l.length+m.length,pw)::r) (x::b) lo
   refine ⟨rfl,hx.symm,?_⟩
   rw [hx,← Nat.add_assoc]
   exact h5
 | p::r,y::a,l,m,b,lo,x,pw,h,hx=>by
   obtain ⟨h1,h2,h3⟩:=h
   have ih:=PM.merge (pw:=pw) h3 hx
   show PM (p::((r.set a.length _).eraseIdx (a.length+1))) (y::(a++x::b)) lo
   refine ⟨h1,h2,?_⟩
   rw [List.flatten_cons,List.length_append,← Nat.add_assoc]
   exact ih
 | [],[],_,_,_,_,_,_,h,_=>h.elim
 | [_],[],_,_,_,_,_,_,h,_=>h.2.2.elim
 | [],_::_,_,_,_,_,_,_,h,_=>h.elim
theorem iW {xs:Array Keyed} {pre R post:List Keyed} (e:xs.toList=pre++R++post) {t:Nat} (ht:t<R.length):xs[pre.length+t]? = some R[t]:=by
 rw [← Array.getElem?_toList,e,List.append_assoc,List.getElem?_append_right (by lia),Nat.add_sub_cancel_left,List.getElem?_append_left ht,List.getElem?_eq_getElem ht]
theorem nc {xs:Array Keyed} {R:List Keyed} (hs:R.Pairwise Le) (ky:Keyed) (lf:Bool) (bs:Nat) (hK:∀ t (h:t<R.length),K xs (bs+t)=kv R[t]):∃ c,c<=R.length/\∀ i,i<R.length->Byd lf ky xs bs i=decide (i<c):=by
 have down:∀ i j,i<=j->j<R.length->Byd lf ky xs bs j=true->Byd lf ky xs bs i=true:=fun i j hij hj h=>by
  have hm:kv (R[i]'(by lia))<=kv R[j]:=by
   by_cases e:i=j
   · subst e;exact Int.le_refl _
   · exact List.pairwise_iff_getElem.mp hs _ _ _ _ (by lia)
  unfold Byd at h ⊢
  rw [hK j hj] at h
  rw [hK i (by lia)]
  cases lf with
  | true=>simp only [if_true,decide_eq_true_eq] at h ⊢;lia
  | false=>simp only [Bool.false_eq_true,if_false,Bool.not_eq_true',decide_eq_false_iff_not] at h ⊢;lia
 have main:∀ n,n<=R.length->∃ c,c<=n/\∀ i,i<n->Byd lf ky xs bs i=decide (i<c):=by
  intro n
  induction n with
  | zero=>exact fun _=>⟨0,Nat.le_refl _,fun i hi=>absurd hi (Nat.not_lt_zero _)⟩
  | succ n ih=>
    intro hn
    obtain ⟨c,hc,hd⟩:=ih (by lia)
    by_cases hb:Byd lf ky xs bs n=true
    · refine ⟨n+1,Nat.le_refl _,fun i hi=>?_⟩
      rw [decide_eq_true hi]
      exact down i n (by lia) (by lia) hb
    · refine ⟨c,by lia,fun i hi=>?_⟩
      by_cases h:i=n
      · subst h
        rw [decide_eq_false (by lia)]
        exact Bool.not_eq_true _▸(by simpa using hb)
      · exact hd i (by lia)
 exact main _ (Nat.le_refl _)
theorem eZ:∀ (l:List Keyed) (k off:Nat) (xs:Array Keyed),off+k+l.length<=xs.size->((l.zipIdx k).foldl (fun a (x:Keyed×Nat)=>a.setIfInBounds (off+x.2) x.1) xs).toList=xs.toList.take (off+k)++l++xs.toList.drop (off+k+l.length)
 | [],k,off,xs,_=>by simp
 | p::l,k,off,xs,h=>by
   rw [List.zipIdx_cons,List.foldl_cons]
   rw [List.length_cons] at h
   rw [eZ l (k+1) off _ (by rw [Array.size_setIfInBounds];lia)]
   rw [Array.toList_setIfInBounds]
   have hlen:off+k<xs.toList.length:=by rw [Array.length_toList];lia
   rw [List.drop_set_of_lt (by lia),List.length_cons]
   have e1:(xs.toList.set (off+k) p).take (off+(k+1))=xs.toList.take (off+k)++[p]:=by
    rw [← Nat.add_assoc,List.take_succ,List.take_set_of_le (by lia),List.getElem?_set_self hlen]
    rfl
   have e2:off+(k+1)+l.length=off+k+(l.length+1):=by lia
   rw [e1,e2]
   simp
theorem pw3 {a b c:List Keyed} (ha:a.Pairwise Le) (hb:b.Pairwise Le) (hc:c.Pairwise Le) (hab:∀ x∈a,∀ y∈b,kv x<=kv y) (hac:∀ x∈a,∀ y∈c,kv x<=kv y) (hbc:∀ x∈b,∀ y∈c,kv x<=kv y):(a++b++c).Pairwise Le:=by
 refine List.pairwise_append.mpr ⟨List.pairwise_append.mpr ⟨ha,hb,hab⟩,hc,fun x hx y hy=>?_⟩
 rcases List.mem_append.mp hx with hx | hx
 · exact hac x hx y hy
 · exact hbc x hx y hy
def mat:Nat->StateT SortSt Sem Bool:=sortPriv% PySem.Builtin.mergeAt
theorem mat_is:mergeAt'=mat:=rfl
theorem mat_eq (i:Nat):mat i=(do
 let z ← get
 let (some (p,n,pw),some (q,m,_)):=((pendingOf z)[i]?,(pendingOf z)[i+1]?) | unsupported "internal:list.sort.pending"
 set (setPending z (((pendingOf z).setIfInBounds i (p,n+m,pw)).eraseIdxIfInBounds (i+1)))
 let some k ← gal false (← elem' (arrOf z) q) (arrOf z) p n 0 | return false
 let (p,n):=(p+k,n - k)
 if n == 0 then return true
 let some m ← gal true (← elem' (arrOf z) (p+n - 1)) (arrOf z) q m (m - 1) | return false
 if m == 0 then return true
 let x:=(arrOf z).extract p q
 let y:=(arrOf z).extract q (q+m)
 let mg ← if n<=m then mlo x y else mhi x y
 modify fun v=>setArr v (mg.toList.zipIdx.foldl (fun a (u,j)=>a.setIfInBounds (p+j) u) (arrOf v))
 return (failedOf (← get)).isNone):=rfl
theorem s_set {prog:Program} {w:World} {A:Around} {E:Value->Shared->Prop} {s:Shared} {st v:SortSt} {Q:PUnit->SortSt->Prop} (h:Q ⟨⟩ v):wpS (model prog w) A E s (set v:StateT SortSt Sem PUnit) Q st:=by
 unfold wpS
 rw [StateT.run_set]
 exact wpAny_pure ⟨rfl,h⟩
theorem fW:∀ (p z:List Keyed) (c:Nat),(p++z).drop (p.length+c)=z.drop c
 | [],z,c=>by simp
 | x::p,z,c=>by
   rw [List.length_cons,show p.length+1+c=p.length+c+1 by lia,List.cons_append,List.drop_succ_cons]
   exact fW p z c
theorem mW {xs:Array Keyed} {pre R post:List Keyed} (e:xs.toList=pre++R++post) (c d:Nat) (hd:d<=R.length) (hc:c<=d):(xs.extract (pre.length+c) (pre.length+d)).toList=(R.drop c).take (d - c):=by
 rw [Array.toList_extract,List.extract_eq_drop_take,e,List.append_assoc,fW]
 have:(R++post).drop c=R.drop c++post:=List.drop_append_of_le_length (by lia)
 rw [this,show pre.length+d - (pre.length+c)=d - c by lia,List.take_append_of_le_length (by rw [List.length_drop];lia)]
theorem AllI.sub {xs ys:Array Keyed} (h:AllI xs) (hs:∀ p∈ys.toList,p∈xs.toList):AllI ys:=fun p hp=>h p (hs p hp)
section
variable {prog:Program} {w:World} {A:Around} {E:Value->Shared->Prop} {s:Shared}
structure Kept (a b:SortSt):Prop where
 kind:kindOf b=kindOf a
 fail:failedOf b=failedOf a
theorem s_mat {st:SortSt} {L1 L2:List (List Keyed)} {R1 R2 rest:List Keyed} {Q:Bool->SortSt->Prop} (hk:kindOf st=oneType') (hf:failedOf st=none) (hI:AllI (arrOf st))
 (ha:(arrOf st).toList=(L1++R1::R2::L2).flatten++rest) (pm:PM (pendingOf st).toList (L1++R1::R2::L2) 0) (n1:R1≠[]) (n2:R2≠[]) (s1:R1.Pairwise Le) (s2:R2.Pairwise Le)
 (h:∀ st' R,Kept st st'->R.Perm (R1++R2)->R.Pairwise Le->(arrOf st').toList=(L1++R::L2).flatten++rest->PM (pendingOf st').toList (L1++R::L2) 0->Q true st'):wpS (model prog w) A E s (mat L1.length) Q st:=by
 have p1:0<R1.length:=List.length_pos_iff.mpr n1
 have p2:0<R2.length:=List.length_pos_iff.mpr n2
 obtain ⟨pw,e1⟩:=pm.at
 have e2':=(show PM (pendingOf st).toList ((L1++[R1])++R2::L2) 0 by rw [List.append_assoc];exact pm).at
 obtain ⟨pw2,e2⟩:=e2'
 rw [List.length_append,List.length_singleton,List.flatten_append,List.flatten_cons,List.flatten_nil,List.append_nil,List.length_append] at e2
 rw [Array.getElem?_toList] at e1 e2
 have ea:(arrOf st).toList=L1.flatten++R1++(R2++L2.flatten++rest):=by rw [ha];simp
 have eb:(arrOf st).toList=(L1.flatten++R1)++R2++(L2.flatten++rest):=by rw [ha];simp
 have hsz:(arrOf st).size=L1.flatten.length+R1.length+R2.length+L2.flatten.length+rest.length:=by
  rw [← Array.length_toList,ha]
  simp only [List.flatten_append,List.flatten_cons,List.length_append]
  lia
 have pmR:∀ R:List Keyed,R.length=R1.length+R2.length->PM (((pendingOf st).setIfInBounds L1.length (0+L1.flatten.length,R1.length+R2.length,pw)).eraseIdxIfInBounds (L1.length+1)).toList (L1++R::L2) 0:=fun R hR=>by
  have:=PM.merge (pw:=pw) pm hR
  rw [Array.toList_eraseIdxIfInBounds,Array.toList_setIfInBounds]
  exact this
 have join:(L1++(R1++R2)::L2).flatten++rest=(arrOf st).toList:=by rw [ha];simp
 rw [mat_eq]
 refine wpS_bind (wpS_get ?_)
 rw [e1,e2]
 dsimp only
 refine wpS_bind (s_set ?_)
 have g2:(arrOf st)[0+(L1.flatten.length+R1.length)]? = some R2[0]:=by
  have:=iW eb p2
  rw [List.length_append,Nat.add_zero] at this
  rw [Nat.zero_add];exact this
 refine wpS_bind (iX g2 ?_)
 have hK1:∀ t (ht:t<R1.length),K (arrOf st) (0+L1.flatten.length+t)=kv R1[t]:=fun t ht=>by
  rw [Nat.zero_add];exact tS (iW ea ht)
 have hK2:∀ t (ht:t<R2.length),K (arrOf st) (0+(L1.flatten.length+R1.length)+t)=kv R2[t]:=fun t ht=>by
  have:=tS (iW eb ht)
  rw [List.length_append] at this
  rw [Nat.zero_add];exact this
 have hI2:IsI R2[0]:=hI _ (by rw [eb];exact List.mem_append_left _ (List.mem_append_right _ (List.getElem_mem _)))
 obtain ⟨c,hc,cut⟩:=nc s1 R2[0] false (0+L1.flatten.length) hK1
 have lo:∀ t (ht:t<R1.length),t<c->kv R1[t]<=kv R2[0]:=fun t ht htc=>by
  have:=cut t ht
  unfold Byd at this
  rw [hK1 t ht,decide_eq_true htc] at this
  simp only [Bool.false_eq_true,if_false,Bool.not_eq_true',decide_eq_false_iff_not] at this
  lia
 have up:∀ t (ht:t<R1.length),c<=t->kv R2[0]<kv R1[t]:=fun t ht htc=>by
  have:=cut t ht
  unfold Byd at this
  rw [hK1 t ht,decide_eq_false (show ¬ t<c by lia)] at this
  simpa using this
 refine wpS_bind (cM (st:=setPending st _) (c:=c) hk hI hI2 (by lia) p1 hc cut ?_)
 dsimp only
 have b0:∀ y∈R2,kv R2[0]<=kv y:=fun y hy=>cg s2 p2 y (by simpa using hy)
 by_cases c1:R1.length - c=0
 · rw [if_pos (by simpa using c1)]
   refine wpS_pure (h _ (R1++R2) ⟨rfl,rfl⟩ (List.Perm.refl _) ?_ join.symm (pmR _ (by rw [List.length_append])))
   refine List.pairwise_append.mpr ⟨s1,s2,fun x hx y hy=>?_⟩
   obtain ⟨t,ht,rfl⟩:=List.mem_iff_getElem.mp hx
   exact Int.le_trans (lo t ht (by lia)) (b0 y hy)
 rw [if_neg (by simpa using c1)]
 have gl:(arrOf st)[0+L1.flatten.length+c+(R1.length - c) - 1]? = some (R1[R1.length - 1]'(by lia)):=by
  have:=iW ea (t:=R1.length - 1) (by lia)
  rw [show 0+L1.flatten.length+c+(R1.length - c) - 1=L1.flatten.length+(R1.length - 1) by lia];exact this
 refine wpS_bind (iX gl ?_)
 have hI1:IsI (R1[R1.length - 1]'(by lia)):=hI _ (by rw [ea];exact List.mem_append_left _ (List.mem_append_right _ (List.getElem_mem _)))
 obtain ⟨d,hd,cut2⟩:=nc s2 (R1[R1.length - 1]'(by lia)) true (0+(L1.flatten.length+R1.length)) hK2
 have lo2:∀ t (ht:t<R2.length),t<d->kv R2[t]<kv (R1[R1.length - 1]'(by lia)):=fun t ht htc=>by
  have:=cut2 t ht
  unfold Byd at this
  rw [hK2 t ht,decide_eq_true htc] at this
  simpa using this
 have up2:∀ t (ht:t<R2.length),d<=t->kv (R1[R1.length - 1]'(by lia))<=kv R2[t]:=fun t ht htc=>by
  have:=cut2 t ht
  unfold Byd at this
  rw [hK2 t ht,decide_eq_false (show ¬ t<d by lia)] at this
  simpa using this
 refine wpS_bind (cM (st:=setPending st _) (c:=d) hk hI hI1 (by lia) (by lia) hd cut2 ?_)
 dsimp only
 have lastA:∀ x∈R1,kv x<=kv (R1[R1.length - 1]'(by lia)):=fun x hx=>by
  refine bY s1 (n:=R1.length - 1) (by lia) x ?_
  rw [List.take_of_length_le (by lia)];exact hx
 by_cases c2:d=0
 · rw [if_pos (by simpa using c2)]
   refine wpS_pure (h _ (R1++R2) ⟨rfl,rfl⟩ (List.Perm.refl _) ?_ join.symm (pmR _ (by rw [List.length_append])))
   refine List.pairwise_append.mpr ⟨s1,s2,fun x hx y hy=>?_⟩
   exact Int.le_trans (lastA x hx) (Int.le_trans (up2 0 p2 (by lia)) (b0 y hy))
 rw [if_neg (by simpa using c2)]
 have ex:((arrOf st).extract (0+L1.flatten.length+c) (0+(L1.flatten.length+R1.length))).toList=R1.drop c:=by
  have:=mW ea c R1.length (Nat.le_refl _) hc
  rw [Nat.zero_add,Nat.zero_add,this,List.take_of_length_le (by rw [List.length_drop];exact Nat.le_refl _)]
 have ey:((arrOf st).extract (0+(L1.flatten.length+R1.length)) (0+(L1.flatten.length+R1.length)+d)).toList=R2.take d:=by
  have:=mW eb 0 d hd (Nat.zero_le _)
  rw [List.length_append,Nat.add_zero,List.drop_zero,Nat.sub_zero] at this
  rw [Nat.zero_add];exact this
 generalize hx:(arrOf st).extract (0+L1.flatten.length+c) (0+(L1.flatten.length+R1.length))=xx at ex ⊢
 generalize hy:(arrOf st).extract (0+(L1.flatten.length+R1.length)) (0+(L1.flatten.length+R1.length)+d)=yy at ey ⊢
 have Ix:AllI xx:=hI.sub fun p hp=>by rw [ex] at hp;rw [ea];exact List.mem_append_left _ (List.mem_append_right _ (List.mem_of_mem_drop hp))
 have Iy:AllI yy:=hI.sub fun p hp=>by rw [ey] at hp;rw [eb];exact List.mem_append_left _ (List.mem_append_right _ (List.mem_of_mem_take hp))
 have Sx:xx.toList.Pairwise Le:=by rw [ex];exact s1.sublist (List.drop_sublist _ _)
 have Sy:yy.toList.Pairwise Le:=by rw [ey];exact s2.sublist (List.take_sublist _ _)
 have lx:xx.toList.length=R1.length - c:=by rw [ex,List.length_drop]
 have ly:yy.toList.length=d:=by rw [ey,List.length_take];lia
 have y0:yy.toList[0]'(by lia)=R2[0]:=by simp only [ey,List.getElem_take]
 have xl:xx.toList[xx.toList.length - 1]'(by lia)=R1[R1.length - 1]'(by lia):=by
  simp only [ex,List.getElem_drop,List.length_drop]
  congr 1
  lia
 have h0:∀ z∈xx.toList,kv (yy.toList[0]'(by lia))<=kv z:=fun z hz=>by
  rw [y0]
  rw [ex] at hz
  obtain ⟨u,hu,rfl⟩:=ce hz
  exact Int.le_of_lt (up _ hu (by lia))
 have hl:∀ z∈yy.toList,kv z<=kv (xx.toList[xx.toList.length - 1]'(by lia)):=fun z hz=>by
  rw [xl]
  rw [ey] at hz
  obtain ⟨u,hu,rfl⟩:=List.mem_iff_getElem.mp hz
  rw [List.length_take] at hu
  rw [List.getElem_take]
  exact Int.le_of_lt (lo2 u (by lia) (by lia))
 have fin:∀ (o:Array Keyed) (st2:SortSt),SameSt (setPending st (((pendingOf st).setIfInBounds L1.length (0+L1.flatten.length,R1.length+R2.length,pw)).eraseIdxIfInBounds (L1.length+1))) st2->Mer xx.toList yy.toList o.toList ->
  wpS (model prog w) A E s (do modify fun v=>setArr v (o.toList.zipIdx.foldl (fun a (u,j)=>a.setIfInBounds (0+L1.flatten.length+c+j) u) (arrOf v));return (failedOf (← get)).isNone) Q st2:=by
  intro o st2 sm me
  refine wpS_bind (wpS_modify (wpS_bind (wpS_get ?_)))
  have hf2:failedOf st2=none:=sm.fail.trans hf
  show wpS _ _ _ _ (pure (failedOf st2).isNone) Q _
  rw [hf2]
  have harr:arrOf st2=arrOf st:=sm.arr
  have lo':o.toList.length=R1.length - c+d:=by rw [me.perm.length_eq,List.length_append,lx,ly]
  have hwb:=eZ o.toList 0 (0+L1.flatten.length+c) (arrOf st) (by rw [lo'];lia)
  refine wpS_pure (h _ (R1.take c++o.toList++R2.drop d) ⟨sm.kind,sm.fail⟩ ?_ ?_ ?_ ?_)
  · have e:=me.perm
    rw [ex,ey] at e
    have e3:(R1.take c++o.toList++R2.drop d).Perm (R1.take c++(R1.drop c++R2.take d)++R2.drop d):=List.Perm.append_right _ (List.Perm.append_left _ e)
    have e4:R1.take c++(R1.drop c++R2.take d)++R2.drop d=R1++R2:=by
     rw [← List.append_assoc,List.take_append_drop,List.append_assoc,List.take_append_drop]
    rw [e4] at e3
    exact e3
  · have om:∀ z∈o.toList,z∈R1.drop c\/z∈R2.take d:=fun z hz=>by
     have:=me.perm.mem_iff.mp hz
     rw [ex,ey] at this
     exact List.mem_append.mp this
    have ta:∀ x∈R1.take c,kv x<=kv R2[0]:=fun x hx=>by
     obtain ⟨u,hu,rfl⟩:=List.mem_iff_getElem.mp hx
     rw [List.length_take] at hu
     rw [List.getElem_take]
     exact lo u (by lia) (by lia)
    have td:∀ y∈R2.drop d,kv (R1[R1.length - 1]'(by lia))<=kv y:=fun y hy=>by
     obtain ⟨u,hu,rfl⟩:=ce hy
     exact up2 _ hu (by lia)
    refine pw3 (s1.sublist (List.take_sublist _ _)) me.srt (s2.sublist (List.drop_sublist _ _)) (fun x hx y hy=>?_) (fun x hx y hy=>?_) (fun x hx y hy=>?_)
    · rcases om y hy with hy | hy
      · obtain ⟨u,hu,rfl⟩:=ce hy
        exact Int.le_trans (ta x hx) (Int.le_of_lt (up _ hu (by lia)))
      · exact Int.le_trans (ta x hx) (b0 y (List.mem_of_mem_take hy))
    · exact Int.le_trans (ta x hx) (b0 y (List.mem_of_mem_drop hy))
    · rcases om x hx with hx | hx
      · exact Int.le_trans (lastA x (List.mem_of_mem_drop hx)) (td y hy)
      · obtain ⟨u,hu,rfl⟩:=List.mem_iff_getElem.mp hx
        rw [List.length_take] at hu
        rw [List.getElem_take]
        exact Int.le_trans (Int.le_of_lt (lo2 u (by lia) (by lia))) (td y hy)
  · show (o.toList.zipIdx.foldl (fun a (x:Keyed×Nat)=>a.setIfInBounds (0+L1.flatten.length+c+x.2) x.1) (arrOf st2)).toList=_
    rw [harr]
    refine hwb.trans ?_
    rw [Nat.add_zero,lo']
    have t1:(arrOf st).toList.take (0+L1.flatten.length+c)=L1.flatten++R1.take c:=by
     rw [ea,List.append_assoc,Nat.zero_add,List.take_append,List.take_of_length_le (by lia),Nat.add_sub_cancel_left,List.take_append_of_le_length (by lia)]
    have t2:(arrOf st).toList.drop (0+L1.flatten.length+c+(R1.length - c+d))=R2.drop d++(L2.flatten++rest):=by
     rw [eb,List.append_assoc,show 0+L1.flatten.length+c+(R1.length - c+d)=(L1.flatten++R1).length+d by rw [List.length_append];lia,fW,List.drop_append_of_le_length (by lia)]
    rw [t1,t2]
    simp only [List.flatten_append,List.flatten_cons,List.append_assoc]
  · show PM (pendingOf st2).toList _ _
    rw [sm.pend]
    refine pmR _ ?_
    rw [List.length_append,List.length_append,List.length_take,List.length_drop,lo']
    lia
 by_cases c3:R1.length - c<=d
 · rw [if_pos c3]
   exact wpS_bind (s_mlo hk Ix Iy Sx Sy (by lia) (by lia) h0 hl fun o st2 sm me=>fin o st2 sm me)
 · rw [if_neg c3]
   exact wpS_bind (s_mhi hk Ix Iy Sx Sy (by lia) (by lia) h0 hl fun o st2 sm me=>fin o st2 sm me)
end
structure SX (a₀:Array Keyed) (lo:Nat) (st₀ st:SortSt):Prop where
 perm:(arrOf st).Perm a₀
 kind:kindOf st=oneType'
 fail:failedOf st=none
 pend:pendingOf st=pendingOf st₀
 pre:∀ k,k<lo->(arrOf st)[k]? = a₀[k]?
theorem SX.size {a₀:Array Keyed} {lo:Nat} {st₀ st:SortSt} (h:SX a₀ lo st₀ st):(arrOf st).size=a₀.size:=h.perm.size_eq
theorem SX.setA {a₀:Array Keyed} {lo:Nat} {st₀ st:SortSt} (h:SX a₀ lo st₀ st) {xs:Array Keyed} (hp:xs.Perm (arrOf st)) (he:∀ k,k<lo->xs[k]? = (arrOf st)[k]?):SX a₀ lo st₀ (setArr st xs):=
 ⟨hp.trans h.perm,h.kind,h.fail,h.pend,fun k hk=>(he k hk).trans (h.pre k hk)⟩
def j9 (xs:Array Keyed) (lo n:Nat):Prop:=∀ i j,i<=j->j<n->K xs (lo+i)<=K xs (lo+j)
def t5 (xs:Array Keyed) (lo n:Nat):Prop:=∀ i j,i<=j->j<n->K xs (lo+j)<=K xs (lo+i)
section
variable {prog:Program} {w:World} {A:Around} {E:Value->Shared->Prop} {s:Shared} {a₀:Array Keyed} {lo:Nat} {st₀:SortSt}
theorem kR {st:SortSt} {i j:Nat} {Q:Option Bool->SortSt->Prop} (hX:SX a₀ lo st₀ st) (h0:AllI a₀) (hi:i<a₀.size) (hj:j<a₀.size) (h:Q (some (decide (K (arrOf st) i<K (arrOf st) j))) st):wpS (model prog w) A E s (ltAt' i j) Q st:=by
 have get:∀ k,k<a₀.size->∃ t q,(arrOf st)[k]? = some (.int (K (arrOf st) k) t,q):=fun k hk=>by
  have hk':k<(arrOf st).size:=by rw [hX.size];exact hk
  have hm:(arrOf st)[k]∈a₀.toList:=(Array.perm_iff_toList_perm.mp hX.perm).mem_iff.mp (by simp)
  obtain ⟨t,ht⟩:=h0 _ hm
  have e:=getElem?_pos (arrOf st) k hk'
  refine ⟨t,(arrOf st)[k].2,?_⟩
  rw [tS e,e]
  exact congrArg some (Prod.ext ht rfl)
 obtain ⟨t,p,e1⟩:=get i hi
 obtain ⟨u,q,e2⟩:=get j hj
 exact wpS_ltAt hX.kind e1 e2 h
theorem cK {st:SortSt} {i j:Nat} (hX:SX a₀ lo st₀ st) (hi:lo<=i) (hj:j<=a₀.size):SX a₀ lo st₀ (setArr st (mirror (arrOf st) i j ((j - i) / 2))):=
 hX.setA (mirror_perm _ _ _ _) fun k hk=>by
  rw [getElem?_mirror_all (by rw [hX.size];exact hj),if_neg (by lia)]
theorem s_bin {st:SortSt} {n ok:Nat} {Q:Bool->SortSt->Prop} (h0:AllI a₀) (hn:lo+n<=a₀.size) (hok:ok<=n) (hX:SX a₀ lo st₀ st) (hs:j9 (arrOf st) lo ok)
 (h:∀ st',SX a₀ lo st₀ st'->j9 (arrOf st') lo n->Q true st'):wpS (model prog w) A E s (binarySort' lo n ok) Q st:=by
 rw [binarySort'_eq]
 refine wpS_bind (wpS_mono (wpS_forRange (I:=fun k c z=>c=(none,())/\SX a₀ lo st₀ z/\j9 (arrOf z) lo (min k n)) (Q:=fun c z=>c=(none,())/\SX a₀ lo st₀ z/\j9 (arrOf z) lo n) ?st1 ?fi1 ?in1) ?po1)
 case po1=>rintro c z ⟨rfl,zX,zs⟩;exact wpS_pure (h z zX zs)
 case in1=>
  refine ⟨rfl,hX,fun i j hij hj=>?_⟩
  by_cases h1:ok=0
  · have:i=j:=by lia
    subst this;exact Int.le_refl _
  · exact hs i j hij (by lia)
 case fi1=>
  rintro c z ⟨hc,zX,zs⟩
  refine ⟨hc,zX,?_⟩
  rwa [show min (max (max ok 1) n) n=n by lia] at zs
 case st1=>
  rintro k c z hak hkn ⟨rfl,zX,zs⟩
  rw [show min k n=k by lia] at zs
  refine wpS_bind (wpS_mono (wpS_forRange (I:=fun x c v=>z=v/\∃ l r,c=(none,l,r)/\l<=r/\r<=k/\r - l<=k - x/\(∀ i,i<l->K (arrOf z) (lo+i)<=K (arrOf z) (lo+k))/\(∀ i,r<=i->i<k->K (arrOf z) (lo+k)<K (arrOf z) (lo+i)))
   (Q:=fun c v=>z=v/\∃ l r,c=(none,l,r)/\l<=k/\(∀ i,i<l->K (arrOf z) (lo+i)<=K (arrOf z) (lo+k))/\(∀ i,l<=i->i<k->K (arrOf z) (lo+k)<K (arrOf z) (lo+i))) ?ist ?ifi ⟨rfl,0,k,rfl,by lia,by lia,by lia,fun i hi=>by lia,fun i g1 g2=>by lia⟩) ?ipo)
  case ifi=>
   rintro c v ⟨rfl,l,r,rfl,hlr,hrk,hm,hlo,hhi⟩
   have:l=r:=by lia
   subst this
   exact ⟨rfl,l,l,rfl,hrk,hlo,hhi⟩
  case ist=>
   rintro x c v _ hxk ⟨rfl,l,r,rfl,hlr,hrk,hm,hlo,hhi⟩
   dsimp only
   by_cases hge:l>=r
   · rw [if_pos hge]
     have:l=r:=by lia
     subst this
     exact wpS_pure ⟨rfl,l,l,rfl,hrk,hlo,hhi⟩
   · rw [if_neg hge]
     refine wpS_bind (kR zX h0 (by lia) (by lia) ?_)
     by_cases hz:K (arrOf z) (lo+k)<K (arrOf z) (lo+(l+r) / 2)
     · simp only [hz,decide_true,if_true]
       exact wpS_pure ⟨rfl,l,(l+r) / 2,rfl,by lia,by lia,by lia,hlo,fun i g1 g2=>Int.lt_of_lt_of_le hz (zs _ _ g1 g2)⟩
     · simp only [hz,decide_false,Bool.false_eq_true,if_false]
       exact wpS_pure ⟨rfl,(l+r) / 2+1,r,rfl,by lia,by lia,by lia,fun i g1=>Int.le_trans (zs i ((l+r) / 2) (by lia) (by lia)) (Int.not_lt.mp hz),hhi⟩
  case ipo=>
   rintro c v ⟨rfl,l,r,rfl,hlk,hlo,hhi⟩
   show wpS _ _ _ _ (do moveDown' (lo+k) (lo+l);pure (ForInStep.yield (none,()))) _ _
   rw [moveDown'_eq]
   have hks:lo+k<(arrOf z).size:=by rw [zX.size];lia
   have hd:lo+k - (lo+k - (lo+l))=lo+l:=by lia
   refine wpS_bind (wpS_modify (wpS_pure ⟨rfl,zX.setA (bubble_perm _ _ _) fun q hq=>?_,?_⟩))
   · rw [getElem?_bubble hks _ (by lia),hd,if_neg (by lia),if_neg (by lia)]
   · rw [show min (k+1) n=k+1 by lia]
     intro i j hij hj
     show K (bubble (arrOf z) (lo+k) (lo+k - (lo+l))) (lo+i)<=K (bubble (arrOf z) (lo+k) (lo+k - (lo+l))) (lo+j)
     rw [K_bubble hks (by lia),K_bubble hks (by lia),hd]
     have back:∀ q,0<q->lo+q - 1=lo+(q - 1):=fun q hq=>by lia
     repeat' split
     all_goals first
      | (exfalso;lia)
      | exact Int.le_refl _
      | exact hlo _ (by lia)
      | (rw [back j (by lia)];exact Int.le_of_lt (hhi _ (by lia) (by lia)))
      | exact Int.le_of_lt (hhi _ (by lia) (by lia))
      | (rw [back i (by lia),back j (by lia)];exact zs _ _ (by lia) (by lia))
      | (rw [back i (by lia)];exact zs _ _ (by lia) (by lia))
      | (rw [back j (by lia)];exact zs _ _ (by lia) (by lia))
      | exact zs _ _ (by lia) (by lia)
end
def upL (lo a m:Nat):StateT SortSt Sem (Option (Option Nat)×Nat):=
 forIn [a:m] ((none,a):Option (Option Nat)×Nat) fun _ c=>do
  let t ← ltAt' (lo+c.snd) (lo+c.snd - 1)
  match t with
  | some b=>if b=true then pure (.done (none,c.snd)) else pure (.yield (none,c.snd+1))
  | _=>pure (.done (some none,c.snd))
def dnL (lo a m:Nat):StateT SortSt Sem (Option (Option Nat)×Nat×Nat):=
 forIn [a:m] ((none,a,0):Option (Option Nat)×Nat×Nat) fun _ c=>do
  let t ← ltAt' (lo+c.snd.fst) (lo+c.snd.fst - 1)
  match t with
  | some b=>
    if b=true then
     if c.snd.snd > 0 then do
      reverseSlice' (lo+c.snd.fst - (c.snd.snd+1)) (lo+c.snd.fst)
      pure (.yield (none,c.snd.fst+1,0))
     else pure (.yield (none,c.snd.fst+1,0))
    else do
     let u ← ltAt' (lo+c.snd.fst - 1) (lo+c.snd.fst)
     match u with
     | some d=>if d=true then pure (.done (none,c.snd.fst,c.snd.snd)) else pure (.yield (none,c.snd.fst+1,c.snd.snd+1))
     | _=>pure (.done (some none,c.snd.fst,c.snd.snd))
  | _=>pure (.done (some none,c.snd.fst,c.snd.snd))
def enL (lo a m:Nat):StateT SortSt Sem (Option Nat):=do
 reverseSlice' lo (lo+a)
 let c ← upL lo a m
 match c.fst with
 | some r=>pure r
 | none=>pure (some c.snd)
def faL (lo a m:Nat):StateT SortSt Sem (Option Nat):=do
 liftM (rule "list.sort.descending-run")
 let c ← dnL lo (a+1) m
 match c.fst with
 | some r=>pure r
 | none=>
   if c.snd.snd > 0 then do
    reverseSlice' (lo+c.snd.fst - (c.snd.snd+1)) (lo+c.snd.fst)
    enL lo c.snd.fst m
   else enL lo c.snd.fst m
theorem run_eq (lo m:Nat):countRun' lo m=(do
 let c ← upL lo 1 m
 match c.fst with
 | some r=>pure r
 | none=>
   if (c.snd == m)=true then pure (some c.snd)
   else if c.snd > 1 then do
    let t ← ltAt' lo (lo+c.snd - 1)
    match t with
    | some b=>if b=true then pure (some c.snd) else do
     reverseSlice' lo (lo+c.snd)
     faL lo c.snd m
    | _=>pure none
   else faL lo c.snd m):=by
 rw [countRun'_eq]
 dsimp only
 unfold faL enL dnL upL
 congr 1
 funext c
 obtain ⟨r,k⟩:=c
 cases r with
 | some r=>rfl
 | none=>
   dsimp only
   split
   · rfl
   · split
     · congr 1
       funext t
       cases t with
       | none=>rfl
       | some b=>
         dsimp only
         split
         · rfl
         · congr 1
           funext _y
           congr 1
           funext _x
           congr 1
           congr 1
           funext y
           obtain ⟨r,k,q⟩:=y
           cases r with
           | some r=>rfl
           | none=>
             dsimp only
             split
             · congr 1
               funext _z
               congr 1
               funext _x
               congr 1
               funext y
               obtain ⟨r,k⟩:=y
               cases r <;> rfl
             · congr 1
               funext _x
               congr 1
               funext y
               obtain ⟨r,k⟩:=y
               cases r <;> rfl
     · skip
       congr 1
       funext _x
       congr 1
       congr 1
       funext y
       obtain ⟨r,k,q⟩:=y
       cases r with
       | some r=>rfl
       | none=>
         dsimp only
         split
         · congr 1
           funext _z
           congr 1
           funext _x
           congr 1
           funext y
           obtain ⟨r,k⟩:=y
           cases r <;> rfl
         · congr 1
           funext _x
           congr 1
           funext y
           obtain ⟨r,k⟩:=y
           cases r <;> rfl
section
variable {prog:Program} {w:World} {A:Around} {E:Value->Shared->Prop} {s:Shared} {a₀:Array Keyed} {lo:Nat} {st₀:SortSt}
theorem oE {st:SortSt} {i j:Nat} {Q:Unit->SortSt->Prop} (h:Q () (setArr st (mirror (arrOf st) i j ((j - i) / 2)))):wpS (model prog w) A E s (reverseSlice' i j) Q st:=by
 rw [reverseSlice'_eq]
 exact wpS_modify h
theorem j7 {lo x:Nat} (h:1<=x):lo+x - 1=lo+(x - 1):=by lia
theorem s_up {st:SortSt} {a m:Nat} {Q:Option (Option Nat)×Nat->SortSt->Prop} (h0:AllI a₀) (hm:lo+m<=a₀.size) (ha:1<=a) (ham:a<=m) (hX:SX a₀ lo st₀ st)
 (hs:j9 (arrOf st) lo a)
 (h:∀ n,a<=n->n<=m->j9 (arrOf st) lo n->(n=m\/K (arrOf st) (lo+n)<K (arrOf st) (lo+(n - 1)))->Q (none,n) st):wpS (model prog w) A E s (upL lo a m) Q st:=by
 unfold upL
 refine wpS_forRange (I:=fun x c v=>st=v/\c=(none,x)/\j9 (arrOf st) lo x) ?s1 ?f1 ⟨rfl,rfl,hs⟩
 case f1=>
  rintro c v ⟨rfl,rfl,g⟩
  rw [show max a m=m by lia] at g ⊢
  exact h m ham (Nat.le_refl _) g (.inl rfl)
 case s1=>
  rintro x c v hax hxm ⟨rfl,rfl,g⟩
  dsimp only
  rw [j7 (by lia)]
  refine wpS_bind (kR hX h0 (by lia) (by lia) ?_)
  by_cases hl:K (arrOf st) (lo+x)<K (arrOf st) (lo+(x - 1))
  · simp only [hl,decide_true,if_true]
    exact wpS_pure (h x hax (by lia) g (.inr hl))
  · simp only [hl,decide_false,Bool.false_eq_true,if_false]
    refine wpS_pure ⟨rfl,rfl,fun i j hij hj=>?_⟩
    rcases Nat.lt_or_ge j x with q | q
    · exact g i j hij q
    · obtain rfl:j=x:=by lia
      rcases Nat.eq_or_lt_of_le hij with rfl | q2
      · exact Int.le_refl _
      · exact Int.le_trans (g i (j - 1) (by lia) (by lia)) (Int.not_lt.mp hl)
theorem s_en {st:SortSt} {a m:Nat} {Q:Option Nat->SortSt->Prop} (h0:AllI a₀) (hm:lo+m<=a₀.size) (ha:1<=a) (ham:a<=m) (hX:SX a₀ lo st₀ st)
 (hs:t5 (arrOf st) lo a) (h:∀ n v,SX a₀ lo st₀ v->1<=n->n<=m->j9 (arrOf v) lo n->Q (some n) v):wpS (model prog w) A E s (enL lo a m) Q st:=by
 unfold enL
 have hz:lo+a<=(arrOf st).size:=by rw [hX.size];lia
 refine wpS_bind (oE ?_)
 have hX':=cK (i:=lo) (j:=lo+a) hX (Nat.le_refl _) (by lia)
 refine wpS_bind (s_up h0 hm ha ham hX' ?_ fun n g1 g2 g3 _=>wpS_pure (h n _ hX' (by lia) g2 g3))
 intro i j hij hj
 show K (mirror (arrOf st) lo (lo+a) ((lo+a - lo) / 2)) _<=K (mirror (arrOf st) lo (lo+a) ((lo+a - lo) / 2)) _
 rw [K_mirror hz,K_mirror hz,if_pos (by lia),if_pos (by lia),show lo+(lo+a) - 1 - (lo+i)=lo+(a - 1 - i) by lia,show lo+(lo+a) - 1 - (lo+j)=lo+(a - 1 - j) by lia]
 exact hs _ _ (by lia) (by lia)
def tU (xs:Array Keyed) (lo n q:Nat):Prop:=∀ i,lo+n - (q+1)<=i->i<lo+n->K xs i=K xs (lo+n - 1)
theorem nX {xs:Array Keyed} {n:Nat} (h:1<=n):tU xs lo n 0:=fun i a b=>by
 obtain rfl:i=lo+n - 1:=by lia
 rfl
theorem s_dn {st:SortSt} {a m:Nat} {Q:Option (Option Nat)×Nat×Nat->SortSt->Prop} (h0:AllI a₀) (hm:lo+m<=a₀.size) (ha:1<=a) (ham:a<=m) (hX:SX a₀ lo st₀ st)
 (hs:t5 (arrOf st) lo a)
 (h:∀ n q v,SX a₀ lo st₀ v->a<=n->n<=m->t5 (arrOf v) lo n->q+1<=n->tU (arrOf v) lo n q->Q (none,n,q) v):wpS (model prog w) A E s (dnL lo a m) Q st:=by
 unfold dnL
 refine wpS_forRange (I:=fun x c v=>∃ q,c=(none,x,q)/\SX a₀ lo st₀ v/\t5 (arrOf v) lo x/\q+1<=x/\tU (arrOf v) lo x q) ?s1 ?f1 ⟨0,rfl,hX,hs,by lia,nX ha⟩
 case f1=>
  rintro c v ⟨q,rfl,vX,vs,vq,va⟩
  rw [show max a m=m by lia] at vs vq va ⊢
  exact h m q v vX ham (Nat.le_refl _) vs vq va
 case s1=>
  rintro x c v hax hxm ⟨q,rfl,vX,vs,vq,va⟩
  dsimp only
  have hz:lo+x<=(arrOf v).size:=by rw [vX.size];lia
  have grow:∀ xs:Array Keyed,(∀ k,K xs k=K (arrOf v) k)->K (arrOf v) (lo+x)<=K (arrOf v) (lo+(x - 1))->t5 xs lo (x+1):=by
   intro xs hk hl i j hij hj
   rw [hk,hk]
   rcases Nat.lt_or_ge j x with g | g
   · exact vs i j hij g
   · obtain rfl:j=x:=by lia
     rcases Nat.eq_or_lt_of_le hij with rfl | g2
     · exact Int.le_refl _
     · exact Int.le_trans hl (vs i (j - 1) (by lia) (by lia))
  rw [j7 (by lia)]
  refine wpS_bind (kR vX h0 (by lia) (by lia) ?_)
  by_cases hl:K (arrOf v) (lo+x)<K (arrOf v) (lo+(x - 1))
  · simp only [hl,decide_true,if_true]
    by_cases hq:q > 0
    · rw [if_pos hq]
      exact wpS_bind (oE (wpS_pure ⟨0,rfl,cK vX (by lia) (by lia),grow _ (K_mirror_equal hz va) (Int.le_of_lt hl),by lia,nX (by lia)⟩))
    · rw [if_neg hq]
      exact wpS_pure ⟨0,rfl,vX,grow _ (fun _=>rfl) (Int.le_of_lt hl),by lia,nX (by lia)⟩
  · simp only [hl,decide_false,Bool.false_eq_true,if_false]
    refine wpS_bind (kR vX h0 (by lia) (by lia) ?_)
    by_cases hg:K (arrOf v) (lo+(x - 1))<K (arrOf v) (lo+x)
    · simp only [hg,decide_true,if_true]
      exact wpS_pure (h x q v vX hax (by lia) vs vq va)
    · simp only [hg,decide_false,Bool.false_eq_true,if_false]
      have he:K (arrOf v) (lo+x)=K (arrOf v) (lo+(x - 1)):=by lia
      refine wpS_pure ⟨q+1,rfl,vX,grow _ (fun _=>rfl) (by lia),by lia,fun i g1 g2=>?_⟩
      rw [show lo+(x+1) - 1=lo+x by lia]
      by_cases hi:i=lo+x
      · rw [hi]
      · rw [he,← j7 (by lia)]
        exact va i (by lia) (by lia)
theorem s_fa {st:SortSt} {a m:Nat} {Q:Option Nat->SortSt->Prop} (h0:AllI a₀) (hm:lo+m<=a₀.size) (ham:a+1<=m) (hX:SX a₀ lo st₀ st)
 (hs:t5 (arrOf st) lo (a+1)) (h:∀ n v,SX a₀ lo st₀ v->1<=n->n<=m->j9 (arrOf v) lo n->Q (some n) v):wpS (model prog w) A E s (faL lo a m) Q st:=by
 unfold faL
 refine wpS_bind (wpS_lift (wpAny_rule ⟨rfl,?_⟩))
 refine wpS_bind (s_dn h0 hm (by lia) ham hX hs fun n q v vX g1 g2 vs vq va=>?_)
 dsimp only
 have hz:lo+n<=(arrOf v).size:=by rw [vX.size];lia
 by_cases hq:q > 0
 · rw [if_pos hq]
   refine wpS_bind (oE (s_en h0 hm (by lia) g2 (cK vX (by lia) (by lia)) ?_ h))
   intro i j hij hj
   show K (mirror (arrOf v) _ _ _) _<=K (mirror (arrOf v) _ _ _) _
   rw [K_mirror_equal hz va,K_mirror_equal hz va]
   exact vs i j hij hj
 · rw [if_neg hq]
   exact s_en h0 hm (by lia) g2 vX vs h
theorem s_run {st:SortSt} {m:Nat} {Q:Option Nat->SortSt->Prop} (h0:AllI a₀) (hm:lo+m<=a₀.size) (h1:1<=m) (hX:SX a₀ lo st₀ st)
 (h:∀ n v,SX a₀ lo st₀ v->1<=n->n<=m->j9 (arrOf v) lo n->Q (some n) v):wpS (model prog w) A E s (countRun' lo m) Q st:=by
 rw [run_eq]
 have one:j9 (arrOf st) lo 1:=fun i j hij hj=>by
  obtain rfl:i=j:=by lia
  exact Int.le_refl _
 refine wpS_bind (s_up h0 hm (Nat.le_refl 1) h1 hX one fun n g1 g2 gs go=>?_)
 dsimp only
 by_cases hn:n=m
 · rw [if_pos (by simpa using hn)]
   exact wpS_pure (h n st hX g1 g2 gs)
 · rw [if_neg (by simpa using hn)]
   have hl:=go.resolve_left hn
   by_cases hg:n > 1
   · rw [if_pos hg]
     rw [j7 (by lia)]
     refine wpS_bind (kR (i:=lo) hX h0 (by lia) (by lia) ?_)
     by_cases hr:K (arrOf st) lo<K (arrOf st) (lo+(n - 1))
     · simp only [hr,decide_true,if_true]
       exact wpS_pure (h n st hX g1 g2 gs)
     · simp only [hr,decide_false,Bool.false_eq_true,if_false]
       have hz:lo+n<=(arrOf st).size:=by rw [hX.size];lia
       have al:∀ k,lo<=k->k<lo+n->K (arrOf st) k=K (arrOf st) (lo+n - 1):=by
        intro k k1 k2
        obtain ⟨d,rfl⟩:=Nat.exists_eq_add_of_le k1
        have e1:=gs 0 d (by lia) (by lia)
        have e2:=gs d (n - 1) (by lia) (by lia)
        rw [j7 (by lia)]
        rw [Nat.add_zero] at e1
        lia
       refine wpS_bind (oE (s_fa h0 hm (by lia) (cK hX (Nat.le_refl _) (by lia)) ?_ h))
       intro i j hij hj
       show K (mirror (arrOf st) _ _ _) _<=K (mirror (arrOf st) _ _ _) _
       rw [K_mirror_equal hz al,K_mirror_equal hz al]
       rcases Nat.lt_or_ge j n with q | q
       · rw [al (lo+i) (by lia) (by lia),al (lo+j) (by lia) (by lia)]
         exact Int.le_refl _
       · obtain rfl:j=n:=by lia
         rcases Nat.eq_or_lt_of_le hij with rfl | q2
         · exact Int.le_refl _
         · rw [al (lo+i) (by lia) (by lia),j7 (by lia)]
           exact Int.le_of_lt hl
   · rw [if_neg hg]
     obtain rfl:n=1:=by lia
     refine s_fa h0 hm (by lia) hX ?_ h
     intro i j hij hj
     rcases Nat.eq_or_lt_of_le hij with rfl | q2
     · exact Int.le_refl _
     · obtain rfl:i=0:=by lia
       obtain rfl:j=1:=by lia
       exact Int.le_of_lt hl
end
structure RS (a₀:Array Keyed) (st:SortSt) (Ls:List (List Keyed)) (rest:List Keyed):Prop where
 kind:kindOf st=oneType'
 fail:failedOf st=none
 perm:(arrOf st).Perm a₀
 arr:(arrOf st).toList=Ls.flatten++rest
 pm:PM (pendingOf st).toList Ls 0
 runs:∀ R∈Ls,R≠[]/\R.Pairwise Le
theorem AllI.perm {xs ys:Array Keyed} (h:AllI xs) (p:ys.Perm xs):AllI ys:=fun q hq=>h q ((Array.perm_iff_toList_perm.mp p).mem_iff.mp hq)
theorem PM.alter:∀ {ps:List (Nat×Nat×Nat)} {ls:List (List Keyed)} {lo:Nat} (k:Nat) {f:Nat×Nat×Nat->Nat×Nat×Nat},(∀ p,(f p).1=p.1/\(f p).2.1=p.2.1)->PM ps ls lo->PM (ps.modify k f) ls lo
 | [],[],_,k,f,_,_=>by cases k <;> trivial
 | p::r,l::ls,lo,0,f,hf,h=>by
   show PM (f p::r) (l::ls) lo
   exact ⟨(hf p).1.trans h.1,(hf p).2.trans h.2.1,h.2.2⟩
 | p::r,l::ls,lo,k+1,f,hf,h=>by
   show PM (p::r.modify k f) (l::ls) lo
   exact ⟨h.1,h.2.1,PM.alter k hf h.2.2⟩
 | [],_::_,_,_,_,_,h=>h.elim
 | _::_,[],_,_,_,_,h=>h.elim
theorem PM.snoc:∀ {ps:List (Nat×Nat×Nat)} {ls:List (List Keyed)} {lo:Nat} {R:List Keyed} {k n:Nat},PM ps ls lo->k=lo+ls.flatten.length->n=R.length->PM (ps++[(k,n,0)]) (ls++[R]) lo
 | [],[],lo,R,k,n,_,e,e2=>⟨by simpa using e,e2,trivial⟩
 | p::r,l::ls,lo,R,k,n,h,e,e2=>by
   refine ⟨h.1,h.2.1,PM.snoc h.2.2 ?_ e2⟩
   rw [e,List.flatten_cons,List.length_append,Nat.add_assoc]
 | [],_::_,_,_,_,_,h,_,_=>h.elim
 | _::_,[],_,_,_,_,h,_,_=>h.elim
section
variable {prog:Program} {w:World} {A:Around} {E:Value->Shared->Prop} {s:Shared} {a₀:Array Keyed}
theorem qz {st:SortSt} {Ls:List (List Keyed)} {rest:List Keyed} {i:Nat} {Q:Bool->SortSt->Prop} (h0:AllI a₀) (r:RS a₀ st Ls rest) (hi:i+1<Ls.length)
 (h:∀ v Ms,RS a₀ v Ms rest->Ms.length+1=Ls.length->Ms.flatten.length=Ls.flatten.length->Q true v):wpS (model prog w) A E s (mergeAt' i) Q st:=by
 obtain ⟨L1,R1,R2,L2,rfl,rfl⟩:∃ L1 R1 R2 L2,Ls=L1++R1::R2::L2/\i=L1.length:=by
  refine ⟨Ls.take i,Ls[i],Ls[i+1],Ls.drop (i+2),?_,by rw [List.length_take];lia⟩
  rw [← List.drop_eq_getElem_cons hi,← List.drop_eq_getElem_cons (by lia),List.take_append_drop]
 have m1:=r.runs R1 (by simp)
 have m2:=r.runs R2 (by simp)
 rw [mat_is]
 refine s_mat r.kind r.fail (h0.perm r.perm) r.arr r.pm m1.1 m2.1 m1.2 m2.2 fun v R hk hp hs ha hpm=>?_
 have hl:=hp.length_eq
 rw [List.length_append] at hl
 refine h v (L1++R::L2) ⟨hk.kind.trans r.kind,hk.fail.trans r.fail,?_,ha,hpm,?_⟩ (by simp;lia) ?_
 · refine Array.Perm.trans ?_ r.perm
   rw [Array.perm_iff_toList_perm,ha,r.arr]
   refine List.Perm.append_right _ ?_
   rw [List.flatten_append,List.flatten_append,List.flatten_cons,List.flatten_cons,List.flatten_cons,← List.append_assoc R1]
   exact List.Perm.append_left _ (List.Perm.append_right _ hp)
 · intro T hT
   rcases List.mem_append.mp hT with g | g
   · exact r.runs T (by simp [g])
   · rcases List.mem_cons.mp g with rfl | g
     · refine ⟨fun e=>?_,hs⟩
       rw [e] at hl
       have:=List.length_pos_iff.mpr m1.1
       simp at hl
       lia
     · exact r.runs T (by simp [g])
 · simp only [List.flatten_append,List.flatten_cons,List.length_append]
   lia
theorem gw:∀ {Ls:List (List Keyed)},(∀ R∈Ls,R≠[]/\R.Pairwise Le)->Ls.length<=Ls.flatten.length
 | [],_=>Nat.le_refl _
 | R::Ls,h=>by
   have:=gw (Ls:=Ls) fun T hT=>h T (List.mem_cons_of_mem _ hT)
   have:=List.length_pos_iff.mpr (h R (by simp)).1
   rw [List.length_cons,List.flatten_cons,List.length_append]
   lia
theorem RS.psize {st:SortSt} {Ls:List (List Keyed)} {rest:List Keyed} (r:RS a₀ st Ls rest):(pendingOf st).size=Ls.length:=by
 rw [← Array.length_toList];exact r.pm.len
theorem RS.total {st:SortSt} {Ls:List (List Keyed)} {rest:List Keyed} (r:RS a₀ st Ls rest):Ls.flatten.length+rest.length=a₀.size:=by
 rw [← List.length_append,← r.arr,Array.length_toList,r.perm.size_eq]
theorem RS.cut {st v:SortSt} {Ls:List (List Keyed)} {rest:List Keyed} {n:Nat} (r:RS a₀ st Ls rest) (x:SX (arrOf st) Ls.flatten.length st v) (hn:Ls.flatten.length+n<=a₀.size) (hs:j9 (arrOf v) Ls.flatten.length n) :
 ∃ R rest',R.length=n/\R.Pairwise Le/\RS a₀ v Ls (R++rest'):=by
 have hz:(arrOf v).toList.length=a₀.size:=by rw [Array.length_toList,x.size,r.perm.size_eq]
 have ht:(arrOf v).toList.take Ls.flatten.length=Ls.flatten:=by
  have e:(arrOf v).toList.take Ls.flatten.length=(arrOf st).toList.take Ls.flatten.length:=by
   refine List.ext_getElem? fun k=>?_
   rw [List.getElem?_take,List.getElem?_take]
   split
   · rename_i g
     rw [Array.getElem?_toList,Array.getElem?_toList]
     exact x.pre k g
   · rfl
  rw [e,r.arr,List.take_left]
 refine ⟨((arrOf v).toList.drop Ls.flatten.length).take n,((arrOf v).toList.drop Ls.flatten.length).drop n,?_,?_,x.kind,x.fail,x.perm.trans r.perm,?_,?_,r.runs⟩
 · rw [List.length_take,List.length_drop,hz];lia
 · refine List.pairwise_iff_getElem.mpr fun i j hi hj hij=>?_
   rw [List.length_take,List.length_drop,hz] at hi hj
   have:=hs i j (Nat.le_of_lt hij) (by lia)
   rw [n4 (by lia),n4 (by lia)] at this
   rw [List.getElem_take,List.getElem_take,List.getElem_drop,List.getElem_drop]
   exact this
 · rw [List.take_append_drop]
   conv=>lhs;rw [← List.take_append_drop Ls.flatten.length (arrOf v).toList,ht]
 · rw [x.pend];exact r.pm
theorem RS.add {st:SortSt} {Ls:List (List Keyed)} {R rest:List Keyed} {k n:Nat} (r:RS a₀ st Ls (R++rest)) (hR:R≠[]) (hs:R.Pairwise Le) (hk:k=Ls.flatten.length) (hn:n=R.length) :
 RS a₀ (setPending st ((pendingOf st).push (k,n,0))) (Ls++[R]) rest where
 kind:=r.kind
 fail:=r.fail
 perm:=r.perm
 arr:=by show (arrOf st).toList=_;rw [r.arr];simp
 pm:=by
  show PM ((pendingOf st).push (k,n,0)).toList _ 0
  rw [Array.toList_push]
  exact r.pm.snoc (by lia) hn
 runs:=fun T hT=>by
  rcases List.mem_append.mp hT with g | g
  · exact r.runs T g
  · rw [List.mem_singleton.mp g];exact ⟨hR,hs⟩
theorem RS.alter {st:SortSt} {Ls:List (List Keyed)} {rest:List Keyed} {k:Nat} {f:Nat×Nat×Nat->Nat×Nat×Nat} (hf:∀ p,(f p).1=p.1/\(f p).2.1=p.2.1) (r:RS a₀ st Ls rest) :
 RS a₀ (setPending st ((pendingOf st).modify k f)) Ls rest where
 kind:=r.kind
 fail:=r.fail
 perm:=r.perm
 arr:=r.arr
 pm:=by
  show PM ((pendingOf st).modify k f).toList _ 0
  rw [Array.toList_modify]
  exact r.pm.alter k hf
 runs:=r.runs
theorem RS.sorted {st:SortSt} {Ls:List (List Keyed)} (r:RS a₀ st Ls []) (h1:Ls.length<=1):SortedTo (arrOf st) a₀.size:=by
 have hz:(arrOf st).toList.length=a₀.size:=by rw [Array.length_toList,r.perm.size_eq]
 have hp:(arrOf st).toList.Pairwise Le:=by
  rw [r.arr]
  match Ls,h1,r.runs with
  | [],_,_=>simp
  | [R],_,g=>simpa using (g R (by simp)).2
 intro i j hij hj
 rw [n4 (by lia),n4 (by lia)]
 rcases Nat.eq_or_lt_of_le hij with e | e
 · subst e;exact Int.le_refl _
 · exact List.pairwise_iff_getElem.mp hp i j (by lia) (by lia) e
end
section
variable {prog:Program} {w:World} {A:Around} {E:Value->Shared->Prop} {s:Shared} {a₀:Array Keyed}
def fm (sz lo n:Nat):StateT SortSt Sem (ForInStep (Option Unit×Nat)):=do
 let z ← get
 match (pendingOf z).back? with
 | some (p,k,_)=>do
   let c ← forIn [0:sz] ((none,()):Option Unit×Unit) fun _ _=>do
    let z ← get
    match if (pendingOf z).size > 1 then (pendingOf z)[(pendingOf z).size - 2]? else none with
    | some (_,_,o)=>
      if o<=power' sz (2*p+k) (2*p+k+k+n) sz then pure (.done (none,()))
      else do
       let b ← mergeAt' ((pendingOf z).size - 2)
       if (!b)=true then pure (.done (some (),())) else pure (.yield (none,()))
    | _=>pure (.done (none,()))
   match c.fst with
   | some r=>pure (.done (some r,lo))
   | none=>do
     modify fun s=>setPending s ((pendingOf s).modify ((pendingOf s).size - 1) fun x=>(x.fst,x.2.fst,power' sz (2*p+k) (2*p+k+k+n) sz))
     modify fun s=>setPending s ((pendingOf s).push (lo,n,0))
     pure (.yield (none,lo+n))
 | _=>do
   modify fun s=>setPending s ((pendingOf s).push (lo,n,0))
   pure (.yield (none,lo+n))
theorem s_put {st:SortSt} {Ls:List (List Keyed)} {R rest:List Keyed} {sz lo n:Nat} {Q:ForInStep (Option Unit×Nat)->SortSt->Prop} (h0:AllI a₀) (r:RS a₀ st Ls (R++rest)) (hlo:lo=Ls.flatten.length) (hn:n=R.length) (hR:R≠[]) (hs:R.Pairwise Le)
 (h:∀ v Ms,RS a₀ v Ms rest->Ms.flatten.length=lo+n->Q (.yield (none,lo+n)) v):wpS (model prog w) A E s (fm sz lo n) Q st:=by
 unfold fm
 refine wpS_bind (wpS_get ?_)
 have fin:∀ {v:SortSt} {Ms:List (List Keyed)},RS a₀ v Ms (R++rest)->Ms.flatten.length=lo->Q (.yield (none,lo+n)) (setPending v ((pendingOf v).push (lo,n,0))):=fun {v Ms} g e=>
  h _ (Ms++[R]) (g.add hR hs e.symm hn) (by rw [List.flatten_append,List.length_append,e,List.flatten_cons,List.flatten_nil,List.append_nil,hn])
 split
 · rename_i p k _ _
   generalize power' sz (2*p+k) (2*p+k+k+n) sz=pw
   refine wpS_bind (wpS_mono (wpS_forRange (I:=fun x c v=>c=(none,())/\∃ Ms,RS a₀ v Ms (R++rest)/\Ms.flatten.length=lo) (Q:=fun c v=>c=(none,())/\∃ Ms,RS a₀ v Ms (R++rest)/\Ms.flatten.length=lo) ?s2 (fun _ _ g=>g) ⟨rfl,Ls,r,hlo.symm⟩) ?p2)
   case p2=>
    rintro c v ⟨rfl,Ms,g,e⟩
    dsimp only
    refine wpS_bind (wpS_modify (wpS_bind (wpS_modify (wpS_pure ?_))))
    exact fin (g.alter (fun _=>⟨rfl,rfl⟩)) e
   case s2=>
    rintro x c v _ _ ⟨rfl,Ms,g,e⟩
    refine wpS_bind (wpS_get ?_)
    rw [g.psize]
    split
    · rename_i o ho
      by_cases h1:Ms.length > 1
      · by_cases h2:o<=pw
        · rw [if_pos h2]
          exact wpS_pure ⟨rfl,Ms,g,e⟩
        · rw [if_neg h2]
          refine wpS_bind (qz h0 g (by lia) fun u Ns g2 e1 e2=>?_)
          simp only [Bool.not_true,Bool.false_eq_true,if_false]
          exact wpS_pure ⟨rfl,Ns,g2,e2.trans e⟩
      · rw [if_neg h1] at ho
        cases ho
    · exact wpS_pure ⟨rfl,Ms,g,e⟩
 · exact wpS_bind (wpS_modify (wpS_pure (fin r hlo.symm)))
theorem so {c:Bool} {m:Nat} (h:¬ m<=1):(if c=true then m - 2 - 1 else m - 2)+1<m:=by
 split <;> lia
theorem s_all {st:SortSt} {Q:Unit->SortSt->Prop} (h0:AllI a₀) (hk:kindOf st=oneType') (hf:failedOf st=none) (hp:arrOf st=a₀) (he:pendingOf st=#[])
 (h:∀ v,(arrOf v).Perm a₀->failedOf v=none->SortedTo (arrOf v) a₀.size->Q () v):wpS (model prog w) A E s sortRuns' Q st:=by
 rw [sortRuns'_eq]
 refine wpS_bind (wpS_get ?_)
 dsimp only
 rw [hp]
 generalize minRun' a₀.size a₀.size 0=mr
 have r0:RS a₀ st [] a₀.toList:=⟨hk,hf,by rw [hp],by rw [hp];rfl,by rw [he];trivial,fun R hR=>by cases hR⟩
 refine wpS_bind (wpS_mono (wpS_forRange (I:=fun x c z=>∃ Ls rest,c=(none,Ls.flatten.length)/\RS a₀ z Ls rest/\x<=Ls.flatten.length)
  (Q:=fun c z=>∃ Ls k,c=(none,k)/\RS a₀ z Ls []) ?s1 ?f1 ⟨[],_,rfl,r0,Nat.le_refl _⟩) ?p1)
 case f1=>
  rintro c z ⟨Ls,rest,rfl,r,hx⟩
  have:=r.total
  have e:rest=[]:=List.length_eq_zero_iff.mp (by lia)
  subst e
  exact ⟨Ls,_,rfl,r⟩
 case p1=>
  rintro c z ⟨Ls,k,rfl,r⟩
  dsimp only
  refine wpS_bind (wpS_mono (wpS_forRange (I:=fun x c v=>c=(none,())/\∃ Ms,RS a₀ v Ms []/\Ms.length+x<=a₀.size) (Q:=fun c v=>c=(none,())/\∃ Ms,RS a₀ v Ms []/\Ms.length<=1) ?s2 ?f2 ?i2) ?p2)
  case i2=>
   have e1:=gw r.runs
   have e2:=r.total
   exact ⟨rfl,Ls,r,by simp only [List.length_nil] at e2;lia⟩
  case f2=>
   rintro c v ⟨rfl,Ms,g,hl⟩
   exact ⟨rfl,Ms,g,by lia⟩
  case p2=>
   rintro c v ⟨rfl,Ms,g,hl⟩
   exact wpS_pure (h v g.perm g.fail (g.sorted hl))
  case s2=>
   rintro x c v _ hx ⟨rfl,Ms,g,hl⟩
   refine wpS_bind (wpS_get ?_)
   rw [g.psize]
   by_cases h1:Ms.length<=1
   · rw [if_pos h1]
     exact wpS_pure ⟨rfl,Ms,g,h1⟩
   · rw [if_neg h1]
     refine wpS_bind (qz h0 g (so h1) fun u Ns g2 e1 e2=>?_)
     simp only [Bool.not_true,Bool.false_eq_true,if_false]
     exact wpS_pure ⟨rfl,Ns,g2,by lia⟩
 case s1=>
  rintro x c z _ hx ⟨Ls,rest,rfl,r,hxl⟩
  dsimp only
  have tot:=r.total
  by_cases hge:Ls.flatten.length>=a₀.size
  · rw [if_pos hge]
    have e:rest=[]:=List.length_eq_zero_iff.mp (by lia)
    subst e
    exact wpS_pure ⟨Ls,_,rfl,r⟩
  · rw [if_neg hge]
    have hI:=h0.perm r.perm
    have hsz:=r.perm.size_eq
    have x0:SX (arrOf z) Ls.flatten.length z z:=⟨Array.Perm.refl _,r.kind,r.fail,rfl,fun _ _=>rfl⟩
    refine wpS_bind (s_run hI (by lia) (by lia) x0 fun n v vX g1 g2 gs=>?_)
    dsimp only
    refine Eq.mp (congrArg (fun p=>wpS (model prog w) A E s p _ v) (?_:(if n<mr then do
     liftM (rule "list.sort.binary-insertion")
     let b ← binarySort' Ls.flatten.length (min (a₀.size - Ls.flatten.length) mr) n
     if (!b)=true then pure (ForInStep.done (some (),Ls.flatten.length)) else fm a₀.size Ls.flatten.length (min (a₀.size - Ls.flatten.length) mr)
     else fm a₀.size Ls.flatten.length n)=_)) ?_
    · unfold fm
      congr 1
      · congr 1
        funext _y
        congr 1
        funext b
        congr 1
        congr 1
        funext z
        cases (pendingOf z).back? with
        | none=>rfl
        | some t=>
          obtain ⟨p,k,o⟩:=t
          dsimp only
          congr 1
          funext c
          obtain ⟨r,_⟩:=c
          cases r <;> rfl
      · congr 1
        funext z
        cases (pendingOf z).back? with
        | none=>rfl
        | some t=>
          obtain ⟨p,k,o⟩:=t
          dsimp only
          congr 1
          funext c
          obtain ⟨r,_⟩:=c
          cases r <;> rfl
    have last:∀ {u:SortSt} {k:Nat},1<=k->k<=a₀.size - Ls.flatten.length->SX (arrOf z) Ls.flatten.length z u->j9 (arrOf u) Ls.flatten.length k->wpS (model prog w) A E s (fm a₀.size Ls.flatten.length k) (fun t st'=>∃ Ms rs,t=.yield (none,Ms.flatten.length)/\RS a₀ st' Ms rs/\x+1<=Ms.flatten.length) u:=fun {u k} k1 k2 uX us=>by
     obtain ⟨R,rest',e1,e2,e3⟩:=r.cut uX (by lia) us
     refine s_put h0 e3 rfl e1.symm (fun e=>by rw [e] at e1;simp at e1;lia) e2 fun v2 Ms g e=>?_
     exact ⟨Ms,rest',by rw [e],g,by lia⟩
    by_cases hm:n<mr
    · rw [if_pos hm]
      refine wpS_bind (wpS_lift (wpAny_rule ⟨rfl,?_⟩))
      refine wpS_bind (s_bin hI (by lia) (by lia) vX gs fun u uX us=>?_)
      simp only [Bool.not_true,Bool.false_eq_true,if_false]
      refine wpS_mono (last (by lia) (by lia) uX us) ?_
      rintro t u2 ⟨Ms,rs,rfl,g,e⟩
      exact ⟨Ms,rs,rfl,g,e⟩
    · rw [if_neg hm]
      refine wpS_mono (last g1 g2 vX gs) ?_
      rintro t u2 ⟨Ms,rs,rfl,g,e⟩
      exact ⟨Ms,rs,rfl,g,e⟩
end
def core (a:Addr) (e1:Nat) (ar:Array Value) (b:Bool):Sem Fin:=do
 let knd ← if ar.size<2 then pure general' else keyKind' ar
 let ((),z) ← (if ar.size<2 then pure () else sortRuns').run (SortSt.mk' knd (if b then (ar.zip ar).reverse else ar.zip ar) #[] 7 none)
 let srt:=(arrOf z).map (·.2)
 let tch:=(← seqEpoch a) != e1
 Builtin.List.listUpdate (.ref a) fun _=>if b then srt.reverse else srt
 if let some e:=failedOf z then rule "list.sort.comparison-raised";throw e
 if tch then rule "list.sort.modified";raiseError "ValueError" "list modified during sort"
 ret .none
theorem jJ (a:Addr):Builtin.«list.sort» ⟨[.ref a],[]⟩=(do
 let ar ← Builtin.List.listItems (.ref a)
 Builtin.List.listUpdate (.ref a) fun _=>#[]
 let e1 ← seqEpoch a
 let t ← newTuple ar.toList
 let l ← newList []
 holding [t,l] (core a e1 ar false)):=by rw [list_sort_plain];rfl
theorem oG (a:Addr):Builtin.«list.sort» ⟨[.ref a],[(Str.ofString "reverse",.bool true)]⟩=(do
 let ar ← Builtin.List.listItems (.ref a)
 Builtin.List.listUpdate (.ref a) fun _=>#[]
 let e1 ← seqEpoch a
 let t ← newTuple ar.toList
 let l ← newList []
 holding [t,l] (do let _ ← rule "list.sort.reverse";core a e1 ar true)):=by rw [list_sort_rev];rfl
theorem tR {vs:List Value} {ns:List Int} (hI:IntsAre vs ns):AllI (pairsOf vs):=fun p hp=>by
 obtain ⟨n,t,e⟩:=hI.intKeys p hp
 refine ⟨t,?_⟩
 show p.1=.int (numOf p.1) t
 rw [e]
 rfl
section
variable {prog:Program} {w:World} {A:Around} {E:Value->Shared->Prop} {s:Shared}
theorem qq {a:Addr} {e1:Nat} {vs:List Value} {ns:List Int} {b:Bool} {P:Fin->Shared->Prop} (hA:s.heap.get? a=some (seqObj "list" #[] e1)) (hI:IntsAre vs ns) (hz:vs.length<=sizeLine)
 (h:∀ (o:Array Value) (ns':List Int),IntsAre o.toList ns'->ns'.Perm ns->Ordered b ns'->P (.done (.ret .none)) { s with heap:=s.heap.update a (Obj.mapSeq fun _=>o) }):wpAny (model prog w) A (core a e1 vs.toArray b) P E s:=by
 unfold core
 have fin:∀ z:SortSt,(arrOf z).Perm (pairsOf vs)->failedOf z=none->SortedTo (arrOf z) (pairsOf vs).size->wpAny (model prog w) A (do
  let tch:=(← seqEpoch a) != e1
  Builtin.List.listUpdate (.ref a) fun _=>if b then ((arrOf z).map (·.2)).reverse else (arrOf z).map (·.2)
  if let some e:=failedOf z then rule "list.sort.comparison-raised";throw e
  if tch then rule "list.sort.modified";raiseError "ValueError" "list modified during sort"
  ret .none) P E s:=fun z hp hf hs=>by
  obtain ⟨ns',q1,q2,q3⟩:=sorted_out_rev hI hp hs b
  have hlen:((arrOf z).map (·.2)).size<=sizeLine+1:=by rw [Array.size_map,hp.size_eq,pairsOf_size];lia
  refine wpAny_bind (seqEpoch_at hA rfl (wpAny_bind (listUpdate_at hA rfl ?_ (hsz2:=?sz))))
  case sz=>
   split
   · rw [Array.size_reverse];exact hlen
   · exact hlen
  rw [hf]
  simp only [bne_self_eq_false,Bool.false_eq_true,if_false]
  exact wpAny_pure (h _ ns' q1 q2 q3)
 have hst:(if b=true then (vs.toArray.zip vs.toArray).reverse else vs.toArray.zip vs.toArray).Perm (pairsOf vs):=by
  cases b
  · exact Array.Perm.refl _
  · rw [if_pos rfl,Array.perm_iff_toList_perm,Array.toList_reverse]
    exact List.reverse_perm _
 by_cases h2:vs.toArray.size<2
 · rw [if_pos h2,if_pos h2]
   refine wpAny_bind (wpAny_pure ?_)
   dsimp only
   rw [StateT.run_pure]
   refine wpAny_bind (wpAny_pure (fin (SortSt.mk' general' _ #[] 7 none) hst rfl fun i j hij hj=>?_))
   rw [pairsOf_size] at hj
   rw [List.size_toArray] at h2
   obtain rfl:i=j:=by lia
   exact Int.le_refl _
 · rw [if_neg h2,if_neg h2]
   obtain ⟨x,y,r,rfl⟩:∃ x y r,vs=x::y::r:=by
    rw [List.size_toArray] at h2
    match vs,h2 with
    | [],g=>simp at g
    | [_],g=>simp at g
    | x::y::r,_=>exact ⟨x,y,r,rfl⟩
   rw [keyKind_ints hI]
   refine wpAny_bind (wpAny_pure ?_)
   generalize hL:x::y::r=L at *
   have ha0:AllI (if b=true then (L.toArray.zip L.toArray).reverse else L.toArray.zip L.toArray):=(tR hI).perm hst
   refine wpAny_bind (wpAny_mono (s_all (st:=SortSt.mk' oneType' (if b=true then (L.toArray.zip L.toArray).reverse else L.toArray.zip L.toArray) #[] 7 none)
    (Q:=fun _ z=>(arrOf z).Perm (pairsOf L)/\failedOf z=none/\SortedTo (arrOf z) (pairsOf L).size) ha0 rfl rfl rfl rfl fun z g1 g2 g3=>⟨g1.trans hst,g2,by rw [← hst.size_eq];exact g3⟩) ?_ fun _ _ e=>e)
   rintro ⟨⟨⟩,z⟩ s' ⟨rfl,g1,g2,g3⟩
   exact fin z g1 g2 g3
theorem kF {a:Addr} {vs:List Value} {n:Nat} {P:Fin->Shared->Prop} {f:Nat->Array Value->Sem Fin} (hA:s.heap.get? a=some (seqObj "list" vs.toArray n)) (hz:vs.length<=sizeLine)
 (h:∀ (s':Shared) e1,s'={ s with heap:=((s.heap.update a (Obj.mapSeq fun _=>#[])).push (seqObj "tuple" vs.toArray 0)).push (seqObj "list" #[] 0) }->s'.heap.get? a=some (seqObj "list" #[] e1)->wpAny (model prog w) A (f e1 vs.toArray) P E s') :
 wpAny (model prog w) A (do
  let ar ← Builtin.List.listItems (.ref a)
  Builtin.List.listUpdate (.ref a) fun _=>#[]
  let e1 ← seqEpoch a
  let t ← newTuple ar.toList
  let l ← newList []
  holding [t,l] (f e1 ar)) P E s:=by
 have ha:a<s.heap.objs.size:=Heap.lt_size hA
 refine wpAny_bind (listItems_at hA rfl (wpAny_bind (listUpdate_at hA rfl ?_ (hsz:=by rw [List.size_toArray];exact hz))))
 obtain ⟨e1,hE⟩:∃ e1,(s.heap.update a (Obj.mapSeq fun _=>#[])).get? a=some (seqObj "list" #[] e1):=⟨_,get?_update_seq hA fun _=>#[]⟩
 refine wpAny_bind (seqEpoch_at hE rfl (wpAny_bind (wpAny_newTuple (wpAny_bind (wpAny_newList (wpAny_holding ?_)) ) ?hs)))
 case hs=>exact hz
 refine h _ e1 rfl ?_
 show (((s.heap.update a (Obj.mapSeq fun _=>#[])).push (seqObj "tuple" vs.toArray 0)).push (seqObj "list" #[] 0)).get? a=_
 rw [Heap.get?_push_ne _ _ _ (by rw [size_push',Heap.size_update];exact fun e=>absurd ha (by rw [e];exact Nat.not_lt.mpr (Nat.le_succ _))),Heap.get?_push_ne _ _ _ (by rw [Heap.size_update];exact fun e=>absurd ha (by rw [e];exact Nat.lt_irrefl _))]
 exact hE
def kwOf (b:Bool):List (Str×Value):=if b then [(Str.ofString "reverse",.bool true)] else []
theorem qp {a:Addr} {vs:List Value} {ns:List Int} {n:Nat} {b:Bool} {P:Fin->Shared->Prop} (hA:s.heap.get? a=some (seqObj "list" vs.toArray n)) (hI:IntsAre vs ns) (hz:vs.length<=sizeLine)
 (h:∀ (o:Array Value) (ns':List Int),IntsAre o.toList ns'->ns'.Perm ns->Ordered b ns'->P (.done (.ret .none)) { s with heap:=sortedHeap s.heap a vs o }):wpAny (model prog w) A (Builtin.«list.sort» ⟨[.ref a],kwOf b⟩) P E s:=by
 cases b with
 | false=>
   show wpAny _ _ (Builtin.«list.sort» ⟨[.ref a],[]⟩) _ _ _
   rw [jJ]
   refine kF hA hz fun s' e1 e hA'=>qq hA' hI hz fun o ns' g1 g2 g3=>?_
   subst e
   exact h o ns' g1 g2 g3
 | true=>
   show wpAny _ _ (Builtin.«list.sort» ⟨[.ref a],[(Str.ofString "reverse",.bool true)]⟩) _ _ _
   rw [oG]
   refine kF hA hz fun s' e1 e hA'=>wpAny_bind (wpAny_rule (qq hA' hI hz fun o ns' g1 g2 g3=>?_))
   subst e
   exact h o ns' g1 g2 g3
theorem kG {l:Addr} {vs:List Value} {o:Obj} {T:String} {n:Nat} {Q:List Value->Shared->Prop} (ho:s.heap.get? l=some o) (hc:o.cls=.type T) (hd:o.data=.seq vs.toArray n) (hT:T="list"\/T="tuple") (hz:vs.length<=sizeLine)
 (h:Q vs { s with heap:=(s.heap.push (seqObj "list" #[] 0)).update s.heap.objs.size (Obj.mapSeq (·++vs.toArray)) }):wpAny (model prog w) A (collect (.ref l)) Q E s:=by
 unfold collect
 refine wpAny_bind (wpAny_runValue (codeAny_builtin entry_proto_collect' ?mk))
 case mk=>
 show wpAny _ _ (do again (.builtin "list.__iadd__" ⟨[← newList [],.ref l],[]⟩)) _ _ _
 refine wpAny_bind (wpAny_newList (wpAny_pure (And.intro (Code.quiet_builtin _ (by decide +kernel)) (codeAny_builtin entry_list_iadd' ?_))))
 show wpAny (model prog w) _ (Builtin.List.listExtendWith (.ref s.heap.objs.size) (.ref l) (.ref s.heap.objs.size)) _ _ { s with heap:=s.heap.push (seqObj "list" #[] 0) }
 unfold Builtin.List.listExtendWith
 have hO':(s.heap.push (seqObj "list" #[] 0)).get? l=some o:=Heap.get?_push_of_some _ ho
 have hN:(s.heap.push (seqObj "list" #[] 0)).get? s.heap.objs.size=some (seqObj "list" #[] 0):=Heap.get?_push_size _ rfl
 refine wpAny_bind (wpAny_typeOf (T:=T) ⟨o,hO',hc⟩ ?_)
 have e1:(Value.type "list" == Value.type "list")=true:=by rfl
 have e2:(Value.type "tuple" == Value.type "tuple")=true:=by rfl
 rw [if_pos (by rcases hT with rfl | rfl <;> simp [e1,e2])]
 refine wpAny_bind (listItems_at hO' hd (wpAny_bind (listItems_at hN rfl ?_)))
 rw [if_neg (by simp)]
 refine wpAny_bind (listUpdate_at hN rfl (wpAny_pure ?_) (Nat.zero_le _) (by rw [Array.size_append,List.size_toArray];show 0+vs.length<=_;lia))
 show wpAny (model prog w) A (do
  let z ← load s.heap.objs.size
  match z.data with
  | .seq xs _=>pure xs.toList
  | _=>unsupported "internal:collect") Q E ⟨(s.heap.push (seqObj "list" #[] 0)).update s.heap.objs.size (Obj.mapSeq (·++vs.toArray)),s.gens,s.drawn,s.toks,s.os⟩
 refine wpAny_bind (wpAny_load (get?_update_seq hN _) ?_)
 show wpAny (model prog w) _ (pure ((#[]:Array Value)++vs.toArray).toList) Q E _
 have e3:((#[]:Array Value)++vs.toArray).toList=vs:=by simp
 rw [e3]
 exact wpAny_pure h
theorem w_sorted {l:Addr} {vs:List Value} {ns:List Int} {o:Obj} {T:String} {n:Nat} {b:Bool} {Q:Value->Shared->Prop} (ho:s.heap.get? l=some o) (hc:o.cls=.type T) (hd:o.data=.seq vs.toArray n) (hT:T="list"\/T="tuple") (hI:IntsAre vs ns) (hz:vs.length<=sizeLine)
 (h:∀ (r:Array Value) (ns':List Int),IntsAre r.toList ns'->ns'.Perm ns->Ordered b ns'->Q (.ref (s.heap.objs.size+1)) { s with heap:=sortedAll s.heap vs r }):wpAny (model prog w) A (call (.builtin "sorted") [.ref l] (kwOf b)) Q E s:=by
 have ha:argsOk "sorted" ⟨[.ref l],kwOf b⟩:=by cases b;exact args_sorted1 _;exact args_sorted_rev _ _
 refine call_function_entry_kw kind_sorted plain_sorted entry_sorted ha ?_
 unfold Builtin.«sorted»
 refine wpAny_bind (m:=checkCount "sorted" 1 1 _) (wpAny_pure (wpAny_bind (kG ho hc hd hT hz (wpAny_bind (wpAny_newList ?_ ?hs)))))
 case hs=>exact hz
 generalize hG:(s.heap.push (seqObj "list" #[] 0)).update s.heap.objs.size (Obj.mapSeq (·++vs.toArray))=G
 have sG:G.objs.size=s.heap.objs.size+1:=by rw [← hG,Heap.size_update,size_push']
 have hL:(G.push (seqObj "list" vs.toArray 0)).get? (s.heap.objs.size+1)=some (seqObj "list" vs.toArray 0):=by rw [← sG];exact Heap.get?_push_size _ rfl
 show wpAny _ _ _ _ _ { s with heap:=G.push (seqObj "list" vs.toArray 0) }
 rw [show ({ s with heap:=G }:Shared).heap.objs.size=s.heap.objs.size+1 from sG]
 have hs:argsOk "list.sort" ⟨[.ref (s.heap.objs.size+1)],kwOf b⟩:=by cases b;exact args_list_sort _;exact args_list_sort_rev _ _
 refine wpAny_bind (wpAny_holding (wpAny_call_entry_kw slot_list_sort ⟨_,hL,rfl⟩ entry_list_sort (qp hL hI hz fun r ns' g1 g2 g3=>⟨_,rfl,wpAny_pure ⟨_,rfl,?_⟩⟩) hs))
 have:=h r ns' g1 g2 g3
 unfold sortedAll at this
 rw [hG] at this
 exact this
end
end SRT
namespace L2
open PySem PySem.Spec PyProof.Rows
section
variable {X:Cx}
def dW (K:PySem.W.Frag) (b:Bool):List V->Hp->VK->Prop:=fun xs H Q=>match xs with
 | [.ref p]=>∃ ns:List Int,(SqL K H p (ns.map V.int)\/SqT K H p (ns.map V.int))/\∀ l ns',H l=none->List.Perm ns' ns->Ordered b ns'->Q (.ref l) (upd H l (.lst (ns'.map V.int)))
 | _=>False
theorem iV {b:Bool} (pins:List (Addr×Obj)) (s:Shared) (σ:St) (H:Hp) (xs:List V) (us:List Value) (Q:VK) (I:Inv X pins σ H s) (r:Vals xs us) (h:dW X.K b xs H Q) :
 wpAny (model X.prog X.w) X.A (call (.builtin "sorted") us (SRT.kwOf b)) (EP X pins σ Q) X.xe s:=by
 unfold dW at h
 split at h
 · rename_i p
   obtain ⟨ns,hq,q⟩:=h
   obtain ⟨u,rfl,rx⟩:=bT r
   cases rx
   obtain ⟨its,T,o,n,hI,hz,hz2,ho,hc,hd,hT⟩:∃ (its:List Value) (T:String) (o:Obj) (n:Nat),IntsAre its ns/\its.length<=sizeLine/\ns.length<=sizeLine/\s.heap.get? p=some o/\o.cls=.type T/\o.data=.seq its.toArray n/\(T="list"\/T="tuple"):=by
    rcases hq with hq | hq
    · obtain ⟨its,rv,pl,hz⟩:=I.list hq
      obtain ⟨o,ho,hc,n,hd⟩:=id pl.isList
      exact ⟨its,"list",o,n,di rv,by rw [← rv.length];exact hz,by rw [List.length_map] at hz;exact hz,ho,hc,hd,.inl rfl⟩
    · obtain ⟨its,rv,pl,hz⟩:=I.tuple hq
      obtain ⟨o,ho,hc,n,hd⟩:=id pl
      exact ⟨its,"tuple",o,n,di rv,by rw [← rv.length];exact hz,by rw [List.length_map] at hz;exact hz,ho,hc,hd,.inr rfl⟩
   refine SRT.w_sorted ho hc hd hT hI hz fun out ns' a1 a2 a3=>?_
   obtain ⟨e,he⟩:=sortedAll_at s.heap its out
   refine ⟨.ref (s.heap.objs.size+1),_,I.laid (t':=s.toks) (a:=s.heap.objs.size+1) (o:=.lst (ns'.map V.int)) (fun c ob q=>sortedAll_old q) (Nat.le_succ _) ?_,rfl,q _ ns' (I.hok.fresh (Nat.le_succ _)) a2 a3⟩
   refine ⟨?_,out.toList,e,cJ a1,he⟩
   rw [List.length_map,a2.length_eq]
   exact hz2
 · exact h.elim
theorem jZ:CallR X (.builtin "sorted") (dW X.K false):=fun pins s σ H xs us Q I r h=>iV (b:=false) pins s σ H xs us Q I r h
variable {e:Expr} {es:List Expr} {t:TA} {p pos:Pos}
theorem lR (hg:Gl X "sorted") (hm:X.mg "sorted" = none) (ha:PA X (e::es) t) (he:starEach (e::es) X.env=(false,eval e X.env)::starEach es X.env) (hpl:(backTo pos (starEach es X.env)).any (·.1)=false) :
 PE X (.Call (.Name "sorted" p) (e::es) [] pos) (tCB (dW X.K false) t):=aY jZ hg hm cj ha (by decide) (by decide) he hpl
theorem ko (hg:Gl X "sorted") (hm:X.mg "sorted" = none) (ha:ZA X (e::es) t) (he:starEach (e::es) X.env=(false,eval e X.env)::starEach es X.env) (hpl:(backTo pos (starEach es X.env)).any (·.1)=false) :
 ZE X (.Call (.Name "sorted" p) (e::es) [] pos) (tCB (dW X.K false) t):=by with_unfolding_all exact lR hg hm ha he hpl
theorem lP {k:Nat} {p2 p3:Pos} (hg:Gl X "sorted") (hm:X.mg "sorted" = none) (ha:PA X [e] t) (he:starEach [e] X.env=[(false,eval e X.env)]) :
 PE X (.Call (.Name "sorted" p) [e] [⟨some "reverse",.Constant (.bool true) k p2,p3⟩] pos) (tCB (dW X.K true) t):=by
 intro pins s σ H Q I h
 refine wpAny_Call_Name_kw (dw I hg hm cj ?_ (by decide) (by decide))
 refine callWith_kw (thn (ha pos pins s σ H _ I h) fun us s1 ⟨vs,H1,I1,r1,q1⟩=>?_) ?_ ?_ rfl rfl
 · refine kws_cons (wpAny_Constant_bool (kws_nil ?_))
   exact iV (b:=true) pins s1 σ H1 vs us Q I1 r1 q1
 · rw [he]
   rfl
 · rw [he]
   rfl
theorem dN {k:Nat} {p2 p3:Pos} (hg:Gl X "sorted") (hm:X.mg "sorted" = none) (ha:ZA X [e] t) (he:starEach [e] X.env=[(false,eval e X.env)]) :
 ZE X (.Call (.Name "sorted" p) [e] [⟨some "reverse",.Constant (.bool true) k p2,p3⟩] pos) (tCB (dW X.K true) t):=by with_unfolding_all exact lP hg hm ha he
variable {o:Expr} {to:TE} {apos cpos:Pos}
end
end L2
namespace MXD
open PySem
end MXD
namespace L2
open PySem PySem.Spec PyProof.Rows
section
variable {X:Cx}
variable {e:Expr} {es:List Expr} {t:TA} {p pos:Pos}
def oQ:V->List V->Hp->VK->Prop:=fun x vs H Q=>match x,vs with
 | .ref l,[.ref b]=>∃ xs zs,H l=some (.lst xs)/\H b=some (.lst zs)/\xs.length+zs.length<=sizeLine/\Q .non (upd H l (.lst (xs++zs)))
 | _,_=>False
theorem sU:MtM X "list.extend" oQ:=fun pins s σ H x vs v us Q I rx rv h=>by
 unfold oQ at h
 split at h
 · obtain ⟨xs,zs,h1,h2,h3,q⟩:=h
   exact md pins s σ H _ _ v us Q I rx rv ⟨_,_,xs,zs,rfl,rfl,h1,h2,h3,q⟩
 · exact h.elim
variable {o:Expr} {to:TE} {apos cpos:Pos}
theorem lJ (ho:PE X o to) (ha:PA X (e::es) t) (hbase:attributeBase o "extend" X.env (eval o X.env)=eval o X.env:=by rfl)
 (hfew:((backTo cpos (starEach (e::es) X.env)).all (fun x=>!x.1)&&(backToKw cpos (keywordEach [] X.env)).all (fun x=>x.1.isSome)
   && decide ((e::es).length+([]:List Keyword).length+(if ([]:List Keyword).isEmpty then 0 else 1)<30))=true:=by rfl)
 (hline:(apos.endLine == cpos.line)=true:=by rfl) (hs:starEach (e::es) X.env=(false,eval e X.env)::starEach es X.env:=by rfl) (hplain:(backTo cpos (starEach es X.env)).any (·.1)=false:=by rfl) :
 PE X (.Call (.Attribute o "extend" apos) (e::es) [] cpos) (fun σ H Q=>to σ H fun x H1=>tyV X.K "list" x H1/\t σ H1 fun xs H2=>oQ x xs H2 Q):=
 sy PySem.F.plainAttrs_list PySem.F.slot_list_extend PySem.F.type_list_extend sU ho ha hbase hfew hline hs hplain
theorem ki (ho:ZE X o to) (ha:ZA X (e::es) t) (hbase:attributeBase o "extend" X.env (eval o X.env)=eval o X.env:=by rfl)
 (hfew:((backTo cpos (starEach (e::es) X.env)).all (fun x=>!x.1)&&(backToKw cpos (keywordEach [] X.env)).all (fun x=>x.1.isSome)
   && decide ((e::es).length+([]:List Keyword).length+(if ([]:List Keyword).isEmpty then 0 else 1)<30))=true:=by rfl)
 (hline:(apos.endLine == cpos.line)=true:=by rfl) (hs:starEach (e::es) X.env=(false,eval e X.env)::starEach es X.env:=by rfl) (hplain:(backTo cpos (starEach es X.env)).any (·.1)=false:=by rfl) :
 ZE X (.Call (.Attribute o "extend" apos) (e::es) [] cpos) (fun σ H Q=>to σ H fun x H1=>tyV X.K "list" x H1/\t σ H1 fun xs H2=>oQ x xs H2 Q):=by with_unfolding_all exact lJ ho ha hbase hfew hline hs hplain
end
section
variable {X:Cx} {e:Expr} {es:List Expr} {t:TA} {p pos:Pos}
def okTy (c:String):Bool:=c == "int"||c == "bool"||c == "tuple"||c == "str"||c == "list"
def oN:List V->Hp->VK->Prop:=fun xs H Q=>match xs with
 | [x,.ref a]=>∃ tn c1 c2,bR H x=some tn/\H a=some (.tup [.ty c1,.ty c2])/\okTy c1=true/\okTy c2=true/\Q (.bl (dQ tn c1||dQ tn c2)) H
 | _=>False
theorem tf {K:PySem.W.Frag} {H:Hp} {x:V} {tn c1 c2:String} (h:bR H x=some tn) (h1:okTy c1=true) (h2:okTy c2=true):PySem.W.kitAny K (.type tn) [.type c1,.type c2]=some (dQ tn c1||dQ tn c2):=by
 have k1:=mx (K:=K) h h1
 have k2:=mx (K:=K) h h2
 unfold PySem.W.kitAny
 rw [k1]
 cases dQ tn c1 with
 | true=>rfl
 | false=>
   show PySem.W.kitAny K (.type tn) [.type c2]=_
   unfold PySem.W.kitAny
   rw [k2]
   cases dQ tn c2 <;> rfl
theorem nG:CallR X (.builtin "isinstance") oN:=by
 intro pins s σ H xs us Q I r h
 unfold oN at h
 split at h
 · rename_i x a
   obtain ⟨tn,c1,c2,hn,ha,o1,o2,q⟩:=h
   obtain ⟨u,w',rfl,r1,r2⟩:=hW r
   cases r2
   obtain ⟨_,its,rv,n,ht⟩:=I.hok a _ ha
   have eits:its=[.type c1,.type c2]:=by
    cases rv with
    | cons a1 b1=>
      cases b1 with
      | cons a2 b2=>
        cases b2
        cases (show _=Value.type c1 from a1)
        cases (show _=Value.type c2 from a2)
        rfl
   subst eits
   have kk:=tf (K:=X.K) hn o1 o2
   have fin:∀ tk,EP X pins σ Q (.bool (dQ tn c1||dQ tn c2)) { s with toks:=tk }:=fun tk=>⟨.bl _,H,I.tok tk,rfl,q⟩
   cases x with
   | non=>cases (show u=Value.none from r1);cases hn;exact PySem.W.kia_tup PySem.W.kitx_none I.kIn True.intro ht kk (fun z=>nomatch z) fin
   | bl y=>cases (show u=Value.bool y from r1);cases hn;exact PySem.W.kia_tup PySem.W.kitx_bool I.kIn True.intro ht kk (fun z=>nomatch z) fin
   | int i=>obtain ⟨t,z⟩:=(show ∃ t,u=Value.int i t from r1);cases z;cases hn;exact PySem.W.kia_tup PySem.W.kitx_int I.kIn True.intro ht kk (fun z=>nomatch z) fin
   | str y=>obtain ⟨t,z⟩:=(show ∃ t,u=Value.str y t from r1);cases z;cases hn;exact PySem.W.kia_tup PySem.W.kitx_str I.kIn True.intro ht kk (fun z=>nomatch z) fin
   | byt b=>cases hn
   | flt b=>cases hn
   | ty b=>cases hn
   | ref b=>
     cases (show u=Value.ref b from r1)
     unfold bR at hn
     cases eb:H b with
     | none=>simp only [eb] at hn;cases hn
     | some o=>
       simp only [eb] at hn
       cases o with
       | lst xs=>
         cases hn
         obtain ⟨_,_,m,_,h1⟩:=(show ObjOk X.prog X.w H s.heap b (.lst xs) from I.hok b _ eb)
         exact PySem.W.kia_tup PySem.W.kitx_list I.kIn ⟨_,h1,rfl⟩ ht kk (fun z=>nomatch z) fin
       | tup xs=>
         cases hn
         obtain ⟨_,_,_,p⟩:=(show ObjOk X.prog X.w H s.heap b (.tup xs) from I.hok b _ eb)
         obtain ⟨o,h1,h2,_⟩:=p.tup
         exact PySem.W.kia_tup PySem.W.kitx_tuple I.kIn ⟨o,h1,h2⟩ ht kk (fun z=>nomatch z) fin
       | dK kvs=>
         cases hn
         obtain ⟨_,_,vs,_,p⟩:=(show ObjOk X.prog X.w H s.heap b (.dK kvs) from I.hok b _ eb)
         obtain ⟨o,es,ep,h1,h2,_⟩:=p
         exact PySem.W.kia_tup PySem.W.kitx_dict I.kIn ⟨o,h1,h2.1⟩ ht kk (fun z=>nomatch z) fin
       | _=>cases hn
 · exact h.elim
theorem pv (hg:Gl X "isinstance") (hm:X.mg "isinstance" = none) (ha:PA X (e::es) t) (he:starEach (e::es) X.env=(false,eval e X.env)::starEach es X.env) (hpl:(backTo pos (starEach es X.env)).any (·.1)=false) :
 PE X (.Call (.Name "isinstance" p) (e::es) [] pos) (tCB oN t):=aY nG hg hm bF ha (by decide) (by decide) he hpl
theorem iR (hg:Gl X "isinstance") (hm:X.mg "isinstance" = none) (ha:ZA X (e::es) t) (he:starEach (e::es) X.env=(false,eval e X.env)::starEach es X.env) (hpl:(backTo pos (starEach es X.env)).any (·.1)=false) :
 ZE X (.Call (.Name "isinstance" p) (e::es) [] pos) (tCB oN t):=by with_unfolding_all exact pv hg hm ha he hpl
theorem oW (hg:Gl X "list") (hm:X.mg "list" = none):PE X (.Name "list" pos) (tC (.ty "list")):=jL hg hm dq (by decide) (by decide)
theorem fA (hg:Gl X "list") (hm:X.mg "list" = none):ZE X (.Name "list" pos) (tC (.ty "list")):=by with_unfolding_all exact oW hg hm
theorem rT (hg:Gl X "str") (hm:X.mg "str" = none):PE X (.Name "str" pos) (tC (.ty "str")):=jL hg hm nP (by decide) (by decide)
theorem gY (hg:Gl X "str") (hm:X.mg "str" = none):ZE X (.Name "str" pos) (tC (.ty "str")):=by with_unfolding_all exact rT hg hm
end
def seqD (c:Bool) (ds:List PyData):PyData:=match c with | true=>.tuple ds | false=>.list ds
theorem DatAll.get {H:Hp}:∀ {xs:List V} {ds:List PyData} {i:Nat} {x:V},DatAll H xs ds->xs[i]? = some x->∃ d,ds[i]? = some d/\DatV H x d
 | _,_,0,_,.cons h _,e=>by cases e;exact ⟨_,rfl,h⟩
 | _,_,i+1,_,.cons _ r,e=>by
   obtain ⟨d,h1,h2⟩:=DatAll.get (i:=i) r (by simpa using e)
   exact ⟨d,by simpa using h1,h2⟩
theorem DatAll.len {H:Hp}:∀ {xs:List V} {ds:List PyData},DatAll H xs ds->xs.length=ds.length
 | _,_,.nil=>rfl
 | _,_,.cons _ r=>by rw [List.length_cons,List.length_cons,DatAll.len r]
theorem oH (j:Nat):(List.replicate j true).map V.bl++[V.bl true]=(List.replicate (j+1) true).map V.bl:=by
 rw [List.replicate_succ',List.map_append];rfl
theorem rD (n:Nat):(List.replicate n true).all id=true:=by
 rw [List.all_eq_true];intro x hx;exact List.eq_of_mem_replicate hx
theorem qy {H:Hp} {x:V} {c:Bool} {ds:List PyData} (h:DatV H x (seqD c ds)):∃ a xs,x=.ref a/\SqK H c a xs/\DatAll H xs ds:=by
 cases c with
 | true=>
   cases (show DatV H x (.tuple ds) from h) with
   | tup e r=>exact ⟨_,_,rfl,e,r⟩
 | false=>
   cases (show DatV H x (.list ds) from h) with
   | lst e r=>exact ⟨_,_,rfl,e,r⟩
def tY (c:Bool):String:=match c with | true=>"tuple" | false=>"list"
theorem SqK.ty {H:Hp} {c:Bool} {a:Addr} {xs:List V} (h:SqK H c a xs):bR H (.ref a)=some (tY c):=by
 cases c with
 | true=>unfold bR;dsimp only;rw [show H a=some (.tup xs) from h];rfl
 | false=>unfold bR;dsimp only;rw [show H a=some (.lst xs) from h];rfl
theorem SqK.len {K:PySem.W.Frag} {H:Hp} {c:Bool} {a:Addr} {xs:List V} (h:SqK H c a xs):SqL K H a xs\/H a=some (.tup xs):=by
 cases c with
 | true=>exact .inr h
 | false=>exact .inl (SqL.of h)
end L2
namespace K41
open PySem L2
def top (i:Nat):Stmt:=PySem.Challenge.pw_partrests_k41_joined.main.body.getD i (.Pass ⟨0,0,0,0⟩)
def Hand (H:Hp) (a:Addr) (n:Nat):Prop:=∃ g s c:Int,H a=some (.lst [.int g,.int s,.int c])/\0<=g/\0<=s/\s<2305843009213693951/\0<=c/\c<=n
def Step (a:Addr) (n:Nat) (H H':Hp):Prop:=(∀ b o,b≠a->H b=some o->H' b=some o)/\Hand H' a n
theorem Hand.mono {H:Hp} {a:Addr} {n m:Nat} (h:Hand H a n) (k:n<=m):Hand H a m:=let ⟨g,s,c,e,h1,h2,h3,h4,h5⟩:=h;⟨g,s,c,e,h1,h2,h3,h4,by lia⟩
theorem Hand.same {H H':Hp} {a:Addr} {n:Nat} (h:Hand H a n) (y:Same H H'):Hand H' a n:=let ⟨g,s,c,e,r⟩:=h;⟨g,s,c,y _ _ e,r⟩
theorem Hand.at {H:Hp} {a:Addr} {n:Nat} (h:Hand H a n):∃ xs,H a=some (.lst xs):=let ⟨_,_,_,e,_⟩:=h;⟨_,e⟩
theorem Hand.ne {H:Hp} {a b:Addr} {n:Nat} (h:Hand H a n) (hb:H b=none):b≠a:=fun z=>by
 obtain ⟨xs,e⟩:=h.at
 rw [z,e] at hb
 cases hb
theorem Step.trans {a:Addr} {n m:Nat} {H H1 H2:Hp} (x:Step a n H H1) (y:Step a m H1 H2):Step a m H H2:=⟨fun b o k e=>y.1 b o k (x.1 b o k e),y.2⟩
theorem Step.same {a:Addr} {n:Nat} {H H1 H2:Hp} (x:Step a n H H1) (y:Same H1 H2):Step a n H H2:=⟨fun b o k e=>y b o (x.1 b o k e),x.2.same y⟩
theorem Step.refl {a:Addr} {n:Nat} {H:Hp} (h:Hand H a n):Step a n H H:=⟨fun _ _ _ e=>e,h⟩
theorem Step.of_same {a:Addr} {n:Nat} {H H1:Hp} (h:Hand H a n) (y:Same H H1):Step a n H H1:=(Step.refl h).same y
theorem Step.mono {a:Addr} {n m:Nat} {H H':Hp} (x:Step a n H H') (k:n<=m):Step a m H H':=⟨x.1,x.2.mono k⟩
theorem Step.tup {a b:Addr} {n m:Nat} {H H1:Hp} {xs:List V} (h:Hand H a m) (x:Step a n H H1) (e:H b=some (.tup xs)):H1 b=some (.tup xs):=by
 obtain ⟨ys,e'⟩:=h.at
 exact x.1 b _ (pH e e' (by intro z;cases z)) e
theorem fw {xs:List V} {k:Int} {j:Nat} {v:V} (h:k=(j:Int)) (hx:xs[j]? = some v):atI xs k=some v:=by subst h;exact tO hx
theorem jh {ns:List Int} {j:Nat} (h:j<ns.length):(ns.map V.int)[j]? = some (.int ns[j]):=by rw [List.getElem?_map,List.getElem?_eq_getElem h];rfl
theorem cp (n:Nat) (x:Int):(List.replicate n [V.int x]).flatten=(List.replicate n x).map V.int:=by
 induction n with
 | zero=>rfl
 | succ n ih=>rw [List.replicate_succ,List.flatten_cons,ih,List.replicate_succ,List.map_cons];rfl
theorem aW {n:Nat} (h:n<=1000):n<=sizeLine:=Nat.le_of_lt (aA h)
theorem mulR {a b:Int} (h1:-(2 ^ 64)<b) (h2:b<2 ^ 64):IntMulOk a b:=IntMulOk.of_right (intBits_le_64 h1 h2)
theorem pI {a b:Int} (h1:-(2 ^ 64)<a) (h2:a<2 ^ 64):IntMulOk a b:=IntMulOk.of_left (intBits_le_64 h1 h2)
section
variable {P:Program} {w:World} {K:PySem.W.Frag} {mg:Str->Option Value} {base:Heap} {f:Addr} {fd:FuncData}
theorem sc_take:FnScope ["_law_state","_law_many","_law_digit","_law_mixed"] ["_law_state","_law_many"] (ah (top 22)):=⟨rfl,rfl,rfl,by decide +kernel,rfl,by decide +kernel,by decide +kernel⟩
def dg:Sp:=fun vs H Q _=>∃ (a:Addr) (m:Int) (n:Nat),vs=[.ref a,.int m]/\Hand H a n/\n<1000000000/\0<m/\m<1073741824/\∀ r H',0<=r->r<m->Step a (n+1) H H'->Q (.int r) H'
theorem sN (F:Fun K "_law_take" "_law_take" (top 22) f fd):FnOk P w K mg base CX0 1 f fd ["_law_state","_law_many"] dg:=by
 refine F.okz sc_take (fun vs H Q E h=>?_) (fun cdv A outer s H vs Q E hr h=>?_)
 · obtain ⟨a,m,n,rfl,_⟩:=h;rfl
 obtain ⟨a,m,n,rfl,⟨g,z,c,hl,g0,z0,z1,c0,c1⟩,n1,m0,m1,q⟩:=h
 have nd:=sc_take.nd
 refine ⟨_,(af (bV (aG fq (br dy (zn 0) ag (fun _ _=>rfl)) ag (aI _)) (af (aq (i:=2) nd rfl (Or.inl rfl) (ai bI (br dy (zn 0) ag (fun _ _=>rfl)) (zn 1)))
  (af (cH (ai bv (br dy (zn 0) ag (fun _ _=>rfl)) (zn 1)) (eY (zn 0) ag cn))
  (aj (aK (zn 2))))) aT)
  (af (cH (ai au (br dy (zn 0) ag (fun _ _=>rfl)) ag) (eY (zn 0) ag cn))
  (af (aq (i:=3) nd rfl (Or.inl rfl) (ai bI (ai aF (ai au (ai au (br dy (zn 0) ag (fun _ _=>rfl)) (ai aF (ai aF ag (br dy (zn 0) ag (fun _ _=>rfl))) (br dy (zn 0) ag (fun _ _=>rfl)))) ag) ag) ag))
  (af (aq (i:=3) nd rfl (Or.inl rfl) (ai bI (ai aF (zn 3) (ai au (ai bI (zn 3) ag) (ai aF ag (br dy (zn 0) ag (fun _ _=>rfl))))) ag))
  (aj (aK (ai bI (ai au (ai bv (zn 3) ag) (ai bv (zn 3) ag)) (zn 1)))))))),?_⟩
 refine ⟨_,.inl (SqL.of hl),.int g,rfl,?_⟩
 refine mJ (fun hg=>?_) (fun hg=>?_)
 · refine ⟨_,.inl (SqL.of hl),.int g,rfl,m0,?_⟩
   refine ⟨_,.inl (SqL.of hl),.int g,rfl,⟨m0,m1⟩,?_⟩
   refine ⟨a,_,_,_,rfl,rfl,hl,rfl,?_⟩
   refine q _ _ (Int.emod_nonneg _ (by lia)) (Int.emod_lt_of_pos _ m0) ⟨fun b o n e=>?_,g / m,z,c,ad,Int.ediv_nonneg g0 (by lia),z0,z1,c0,by lia⟩
   rw [am n];exact e
 · refine ⟨_,.inl (SqL.of hl),.int c,rfl,?_⟩
   refine ⟨a,_,_,_,rfl,rfl,hl,rfl,?_⟩
   refine ⟨_,.inl (SqL.of ad),.int z,rfl,?_⟩
   refine ⟨_,.inl (SqL.of ad),.int (c+1),rfl,pI (by decide) (by decide),?_⟩
   refine ⟨_,.inl (SqL.of ad),.int (c+1),rfl,mulR (by lia) (by lia),mulR (by decide) (by decide),(show (0:Int)<2305843009213693921 by decide),?_⟩
   generalize hb1:(z+65537*(c+1)*(c+1)+11)*48271 % 2305843009213693921=b1
   have e1:0<=b1:=by rw [← hb1];exact Int.emod_nonneg _ (by decide)
   have e2:b1<2305843009213693921:=by rw [← hb1];exact Int.emod_lt_of_pos _ (by decide)
   refine ⟨(show (0:Int)<1000003 by decide),?_⟩
   refine ⟨_,.inl (SqL.of ad),.int (c+1),rfl,pI (by decide) (by decide),pI (by lia) (by lia),(show (0:Int)<2305843009213693907 by decide),?_⟩
   refine ⟨⟨by decide,by decide⟩,⟨by decide,by decide⟩,m0,?_⟩
   refine q _ _ (Int.emod_nonneg _ (by lia)) (Int.emod_lt_of_pos _ m0) ⟨fun b o n e=>?_,g,z,c+1,ad,g0,z0,z1,by lia,by lia⟩
   rw [am n];exact e
theorem sc_hand:FnScope ["_law_script","_law_state","_law_far","_law_cell","_law_k","_law_one"] ["_law_script"] (ah (top 21)):=⟨rfl,rfl,rfl,by decide +kernel,rfl,by decide +kernel,by decide +kernel⟩
def ij (K:PySem.W.Frag):Sp:=fun vs H Q _=>∃ (a:Addr) (ns:List Int),vs=[.ref a]/\SqL K H a (ns.map V.int)/\ns.length<=63/\∀ p H',H p=none->Same H H'->Hand H' p 0->Q (.ref p) H'
theorem jr (ns:List Int) (k:Int):∃ ms:List Int,kd (ns.map V.int) none (some k)=ms.map V.int/\ms.length<=ns.length:=by
 refine ⟨(ns.drop (HT.sIx (ns.map V.int).length 0 none)).take (HT.sIx (ns.map V.int).length (ns.map V.int).length (some k) - HT.sIx (ns.map V.int).length 0 none),?_,?_⟩
 · unfold kd
   rw [List.map_take,List.map_drop]
 · rw [List.length_take,List.length_drop]
   lia
theorem jm (j:Nat) (h:j<=63):Builtin.Int.intBits (((10:Int) ^ Int.toNat 60) ^ j)<=2 ^ 20:=by
 have h1:Builtin.Int.intBits ((10:Int) ^ Int.toNat 60)<=200:=by decide +kernel
 have h2:=intBits_pow_le h1 j
 refine Nat.le_trans h2 ?_
 have:200*j+1<=200*63+1:=by lia
 exact Nat.le_trans this (by decide)
theorem pJ (x:Int):Builtin.Int.intBits (x % (10:Int) ^ Int.toNat 60)<=2 ^ 20:=by
 refine Nat.le_trans (intBits_le_iff (m:=200).mpr ?_) (by decide)
 have h0:0<=x % (10:Int) ^ Int.toNat 60:=Int.emod_nonneg _ (by decide)
 have h1:x % (10:Int) ^ Int.toNat 60<(10:Int) ^ Int.toNat 60:=Int.emod_lt_of_pos _ (by decide)
 have h2:(10:Int) ^ Int.toNat 60<=((2 ^ 200:Nat):Int):=by decide
 lia
theorem ow:Builtin.Int.intBits ((10:Int) ^ Int.toNat 60)<=2 ^ 20:=by decide +kernel
def St (H0 H:Hp) (p:Addr):Prop:=Same H0 H/\Hand H p 0
theorem sQ (F:Fun K "_law_hand" "_law_hand" (top 21) f fd) (m_abs:mg "abs" = none) (m_enumerate:mg "enumerate" = none) (m_len:mg "len" = none):FnOk P w K mg base CX0 1 f fd ["_law_script"] (ij K):=by
 refine F.okz sc_hand (fun vs H Q E h=>?_) (fun cdv A outer s H vs Q E hr h=>?_)
 · obtain ⟨a,ns,rfl,_⟩:=h;rfl
 obtain ⟨a,ns,rfl,hS,hl,q⟩:=h
 have nd:=sc_hand.nd
 have hu:=hr.units
 have rest:∃ t,ZSs (cE CX0 P w K mg base ["_law_script","_law_state","_law_far","_law_cell","_law_k","_law_one"] "_law_hand" (ah (top 21)) f cdv A outer s H E).nox ((az (top 21)).drop 2) t /\
  ∀ (H1:Hp) (p:Addr) (s2 s3:Option V),H p=none->St H H1 p->t { nx:=fun _ H'=>Q .non H',rt:=Q } [some (.ref a),some (.ref p),s2,s3,none,none] H1:=by
  refine ⟨_,(af (bW PassesOwn.never rfl (bq rfl m_enumerate (aa (fB sl_P (zn 0) hJ (gZ ag)) ae)) (bB rfl (av (ak (i:=4) nd rfl (Or.inl rfl)) (av (ak (i:=3) nd rfl (Or.inl rfl)) aZ))) (af (aq (i:=5) nd rfl (Or.inl rfl) (ai au (ai au (ai bI (zn 3) ag) (ai aF ag (zn 4))) ag))
   (aj (cH (ai bI (ai au (ai aF (br dy (zn 1) ag (fun _ _=>rfl)) ag) (zn 5)) ag) (eY (zn 1) ag cn)))))
   (aj (aK (zn 1)))),?_⟩
  intro H1 p s2 s3 hp st1
  obtain ⟨ms,em,lm⟩:=jr ns 63
  refine ⟨_,rfl,a,rfl,.inr ⟨_,SqL.same st1.1 hS,fun d hd=>?_⟩⟩
  rw [em]
  have yd:=Same.new hd (.lst (ms.map V.int))
  have dp:p≠d:=fun z=>by obtain ⟨xs,e⟩:=st1.2.at;rw [z,hd] at e;cases e
  have dH:H d=none:=by
   cases e:H d with
   | none=>rfl
   | some o=>have:=st1.1 d o e;rw [hd] at this;cases this
  refine ⟨false,_,SqK.lst ad,ei (xs:=ms.map V.int) (fun i σ H'=>St H H' p/\H' d=some (.lst (ms.map V.int))/\∃ x2 x3 x4 x5,σ=[some (.ref a),some (.ref p),x2,x3,x4,x5]) ⟨⟨st1.1.trans yd,st1.2.same yd⟩,ad,_,_,_,_,rfl⟩ ?_ ?_ ?_⟩
  · rintro i σ H' _ ⟨_,e,_⟩
    exact SqK.lst e
  · rintro i x σ H' pr hx ⟨⟨y,⟨g,z,c,hl',g0,z0,z1,c0,c1⟩⟩,hd',x2,x3,x4,x5,rfl⟩ hpr
    have hi:i<ms.length:=by
     have:=(List.getElem?_eq_some_iff.mp hx).1
     rw [List.length_map] at this
     exact this
    have ex:x=.int ms[i]:=by rw [jh hi] at hx;exact (Option.some.inj hx).symm
    subst ex
    have yr:=Same.new hpr (.tup [.int i,.int ms[i]])
    refine ⟨pr,_,rfl,SqT.of ad,rfl,_,_,rfl,_,_,rfl,rfl,?_⟩
    have hp':=yr _ _ hl'
    have e1:0<=ms[i] % 2305843009213693951:=Int.emod_nonneg _ (by decide)
    have e2:ms[i] % 2305843009213693951<2305843009213693951:=Int.emod_lt_of_pos _ (by decide)
    refine ⟨(show (0:Int)<2305843009213693951 by decide),pI (by decide) (by decide),?_⟩
    refine ⟨_,.inl (SqL.of hp'),.int z,rfl,mulR (by decide) (by decide),(show (0:Int)<2305843009213693951 by decide),?_⟩
    refine ⟨p,_,_,_,rfl,rfl,hp',rfl,?_⟩
    have e5:0<=(z*48271+(ms[i] % 2305843009213693951+7919*(i:Int)+3)) % 2305843009213693951:=Int.emod_nonneg _ (by decide)
    have e6:(z*48271+(ms[i] % 2305843009213693951+7919*(i:Int)+3)) % 2305843009213693951<2305843009213693951:=Int.emod_lt_of_pos _ (by decide)
    refine ⟨⟨Same.updN (y.trans yr) hp,⟨g,_,c,ad,g0,e5,e6,c0,c1⟩⟩,?_,_,_,_,_,rfl⟩
    rw [am (Ne.symm dp)]
    exact yr _ _ hd'
  · rintro σ H' ⟨⟨y,hh⟩,_,x2,x3,x4,x5,rfl⟩
    exact q p H' hp y hh
 obtain ⟨t2,ht2,rest⟩:=rest
 refine ⟨_,(af (aq (i:=1) nd rfl (Or.inl rfl) (bn (aa ag (aa ag (aa ag ae)))))
  (af (bV (ZW.zt (gb (aG fq (bo rfl m_len (aa (zn 0) ae) rfl rfl) ag (aI _)) (dM (aG qI (br dy (zn 0) ag (fun _ _=>rfl)) (ai iy ag ag) (aI _))))) (af (aq (i:=2) nd rfl (Or.inl rfl) ag)
  (aj (bW PassesOwn.never rfl (bP (fB sl_P (zn 0) hJ (gZ ag))) (ak (i:=3) nd rfl (Or.inl rfl)) (af (cH (ai au (br dy (zn 1) ag (fun _ _=>rfl)) (ai aF (ai bI (q5 rfl m_abs (aa (zn 3) ae) rfl rfl) (ai iy ag ag)) (zn 2))) (eY (zn 1) ag cn))
  (aj (aq (i:=2) nd rfl (Or.inl rfl) (ai aF (zn 2) (ai iy ag ag)))))))) aT)
  ht2)),?_⟩
 refine ⟨by show 3<=sizeLine;decide,fun p hp=>?_⟩
 have y0:=Same.new hp (.lst [V.int 0,.int 0,.int 0])
 have st0':St H (upd H p (.lst [V.int 0,.int 0,.int 0])) p:=⟨y0,0,0,0,ad,by decide,by decide,by decide,by decide,by decide⟩
 refine ⟨_,.inl (SqL.same y0 hS),?_⟩
 refine mJ (fun c=>?_) (fun c=>?_)
 · rw [List.length_map] at c
   have hj:0<ns.length:=by lia
   refine ⟨_,.inl (SqL.same y0 hS),.int ns[0],fw (j:=0) rfl (jh hj),⟨by decide,by decide,by decide⟩,?_⟩
   refine mJ (fun c2=>?_) (fun c2=>?_)
   · obtain ⟨ms,em,lm⟩:=jr ns 63
     refine ⟨_,rfl,a,rfl,.inr ⟨_,SqL.same y0 hS,fun d hd=>?_⟩⟩
     rw [em]
     have yd:=Same.new hd (.lst (ms.map V.int))
     have dp:p≠d:=fun z=>by rw [← z,ad] at hd;cases hd
     refine ⟨d,rfl,⟨_,SqL.of ad⟩,cW (xs:=ms.map V.int) (fun i σ H'=>St H H' p/\H' d=some (.lst (ms.map V.int))/\∃ x3,σ=[some (.ref a),some (.ref p),some (.int (((10:Int) ^ Int.toNat 60) ^ i)),x3,none,none]) ⟨⟨st0'.1.trans yd,st0'.2.same yd⟩,ad,_,rfl⟩ ?_ ?_ ?_⟩
     · rintro i σ H' _ ⟨_,e,_⟩
       exact SqL.of e
     · rintro i x σ H' hx ⟨⟨y,⟨g,z,c,hl',g0,z0,z1,c0,c1⟩⟩,hd',x3,rfl⟩
       have hi:i<ms.length:=by
        have:=(List.getElem?_eq_some_iff.mp hx).1
        rw [List.length_map] at this
        exact this
       have ex:x=.int ms[i]:=by rw [jh hi] at hx;exact (Option.some.inj hx).symm
       subst ex
       refine ⟨_,.inl (SqL.of hl'),.int g,rfl,⟨by decide,by decide,by decide⟩,(show (0:Int)<10 ^ Int.toNat 60 by decide),IntMulOk.of_bits (pJ _) (jm i (by lia)),?_⟩
       refine ⟨p,_,_,_,rfl,rfl,hl',rfl,?_⟩
       refine ⟨⟨by decide,by decide,by decide⟩,IntMulOk.of_bits (jm i (by lia)) ow,?_⟩
       refine ⟨⟨Same.updN y hp,⟨_,z,c,ad,?_,z0,z1,c0,c1⟩⟩,?_,some (.int ms[i]),?_⟩
       · have h0:0<=(if ms[i]<0 then -ms[i] else ms[i]) % (10:Int) ^ Int.toNat 60:=Int.emod_nonneg _ (by decide)
         have h1:0<=((10:Int) ^ Int.toNat 60) ^ i:=Int.pow_nonneg (by decide)
         have:=Int.mul_nonneg h0 h1
         lia
       · rw [am (Ne.symm dp)]
         exact hd'
       · rw [Int.pow_succ]
         rfl
     · rintro σ H' ⟨st,_,x3,rfl⟩
       exact rest H' p _ _ hp st
   · exact rest _ p _ _ hp st0'
 · exact rest _ p _ _ hp st0'
end
theorem Step.updN {a D:Addr} {n:Nat} {H H1:Hp} {o:HO} (x:Step a n H H1) (k:D≠a) (e:H D=none):Step a n H (upd H1 D o):=by
 refine ⟨fun b u nb eb=>?_,?_⟩
 · rw [am (aV eb e)]
   exact x.1 b u nb eb
 · obtain ⟨g,s,c,e2,r⟩:=x.2
   exact ⟨g,s,c,by rw [am (Ne.symm k)];exact e2,r⟩
theorem Step.lst {a b:Addr} {n:Nat} {H H1:Hp} {xs:List V} (x:Step a n H H1) (k:b≠a) (e:H b=some (.lst xs)):H1 b=some (.lst xs):=x.1 b _ k e
theorem Step.none {a b:Addr} {n:Nat} {H H1:Hp} (x:Step a n H H1) (k:b≠a) (e:H1 b=none):H b=none:=by
 cases q:H b with
 | none=>rfl
 | some o=>have:=x.1 b o k q;rw [e] at this;cases this
theorem df:∀ {ns:List Int},(∀ n∈ns,(1:Int)<=n)->(ns.length:Int)<=ns.sum
 | [],_=>by simp
 | x::r,h=>by
   have:=df (ns:=r) fun n hn=>h n (List.mem_cons_of_mem _ hn)
   have:=h x List.mem_cons_self
   rw [List.length_cons,List.sum_cons]
   lia
theorem o8 {a b:List Int} (h:a.Perm b):a.sum=b.sum:=by
 induction h with
 | nil=>rfl
 | cons x _ ih=>rw [List.sum_cons,List.sum_cons,ih]
 | swap x y l=>simp only [List.sum_cons];lia
 | trans _ _ i1 i2=>exact i1.trans i2
section
variable {P:Program} {w:World} {K:PySem.W.Frag} {mg:Str->Option Value} {base:Heap} {f:Addr} {fd:FuncData}
theorem pick6 {k:Int} (h0:0<=k) (h1:k<6) (l:Int):∃ m:Int,atI [V.int l,.int 3,.int 6,.int 12,.int l,.int l] k=some (.int m):=by
 have:k=0\/k=1\/k=2\/k=3\/k=4\/k=5:=by lia
 rcases this with rfl | rfl | rfl | rfl | rfl | rfl <;> exact ⟨_,rfl⟩
def Prt (ns:List Int):Prop:=(∀ n∈ns,(1:Int)<=n)/\ns.Pairwise (·>=·)
theorem sc_parting:FnScope ["_law_state","_law_most","_law_left","_law_way","_law_top","_law_found","_law_part"] ["_law_state","_law_most"] (ah (top 23)):=⟨rfl,rfl,rfl,by decide +kernel,rfl,by decide +kernel,by decide +kernel⟩
def bM:Sp:=fun vs H Q _=>∃ (a:Addr) (most:Int) (n:Nat),vs=[.ref a,.int most]/\Hand H a n/\n<900000000/\0<=most/\most<=300 /\
 ∀ r H' (ns:List Int),Step a (n+400) H H'->H' r=some (.tup (ns.map V.int))->Prt ns->ns.sum<=most->Q (.ref r) H'
theorem jP (F:Fun K "_law_parting" "_law_parting" (top 23) f fd) (m_int:mg "int" = none) (m_min:mg "min" = none) (m_sorted:mg "sorted" = none) (m_tuple:mg "tuple" = none) (F_law_take:FnA P w K mg base "_law_take" 1 ["_law_state","_law_many"] dg):FnOk P w K mg base CX0 2 f fd ["_law_state","_law_most"] bM:=by
 refine F.okz sc_parting (fun vs H Q E h=>?_) (fun cdv A outer s H vs Q E hr h=>?_)
 · obtain ⟨a,most,n,rfl,_⟩:=h;rfl
 obtain ⟨a,most,n,rfl,hh,hn,f0,f1,q⟩:=h
 have nd:=sc_parting.nd
 have hu:=hr.units
 have rest:∃ t,ZSs (cE CX0 P w K mg base ["_law_state","_law_most","_law_left","_law_way","_law_top","_law_found","_law_part"] "_law_parting" (ah (top 23)) f cdv A outer s H E).nox ((dj ((az (top 23)).getD 3 (.Pass ⟨0,0,0,0⟩))).drop 2) t /\
  ∀ (De:Ends) (H5:Hp) (D:Addr) (lf way tp part left:Int) (ns:List Int),Step a (n+3+(left - lf).toNat) H H5->H D=none->D≠a->H5 D=some (.lst (ns.map V.int))->1<=part->part<=lf->lf<=left->(∀ x∈ns,(1:Int)<=x)->ns.sum+lf<=most ->
    (∀ (H':Hp) (lf' tp':Int) (ms:List Int),Step a (n+2+(left - lf').toNat) H H'->H' D=some (.lst (ms.map V.int))->0<=lf'->lf' < lf->(∀ x∈ms,(1:Int)<=x)->ms.sum+lf'<=most->De.nx [some (.ref a),some (.int most),some (.int lf'),some (.int way),some (.int tp'),some (.ref D),some (.int part)] H') ->
    t De [some (.ref a),some (.int most),some (.int lf),some (.int way),some (.int tp),some (.ref D),some (.int part)] H5:=by
  refine ⟨_,(af (dc (cI (zn 5) (aa (zn 6) ae)))
   (af (aq (i:=2) nd rfl (Or.inl rfl) (ai aN (zn 2) (zn 6)))
   (aj (aq (i:=4) nd rfl (Or.inl rfl) (ai aN (zn 6) (hV rfl m_int (aa (bX (cO hu) (zn 3) ag (aI _)) ae) rfl rfl)))))),?_⟩
  intro De H5 D lf way tp part left ns st Dnone Dne hD p1 p2 ll h1 hsum fin
  have hlen:=df h1
  refine ⟨tyL hD,_,hD,by rw [List.length_map];exact aA (by lia),?_⟩
  have st6:Step a (n+3+(left - lf).toNat) H (upd H5 D (.lst (ns.map V.int++[.int part]))):=st.updN Dne Dnone
  have hD6:(upd H5 D (.lst (ns.map V.int++[.int part]))) D=some (.lst ((ns++[part]).map V.int)):=by rw [ad,List.map_append];rfl
  generalize upd H5 D (.lst (ns.map V.int++[.int part]))=H6 at st6 hD6
  refine fin H6 (lf - part) _ (ns++[part]) (st6.mono (by lia)) hD6 (by lia) (by lia) (fun x hx=>?_) ?_
  · rcases List.mem_append.mp hx with hx | hx
    · exact h1 x hx
    · have:x=part:=by simpa using hx
      lia
  · rw [List.sum_append,List.sum_cons,List.sum_nil]
    lia
 obtain ⟨t2,ht2,rest⟩:=rest
 refine ⟨_,(af (kh (i:=2) (j:=3) rfl nd rfl rfl (by decide) rfl rfl (aa (aJ F_law_take hr (by decide) rfl (aa (zn 0) (aa (ai au (zn 1) ag) ae))) (aa (aJ F_law_take hr (by decide) rfl (aa (zn 0) (aa ag ae))) ae)) rfl)
  (af (aq (i:=4) nd rfl (Or.inl rfl) (br dy (bn (aa (zn 2) (aa ag (aa ag (aa ag (aa (zn 2) (aa (zn 2) ae))))))) (zn 3) (fun _ _=>rfl)))
  (af (aq (i:=5) nd rfl (Or.inl rfl) (bn ae))
  (af (iP PassesOwn.never (ZW.zt (gb (aG fq (zn 2) ag (aI _)) (dM (aG fq (zn 4) ag (aI _))))) (af (aq (i:=6) nd rfl (Or.inl rfl) (kr rfl rfl m_min (aa (zn 4) (aa (zn 2) ae)) rfl rfl))
  (af (bV (ZW.zt (eJ (aG (bS hu) (zn 3) ag (aI _)) (dt (aG (cO hu) (zn 5) (bn ae) (aI _))))) (aj (aq (i:=6) nd rfl (Or.inl rfl) (ai au ag (aJ F_law_take hr (by decide) rfl (aa (zn 0) (aa (zn 6) ae)))))) aT)
  ht2)))
  (aj (aK (bL rfl m_tuple (aa (dN rfl m_sorted (aa (zn 5) ae) rfl) ae) rfl rfl))))))),?_⟩
 refine ⟨a,most+1,n,rfl,hh,by lia,by lia,by lia,fun left H1 l0 l1 s1=>?_⟩
 refine ⟨a,6,n+1,rfl,s1.2,by lia,by decide,by decide,fun way H2 w0 w1 s2=>?_⟩
 have st2:=s1.trans s2
 refine ⟨_,_,rfl,?_⟩
 refine ⟨by show 6<=sizeLine;decide,fun d1 hd1=>?_⟩
 have yd:=Same.new hd1 (.lst [V.int left,.int 3,.int 6,.int 12,.int left,.int left])
 obtain ⟨tp,etp⟩:=pick6 w0 w1 left
 refine ⟨_,.inl (SqL.of ad),.int tp,etp,?_⟩
 have st3:=st2.same yd
 generalize upd H2 d1 (.lst [V.int left,.int 3,.int 6,.int 12,.int left,.int left])=H3 at st3
 refine ⟨Nat.zero_le _,fun D hD=>?_⟩
 have Dne:D≠a:=st3.2.ne hD
 have Dnone:H D=none:=st3.none Dne hD
 have st4:Step a (n+2) H (upd H3 D (.lst [])):=st3.same (Same.new hD _)
 have hD4:(upd H3 D (.lst [])) D=some (.lst (([]:List Int).map V.int)):=ad
 generalize upd H3 D (.lst [])=H4 at st4 hD4
 refine ge (fun m σ H'=>∃ (lf tp:Int) (ns:List Int) (p6:Option V),Step a (n+2+(left - lf).toNat) H H'/\H' D=some (.lst (ns.map V.int))/\σ=[some (.ref a),some (.int most),some (.int lf),some (.int way),some (.int tp),some (.ref D),p6]/\m=lf.toNat/\0<=lf/\lf<=left/\(∀ x∈ns,(1:Int)<=x)/\ns.sum+lf<=most)
  left.toNat ⟨left,tp,[],none,st4.mono (by lia),hD4,rfl,rfl,l0,Int.le_refl _,by simp,by simp;lia⟩ ?_
 rintro m σ H' ⟨lf,tp,ns,p6,st,hDn,rfl,rfl,lf0,lfl,h1,hsum⟩
 have hlen:=df h1
 have done:∃ (nn:List Int),(SqL K H' D (nn.map V.int)\/SqT K H' D (nn.map V.int))/\∀ l ns',H' l=none->List.Perm ns' nn->PyProof.Rows.Ordered true ns'->lC K [.ref l] (upd H' l (.lst (ns'.map V.int))) Q:=by
  refine ⟨ns,.inl (SqL.of hDn),fun l ns' hl perm ord=>?_⟩
  refine ⟨_,.inl (SqL.of ad),fun r H9 y9 hr9=>?_⟩
  refine q r H9 ns' (((st.mono (by lia)).same (Same.new hl _)).same y9) hr9 ⟨fun x hx=>h1 x (perm.mem_iff.mp hx),ord⟩ ?_
  have:ns'.sum=ns.sum:=o8 perm
  lia
 refine mJ (fun c=>?_) (fun c=>?_)
 · refine mJ (fun c2=>?_) (fun c2=>?_)
   · refine ⟨fun σ' H'=>∃ (lf' tp:Int) (ns:List Int) (p6:Option V),Step a (n+2+(left - lf').toNat) H H'/\H' D=some (.lst (ns.map V.int))/\σ'=[some (.ref a),some (.int most),some (.int lf'),some (.int way),some (.int tp),some (.ref D),p6]/\lf' < lf/\0<=lf'/\lf'<=left/\(∀ x∈ns,(1:Int)<=x)/\ns.sum+lf'<=most,?_,?_⟩
     · rintro σ' H' ⟨lf',tp,ns,p6,st,hDn,rfl,hlt,r⟩
       exact ⟨lf'.toNat,by lia,lf',tp,ns,p6,st,hDn,rfl,rfl,r⟩
     have hm:1<=(if lf<tp then lf else tp)/\(if lf<tp then lf else tp)<=lf:=by split <;> lia
     have go:∀ (H7:Hp) (part:Int),Step a (n+3+(left - lf).toNat) H H7->H7 D=some (.lst (ns.map V.int))->1<=part->part<=lf->∀ (De:Ends),De.nx=(fun σ' H'=>∃ (lf' tp:Int) (ns:List Int) (p6:Option V),Step a (n+2+(left - lf').toNat) H H'/\H' D=some (.lst (ns.map V.int))/\σ'=[some (.ref a),some (.int most),some (.int lf'),some (.int way),some (.int tp),some (.ref D),p6]/\lf' < lf/\0<=lf'/\lf'<=left/\(∀ x∈ns,(1:Int)<=x)/\ns.sum+lf'<=most) ->
      t2 De [some (.ref a),some (.int most),some (.int lf),some (.int way),some (.int tp),some (.ref D),some (.int part)] H7:=fun H7 part st7 hD7 q1 q2 De hDe=>
      rest De H7 D lf way tp part left ns st7 Dnone Dne hD7 q1 q2 lfl h1 hsum fun H8 lf' tp' ms st8 hD8 l0 l1 h8 hs8=>by
       rw [hDe]
       exact ⟨lf',tp',ms,_,st8,hD8,rfl,l1,l0,by lia,h8,hs8⟩
     have draw:∀ (H6:Hp),Same H' H6->∃ (a':Addr) (m:Int) (k:Nat),[V.ref a,V.int (if lf<tp then lf else tp)]=[.ref a',.int m]/\Hand H6 a' k/\k<1000000000/\0<m/\m<1073741824/\∀ r H7,0<=r->r<m->Step a' (k+1) H6 H7->Step a (n+3+(left - lf).toNat) H H7/\H7 D=some (.lst (ns.map V.int))/\1<=1+r/\1+r<=lf:=fun H6 y6=>
      ⟨a,_,_,rfl,(st.same y6).2,by lia,by lia,by lia,fun r H7 r0 r1 s7=>⟨((st.same y6).trans s7).mono (by lia),s7.lst Dne (y6 _ _ hDn),by lia,by lia⟩⟩
     by_cases h5:way=5
     · subst h5
       refine ⟨Nat.zero_le _,fun d5 hd5=>?_⟩
       have y5:=Same.new hd5 (.lst [])
       refine ⟨_,_,.lst (y5 _ _ hDn) (DatAll.ints ns),.lst (xs:=[]) ad .nil,aR _,aR [],?_⟩
       refine mK (fun _=>?_) (fun _=>?_)
       · obtain ⟨a',m',k',e',h1',h2',h3',h4',h5'⟩:=draw _ y5
         refine ⟨a',m',k',e',h1',h2',h3',h4',fun r H7 r0 r1 s7=>?_⟩
         obtain ⟨z1,z2,z3,z4⟩:=h5' r H7 r0 r1 s7
         exact go H7 (1+r) z1 z2 z3 z4 _ rfl
       · exact go _ _ ((st.mono (by lia)).same y5) (y5 _ _ hDn) hm.1 hm.2 _ rfl
     · refine mK (fun _=>?_) (fun c3=>?_)
       · obtain ⟨a',m',k',e',h1',h2',h3',h4',h5'⟩:=draw _ (Same.refl _)
         refine ⟨a',m',k',e',h1',h2',h3',h4',fun r H7 r0 r1 s7=>?_⟩
         obtain ⟨z1,z2,z3,z4⟩:=h5' r H7 r0 r1 s7
         exact go H7 (1+r) z1 z2 z3 z4 _ rfl
       · exfalso
         have:decide (V.int way=V.int 5)=true:=by simpa using c3
         exact h5 (V.int.inj (of_decide_eq_true this))
   · exact done
 · exact done
end
def Nice:Nat->PyData->Prop
 | 0,d=>∃ i,d=.int i
 | n+1,d=>(∃ i,d=.int i)\/∃ c ds,d=seqD c ds/\ds.length<=1000/\∀ e∈ds,Nice n e
theorem Nice.ints {ns:List Int} (h:ns.length<=1000):Nice 1 (.tuple (ns.map PyData.int)):=.inr ⟨true,_,rfl,by rw [List.length_map];exact h,fun e he=>by
 obtain ⟨i,_,rfl⟩:=List.mem_map.mp he
 exact ⟨i,rfl⟩⟩
section
variable {P:Program} {w:World} {K:PySem.W.Frag} {mg:Str->Option Value} {base:Heap} {f:Addr} {fd:FuncData}
def ii:Nat->Sp
 | 0=>fun _ _ _ _=>False
 | n+1=>fun vs H Q _=>∃ x y d,vs=[x,y]/\DatV H x d/\DatV H y d/\Nice n d/\∀ H',Same H H'->Q (.bl true) H'
theorem sc_same:FnScope ["_law_found","_law_due"] ["_law_found","_law_due"] (ah (top 28)):=⟨rfl,rfl,rfl,by decide +kernel,rfl,by decide +kernel,by decide +kernel⟩
theorem ok_sm (F:Fun K "_law_same" "_law_same" (top 28) f fd) (m_all:mg "all" = none) (m_bool:mg "bool" = none) (m_int:mg "int" = none) (m_isinstance:mg "isinstance" = none) (m_len:mg "len" = none) (m_list:mg "list" = none) (m_str:mg "str" = none) (m_tuple:mg "tuple" = none) (m_zip:mg "zip" = none) (b:Binds K fd ["_law_found","_law_due"] []) (kp:PySem.W.keepIn K (.ref f)=true) (m:mg "_law_same" = some (.ref f)):∀ n,FnOk P w K mg base CX0 n f fd ["_law_found","_law_due"] (ii n)
 | 0=>⟨fun _ _ _ _ h=>h.elim,fun _ _ _ _ _ _ _ _ _ _ _ _ _ h=>h.elim⟩
 | n+1=>by
   have F_law_same:FnA P w K mg base "_law_same" n ["_law_found","_law_due"] (ii n):=⟨⟨f,fd,ok_sm F m_all m_bool m_int m_isinstance m_len m_list m_str m_tuple m_zip b kp m n,b,kp,m⟩⟩
   refine F.okz sc_same (fun vs H Q E h=>?_) (fun cdv A outer s H vs Q E hr h=>?_)
   · obtain ⟨x,y,d,rfl,_⟩:=h;rfl
   obtain ⟨x,y,d,rfl,hx,hy,hn,q⟩:=h
   have nd:=sc_same.nd
   have hu:=hr.units
   refine ⟨_,(af (bV (bH (iR rfl m_isinstance (aa (zn 1) (aa (aL (aa (bU rfl m_tuple) (aa (fA rfl m_list) ae))) ae)) rfl rfl)) (af (bV (ZW.zt (eJ (aG (bS hu) (aB rfl m_isinstance (aa (zn 0) (aa (bU rfl m_tuple) ae)) rfl rfl) (aB rfl m_isinstance (aa (zn 1) (aa (bU rfl m_tuple) ae)) rfl rfl) (aI _)) (dt (aG (bS hu) (aB rfl m_isinstance (aa (zn 0) (aa (fA rfl m_list) ae)) rfl rfl) (aB rfl m_isinstance (aa (zn 1) (aa (fA rfl m_list) ae)) rfl rfl) (aI _))))) (aj (aK dA)) aT)
    (aj (aK (fC (bX (cO hu) (bo rfl m_len (aa (zn 0) ae) rfl rfl) (bo rfl m_len (aa (zn 1) ae) rfl rfl) (aI _)) (iQ (kD rfl rfl m_all (aa (ba ["_law_one","_law_other"] [] rfl ⟨rfl,by decide +kernel,by decide +kernel,rfl,rfl⟩ (qo rfl m_zip (aa (zn 0) (aa (zn 1) ae))) cf (fun _ _ _ _=>bB rfl (av (ak (i:=0) (show List.Nodup (["_law_one","_law_other"]:List Str) by decide +kernel) rfl (Or.inl rfl)) (av (ak (i:=1) (show List.Nodup (["_law_one","_law_other"]:List Str) by decide +kernel) rfl (Or.inl rfl)) aZ))) (fun _ _ _ _=>aS) (fun _ _ _ _=>(aJ F_law_same hr (Nat.le_refl _) rfl (aa (zn 0) (aa (zn 1) ae))))) ae) rfl rfl)))))) aT)
    (af (bV (aG qH (zn 1) gc (aI _)) (aj (aK (bX qH (zn 0) gc (aI _)))) aT)
    (af (bV (ZW.zt (eJ (aG (bS hu) (aB rfl m_isinstance (aa (zn 0) (aa (iO rfl m_bool) ae)) rfl rfl) (aB rfl m_isinstance (aa (zn 1) (aa (iO rfl m_bool) ae)) rfl rfl) (aI _)) (dt (aG (bS hu) (aB rfl m_isinstance (aa (zn 0) (aa (gY rfl m_str) ae)) rfl rfl) (aB rfl m_isinstance (aa (zn 1) (aa (gY rfl m_str) ae)) rfl rfl) (aI _))))) (aj (aK dA)) aT)
    (aj (aK (fC (iR rfl m_isinstance (aa (zn 0) (aa (aL (aa (ke rfl m_int) (aa (gY rfl m_str) ae))) ae)) rfl rfl) (iQ (bX (cO hu) (zn 0) (zn 1) (aI _))))))))),?_⟩
   refine ⟨by show 2<=sizeLine;decide,fun d1 hd1=>?_⟩
   have y1:=Same.new hd1 (.tup [V.ty "tuple",.ty "list"])
   have leaf:∀ i,d=.int i->x=.int i/\y=.int i:=fun i e=>by
    subst e
    cases hx
    cases hy
    exact ⟨rfl,rfl⟩
   by_cases hi:∃ i,d=.int i
   · obtain ⟨i,hi⟩:=hi
     obtain ⟨rfl,rfl⟩:=leaf i hi
     refine ⟨"int","tuple","list",rfl,ad,rfl,rfl,?_⟩
     refine mK (fun c=>absurd c (by decide)) (fun _=>?_)
     refine ⟨"int",rfl,rfl,"int",rfl,rfl,?_⟩
     refine ⟨"int",rfl,rfl,"int",rfl,rfl,?_⟩
     refine ⟨by show 2<=sizeLine;decide,fun d2 hd2=>?_⟩
     refine ⟨"int","int","str",rfl,ad,rfl,rfl,?_⟩
     refine mK (fun _=>?_) (fun c=>absurd c (by decide))
     show Q (.bl (decide (V.int i=V.int i))) _
     rw [decide_eq_true rfl]
     exact q _ (y1.trans (Same.new hd2 _))
   · have hs:∃ n' c ds,n=n' + 1/\d=seqD c ds/\ds.length<=1000/\∀ e∈ds,Nice n' e:=by
      cases n with
      | zero=>exact absurd hn hi
      | succ n'=>
        rcases hn with h | ⟨c,ds,h⟩
        · exact absurd h hi
        · exact ⟨n',c,ds,rfl,h⟩
     obtain ⟨n',c,ds,rfl,rfl,hl,hds⟩:=hs
     obtain ⟨ax,xs,rfl,kx,rx⟩:=qy hx
     obtain ⟨ay,ys,rfl,ky,ry⟩:=qy hy
     have lx:=rx.len
     have ly:=ry.len
     refine ⟨tY c,"tuple","list",(ky.same y1).ty,ad,rfl,rfl,?_⟩
     refine mK (fun _=>?_) (fun e=>absurd e (by cases c <;> decide))
     refine ⟨tY c,(kx.same y1).ty,rfl,tY c,(ky.same y1).ty,rfl,?_⟩
     refine mK (fun e=>absurd e (by cases c <;> decide)) (fun _=>?_)
     refine ⟨tY c,(kx.same y1).ty,rfl,tY c,(ky.same y1).ty,rfl,?_⟩
     refine mK (fun e=>absurd e (by cases c <;> decide)) (fun _=>?_)
     refine ⟨xs,(kx.same y1).len,ys,(ky.same y1).len,?_⟩
     rw [lx,ly]
     refine mK (fun _=>?_) (fun e=>absurd e (by simp))
     refine ⟨c,c,xs,ys,kx.same y1,ky.same y1,?_⟩
     refine nk (xs:=xs) (ys:=ys) (fun j zs H'=>Same H H'/\zs=(List.replicate j true).map V.bl) ⟨y1,rfl⟩ ?_ ?_ ?_ ?_
     · rintro j zs H' _ ⟨y',_⟩
       exact ⟨kx.same y',ky.same y'⟩
     · rintro j zs H' hj ⟨_,rfl⟩
       rw [List.length_map,List.length_replicate]
       exact aA (by lia)
     · rintro j u v zs H' p hu' hv' ⟨y',rfl⟩ hp
       have yp:=Same.new hp (.tup [u,v])
       refine ⟨p,_,rfl,SqT.of ad,rfl,_,_,rfl,_,_,rfl,rfl,?_⟩
       obtain ⟨d1',e1,g1⟩:=rx.get hu'
       obtain ⟨d2',e2,g2⟩:=ry.get hv'
       rw [e1] at e2
       cases e2
       refine ⟨u,v,d1',rfl,(g1.same y').same yp,(g2.same y').same yp,hds _ (List.mem_of_getElem? e1),fun H3 y3=>?_⟩
       exact ⟨(y'.trans yp).trans y3,oH j⟩
     · rintro zs H' ⟨y',rfl⟩ D hD
       refine ⟨_,SqL.of ad,?_⟩
       rw [rD]
       exact q _ (y'.trans (Same.new hD _))
theorem sP (n:Nat) (F:Fun K "_law_same" "_law_same" (top 28) f fd) (m_all:mg "all" = none) (m_bool:mg "bool" = none) (m_int:mg "int" = none) (m_isinstance:mg "isinstance" = none) (m_len:mg "len" = none) (m_list:mg "list" = none) (m_str:mg "str" = none) (m_tuple:mg "tuple" = none) (m_zip:mg "zip" = none) (b:Binds K fd ["_law_found","_law_due"] []) (kp:PySem.W.keepIn K (.ref f)=true) (m:mg "_law_same" = some (.ref f)):FnOk P w K mg base CX0 n f fd ["_law_found","_law_due"] (ii n):=ok_sm F m_all m_bool m_int m_isinstance m_len m_list m_str m_tuple m_zip b kp m n
end
end K41
namespace M39
def bd (ns:List Int) (k:Nat):List Int:=(List.range k).map fun (i:Nat)=>ns.getD i 0+k - 1 - i
theorem aO (ns:List Int) (k:Nat):(bd ns k).length=k:=by unfold bd;rw [List.length_map,List.length_range]
def ct (ns:List Int) (k t r:Nat):Nat:=(bd ns k).countP fun b=>decide (b % (t:Int)=(r:Int))
def rd (ns:List Int) (t:Nat):Nat:=(ns.length+t - 1) / t
theorem fL (ns:List Int) {t:Nat} (ht:0<t):ns.length<=t*rd ns t:=by
 unfold rd
 have:=Nat.div_add_mod (ns.length+t - 1) t
 have h2:=Nat.mod_lt (ns.length+t - 1) ht
 lia
theorem lA (ns:List Int) {t:Nat} (ht:0<t):t*rd ns t<=ns.length+t - 1:=by
 unfold rd
 have:=Nat.div_add_mod (ns.length+t - 1) t
 lia
theorem ni:∀ (t c:Nat),(List.range t).countP (fun j=>decide (j=c))=if c<t then 1 else 0
 | 0,c=>by simp
 | t+1,c=>by
   rw [List.range_succ,List.countP_append,ni t c,List.countP_singleton]
   by_cases h:t=c
   · subst h
     rw [if_neg (Nat.lt_irrefl _),if_pos (decide_eq_true rfl),if_pos (Nat.lt_succ_self _)]
   · rw [if_neg (show ¬ decide (t=c)=true by simpa using h)]
     by_cases h2:c<t
     · rw [if_pos h2,if_pos (by lia)]
     · rw [if_neg h2,if_neg (by lia)]
theorem tF {ns:List Int} {k t r:Nat} (hk:ns.length<=k) (hr:r<t):ct ns (k+t) t r=ct ns k t r+1:=by
 have hz:((t:Int))≠0:=by lia
 unfold ct bd
 rw [List.range_add,List.map_append,List.countP_append,List.map_map,List.countP_map,List.countP_map,List.countP_map]
 have e1:List.countP ((fun b=>decide (b % (t:Int)=(r:Int))) ∘ fun (i:Nat)=>ns.getD i 0+((k+t:Nat):Int) - 1 - i) (List.range k)=List.countP ((fun b=>decide (b % (t:Int)=(r:Int))) ∘ fun (i:Nat)=>ns.getD i 0+(k:Int) - 1 - i) (List.range k):=by
  refine List.countP_congr fun i _=>?_
  have:ns.getD i 0+((k+t:Nat):Int) - 1 - (i:Int)=(ns.getD i 0+(k:Int) - 1 - i)+t:=by lia
  show decide ((ns.getD i 0+((k+t:Nat):Int) - 1 - (i:Int)) % (t:Int)=(r:Int))=true↔decide ((ns.getD i 0+(k:Int) - 1 - (i:Int)) % (t:Int)=(r:Int))=true
  rw [decide_eq_true_iff,decide_eq_true_iff,this,Int.add_emod_right]
 have e2:List.countP ((fun b=>decide (b % (t:Int)=(r:Int))) ∘ ((fun (i:Nat)=>ns.getD i 0+((k+t:Nat):Int) - 1 - i) ∘ fun x=>k+x)) (List.range t)=1:=by
  have h:=ni t (t - 1 - r)
  rw [if_pos (by lia)] at h
  rw [← h]
  refine List.countP_congr fun j hj=>?_
  have hj':=List.mem_range.mp hj
  show decide ((ns.getD (k+j) 0+((k+t:Nat):Int) - 1 - ((k+j:Nat):Int)) % (t:Int)=(r:Int))=true↔decide (j=t - 1 - r)=true
  rw [decide_eq_true_iff,decide_eq_true_iff]
  have g:ns.getD (k+j) 0=0:=by
   rw [List.getD_eq_getElem?_getD,List.getElem?_eq_none (by lia)]
   rfl
  rw [g]
  have:(0:Int)+((k+t:Nat):Int) - 1 - ((k+j:Nat):Int)=((t - 1 - j:Nat):Int):=by lia
  rw [this]
  have hm:((t - 1 - j:Nat):Int) % (t:Int)=((t - 1 - j:Nat):Int):=Int.emod_eq_of_lt (by lia) (by lia)
  rw [hm]
  lia
 rw [e1,e2]
theorem cF {ns:List Int} {t r:Nat} (hr:r<t):∀ m:Nat,ct ns (t*(rd ns t+m)) t r=ct ns (t*rd ns t) t r+m
 | 0=>rfl
 | m+1=>by
   have e:t*(rd ns t+(m+1))=t*(rd ns t+m)+t:=by rw [← Nat.add_assoc,Nat.mul_add,Nat.mul_one]
   have:=fL ns (t:=t) (by lia)
   rw [e,tF (by rw [Nat.mul_add];lia) hr,cF hr m]
   rfl
theorem bC (f g:Nat->Int):∀ l:List Nat,(l.map fun r=>f r+g r).sum=(l.map f).sum+(l.map g).sum
 | []=>by simp
 | x::l=>by simp only [List.map_cons,List.sum_cons,bC f g l];lia
theorem sum_one (t:Nat) (c:Int) (h0:0<=c) (h1:c<t):((List.range t).map fun (r:Nat)=>if c=(r:Int) then (1:Int) else 0).sum=1:=by
 have key:∀ n:Nat,((List.range n).map fun (r:Nat)=>if c=(r:Int) then (1:Int) else 0).sum=if c<n then 1 else 0:=by
  intro n
  induction n with
  | zero=>simp;lia
  | succ n ih=>
    rw [List.range_succ,List.map_append,List.sum_append,ih]
    simp only [List.map_cons,List.map_nil,List.sum_cons,List.sum_nil]
    by_cases h:c=(n:Int)
    · rw [if_neg (by lia),if_pos h,if_pos (by lia)];rfl
    · rw [if_neg h]
      by_cases h2:c<n
      · rw [if_pos h2,if_pos (by lia)];rfl
      · rw [if_neg h2,if_neg (by lia)];rfl
 rw [key,if_pos h1]
theorem dP (t:Nat) (ht:0<t):∀ l:List Int,((List.range t).map fun (r:Nat)=>((l.countP fun b=>decide (b % (t:Int)=(r:Int)):Nat):Int)).sum=l.length
 | []=>by
   have:((List.range t).map fun (r:Nat)=>(((([]:List Int).countP fun b=>decide (b % (t:Int)=(r:Int))):Nat):Int))=(List.range t).map fun _=>(0:Int):=List.map_congr_left fun _ _=>rfl
   rw [this]
   have:∀ l:List Nat,(l.map fun _=>(0:Int)).sum=0:=by
    intro l
    induction l with
    | nil=>rfl
    | cons x l ih=>rw [List.map_cons,List.sum_cons,ih];rfl
   rw [this];rfl
 | x::l=>by
   have e:((List.range t).map fun (r:Nat)=>((((x::l).countP fun b=>decide (b % (t:Int)=(r:Int))):Nat):Int))=(List.range t).map fun (r:Nat)=>((l.countP fun b=>decide (b % (t:Int)=(r:Int)):Nat):Int)+(if x % (t:Int)=(r:Int) then (1:Int) else 0):=by
    refine List.map_congr_left fun r _=>?_
    rw [List.countP_cons]
    by_cases h:x % (t:Int)=(r:Int)
    · rw [if_pos h,if_pos (decide_eq_true h)];lia
    · rw [if_neg h,if_neg (by simpa using h)];lia
   rw [e,bC,dP t ht l,sum_one t _ (Int.emod_nonneg _ (by lia)) (Int.emod_lt_of_pos _ (by lia)),List.length_cons]
   lia
end M39
namespace M40
open M39
def asc (l:List Int):List Int:=l.mergeSort fun a b=>decide (a<=b)
theorem aM (l:List Int):(asc l).Perm l:=List.mergeSort_perm _ _
theorem jx (l:List Int):(asc l).Pairwise (·<=·):=by
 have:=List.pairwise_mergeSort (le:=fun a b:Int=>decide (a<=b)) (fun a b c h1 h2=>by simp at *;lia) (fun a b=>by simp;lia) l
 exact this.imp fun h=>by simpa using h
theorem kH:∀ {l m:List Int},l.Perm m->l.Pairwise (·<=·)->m.Pairwise (·<=·)->l=m
 | [],m,h,_,_=>(List.Perm.nil_eq h)
 | a::l,[],h,_,_=>by cases h.length_eq
 | a::l,b::m,h,h1,h2=>by
   have ha:a∈b::m:=h.mem_iff.mp List.mem_cons_self
   have hb:b∈a::l:=h.mem_iff.mpr List.mem_cons_self
   have e:a=b:=by
    rcases List.mem_cons.mp ha with e | ha
    · exact e
    · rcases List.mem_cons.mp hb with e | hb
      · exact e.symm
      · have:=List.rel_of_pairwise_cons h1 hb
        have:=List.rel_of_pairwise_cons h2 ha
        lia
   subst e
   rw [kH (List.Perm.cons_inv h) (List.Pairwise.of_cons h1) (List.Pairwise.of_cons h2)]
theorem fz {l m:List Int} (h:m.Perm l) (hm:m.Pairwise (·<=·)):m=asc l:=kH (h.trans (aM l).symm) hm (jx l)
theorem asc_of {l m:List Int} (h:l.Perm m):asc l=asc m:=fz ((aM l).trans h) (jx l)
theorem ck (l:List Int):(asc l).length=l.length:=(aM l).length_eq
def dl (as:List Int):List Int:=(List.range as.length).map fun (j:Nat)=>as.getD j 0 - j
def pt (bs:List Int):List Int:=(dl (asc bs)).reverse.filter fun x=>decide (0<x)
theorem dz (as:List Int):(dl as).length=as.length:=by unfold dl;simp
theorem jH {l m:List Int} (h:l.Perm m):pt l=pt m:=by unfold pt;rw [asc_of h]
theorem rng_up (m:Nat):((List.range m).map fun (i:Nat)=>(i:Int)).Pairwise (·<=·):=by
 refine List.pairwise_map.mpr (List.pairwise_lt_range.imp fun h=>?_)
 lia
theorem nW {bs:List Int} (m:Nat) (h0:∀ b∈bs,(0:Int)<=b):asc (((List.range m).map fun (i:Nat)=>(i:Int))++bs.map fun (b:Int)=>b+(m:Int))=((List.range m).map fun (i:Nat)=>(i:Int))++(asc bs).map fun (b:Int)=>b+(m:Int):=by
 refine (fz ?_ ?_).symm
 · exact (List.Perm.refl _).append ((aM bs).map _)
 · refine List.pairwise_append.mpr ⟨rng_up m,List.pairwise_map.mpr ((jx bs).imp fun h=>by lia),fun x hx y hy=>?_⟩
   obtain ⟨i,hi,rfl⟩:=List.mem_map.mp hx
   obtain ⟨b,hb,rfl⟩:=List.mem_map.mp hy
   have:=List.mem_range.mp hi
   have:=h0 b ((aM bs).mem_iff.mp hb)
   lia
theorem p7 (m:Nat) (as:List Int):dl (((List.range m).map fun (i:Nat)=>(i:Int))++as.map fun (b:Int)=>b+(m:Int))=List.replicate m 0++dl as:=by
 unfold dl
 refine List.ext_getElem (by simp) fun j h1 h2=>?_
 have hl:j<m+as.length:=by simpa using h1
 rw [List.getElem_map,List.getElem_range]
 by_cases hj:j<m
 · rw [List.getElem_append_left (by simpa using hj),List.getElem_replicate,List.getD_eq_getElem?_getD,List.getElem?_append_left (by simpa using hj),List.getElem?_map,List.getElem?_range hj]
   show ((j:Nat):Int) - j=0
   lia
 · rw [List.getElem_append_right (by simpa using hj),List.getElem_map,List.getElem_range,List.getD_eq_getElem?_getD,List.getElem?_append_right (by simpa using hj),List.getElem?_map]
   have hk:j - m<as.length:=by lia
   simp only [List.length_map,List.length_range,List.length_replicate]
   rw [List.getElem?_eq_getElem hk,List.getD_eq_getElem?_getD,List.getElem?_eq_getElem hk]
   show as[j - m]+(m:Int) - (j:Int)=as[j - m] - ((j - m:Nat):Int)
   lia
theorem i4 {bs cs:List Int} (m:Nat) (h0:∀ b∈bs,(0:Int)<=b) (h:cs.Perm (((List.range m).map fun (i:Nat)=>(i:Int))++bs.map fun (b:Int)=>b+(m:Int))):pt cs=pt bs:=by
 rw [jH h]
 unfold pt
 rw [nW m h0,p7,List.reverse_append,List.filter_append]
 have:(List.replicate m (0:Int)).reverse.filter (fun x=>decide (0<x))=[]:=by
  rw [List.reverse_replicate,List.filter_replicate]
  rfl
 rw [this,List.append_nil]
def rq (bs:List Int) (t r:Nat):List Int:=(bs.filter fun b=>decide (b % (t:Int)=(r:Int))).map fun b=>b / (t:Int)
theorem i5:∀ (t r:Nat),r<t->(List.range t).filter (fun j=>decide (j=r))=[r]
 | 0,r,h=>by lia
 | t+1,r,h=>by
   rw [List.range_succ,List.filter_append]
   by_cases e:r=t
   · subst e
     have:(List.range r).filter (fun j=>decide (j=r))=[]:=by
      refine List.filter_eq_nil_iff.mpr fun j hj=>?_
      have:=List.mem_range.mp hj
      simp
      lia
     rw [this]
     simp
   · rw [i5 t r (by lia),List.filter_cons_of_neg (by simp;lia)]
     rfl
theorem nT {ns:List Int} {k:Nat} (t:Nat) (hk:ns.length<=k):bd ns (k+t)=(bd ns k).map (fun (b:Int)=>b+(t:Int))++((List.range t).reverse.map fun (j:Nat)=>(j:Int)):=by
 unfold bd
 rw [List.range_add,List.map_append,List.map_map,List.map_map]
 congr 1
 · refine List.map_congr_left fun i _=>?_
   show ns.getD i 0+((k+t:Nat):Int) - 1 - (i:Int)=ns.getD i 0+(k:Int) - 1 - i+t
   lia
 · refine List.ext_getElem (by simp) fun j h1 h2=>?_
   have hj:j<t:=by simpa using h1
   rw [List.getElem_map,List.getElem_range,List.getElem_map,List.getElem_reverse,List.getElem_range]
   show ns.getD (k+j) 0+((k+t:Nat):Int) - 1 - ((k+j:Nat):Int)=_
   have g:ns.getD (k+j) 0=0:=by
    rw [List.getD_eq_getElem?_getD,List.getElem?_eq_none (by lia)]
    rfl
   rw [g]
   simp only [List.length_range]
   lia
theorem rA {ns:List Int} {k t r:Nat} (hk:ns.length<=k) (hr:r<t):rq (bd ns (k+t)) t r=(rq (bd ns k) t r).map (fun (b:Int)=>b+((1:Nat):Int))++[0]:=by
 have hz:((t:Int))≠0:=by lia
 unfold rq
 rw [nT t hk,List.filter_append,List.map_append]
 congr 1
 · rw [List.filter_map,List.map_map,List.map_map]
   have e1:((fun (b:Int)=>decide (b % (t:Int)=(r:Int))) ∘ fun (b:Int)=>b+(t:Int))=fun (b:Int)=>decide (b % (t:Int)=(r:Int)):=by
    funext b
    show decide ((b+(t:Int)) % (t:Int)=(r:Int))=_
    rw [Int.add_emod_right]
   rw [e1]
   refine List.map_congr_left fun b _=>?_
   show (b+(t:Int)) / (t:Int)=b / (t:Int)+((1:Nat):Int)
   rw [Int.add_ediv_of_dvd_right (Int.dvd_refl _),Int.ediv_self hz]
   rfl
 · rw [List.filter_map,List.filter_congr (q:=fun j=>decide (j=r)) fun j hj=>?_]
   · rw [List.filter_reverse,i5 t r hr]
     show [(r:Int) / (t:Int)]=[0]
     rw [Int.ediv_eq_zero_of_lt (by lia) (by lia)]
   · have:=List.mem_range.mp (List.mem_reverse.mp hj)
     show decide ((j:Int) % (t:Int)=(r:Int))=decide (j=r)
     rw [Int.emod_eq_of_lt (by lia) (by lia)]
     by_cases e:j=r
     · subst e;simp
     · rw [decide_eq_false e,decide_eq_false (by lia)]
theorem rq_nn {bs:List Int} {t r:Nat} (h:∀ b∈bs,(0:Int)<=b):∀ x∈rq bs t r,(0:Int)<=x:=fun x hx=>by
 obtain ⟨b,hb,rfl⟩:=List.mem_map.mp hx
 exact Int.ediv_nonneg (h b (List.mem_filter.mp hb).1) (by lia)
theorem gV {ns:List Int} {k:Nat} (h:∀ n∈ns,(0:Int)<=n):∀ b∈bd ns k,(0:Int)<=b:=fun b hb=>by
 obtain ⟨i,hi,rfl⟩:=List.mem_map.mp hb
 have:=List.mem_range.mp hi
 have h0:(0:Int)<=ns.getD i 0:=by
  rw [List.getD_eq_getElem?_getD]
  cases e:ns[i]? with
  | none=>exact Int.le_refl _
  | some n=>exact h n (List.mem_of_getElem? e)
 lia
theorem oU {ns:List Int} {k t r:Nat} (hn:∀ n∈ns,(0:Int)<=n) (hk:ns.length<=k) (hr:r<t):pt (rq (bd ns (k+t)) t r)=pt (rq (bd ns k) t r):=by
 rw [rA hk hr]
 refine i4 1 (rq_nn (gV hn)) ?_
 exact List.perm_append_comm
theorem fN {ns:List Int} {t r:Nat} (hn:∀ n∈ns,(0:Int)<=n) (hr:r<t):∀ m:Nat,pt (rq (bd ns (t*(rd ns t+m))) t r)=pt (rq (bd ns (t*rd ns t)) t r)
 | 0=>rfl
 | m+1=>by
   rw [← fN hn hr m]
   have e:t*(rd ns t+(m+1))=t*(rd ns t+m)+t:=by rw [← Nat.add_assoc,Nat.mul_succ]
   rw [e]
   refine oU hn ?_ hr
   have:=fL ns (t:=t) (by lia)
   have:t*rd ns t<=t*(rd ns t+m):=Nat.mul_le_mul_left _ (by lia)
   lia
def aE (t:Nat) (c:Nat->Nat):List Int:=(List.range t).flatMap fun (r:Nat)=>(List.range (c r)).map fun (i:Nat)=>((r+t*i:Nat):Int)
theorem cS (t:Nat) (c:Nat->Nat):∀ b∈aE t c,(0:Int)<=b:=fun b hb=>by
 obtain ⟨r,_,hb⟩:=List.mem_flatMap.mp hb
 obtain ⟨i,_,rfl⟩:=List.mem_map.mp hb
 lia
theorem gH (f:Nat->Int) (g:Nat->List Int):∀ l:List Nat,(l.flatMap fun r=>f r::g r).Perm (l.map f++l.flatMap g)
 | []=>List.Perm.refl _
 | r::l=>by
   rw [List.flatMap_cons,List.flatMap_cons,List.map_cons,List.cons_append,List.cons_append]
   refine List.Perm.cons _ ?_
   refine ((gH f g l).append_left (g r)).trans ?_
   rw [← List.append_assoc,← List.append_assoc]
   exact List.Perm.append_right _ List.perm_append_comm
theorem ft (t:Nat) (c:Nat->Nat):pt (aE t fun r=>c r+1)=pt (aE t c):=by
 refine i4 t (cS t c) ?_
 unfold aE
 have e:(fun (r:Nat)=>(List.range (c r+1)).map fun (i:Nat)=>((r+t*i:Nat):Int))=fun (r:Nat)=>(r:Int)::((List.range (c r)).map fun (i:Nat)=>((r+t*i:Nat):Int)+(t:Int)):=by
  funext r
  rw [List.range_succ_eq_map,List.map_cons,List.map_map]
  congr 1
  refine List.map_congr_left fun i _=>?_
  show ((r+t*(i+1):Nat):Int)=((r+t*i:Nat):Int)+(t:Int)
  rw [Nat.mul_succ]
  lia
 rw [e]
 refine (gH _ _ _).trans ?_
 rw [List.map_flatMap]
 refine List.Perm.append_left _ (List.Perm.of_eq ?_)
 congr 1
 funext r
 rw [List.map_map]
 rfl
theorem iT {a b:List Int} (h:a.Perm b):a.sum=b.sum:=by
 induction h with
 | nil=>rfl
 | cons x _ ih=>rw [List.sum_cons,List.sum_cons,ih]
 | swap x y l=>simp only [List.sum_cons];lia
 | trans _ _ h1 h2=>rw [h1,h2]
theorem kS:∀ {l:List Int},(∀ x∈l,(0:Int)<=x)->(l.filter fun x=>decide (0<x)).sum=l.sum
 | [],_=>rfl
 | x::l,h=>by
   have ih:=kS fun y hy=>h y (List.mem_cons_of_mem _ hy)
   have:=h x List.mem_cons_self
   by_cases hx:0<x
   · rw [List.filter_cons_of_pos (by simpa using hx),List.sum_cons,List.sum_cons,ih]
   · rw [List.filter_cons_of_neg (by simpa using hx),List.sum_cons,ih]
     lia
theorem rc {as:List Int} (h:as.Pairwise (· < ·)) (h0:∀ b∈as,(0:Int)<=b):∀ (j:Nat) (hj:j<as.length),(j:Int)<=as[j]
 | 0,hj=>h0 _ (List.getElem_mem hj)
 | j+1,hj=>by
   have h1:=rc h h0 j (by lia)
   have h2:=List.pairwise_iff_getElem.mp h j (j+1) (by lia) hj (by lia)
   lia
theorem jy {bs:List Int} (h:bs.Nodup):(asc bs).Pairwise (· < ·):=by
 have h1:=jx bs
 have h2:(asc bs).Nodup:=(aM bs).nodup_iff.mpr h
 exact (List.pairwise_and_iff.mpr ⟨h1,h2⟩).imp fun ⟨a,b⟩=>by lia
theorem dl_nn {bs:List Int} (h:bs.Nodup) (h0:∀ b∈bs,(0:Int)<=b):∀ x∈dl (asc bs),(0:Int)<=x:=fun x hx=>by
 obtain ⟨j,hj,rfl⟩:=List.mem_map.mp hx
 have hj':=List.mem_range.mp hj
 rw [List.getD_eq_getElem?_getD,List.getElem?_eq_getElem hj']
 have:=rc (jy h) (fun b hb=>h0 b ((aM bs).mem_iff.mp hb)) j hj'
 show (0:Int)<=(asc bs)[j] - j
 lia
theorem dl_sum:∀ (as:List Int),2*(dl as).sum+(as.length:Int)*((as.length:Int) - 1)=2*as.sum:=by
 intro as
 have go:∀ (m:Nat) (f:Nat->Int),2*((List.range m).map fun (j:Nat)=>f j - j).sum+(m:Int)*((m:Int) - 1)=2*((List.range m).map f).sum:=by
  intro m f
  induction m with
  | zero=>rfl
  | succ m ih=>
    rw [List.range_succ,List.map_append,List.map_append,List.sum_append,List.sum_append]
    simp only [List.map_cons,List.map_nil,List.sum_cons,List.sum_nil]
    have e:((m+1:Nat):Int)*(((m+1:Nat):Int) - 1)=(m:Int)*((m:Int) - 1)+2*m:=by
     have:((m+1:Nat):Int)=(m:Int)+1:=by lia
     rw [this,Int.add_mul,Int.one_mul,show (m:Int)+1 - 1=(m:Int) by lia,Int.mul_sub,Int.mul_one]
     lia
    rw [e]
    lia
 have:=go as.length fun j=>as.getD j 0
 unfold dl
 rw [this]
 congr 2
 refine List.ext_getElem (by simp) fun j h1 h2=>?_
 rw [List.getElem_map,List.getElem_range,List.getD_eq_getElem?_getD,List.getElem?_eq_getElem h2]
 rfl
theorem lE {bs:List Int} (h:bs.Nodup) (h0:∀ b∈bs,(0:Int)<=b):2*(pt bs).sum+(bs.length:Int)*((bs.length:Int) - 1)=2*bs.sum:=by
 unfold pt
 rw [kS (fun x hx=>dl_nn h h0 x (List.mem_reverse.mp hx)),iT (List.reverse_perm _)]
 have:=dl_sum (asc bs)
 rw [ck,iT (aM bs)] at this
 exact this
theorem tu {ns:List Int} (hw:ns.Pairwise (·>=·)) (hn:∀ n∈ns,(0:Int)<=n) {i j:Nat} (h:i<j):ns.getD j 0<=ns.getD i 0:=by
 rw [List.getD_eq_getElem?_getD,List.getD_eq_getElem?_getD]
 by_cases hj:j<ns.length
 · rw [List.getElem?_eq_getElem hj,List.getElem?_eq_getElem (show i<ns.length by lia)]
   exact List.pairwise_iff_getElem.mp hw i j (by lia) hj h
 · rw [List.getElem?_eq_none (by lia)]
   cases e:ns[i]? with
   | none=>exact Int.le_refl _
   | some n=>exact hn n (List.mem_of_getElem? e)
theorem nU {ns:List Int} {k:Nat} (hw:ns.Pairwise (·>=·)) (hn:∀ n∈ns,(0:Int)<=n):(bd ns k).Pairwise (· > ·):=by
 unfold bd
 refine List.pairwise_map.mpr (List.pairwise_lt_range.imp fun {i j} h=>?_)
 have:=tu hw hn h
 show ns.getD j 0+(k:Int) - 1 - j<ns.getD i 0+(k:Int) - 1 - i
 lia
theorem cu {ns:List Int} {k:Nat} (hw:ns.Pairwise (·>=·)) (hn:∀ n∈ns,(0:Int)<=n):(bd ns k).Nodup:=(nU hw hn).imp fun h=>by lia
theorem fK {bs:List Int} {t r:Nat} (ht:0<t) (h:bs.Nodup):(rq bs t r).Nodup:=by
 unfold rq
 refine List.pairwise_map.mpr ((List.Pairwise.filter _ h).imp_of_mem fun {a b} ha hb hab e=>hab ?_)
 have h1:a % (t:Int)=(r:Int):=by simpa using (List.mem_filter.mp ha).2
 have h2:b % (t:Int)=(r:Int):=by simpa using (List.mem_filter.mp hb).2
 rw [← Int.emod_add_mul_ediv a t,← Int.emod_add_mul_ediv b t,h1,h2,e]
theorem lu:∀ m:Nat,2*((List.range m).map fun (j:Nat)=>(j:Int)).sum=(m:Int)*((m:Int) - 1)
 | 0=>rfl
 | m+1=>by
   rw [List.range_succ,List.map_append,List.sum_append]
   simp only [List.map_cons,List.map_nil,List.sum_cons,List.sum_nil]
   have ih:=lu m
   have e:((m+1:Nat):Int)*(((m+1:Nat):Int) - 1)=(m:Int)*((m:Int) - 1)+2*m:=by
    have:((m+1:Nat):Int)=(m:Int)+1:=by lia
    rw [this,Int.add_mul,Int.one_mul,show (m:Int)+1 - 1=(m:Int) by lia,Int.mul_sub,Int.mul_one]
    lia
   rw [e]
   lia
theorem ji:∀ (ns:List Int) (k:Nat),ns.length<=k->((List.range k).map fun (i:Nat)=>ns.getD i 0).sum=ns.sum
 | [],k,_=>by
   have:((List.range k).map fun (i:Nat)=>([]:List Int).getD i 0)=List.replicate k 0:=by
    refine List.ext_getElem (by simp) fun j h1 h2=>by simp
   rw [this]
   simp
 | n::r,0,h=>by cases h
 | n::r,k+1,h=>by
   rw [List.range_succ_eq_map,List.map_cons,List.sum_cons,List.map_map,List.sum_cons,← ji r k (by simpa using h)]
   rfl
theorem bd_sum {ns:List Int} {k:Nat} (h:ns.length<=k):2*(bd ns k).sum=2*ns.sum+(k:Int)*((k:Int) - 1):=by
 unfold bd
 have e:∀ m:Nat,2*((List.range m).map fun (i:Nat)=>ns.getD i 0+(k:Int) - 1 - i).sum=2*((List.range m).map fun (i:Nat)=>ns.getD i 0).sum+2*((m:Int)*((k:Int) - 1)) - 2*((List.range m).map fun (j:Nat)=>(j:Int)).sum:=by
  intro m
  induction m with
  | zero=>simp
  | succ m ih=>
    rw [List.range_succ,List.map_append,List.map_append,List.map_append,List.sum_append,List.sum_append,List.sum_append]
    simp only [List.map_cons,List.map_nil,List.sum_cons,List.sum_nil]
    have e:((m+1:Nat):Int)*((k:Int) - 1)=(m:Int)*((k:Int) - 1)+((k:Int) - 1):=by
     rw [show ((m+1:Nat):Int)=(m:Int)+1 by lia,Int.add_mul,Int.one_mul]
    rw [e]
    lia
 rw [e k,ji ns k h,lu]
 lia
theorem be (c:Int) (f:Nat->Int):∀ l:List Nat,(l.map fun r=>c*f r).sum=c*(l.map f).sum
 | []=>by simp
 | r::l=>by rw [List.map_cons,List.sum_cons,List.map_cons,List.sum_cons,be c f l,Int.mul_add]
def cnt (bs:List Int) (t r:Nat):Nat:=bs.countP fun b=>decide (b % (t:Int)=(r:Int))
theorem fh (bs:List Int) (t r:Nat):(rq bs t r).length=cnt bs t r:=by
 unfold rq cnt
 rw [List.length_map,List.countP_eq_length_filter]
theorem fG:∀ l:List Nat,(l.map fun _=>(0:Int)).sum=0
 | []=>rfl
 | _::l=>by rw [List.map_cons,List.sum_cons,fG l];rfl
theorem gq {t:Nat} (ht:0<t):∀ (bs:List Int),(∀ b∈bs,(0:Int)<=b)->((List.range t).map fun (r:Nat)=>(r:Int)*(cnt bs t r:Int)+(t:Int)*(rq bs t r).sum).sum=bs.sum
 | [],_=>by
   have:((List.range t).map fun (r:Nat)=>(r:Int)*(cnt [] t r:Int)+(t:Int)*(rq [] t r).sum)=(List.range t).map fun _=>(0:Int):=by
    refine List.map_congr_left fun r _=>?_
    show (r:Int)*((0:Nat):Int)+(t:Int)*0=0
    simp
   rw [this,fG]
   rfl
 | b::bs,h=>by
   have ih:=gq ht bs fun x hx=>h x (List.mem_cons_of_mem _ hx)
   rw [List.sum_cons,← ih]
   have h0:0<=b % (t:Int):=Int.emod_nonneg _ (by lia)
   have h1:b % (t:Int)<t:=Int.emod_lt_of_pos _ (by lia)
   have one:=sum_one t (b % (t:Int)) h0 h1
   have e:((List.range t).map fun (r:Nat)=>(r:Int)*(cnt (b::bs) t r:Int)+(t:Int)*(rq (b::bs) t r).sum)=(List.range t).map fun (r:Nat)=>(if b % (t:Int)=(r:Int) then b else 0)+((r:Int)*(cnt bs t r:Int)+(t:Int)*(rq bs t r).sum):=by
    refine List.map_congr_left fun r _=>?_
    unfold cnt rq
    by_cases hr:b % (t:Int)=(r:Int)
    · rw [if_pos hr,List.countP_cons_of_pos (by simpa using hr),List.filter_cons_of_pos (by simpa using hr),List.map_cons,List.sum_cons]
      have:=Int.emod_add_mul_ediv b t
      rw [hr] at this
      rw [show ((bs.countP (fun b=>decide (b % (t:Int)=(r:Int)))+1:Nat):Int)=(bs.countP (fun b=>decide (b % (t:Int)=(r:Int))):Int)+1 by lia,Int.mul_add,Int.mul_add,Int.mul_one]
      lia
    · rw [if_neg hr,List.countP_cons_of_neg (by simpa using hr),List.filter_cons_of_neg (by simpa using hr)]
      lia
   rw [e,bC]
   congr 1
   have e2:((List.range t).map fun (r:Nat)=>if b % (t:Int)=(r:Int) then b else 0)=(List.range t).map fun (r:Nat)=>b*(if b % (t:Int)=(r:Int) then (1:Int) else 0):=by
    refine List.map_congr_left fun r _=>?_
    split <;> simp
   rw [e2,be,one,Int.mul_one]
theorem bi {t:Nat} (ht:0<t) {c:Nat->Nat} {x:Int}:x∈aE t c↔∃ r i:Nat,r<t/\i<c r/\x=((r+t*i:Nat):Int):=by
 unfold aE
 rw [List.mem_flatMap]
 constructor
 · rintro ⟨r,hr,hx⟩
   obtain ⟨i,hi,rfl⟩:=List.mem_map.mp hx
   exact ⟨r,i,List.mem_range.mp hr,List.mem_range.mp hi,rfl⟩
 · rintro ⟨r,i,hr,hi,rfl⟩
   exact ⟨r,List.mem_range.mpr hr,List.mem_map.mpr ⟨i,List.mem_range.mpr hi,rfl⟩⟩
theorem bZ {t r r' i i':Nat} (hr:r<t) (hr':r' < t) (e:r+t*i=r' + t*i'):r=r'/\i=i':=by
 have h1:(r+t*i) % t=r:=by rw [Nat.add_mul_mod_self_left,Nat.mod_eq_of_lt hr]
 have h2:(r' + t*i') % t=r':=by rw [Nat.add_mul_mod_self_left,Nat.mod_eq_of_lt hr']
 have h3:r=r':=by rw [← h1,← h2,e]
 subst h3
 have:t*i=t*i':=by lia
 exact ⟨rfl,Nat.eq_of_mul_eq_mul_left (by lia) this⟩
theorem bb {t:Nat} (ht:0<t) (c:Nat->Nat):(aE t c).Nodup:=by
 unfold aE List.Nodup
 refine List.pairwise_flatMap.mpr ⟨fun r hr=>?_,List.pairwise_lt_range.imp_of_mem fun {r r'} hr hr' h x hx y hy e=>?_⟩
 · refine List.pairwise_map.mpr (List.pairwise_lt_range.imp fun {i j} h e=>?_)
   have:=(bZ (List.mem_range.mp hr) (List.mem_range.mp hr) (show r+t*i=r+t*j by lia)).2
   lia
 · obtain ⟨i,_,rfl⟩:=List.mem_map.mp hx
   obtain ⟨j,_,e'⟩:=List.mem_map.mp hy
   have:=(bZ (List.mem_range.mp hr) (List.mem_range.mp hr') (show r+t*i=r' + t*j by lia)).1
   lia
theorem i9 (r t:Nat):∀ m:Nat,2*((List.range m).map fun (i:Nat)=>((r+t*i:Nat):Int)).sum=2*((r:Int)*m)+(t:Int)*((m:Int)*((m:Int) - 1))
 | 0=>by simp
 | m+1=>by
   rw [List.range_succ,List.map_append,List.sum_append,Int.mul_add,i9 r t m]
   simp only [List.map_cons,List.map_nil,List.sum_cons,List.sum_nil]
   have e:((m+1:Nat):Int)*(((m+1:Nat):Int) - 1)=(m:Int)*((m:Int) - 1)+2*m:=by
    have:((m+1:Nat):Int)=(m:Int)+1:=by lia
    rw [this,Int.add_mul,Int.one_mul,show (m:Int)+1 - 1=(m:Int) by lia,Int.mul_sub,Int.mul_one]
    lia
   rw [e,Int.mul_add,show ((m+1:Nat):Int)=(m:Int)+1 by lia,Int.mul_add,Int.mul_one]
   have e3:((r+t*m:Nat):Int)=(r:Int)+(t:Int)*(m:Int):=by rw [Int.natCast_add,Int.natCast_mul]
   rw [e3,Int.mul_add (t:Int),show (t:Int)*(2*(m:Int))=2*((t:Int)*(m:Int)) by rw [← Int.mul_assoc,Int.mul_comm (t:Int) 2,Int.mul_assoc]]
   lia
theorem jl (f:Nat->List Int):∀ l:List Nat,(l.flatMap f).sum=(l.map fun r=>(f r).sum).sum
 | []=>rfl
 | r::l=>by rw [List.flatMap_cons,List.sum_append,List.map_cons,List.sum_cons,jl f l]
theorem fU (f:Nat->List Int):∀ l:List Nat,((l.flatMap f).length:Int)=(l.map fun r=>((f r).length:Int)).sum
 | []=>rfl
 | r::l=>by
   rw [List.flatMap_cons,List.length_append,List.map_cons,List.sum_cons,← fU f l]
   lia
theorem gy (t:Nat) (c:Nat->Nat):2*(aE t c).sum=((List.range t).map fun (r:Nat)=>2*((r:Int)*(c r:Int))+(t:Int)*((c r:Int)*((c r:Int) - 1))).sum:=by
 unfold aE
 rw [jl,← be]
 congr 1
 exact List.map_congr_left fun r _=>i9 r t (c r)
theorem cT (t:Nat) (c:Nat->Nat):((aE t c).length:Int)=((List.range t).map fun (r:Nat)=>(c r:Int)).sum:=by
 unfold aE
 rw [fU]
 congr 1
 refine List.map_congr_left fun r _=>?_
 rw [List.length_map,List.length_range]
theorem rb {ns:List Int} {t k:Nat} (ht:0<t) (hn:∀ n∈ns,(0:Int)<=n) (hw:ns.Pairwise (·>=·)) (hk:ns.length<=k) :
 (pt (aE t fun r=>cnt (bd ns k) t r)).sum+(t:Int)*((List.range t).map fun (r:Nat)=>(pt (rq (bd ns k) t r)).sum).sum=ns.sum:=by
 have h1:=lE (bb ht fun r=>cnt (bd ns k) t r) (cS t _)
 have hl:((aE t fun r=>cnt (bd ns k) t r).length:Int)=k:=by
  rw [cT]
  have:=dP t ht (bd ns k)
  rw [aO] at this
  exact this
 rw [hl,gy] at h1
 have h2:=gq ht (bd ns k) (gV hn)
 have h3:=bd_sum hk
 have h4:((List.range t).map fun (r:Nat)=>2*((r:Int)*(cnt (bd ns k) t r:Int))+(t:Int)*((cnt (bd ns k) t r:Int)*((cnt (bd ns k) t r:Int) - 1))).sum+2*((t:Int)*((List.range t).map fun (r:Nat)=>(pt (rq (bd ns k) t r)).sum).sum)=2*(bd ns k).sum:=by
  rw [← h2,← be 2 (fun (r:Nat)=>(r:Int)*(cnt (bd ns k) t r:Int)+(t:Int)*(rq (bd ns k) t r).sum),← be (t:Int),← be 2,← bC]
  congr 1
  refine List.map_congr_left fun r _=>?_
  have g:=lE (fK (r:=r) ht (cu hw hn)) (rq_nn (t:=t) (r:=r) (gV (k:=k) hn))
  rw [fh] at g
  have g2:(t:Int)*(2*(pt (rq (bd ns k) t r)).sum+(cnt (bd ns k) t r:Int)*((cnt (bd ns k) t r:Int) - 1))=(t:Int)*(2*(rq (bd ns k) t r).sum):=by rw [g]
  rw [Int.mul_add] at g2
  have a1:(t:Int)*(2*(pt (rq (bd ns k) t r)).sum)=2*((t:Int)*(pt (rq (bd ns k) t r)).sum):=by rw [← Int.mul_assoc,Int.mul_comm (t:Int) 2,Int.mul_assoc]
  have a2:(t:Int)*(2*(rq (bd ns k) t r).sum)=2*((t:Int)*(rq (bd ns k) t r).sum):=by rw [← Int.mul_assoc,Int.mul_comm (t:Int) 2,Int.mul_assoc]
  rw [a1,a2] at g2
  rw [Int.mul_add]
  lia
 lia
theorem gJ:∀ {l:List Int},l.Pairwise (·>=·)->(∀ x∈l,(0:Int)<=x)->∀ i:Nat,(l.filter fun x=>decide (0<x)).getD i 0=l.getD i 0
 | [],_,_,_=>rfl
 | x::l,h,h0,i=>by
   by_cases hx:0<x
   · rw [List.filter_cons_of_pos (by simpa using hx)]
     cases i with
     | zero=>rfl
     | succ i=>exact gJ (List.Pairwise.of_cons h) (fun y hy=>h0 y (List.mem_cons_of_mem _ hy)) i
   · have hz:∀ y∈x::l,y=0:=fun y hy=>by
      have:=h0 y hy
      rcases List.mem_cons.mp hy with rfl | hy
      · lia
      · have:=List.rel_of_pairwise_cons h hy
        lia
     have e:(x::l).filter (fun x=>decide (0<x))=[]:=List.filter_eq_nil_iff.mpr fun y hy=>by rw [hz y hy];decide
     rw [e,List.getD_eq_getElem?_getD,List.getD_eq_getElem?_getD]
     cases g:(x::l)[i]? with
     | none=>rfl
     | some y=>exact (hz y (List.mem_of_getElem? g)).symm
theorem dl_up {bs:List Int} (h:bs.Nodup):(dl (asc bs)).Pairwise (·<=·):=by
 unfold dl
 refine List.pairwise_map.mpr (List.pairwise_lt_range.imp_of_mem fun {i j} hi hj hij=>?_)
 have hi':=List.mem_range.mp hi
 have hj':=List.mem_range.mp hj
 rw [List.getD_eq_getElem?_getD,List.getD_eq_getElem?_getD,List.getElem?_eq_getElem hi',List.getElem?_eq_getElem hj']
 show (asc bs)[i] - (i:Int)<=(asc bs)[j] - (j:Int)
 have go:∀ (m:Nat) (hm:i+m<(asc bs).length),(asc bs)[i]+(m:Int)<=(asc bs)[i+m]:=by
  intro m
  induction m with
  | zero=>intro _;exact Int.le_of_eq (by simp)
  | succ m ih=>
    intro hm
    have h1:=ih (by lia)
    have h2:=List.pairwise_iff_getElem.mp (jy h) (i+m) (i+(m+1)) (by lia) hm (by lia)
    lia
 have:=go (j - i) (by lia)
 have e:i+(j - i)=j:=by lia
 simp only [e] at this
 lia
theorem qj {bs:List Int} (h:bs.Nodup) (h0:∀ b∈bs,(0:Int)<=b):bd (pt bs) bs.length=(asc bs).reverse:=by
 have hl:=ck bs
 refine List.ext_getElem? fun i=>?_
 by_cases hi:i<bs.length
 · have hk:bs.length - 1 - i<(asc bs).length:=by lia
   have hp:(dl (asc bs)).reverse.Pairwise (·>=·):=List.pairwise_reverse.mpr (dl_up h)
   have e1:(pt bs).getD i 0=(asc bs)[bs.length - 1 - i] - ((bs.length - 1 - i:Nat):Int):=by
    unfold pt
    rw [gJ hp (fun x hx=>dl_nn h h0 x (List.mem_reverse.mp hx)),List.getD_eq_getElem?_getD,List.getElem?_reverse (by rw [dz,hl];exact hi),dz,hl]
    unfold dl
    rw [List.getElem?_map,List.getElem?_range hk]
    show (asc bs).getD (bs.length - 1 - i) 0 - ((bs.length - 1 - i:Nat):Int)=_
    rw [List.getD_eq_getElem?_getD,List.getElem?_eq_getElem hk]
    rfl
   unfold bd
   rw [List.getElem?_map,List.getElem?_range hi,List.getElem?_reverse (by lia),hl,List.getElem?_eq_getElem hk]
   show some ((pt bs).getD i 0+(bs.length:Int) - 1 - (i:Int))=_
   rw [e1]
   congr 1
   lia
 · rw [List.getElem?_eq_none (by rw [aO];lia),List.getElem?_eq_none (by rw [List.length_reverse,hl];lia)]
theorem lG (bs:List Int):(pt bs).length<=bs.length:=by
 unfold pt
 refine Nat.le_trans (List.length_filter_le _ _) ?_
 rw [List.length_reverse,dz,ck]
 exact Nat.le_refl _
theorem lF {bs:List Int} (h:bs.Nodup):(∀ n∈pt bs,(1:Int)<=n)/\(pt bs).Pairwise (·>=·):=by
 refine ⟨fun n hn=>?_,?_⟩
 · have:0<n:=by simpa using (List.mem_filter.mp hn).2
   lia
 · exact List.Pairwise.filter _ (List.pairwise_reverse.mpr (dl_up h))
theorem nj {t:Nat} (ht:0<t) (c:Nat->Nat) {r:Nat} (hr:r<t):cnt (aE t c) t r=c r:=by
 unfold cnt aE
 rw [List.countP_flatMap]
 have e:(List.map (List.countP fun b=>decide (b % (t:Int)=(r:Int))) ((List.range t).map fun (r':Nat)=>(List.range (c r')).map fun (i:Nat)=>((r' + t*i:Nat):Int)))=(List.range t).map fun (r':Nat)=>if r'=r then c r' else 0:=by
  rw [List.map_map]
  refine List.map_congr_left fun r' hr'=>?_
  have hr2:=List.mem_range.mp hr'
  show ((List.range (c r')).map fun (i:Nat)=>((r' + t*i:Nat):Int)).countP (fun b=>decide (b % (t:Int)=(r:Int)))=_
  have hm:∀ i:Nat,((r' + t*i:Nat):Int) % (t:Int)=(r':Int):=fun i=>by
   rw [← Int.natCast_emod,Nat.add_mul_mod_self_left,Nat.mod_eq_of_lt hr2]
  by_cases hh:r'=r
  · subst hh
    rw [if_pos rfl,List.countP_eq_length.mpr fun b hb=>?_]
    · simp
    · obtain ⟨i,_,rfl⟩:=List.mem_map.mp hb
      simpa using hm i
  · rw [if_neg hh,List.countP_eq_zero.mpr fun b hb=>?_]
    obtain ⟨i,_,rfl⟩:=List.mem_map.mp hb
    rw [decide_eq_true_iff,hm i]
    lia
 have go:∀ t:Nat,r<t->((List.range t).map fun (r':Nat)=>if r'=r then c r' else 0).sum=c r:=by
  intro t
  induction t with
  | zero=>intro h;lia
  | succ t ih=>
    intro h
    rw [List.range_succ,List.map_append,List.sum_append]
    simp only [List.map_cons,List.map_nil,List.sum_cons,List.sum_nil]
    by_cases e:r=t
    · subst e
      have z:((List.range r).map fun (r':Nat)=>if r'=r then c r' else 0)=(List.range r).map fun _=>0:=by
       refine List.map_congr_left fun j hj=>?_
       have:=List.mem_range.mp hj
       rw [if_neg (by lia)]
      rw [z,if_pos rfl,List.map_const',List.sum_replicate_nat]
      lia
    · rw [ih (by lia),if_neg (by lia)]
      lia
 have e':=congrArg List.sum e
 rw [go t hr,List.map_map] at e'
 exact e'
theorem fX {ns:List Int} {t k:Nat} (ht:0<t):(aE t fun r=>cnt (bd ns k) t r).length=k:=by
 have h:((aE t fun r=>cnt (bd ns k) t r).length:Int)=k:=by
  rw [cT]
  have:=dP t ht (bd ns k)
  rw [aO] at this
  exact this
 lia
theorem rC {l:List Int} {n:Int} (h:l.Nodup) (h0:∀ x∈l,(0:Int)<=x/\x<n):(l.length:Int)<=n\/l=[]:=by
 by_cases e:l=[]
 · exact .inr e
 · have hp:0<(asc l).length:=by rw [ck];exact List.length_pos_iff.mpr e
   have h1:=rc (jy h) (fun b hb=>(h0 b ((aM l).mem_iff.mp hb)).1) ((asc l).length - 1) (by lia)
   have h2:=(h0 _ ((aM l).mem_iff.mp (List.getElem_mem (show (asc l).length - 1<(asc l).length by lia)))).2
   have:=ck l
   lia
theorem rk {as:List Int} {t i:Nat} (ht:0<t) (h:as.Pairwise (· < ·)) (h0:∀ b∈as,(0:Int)<=b) (hi:i<as.length) {r:Nat} (hr:as[i] % (t:Int)=(r:Int)):(cnt (as.take i) t r:Int)<=as[i] / (t:Int):=by
 have hnd:(as.take i).Nodup:=(List.Pairwise.sublist (List.take_sublist i as) h).imp fun h=>by lia
 have hb:=fK (r:=r) ht hnd
 have hq:0<=as[i] / (t:Int):=Int.ediv_nonneg (h0 _ (List.getElem_mem hi)) (by lia)
 rw [← fh]
 have hx:∀ x∈rq (as.take i) t r,(0:Int)<=x/\x<as[i] / (t:Int):=by
  intro x hx
  obtain ⟨b,hb',rfl⟩:=List.mem_map.mp hx
  obtain ⟨hb1,hb2⟩:=List.mem_filter.mp hb'
  have hb2':b % (t:Int)=(r:Int):=by simpa using hb2
  have hb0:=h0 b (List.mem_of_mem_take hb1)
  refine ⟨Int.ediv_nonneg hb0 (by lia),?_⟩
  obtain ⟨j,hj,e⟩:=List.getElem_of_mem hb1
  have hj':j<i:=by rw [List.length_take] at hj;lia
  have hlt:b<as[i]:=by
   rw [← e,List.getElem_take]
   exact List.pairwise_iff_getElem.mp h j i (by lia) hi hj'
  have e1:=Int.emod_add_mul_ediv b t
  have e2:=Int.emod_add_mul_ediv as[i] t
  rw [hb2'] at e1
  rw [hr] at e2
  by_cases hlt2:b / (t:Int)<as[i] / (t:Int)
  · exact hlt2
  · exfalso
    have:(t:Int)*(as[i] / (t:Int))<=(t:Int)*(b / (t:Int)):=Int.mul_le_mul_of_nonneg_left (by lia) (by lia)
    lia
 rcases rC (n:=as[i] / (t:Int)) hb hx with g | g
 · exact g
 · rw [g];exact hq
theorem fY {as:List Int} {i:Nat} (t r:Nat) (hi:i<as.length):cnt (as.take (i+1)) t r=cnt (as.take i) t r+if as[i] % (t:Int)=(r:Int) then 1 else 0:=by
 unfold cnt
 rw [List.take_succ,List.getElem?_eq_getElem hi,List.countP_append]
 show _+List.countP _ [as[i]]=_
 rw [List.countP_singleton]
 by_cases h:as[i] % (t:Int)=(r:Int)
 · rw [if_pos h,if_pos (by simpa using h)]
 · rw [if_neg h,if_neg (by simpa using h)]
theorem jT {as:List Int} {t i r:Nat} (ht:0<t) (hi:i<as.length) (hr:as[i] % (t:Int)=(r:Int)) (hrt:r<t) (x:Int) :
 x∈aE t (fun r=>cnt (as.take (i+1)) t r)↔x∈aE t (fun r=>cnt (as.take i) t r)\/x=((r+t*cnt (as.take i) t r:Nat):Int):=by
 rw [bi ht,bi ht]
 constructor
 · rintro ⟨r',j,h1,h2,rfl⟩
   rw [fY t r' hi] at h2
   by_cases e:as[i] % (t:Int)=(r':Int)
   · have er:r'=r:=by lia
     subst er
     rw [if_pos e] at h2
     by_cases hj:j<cnt (as.take i) t r'
     · exact .inl ⟨r',j,h1,hj,rfl⟩
     · have:j=cnt (as.take i) t r':=by lia
       subst this
       exact .inr rfl
   · rw [if_neg e] at h2
     exact .inl ⟨r',j,h1,by lia,rfl⟩
 · rintro (⟨r',j,h1,h2,rfl⟩ | rfl)
   · exact ⟨r',j,h1,by rw [fY t r' hi];lia,rfl⟩
   · exact ⟨r,_,hrt,by rw [fY t r hi,if_pos hr];lia,rfl⟩
def qm (as:List Int) (t i:Nat) (x:Int):Prop:=x∈aE t (fun r=>cnt (as.take i) t r)\/x∈as.drop i
theorem lh {as:List Int} {t i q r:Nat} (ht:0<t) (h:as.Pairwise (· < ·)) (hi:i<as.length) (hrt:r<t) (hq:cnt (as.take i) t r<=q) (hb:((r+t*q:Nat):Int)<as[i]):¬ qm as t i ((r+t*q:Nat):Int):=by
 rintro (g | g)
 · obtain ⟨r',j,h1,h2,e⟩:=(bi ht).mp g
   obtain ⟨e1,e2⟩:=bZ hrt h1 (show r+t*q=r' + t*j by lia)
   subst e1 e2
   lia
 · obtain ⟨j,hj,e⟩:=List.getElem_of_mem g
   rw [List.getElem_drop] at e
   rw [List.length_drop] at hj
   by_cases hj0:j=0
   · subst hj0
     have e':as[i]=((r+t*q:Nat):Int):=by simpa using e
     lia
   · have:=List.pairwise_iff_getElem.mp h i (i+j) hi (by lia) (by lia)
     lia
theorem oC {as:List Int} {t i q r:Nat} (ht:0<t) (hrt:r<t) (hq:q<cnt (as.take i) t r):qm as t i ((r+t*q:Nat):Int):=.inl ((bi ht).mpr ⟨r,q,hrt,hq,rfl⟩)
theorem lg {as:List Int} {t i r:Nat} (ht:0<t) (h:as.Pairwise (· < ·)) (hi:i<as.length) (hr:as[i] % (t:Int)=(r:Int)) (hrt:r<t) (hb:¬ as[i]∈aE t (fun r=>cnt (as.take i) t r)) (x:Int) :
 qm as t (i+1) x↔(qm as t i x/\x≠as[i])\/x=((r+t*cnt (as.take i) t r:Nat):Int):=by
 unfold qm
 rw [jT ht hi hr hrt,List.drop_eq_getElem_cons hi,List.mem_cons]
 have hd:∀ y∈as.drop (i+1),y≠as[i]:=fun y hy e=>by
  obtain ⟨j,hj,e'⟩:=List.getElem_of_mem hy
  rw [List.getElem_drop] at e'
  rw [List.length_drop] at hj
  have:=List.pairwise_iff_getElem.mp h i (i+1+j) hi (by lia) (by lia)
  lia
 constructor
 · rintro ((g | g) | g)
   · exact .inl ⟨.inl g,fun e=>hb (e▸g)⟩
   · exact .inr g
   · exact .inl ⟨.inr (.inr g),hd x g⟩
 · rintro (⟨g | g | g,e⟩ | g)
   · exact .inl (.inl g)
   · exact absurd g e
   · exact .inr g
   · exact .inl (.inr g)
theorem oD {as bs ks:List Int} {t:Nat} (ht:0<t) (hp:as.Perm bs) (hn:ks.Nodup) (h:∀ x,x∈ks↔qm as t as.length x):ks.Perm (aE t fun r=>cnt bs t r):=by
 refine (List.perm_ext_iff_of_nodup hn (bb ht _)).mpr fun x=>?_
 rw [h x]
 unfold qm
 rw [List.take_of_length_le (Nat.le_refl _),List.drop_length]
 have e:(fun r=>cnt as t r)=fun r=>cnt bs t r:=by
  funext r
  exact hp.countP_eq _
 rw [e]
 simp
end M40
namespace L2
open PySem PySem.Spec PyProof.Rows
section
variable {X:Cx} {e:Expr} {es:List Expr} {t:TA} {p pos:Pos} {o:Expr} {to:TE} {apos cpos:Pos}
def tNo:TS:=fun _ _ _=>False
theorem ps_no {st:Stmt}:PS X st tNo:=fun _ _ _ _ _ _ h=>h.elim
theorem zs_no {st:Stmt}:ZS X st tNo:=by with_unfolding_all exact ps_no
end
section
variable {prog:Program} {w:World} {A:Around} {E:Value->Shared->Prop} {R:Result->Shared->Prop} {s:Shared}
theorem kL (elt t1 i1 t2 i2:Expr) (c1 c2:List Expr) (scope:Scope) (pos:Pos) (it acc:Value) (env:Env) :
 compTurn (.ListComp elt [⟨t1,i1,c1,0⟩,⟨t2,i2,c2,0⟩] scope pos) 1 it acc env=(do
  standAt i2.pos
  match ← pyNext it with
  | none=>pure (.done .next)
  | some v=>
    letOwnedTupleGo t2 it v
    assign t2 env v
    let mut ok:=true
    for c in c2 do
     if ok then ok ← isTrue c env (eval c env)
    if ok then
     (do let _ ← call (.builtin "list.append") [acc,← eval elt env])
    again (.compLoop (.ListComp elt [⟨t1,i1,c1,0⟩,⟨t2,i2,c2,0⟩] scope pos) 1 it acc env)):=by rfl
theorem kK (elt t1 i1 t2 i2:Expr) (c1 c2:List Expr) (scope:Scope) (pos:Pos) (it acc:Value) (env:Env) :
 compTurn (.ListComp elt [⟨t1,i1,c1,0⟩,⟨t2,i2,c2,0⟩] scope pos) 0 it acc env=(do
  standAt i1.pos
  match ← pyNext it with
  | none=>pure (.done .next)
  | some v=>
    letOwnedTupleGo t1 it v
    assign t1 env v
    let mut ok:=true
    for c in c1 do
     if ok then ok ← isTrue c env (eval c env)
    if ok then
     let x ← eval i2 env
     standAt i2.pos
     let x ← (if ((0:Nat) != 0)=true then foldedIterable i2 x else foldedSetIterable i2 env x)
     let _ ← runOwn (.compStart (.ListComp elt [⟨t1,i1,c1,0⟩,⟨t2,i2,c2,0⟩] scope pos) 1 (← holding [x] (if ((0:Nat) != 0)=true then asyncIter x else pyIter x)) acc env) env
    again (.compLoop (.ListComp elt [⟨t1,i1,c1,0⟩,⟨t2,i2,c2,0⟩] scope pos) 0 it acc env)):=by rfl
theorem jS {elt t1 i1 t2 i2:Expr} {c1 c2:List Expr} {scope:Scope} {pos:Pos} {it acc:Value} {env:Env} (I:Nat->Shared->Prop)
 (turn:∀ n s,I n s->wpAny (model prog w) A (pyNext it) (fun r s₁=>match r with
   | none=>R (.ok .next) s₁
   | some v=>wpAny (model prog w) A (letOwnedTupleGo t2 it v) (fun _ s₁'=>wpAny (model prog w) A (assign t2 env v) (fun _ s₂=>
    wpAny (model prog w) A (forIn c2 true fun c r=>if r=true then do let ok ← isTrue c env (eval c env);pure (ForInStep.yield ok) else pure (ForInStep.yield r)) (fun ok s₃=>
     if ok=true then wpAny (model prog w) A (eval elt env) (fun x s₄=>
      wpAny (model prog w) A (call (.builtin "list.append") [acc,x]) (fun _ s₅=>∃ m,m<n/\I m s₅) (fun _ _=>False) s₄) (fun _ _=>False) s₃
     else ∃ m,m<n/\I m s₃) (fun _ _=>False) s₂) (fun _ _=>False) s₁') (fun _ _=>False) s₁) (fun _ _=>False) s)
 (n:Nat) (h:I n s) :
 codeAny (model prog w) A (.compLoop (.ListComp elt [⟨t1,i1,c1,0⟩,⟨t2,i2,c2,0⟩] scope pos) 1 it acc env) R s:=by
 refine codeAny_loop rfl I (fun n s hI=>?_) n h
 show wpAny _ A ((compTurn (.ListComp elt [⟨t1,i1,c1,0⟩,⟨t2,i2,c2,0⟩] scope pos) 1 it acc env).onRaise (fun x=>do noteFrame x env;theTreesLotGoes x)) _ _ s
 refine wpAny_noted ?_
 rw [kL]
 refine wpAny_bind (wpAny_standAt (wpAny_bind (wpAny_mono (turn n s hI) (fun r s₁ h₁=>?_) fun _ _ h'=>h'.elim)))
 cases r with
 | none=>exact wpAny_pure h₁
 | some v=>
   refine wpAny_bind (wpAny_mono h₁ (fun _ s₁' h₁'=>?_) fun _ _ h'=>h'.elim)
   refine wpAny_bind (wpAny_mono h₁' (fun _ s₂ h₂=>wpAny_bind (wpAny_mono h₂ (fun ok s₃ h₃=>?_) fun _ _ h'=>h'.elim)) fun _ _ h'=>h'.elim)
   cases ok with
   | false=>exact wpAny_pure ⟨rfl,h₃⟩
   | true=>
     exact wpAny_bind (wpAny_bind (wpAny_mono h₃ (fun x s₄ h₄=>wpAny_bind (wpAny_mono h₄ (fun _ s₅ h₅=>wpAny_pure (wpAny_pure ⟨rfl,h₅⟩)) fun _ _ h'=>h'.elim)) fun _ _ h'=>h'.elim))
theorem ig {elt t1 i1 t2 i2:Expr} {c1 c2:List Expr} {scope:Scope} {pos:Pos} {it acc:Value} {env:Env}
 (h0:codeAny (model prog w) A (.compLoop (.ListComp elt [⟨t1,i1,c1,0⟩,⟨t2,i2,c2,0⟩] scope pos) 1 it acc env) R s)
 (h:wpAny (model prog w) A (pyIter it) (fun it' s'=>codeAny (model prog w) A (.compLoop (.ListComp elt [⟨t1,i1,c1,0⟩,⟨t2,i2,c2,0⟩] scope pos) 1 it' acc env) R s')
   (notedBy (model prog w) A env fun x s'=>R (.error x) s') s) :
 codeAny (model prog w) A (.compStart (.ListComp elt [⟨t1,i1,c1,0⟩,⟨t2,i2,c2,0⟩] scope pos) 1 it acc env) R s:=by
 refine codeAny_of_tree ?_
 show wpAny _ _ ((compStart (.ListComp elt [⟨t1,i1,c1,0⟩,⟨t2,i2,c2,0⟩] scope pos) 1 it acc env).onRaise (fun x=>do noteFrame x env;standAt theWindowsPlace)) _ _ s
 refine wpAny_notedAt ?_
 unfold compStart
 show wpAny _ _ (ask >>= _) _ _ s
 refine wpAny_bind (wpAny_askSetting (wpAny_ite ?_))
 split
 · first
    | exact wpAny_bind (wpAny_pure (wpAny_pure (And.intro rfl h0)))
    | exact wpAny_pure (And.intro rfl h0)
 · first
    | exact wpAny_bind (wpAny_rule (wpAny_bind (wpAny_standAt (wpAny_bind (wpAny_mono h (fun it' s' h'=>wpAny_pure (And.intro rfl h')) fun _ _ x=>x)))))
    | (refine wpAny_bind (wpAny_rule ?_);show wpAny _ _ (standAt i2.pos >>= _) _ _ s;exact wpAny_bind (wpAny_standAt (wpAny_bind (wpAny_mono h (fun it' s' h'=>wpAny_pure (And.intro rfl h')) fun _ _ x=>x))))
theorem jR {elt t1 i1 t2 i2:Expr} {c1 c2:List Expr} {scope:Scope} {pos:Pos} {it acc:Value} {env:Env} (I:Nat->Shared->Prop)
 (hs:∀ x,foldedSetIterable i2 env x=pure x)
 (turn:∀ n s,I n s->wpAny (model prog w) A (pyNext it) (fun r s₁=>match r with
   | none=>R (.ok .next) s₁
   | some v=>wpAny (model prog w) A (letOwnedTupleGo t1 it v) (fun _ s₁'=>wpAny (model prog w) A (assign t1 env v) (fun _ s₂=>
    wpAny (model prog w) A (forIn c1 true fun c r=>if r=true then do let ok ← isTrue c env (eval c env);pure (ForInStep.yield ok) else pure (ForInStep.yield r)) (fun ok s₃=>
     if ok=true then wpAny (model prog w) A (eval i2 env) (fun x s₄=>wpAny (model prog w) A (pyIter x) (fun it2 s₅=>
      codeAny (model prog w) A (.compStart (.ListComp elt [⟨t1,i1,c1,0⟩,⟨t2,i2,c2,0⟩] scope pos) 1 it2 acc env) (fun r s₆=>r=.ok .next/\∃ m,m<n/\I m s₆) s₅) (fun _ _=>False) s₄) (fun _ _=>False) s₃
     else ∃ m,m<n/\I m s₃) (fun _ _=>False) s₂) (fun _ _=>False) s₁') (fun _ _=>False) s₁) (fun _ _=>False) s)
 (n:Nat) (h:I n s) :
 codeAny (model prog w) A (.compLoop (.ListComp elt [⟨t1,i1,c1,0⟩,⟨t2,i2,c2,0⟩] scope pos) 0 it acc env) R s:=by
 refine codeAny_loop rfl I (fun n s hI=>?_) n h
 show wpAny _ A ((compTurn (.ListComp elt [⟨t1,i1,c1,0⟩,⟨t2,i2,c2,0⟩] scope pos) 0 it acc env).onRaise (fun x=>do noteFrame x env;theTreesLotGoes x)) _ _ s
 refine wpAny_noted ?_
 rw [kK]
 refine wpAny_bind (wpAny_standAt (wpAny_bind (wpAny_mono (turn n s hI) (fun r s₁ h₁=>?_) fun _ _ h'=>h'.elim)))
 cases r with
 | none=>exact wpAny_pure h₁
 | some v=>
   refine wpAny_bind (wpAny_mono h₁ (fun _ s₁' h₁'=>?_) fun _ _ h'=>h'.elim)
   refine wpAny_bind (wpAny_mono h₁' (fun _ s₂ h₂=>wpAny_bind (wpAny_mono h₂ (fun ok s₃ h₃=>?_) fun _ _ h'=>h'.elim)) fun _ _ h'=>h'.elim)
   cases ok with
   | false=>exact wpAny_pure ⟨rfl,h₃⟩
   | true=>
     refine wpAny_bind (wpAny_mono h₃ (fun x s₄ h₄=>wpAny_bind (wpAny_standAt ?_)) fun _ _ h'=>h'.elim)
     refine wpAny_bind (wpAny_of_eq (t:=foldedSetIterable i2 env x) (hs x) ?_)
     refine wpAny_bind (wpAny_holding (wpAny_mono (t:=pyIter x) h₄ (fun it2 s₅ h₅=>?_) fun _ _ h'=>h'.elim))
     refine wpAny_bind (wpAny_runOwn (codeAny_mono h₅ (fun r s₆ h₆=>?_)))
     obtain ⟨rfl,h₆⟩:=h₆
     exact wpAny_pure ⟨rfl,h₆⟩
end
section
variable {X:Cx} {nv:List Str} {ix:List (Str×Nat)} {scope:Scope} {pins:List (Addr×Obj)} {σ:St} {H:Hp} {s:Shared} {elt t1 i1 t2 i2:Expr} {c1 c2:List Expr} {pos:Pos}
def CmpI (g:TG) (ti:TT) (te:TE) (σ:St) (J:It) (ys0:List V) (Fin:List V->Hp->Prop) (H1:Hp):Prop:=
 ∃ W:Nat->Nat->List V->Hp->Prop,(∃ m,W 0 m ys0 H1)/\∀ i m ys H,W i m ys H ->
   (J.stop i H/\Fin ys H)\/(J.go i H/\ys.length<sizeLine/\∃ N:List V->Hp->Prop,(∀ ys' H',N ys' H'->∃ m',m' < m/\W (i+1) m' ys' H') /\
     ∀ x H',J.yld i H x H'->g x σ H' fun σ2 H2=>ti σ2 H2 fun b H3=>if b=true then te σ2 H3 fun y H4=>N (ys++[y]) H4 else N ys H3)
def tT (nv:List Str) (ix:List (Str×Nat)) (g1:TG) (ti1:TT) (wi2:TI) (g2:TG) (ti2:TT) (te:TE) (σ:St) (J:It) (Fin:List V->Hp->Prop) (H1:Hp):Prop:=
 ∃ W:Nat->Nat->List V->Hp->Prop,(∃ m,W 0 m [] H1)/\∀ i m ys H,W i m ys H ->
   (J.stop i H/\Fin ys H)\/(J.go i H/\∃ N:List V->Hp->Prop,(∀ ys' H',N ys' H'->∃ m',m' < m/\W (i+1) m' ys' H') /\
     ∀ x H',J.yld i H x H'->g1 x (st0 nv ix σ) H' fun σ1 H2=>ti1 σ1 H2 fun b H3=>if b=true then wi2 σ1 H3 fun J2 H4=>CmpI g2 ti2 te σ1 J2 ys N H4 else N ys H3)
def KpT (g2:TG) (σ1:St):Prop:=∀ (v:V) (H:Hp) (Q:St->Hp->Prop),g2 v σ1 H Q->g2 v σ1 H fun σ2 H2=>Kp σ1 σ2/\Q σ2 H2
def KpG2 (nv:List Str) (g1 g2:TG):Prop:=∀ (fr:St) (v:V) (H:Hp) (Q:St->Hp->Prop),g1 v (nv.map (fun _=>none)++fr) H Q->g1 v (nv.map (fun _=>none)++fr) H fun σ1 H1=>(Kp (nv.map (fun _=>none)++fr) σ1/\KpT g2 σ1)/\Q σ1 H1
theorem mO {D:Addr} {J:It} {fp:List Addr} {it:Addr} {tn:Nat->Heap->Prop} {g:TG} {ti:TT} {te:TE} {N:List V->Hp->Prop} {pl:List (Addr×Obj)} {ys:List V} {its:List Value} {k:Nat}
 (hc:X.calm=true) (hp0:X.pn=[]) (I:Inv X ([(D,bA its k)]++pl) σ H s) (rv:Vals ys its) (hz:ys.length<=sizeLine) (T:Turn X.prog X.w X.K t2 J fp it tn) (st:tn 0 s.heap) (hf:∀ b∈fp,cx X ([(D,bA its k)]++pl) H b)
 (hD1:D∈X.ex\/X.s₀.heap.objs.size<=D) (hD2:∀ x c,X.env.cells.lookup x=some c->c≠D) (hD3:∀ p∈pl,p.1≠D)
 (kg:KpT g σ) (hg:PG X t2 g) (hi:PIf X c2 ti) (he:PE X elt te) (hx:X.xe=fun _ _=>False) (q:CmpI g ti te σ J ys N H) :
 codeAny (model X.prog X.w) X.A (.compStart (.ListComp elt [⟨t1,i1,c1,0⟩,⟨t2,i2,c2,0⟩] scope pos) 1 (.ref it) (.ref D) X.env)
  (fun r s'=>r=.ok .next/\∃ H' ys' its' k',Inv X ([(D,bA its' k')]++pl) σ H' s'/\Vals ys' its'/\ys'.length<=sizeLine/\N ys' H') s:=by
 obtain ⟨W,⟨m0,w0⟩,turn⟩:=q
 have fpD:∀ b∈fp,b≠D:=fun b hb z=>by
  have:=(hf b hb).2.2.2.2.2 (D,bA its k) (by rw [hp0];simp)
  exact this z.symm
 have fpc:∀ {H':Hp} {its':List Value} {k':Nat},(∀ b∈fp,H' b=none)->∀ b∈fp,cx X ([(D,bA its' k')]++pl) H' b:=fun {H' its' k'} hn b hb=>by
  obtain ⟨_,f1,f2,f3,f4,f5⟩:=hf b hb
  refine ⟨hn b hb,f1,f2,f3,f4,fun p hp z=>?_⟩
  rw [hp0,List.nil_append] at hp
  rcases List.mem_append.mp hp with hp | hp
  · have e:p=(D,bA its' k'):=by simpa using hp
    subst e
    exact fpD b hb z.symm
  · exact f5 p (by rw [hp0,List.nil_append];exact List.mem_append_right _ hp) z
 have loop:codeAny (model X.prog X.w) X.A (.compLoop (.ListComp elt [⟨t1,i1,c1,0⟩,⟨t2,i2,c2,0⟩] scope pos) 1 (.ref it) (.ref D) X.env)
  (fun r s'=>r=.ok .next/\∃ H' ys' its' k',Inv X ([(D,bA its' k')]++pl) σ H' s'/\Vals ys' its'/\ys'.length<=sizeLine/\N ys' H') s:=by
  refine jS (fun n s'=>∃ i H' ys its k,Inv X ([(D,bA its k)]++pl) σ H' s'/\Vals ys its/\ys.length<=sizeLine/\tn i s'.heap/\(∀ b∈fp,H' b=none)/\W i n ys H')
   ?_ m0 ⟨0,H,ys,its,k,I,rv,hz,st,fun b hb=>(hf b hb).1,w0⟩
  rintro n s3 ⟨i,H3,ys,its,k,I3,rv,hz,st3,fr3,w3⟩
  rcases turn i n ys H3 w3 with ⟨stop,fin0⟩ | ⟨go,hlt',N',hN,step⟩
  · refine thn (T.done X rfl rfl rfl hc i _ s3 _ H3 _ I3 (fpc fr3) st3 stop) fun r s4 ⟨hr,I4⟩=>?_
    subst hr
    exact ⟨rfl,H3,ys,its,k,I4,rv,hz,fin0⟩
  · refine thn (T.item X rfl rfl rfl hc i _ s3 _ H3 _ I3 (fpc fr3) st3 go) fun r s4 ⟨u,hr,h4⟩=>?_
    subst hr
    refine thn h4 fun _ s5 ⟨x,H5,I5,r5,y5,st5,fr5⟩=>?_
    have I5':=I5.pinned (fpc fr5) (T.obj _ _ st5)
    have hg':=hg _ s5 _ H5 x u _ I5' r5 (kg _ _ _ (step x H5 y5))
    rw [hx] at hg'
    refine thn hg' fun _ s6 ⟨σ6,H6,I6,kp,q6⟩=>?_
    have hi':=hi _ s6 σ6 H6 _ I6 q6
    rw [hx] at hi'
    refine thn hi' fun b s7 ⟨H7,I7,q7⟩=>?_
    have again:∀ {s7:Shared} {H7:Hp} {ys' its':List _} {k':Nat},Inv X (([(D,bA its' k')]++pl)++bh fp s5.heap) σ6 H7 s7->Vals ys' its'->ys'.length<=sizeLine->N' ys' H7 ->
     ∃ m,m<n/\∃ i H' ys its k,Inv X ([(D,bA its k)]++pl) σ H' s7/\Vals ys its/\ys.length<=sizeLine/\tn i s7.heap/\(∀ b∈fp,H' b=none)/\W i m ys H':=fun {s7 H7 ys' its' k'} I8 rv' hz' n8=>by
     obtain ⟨m',hm,w8⟩:=hN _ _ n8
     have pn:=fun (b:Addr) (o:Obj) (hb:b∈fp) (e:s5.heap.get? b=some o)=>I8.pin (b,o) (List.mem_append_right _ (List.mem_append_right _ (bz hb e)))
     refine ⟨m',hm,i+1,H7,ys',its',k',(I8.unpinned).weak kp.1 kp.2,rv',hz',T.keep _ _ _ st5 fun b hb o e=>(pn b o hb e).1,fun b hb=>?_,w8⟩
     obtain ⟨o,e,d⟩:=T.obj _ _ st5 b hb
     exact (pn b o hb e).2.1
    cases b with
    | false=>
      rw [if_neg Bool.false_ne_true] at q7 ⊢
      exact again I7 rv hz q7
    | true=>
      rw [if_pos rfl] at q7 ⊢
      have he':=he _ s7 σ6 H7 _ I7 q7
      rw [hx] at he'
      refine thn he' fun u8 s8 ⟨y,H8,I8,r8,q8⟩=>?_
      obtain ⟨p1,p2,p3,p4,p5⟩:=I8.pin (D,bA its k) (List.mem_append_right _ List.mem_cons_self)
      refine append_at (hsz:=by rw [List.size_toArray,← rv.length];exact Nat.le_of_lt hlt') p1 fun h9 hs9 hD9=>?_
      have I9:Inv X (pl++bh fp s5.heap) σ6 H8 { s8 with heap:=h9 }:=by
       have Iu:Inv X (pl++bh fp s5.heap) σ6 H8 s8:=I8.pins_of fun p hp=>I8.pin p (List.mem_append_right _ (by rw [List.append_assoc];exact List.mem_append_right _ hp))
       refine Iu.turned (t':=s8.toks) (it:=D) (fun b o hb e=>(hs9.2 b hb).trans e) p2 p3 hD1 hD2 fun p hp z=>?_
       rw [hp0,List.nil_append] at hp
       rcases List.mem_append.mp hp with hp | hp
       · exact hD3 p hp z
       · obtain ⟨hb,_⟩:=cc hp
         exact fpD _ hb z
      have I10:Inv X (([(D,bA (its++[u8]) (k+1))]++pl)++bh fp s5.heap) σ6 H8 { s8 with heap:=h9 }:=
       I9.pins_of fun p hp=>by
        rw [List.append_assoc] at hp
        rcases List.mem_append.mp hp with hp | hp
        · have e:p=(D,bA (its++[u8]) (k+1)):=by simpa using hp
          subst e
          refine ⟨?_,p2,p3,p4,fun v z=>by cases z⟩
          rw [List.push_toArray] at hD9
          exact hD9
        · exact I9.pin p (List.mem_append_right _ hp)
      exact again I10 (rv.append (.cons r8 .nil)) (by rw [List.length_append,List.length_singleton];exact hlt') q8
 exact ig loop (T.self _ 0 _ _ _ st loop)
theorem ng {J:It} {fp:List Addr} {it:Addr} {tn:Nat->Heap->Prop} {g1 g2:TG} {ti1 ti2:TT} {wi2:TI} {te:TE} {Fin:List V->Hp->Prop} {E:Value->Shared->Prop} {RR:Value->Addr->Result->Shared->Prop}
 (co:CompOk X nv ix scope) (hc:X.calm=true) (I:Inv X pins σ H s) (T:Turn X.prog X.w X.K t1 J fp it tn) (st:tn 0 s.heap) (hf:∀ b∈fp,cx X pins H b)
 (kg:KpG2 nv g1 g2) (hg:∀ C s₀ H₀ fp,PG (bf X nv ix scope C s₀ H₀ fp) t1 g1) (hi:∀ C s₀ H₀ fp,PIf (bf X nv ix scope C s₀ H₀ fp) c1 ti1)
 (hw2:∀ C s₀ H₀ fp,PI (bf X nv ix scope C s₀ H₀ fp) t2 i2 wi2) (hg2:∀ C s₀ H₀ fp,PG (bf X nv ix scope C s₀ H₀ fp) t2 g2) (hi2:∀ C s₀ H₀ fp,PIf (bf X nv ix scope C s₀ H₀ fp) c2 ti2) (he:∀ C s₀ H₀ fp,PE (bf X nv ix scope C s₀ H₀ fp) elt te)
 (hs2:∀ C s₀ H₀ fp x,foldedSetIterable i2 (bf X nv ix scope C s₀ H₀ fp).env x=pure x)
 (q:tT nv ix g1 ti1 wi2 g2 ti2 te σ J Fin H)
 (fin:∀ D C s' H' ys,Inv X pins σ (upd H' D (.lst ys)) s'->H' D=none->Fin ys H'->(∃ m,s'.heap.Ns C m)->cx X pins (upd H' D (.lst ys)) C->RR (.ref D) C (.ok .next) s') :
 wpAny (model X.prog X.w) X.A (newList []) (fun acc s₃=>wpAny (model X.prog X.w) X.A (newFunctionEnv scope X.env.globals (ci X.env scope.names []) [] X.env.qual none .none (some X.env)) (fun cenv s₄=>
  codeAny (model X.prog X.w) X.A (.compStart (.ListComp elt [⟨t1,i1,c1,0⟩,⟨t2,i2,c2,0⟩] scope pos) 0 (.ref it) acc { cenv with scope:=relabel scope X.env }) (RR acc cenv.locals) s₄) E s₃) E s:=by
 obtain ⟨W,⟨m0,w0⟩,turn⟩:=q
 refine wpAny_newObj_type (wpAny_newFunctionEnv co.nocell (by intro y hy;simp at hy) (fun h₁ hns₁ hsb₁=>?_) co.kind)
 dsimp only at hns₁ hsb₁ ⊢
 generalize hH2:s.heap.push { cls:=.type "list",dict:=none,data:=.seq ([]:List Value).toArray }=H2 at hns₁ hsb₁ ⊢
 have hC:H2.objs.size=s.heap.objs.size+1:=by rw [← hH2,Heap.size_push]
 rw [hC] at hns₁ hsb₁ ⊢
 have hDC:s.heap.objs.size≠s.heap.objs.size+1:=Nat.ne_of_lt (Nat.lt_succ_self _)
 have below:∀ b,b<s.heap.objs.size->b≠s.heap.objs.size+1/\b≠s.heap.objs.size:=fun b hb=>⟨Nat.ne_of_lt (Nat.lt_succ_of_lt hb),Nat.ne_of_lt hb⟩
 have old:∀ b o,s.heap.get? b=some o->h₁.get? b=some o:=fun b o e=>hsb₁.extBut b o (below b (Heap.lt_size e)).1 (Heap.get?_push_of_some _ (hH2▸Heap.get?_push_of_some _ e))
 have hacc:h₁.get? s.heap.objs.size=some (bA [] 0):=hsb₁.extBut _ _ hDC (Heap.get?_push_of_some _ (hH2▸Heap.get?_push_size _ rfl))
 have hlt:∀ b∈fp,b<s.heap.objs.size:=fun b hb=>by
  obtain ⟨o,e,_⟩:=T.obj 0 _ st b hb
  exact Heap.lt_size e
 have I₁:=fun tk=>gN (tk:=tk) co I hf hlt hns₁ old hacc
 have st₁:tn 0 h₁:=T.keep 0 _ _ st fun b _ o e=>old b o e
 have fpD:∀ {H':Hp},H' s.heap.objs.size=none->cx X pins H' s.heap.objs.size:=fun hn=>I.fpOk (Nat.le_refl _) hn
 have loop:∀ tk:Nat,codeAny (model X.prog X.w) X.A (.compLoop (.ListComp elt [⟨t1,i1,c1,0⟩,⟨t2,i2,c2,0⟩] scope pos) 0 (.ref it) (.ref s.heap.objs.size) (compEnvC scope (ci X.env scope.names []) (s.heap.objs.size+1) X.env))
  (RR (.ref s.heap.objs.size) (s.heap.objs.size+1)) { s with heap:=h₁,toks:=tk }:=by
  intro tk
  refine jR (fun n s'=>∃ i H' ys its k,Inv (bf X nv ix scope (s.heap.objs.size+1) s H fp) [(s.heap.objs.size,bA its k)] (st0 nv ix σ) H' s'/\Vals ys its/\ys.length<=sizeLine/\tn i s'.heap/\(∀ b∈fp,H' b=none)/\W i n ys H')
   (hs2 (s.heap.objs.size+1) s H fp) ?_ m0 ⟨0,H,[],[],0,I₁ tk,.nil,Nat.zero_le _,st₁,fun b hb=>(hf b hb).1,w0⟩
  rintro n s3 ⟨i,H3,ys,its,k,I3,rv,hz,st3,fr3,w3⟩
  have fpc:∀ {H':Hp} {its:List Value} {k:Nat},(∀ b∈fp,H' b=none)->∀ b∈fp,cx (bf X nv ix scope (s.heap.objs.size+1) s H fp) [(s.heap.objs.size,bA its k)] H' b:=fun {H' its k} hn b hb=>by
   refine ⟨hn b hb,(below b (hlt b hb)).1,fun hs=>?_,.inl hb,fun x c e=>(hf b hb).2.2.2.2.1 x c (co.look I.ok e),fun p hp z=>?_⟩
   · rcases List.mem_cons.mp (I.stkSub b hs) with e | h
     · exact (hf b hb).2.1 e
     · exact (hf b hb).2.2.1 h
   · have e:p=(s.heap.objs.size,bA its k):=by simpa [bf] using hp
     subst e
     exact (below b (hlt b hb)).2 z.symm
  have pD:=fun {ps:List (Addr×Obj)} {σ':St} {H':Hp} {s':Shared} (I':Inv (bf X nv ix scope (s.heap.objs.size+1) s H fp) ((s.heap.objs.size,bA its k)::ps) σ' H' s')=>
   I'.pin (s.heap.objs.size,bA its k) (List.mem_append_right _ List.mem_cons_self)
  rcases turn i n ys H3 w3 with ⟨stop,fin0⟩ | ⟨go,N,hN,step⟩
  · refine thn (T.done (bf X nv ix scope (s.heap.objs.size+1) s H fp) rfl rfl rfl hc i _ s3 _ H3 _ I3 (fpc fr3) st3 stop) fun r s4 ⟨hr,I4⟩=>?_
    subst hr
    obtain ⟨p1,p2,_⟩:=pD I4
    have I5:=(no I hf I4).track rv hz p1 p2 (fpD p2)
    obtain ⟨mC,hmC,_⟩:=I4.loc
    exact fin _ _ s4 H3 ys I5 p2 fin0 ⟨mC,hmC⟩ (I.fpOk (Nat.le_succ _) (by rw [am (Ne.symm hDC)];exact I4.free))
  · refine thn (T.item (bf X nv ix scope (s.heap.objs.size+1) s H fp) rfl rfl rfl hc i _ s3 _ H3 _ I3 (fpc fr3) st3 go) fun r s4 ⟨u,hr,h4⟩=>?_
    subst hr
    refine thn h4 fun _ s5 ⟨x,H5,I5,r5,y5,st5,fr5⟩=>?_
    have I5':=I5.pinned (fpc fr5) (T.obj _ _ st5)
    refine thn (hg _ _ _ _ _ s5 _ H5 x u _ I5' r5 (kg _ _ _ _ (step x H5 y5))) fun _ s6 ⟨σ6,H6,I6,⟨kp,kt⟩,q6⟩=>?_
    refine thn (hi _ _ _ _ _ s6 σ6 H6 _ I6 q6) fun b s7 ⟨H7,I7,q7⟩=>?_
    have again:∀ {s7:Shared} {H7:Hp} {ys' its':List _} {k':Nat},Inv (bf X nv ix scope (s.heap.objs.size+1) s H fp) ([(s.heap.objs.size,bA its' k')]++bh fp s5.heap) σ6 H7 s7->Vals ys' its'->ys'.length<=sizeLine->N ys' H7 ->
     ∃ m,m<n/\∃ i H' ys its k,Inv (bf X nv ix scope (s.heap.objs.size+1) s H fp) [(s.heap.objs.size,bA its k)] (st0 nv ix σ) H' s7/\Vals ys its/\ys.length<=sizeLine/\tn i s7.heap/\(∀ b∈fp,H' b=none)/\W i m ys H':=fun {s7 H7 ys' its' k'} I8 rv' hz' n8=>by
     obtain ⟨m',hm,w8⟩:=hN _ _ n8
     have pn:=fun (b:Addr) (o:Obj) (hb:b∈fp) (e:s5.heap.get? b=some o)=>I8.pin (b,o) (List.mem_append_right _ (List.mem_append_right _ (bz hb e)))
     refine ⟨m',hm,i+1,H7,ys',its',k',(I8.unpinned).weak kp.1 kp.2,rv',hz',T.keep _ _ _ st5 fun b hb o e=>(pn b o hb e).1,fun b hb=>?_,w8⟩
     obtain ⟨o,e,d⟩:=T.obj _ _ st5 b hb
     exact (pn b o hb e).2.1
    cases b with
    | false=>
      rw [if_neg Bool.false_ne_true] at q7 ⊢
      exact again I7 rv hz q7
    | true=>
      rw [if_pos rfl] at q7 ⊢
      refine thn (hw2 _ _ _ _ _ s7 σ6 H7 _ I7 q7) fun v8 s8 h8=>thn h8 fun itv s9 h9=>?_
      obtain ⟨it2,fp2,tn2,J2,H9,e9,I9,T2,st9,f9,q9⟩:=h9
      subst e9
      refine codeAny_mono (mO (X:=bf X nv ix scope (s.heap.objs.size+1) s H fp) (elt:=elt) (t1:=t1) (i1:=i1) (c1:=c1) (i2:=i2) hc rfl I9 rv hz T2 st9 f9 (.inr (Nat.le_refl _)) (fun x c e z=>?_) (fun p hp z=>?_) kt (hg2 _ _ _ _) (hi2 _ _ _ _) (he _ _ _ _) rfl q9) fun r s10 h10=>?_
      · obtain ⟨v,o,e1,_⟩:=I.cell x c (co.look I.ok e)
        exact absurd (Heap.lt_size e1) (by rw [z];exact Nat.lt_irrefl _)
      · obtain ⟨hb,_⟩:=cc hp
        exact (below _ (hlt _ hb)).2 z
      · obtain ⟨rfl,H10,ys',its',k',I10,rv10,hz10,n10⟩:=h10
        exact ⟨rfl,again I10 rv10 hz10 n10⟩
 exact codeAny_compStart_list (loop _) (T.self _ 0 _ _ _ st₁ (loop _))
def qw (nv:List Str) (ix:List (Str×Nat)) (wi:TI) (g1:TG) (ti1:TT) (wi2:TI) (g2:TG) (ti2:TT) (te:TE):TE:=fun σ H Q=>wi σ H fun J H1=>tT nv ix g1 ti1 wi2 g2 ti2 te σ J (fun ys H2=>∀ D,H2 D=none->Q (.ref D) (upd H2 D (.lst ys))) H1
theorem pe_two {wi wi2:TI} {g1 g2:TG} {ti1 ti2:TT} {te:TE} (nv:List Str) (ix:List (Str×Nat)) (hc:X.calm=true) (co:CompOk X nv ix scope) (hit:PI X t1 i1 wi) (kg:KpG2 nv g1 g2) (hg:∀ C s₀ H₀ fp,PG (bf X nv ix scope C s₀ H₀ fp) t1 g1)
 (hi:∀ C s₀ H₀ fp,PIf (bf X nv ix scope C s₀ H₀ fp) c1 ti1) (hw2:∀ C s₀ H₀ fp,PI (bf X nv ix scope C s₀ H₀ fp) t2 i2 wi2) (hg2:∀ C s₀ H₀ fp,PG (bf X nv ix scope C s₀ H₀ fp) t2 g2) (hi2:∀ C s₀ H₀ fp,PIf (bf X nv ix scope C s₀ H₀ fp) c2 ti2) (he:∀ C s₀ H₀ fp,PE (bf X nv ix scope C s₀ H₀ fp) elt te)
 (hs:∀ x,foldedSetIterable i1 X.env x=pure x:=by intro _;rfl) (hs2:∀ C s₀ H₀ fp x,foldedSetIterable i2 (bf X nv ix scope C s₀ H₀ fp).env x=pure x:=by intro _ _ _ _ _;rfl):PE X (.ListComp elt [⟨t1,i1,c1,0⟩,⟨t2,i2,c2,0⟩] scope pos) (qw nv ix wi g1 ti1 wi2 g2 ti2 te):=by
 intro pins s σ H Q I h
 rw [eval_ListComp]
 refine wpAny_comprehension_free (use:=none) rfl hs (cr (co.cells I.ok)) co.kind co.names (thn (hit pins s σ H _ I h) fun v s1 h1=>thn h1 fun itv s2 h2=>?_)
 obtain ⟨it,fp,tn,J,H2,e,I2,T,st2,f2,q⟩:=h2
 subst e
 refine ng co hc I2 T st2 f2 kg hg hi hw2 hg2 hi2 he hs2 q fun D C s' H' ys I' hD fin ⟨m,hm⟩ hC=>?_
 obtain ⟨c0,c1,c2,c3,c4,c5⟩:=hC
 exact ⟨m,hm,fun h' hs'=>⟨.ref D,_,I'.turned (t':=s'.toks) (fun b o hb e=>(hs'.2 b hb).trans e) c0 c1 c3 c4 c5,rfl,fin D hD⟩⟩
theorem ze_two {wi wi2:TI} {g1 g2:TG} {ti1 ti2:TT} {te:TE} (nv:List Str) (ix:List (Str×Nat)) (hc:X.calm=true) (co:CompOk X nv ix scope) (hit:ZI X t1 i1 wi) (kg:KpG2 nv g1 g2) (hg:∀ C s₀ H₀ fp,ZG (bf X nv ix scope C s₀ H₀ fp) t1 g1)
 (hi:∀ C s₀ H₀ fp,ZIf (bf X nv ix scope C s₀ H₀ fp) c1 ti1) (hw2:∀ C s₀ H₀ fp,ZI (bf X nv ix scope C s₀ H₀ fp) t2 i2 wi2) (hg2:∀ C s₀ H₀ fp,ZG (bf X nv ix scope C s₀ H₀ fp) t2 g2) (hi2:∀ C s₀ H₀ fp,ZIf (bf X nv ix scope C s₀ H₀ fp) c2 ti2) (he:∀ C s₀ H₀ fp,ZE (bf X nv ix scope C s₀ H₀ fp) elt te)
 (hs:∀ x,foldedSetIterable i1 X.env x=pure x:=by intro _;rfl) (hs2:∀ C s₀ H₀ fp x,foldedSetIterable i2 (bf X nv ix scope C s₀ H₀ fp).env x=pure x:=by intro _ _ _ _ _;rfl):ZE X (.ListComp elt [⟨t1,i1,c1,0⟩,⟨t2,i2,c2,0⟩] scope pos) (qw nv ix wi g1 ti1 wi2 g2 ti2 te):=by with_unfolding_all exact pe_two nv ix hc co hit kg hg hi hw2 hg2 hi2 he hs hs2
end
section
variable {κ:Type} [DecidableEq κ]
def gf (kvs:List (κ×V)) (k:κ):Option V:=(kvs.find? fun kv=>decide (kv.1=k)).map (·.2)
def fO (kvs:List (κ×V)) (k:κ) (v:V):List (κ×V):=
 if (kvs.any fun kv=>decide (kv.1=k))=true then kvs.map (fun kv=>if kv.1=k then (kv.1,v) else kv) else kvs++[(k,v)]
def jU (kvs:List (κ×V)) (k:κ):List (κ×V):=kvs.filter fun kv=>decide (kv.1≠k)
theorem dG {p:κ×V} {r:List (κ×V)} {k:κ} (e:p.1=k):gf (p::r) k=some p.2:=by simp [gf,List.find?_cons,e]
theorem dI {p:κ×V} {r:List (κ×V)} {k:κ} (e:¬ p.1=k):gf (p::r) k=gf r k:=by simp [gf,List.find?_cons,e]
theorem fE (k:κ):∀ kvs:List (κ×V),(kvs.any fun kv=>decide (kv.1=k))=(gf kvs k).isSome
 | []=>rfl
 | p::r=>by
   rw [List.any_cons]
   by_cases e:p.1=k
   · simp only [dG e,decide_eq_true e,Bool.true_or,Option.isSome_some]
   · rw [dI e,decide_eq_false e,Bool.false_or];exact fE k r
theorem cB (kvs:List (κ×V)) (k:κ) (v:V):(fO kvs k v).length<=kvs.length+1:=by
 unfold fO
 split
 · rw [List.length_map];lia
 · rw [List.length_append,List.length_cons,List.length_nil];lia
theorem oV {kvs:List (κ×V)} {k:κ} (v:V) (h:gf kvs k=none):fO kvs k v=kvs++[(k,v)]:=by
 unfold fO
 rw [fE,h]
 exact if_neg (by decide)
theorem RelO.isSome_eq {o:Option V} {u:Option Value} (r:RelO o u):o.isSome=u.isSome:=by
 cases o with
 | none=>cases u with
   | none=>rfl
   | some _=>exact (show False from r).elim
 | some _=>cases u with
   | none=>exact (show False from r).elim
   | some _=>rfl
theorem KV.val {kvs:List (κ×V)} {vs:List (κ×Value)} (r:KV kvs vs) (k:κ):RelO (gf kvs k) (valueAt vs k):=by
 unfold KV at r
 induction r with
 | nil=>exact True.intro
 | @cons p q ps qs h t ih=>
   obtain ⟨h1,h2⟩:=h
   by_cases e:p.1=k
   · have e':q.1=k:=h1.symm.trans e
     have b:valueAt (q::qs) k=some q.2:=by simp [valueAt,List.find?_cons,e']
     rw [dG e,b];exact h2
   · have e':¬ q.1=k:=fun z=>e (h1.trans z)
     have b:valueAt (q::qs) k=valueAt qs k:=by simp [valueAt,List.find?_cons,e']
     rw [dI e,b];exact ih
theorem KV.any {kvs:List (κ×V)} {vs:List (κ×Value)} (r:KV kvs vs) (k:κ):(kvs.any fun kv=>decide (kv.1=k))=vs.any fun kv=>decide (kv.1=k):=by
 unfold KV at r
 induction r with
 | nil=>rfl
 | cons h t ih=>rw [List.any_cons,List.any_cons,ih,h.1]
theorem KV.repl {kvs:List (κ×V)} {vs:List (κ×Value)} (r:KV kvs vs) (k:κ) {y:V} {u:Value} (ry:RelV y u) :
 KV (kvs.map fun kv=>if kv.1=k then (kv.1,y) else kv) (vs.map fun kv=>if kv.1=k then (kv.1,u) else kv):=by
 unfold KV at r ⊢
 induction r with
 | nil=>exact .nil
 | @cons p q ps qs h t ih=>
   rw [List.map_cons,List.map_cons]
   refine .cons ?_ ih
   obtain ⟨h1,h2⟩:=h
   by_cases e:p.1=k
   · rw [if_pos e,if_pos (h1.symm.trans e)];exact ⟨h1,ry⟩
   · rw [if_neg e,if_neg (fun z=>e (h1.trans z))];exact ⟨h1,h2⟩
theorem KV.put {kvs:List (κ×V)} {vs:List (κ×Value)} (r:KV kvs vs) (k:κ) {y:V} {u:Value} (ry:RelV y u):KV (fO kvs k y) (stored vs k u):=by
 unfold fO stored
 rw [r.any k]
 by_cases e:(vs.any fun kv=>decide (kv.1=k))=true
 · rw [if_pos e,if_pos e];exact r.repl k ry
 · rw [if_neg e,if_neg e];exact Paired.snoc r ⟨rfl,ry⟩
theorem KV.drop {kvs:List (κ×V)} {vs:List (κ×Value)} (r:KV kvs vs) (k:κ):KV (jU kvs k) (without vs k):=by
 unfold KV at r ⊢
 unfold jU without
 induction r with
 | nil=>exact .nil
 | @cons p q ps qs h t ih=>
   obtain ⟨h1,h2⟩:=h
   rw [List.filter_cons,List.filter_cons]
   by_cases e:p.1=k
   · have a:¬ decide (p.1≠k)=true:=by simp [e]
     have b:¬ decide (q.1≠k)=true:=by simp [h1.symm.trans e]
     rw [if_neg a,if_neg b];exact ih
   · have e':¬ q.1=k:=fun z=>e (h1.trans z)
     have a:decide (p.1≠k)=true:=by simp [e]
     have b:decide (q.1≠k)=true:=by simp [e']
     rw [if_pos a,if_pos b];exact .cons ⟨h1,h2⟩ ih
theorem KV.keys {kvs:List (κ×V)} {vs:List (κ×Value)} (r:KV kvs vs):kvs.map (·.1)=vs.map (·.1):=by
 unfold KV at r
 induction r with
 | nil=>rfl
 | cons h t ih=>rw [List.map_cons,List.map_cons,ih,h.1]
theorem KV.length {kvs:List (κ×V)} {vs:List (κ×Value)} (r:KV kvs vs):kvs.length=vs.length:=Paired.length r
theorem p0 (kvs:List (κ×V)) (k:κ):(jU kvs k).length<=kvs.length:=List.length_filter_le _ _
end
theorem mF {P:Program} {w:World} {k:Key} {u:Value} (r:RelV (kV k) u):(aU P w).is k u=true:=by
 cases k with
 | inl i=>obtain ⟨t,e⟩:=(show ∃ t,u=Value.int i t from r);subst e;exact iD P w i t
 | inr x=>obtain ⟨t,e⟩:=(show ∃ t,u=Value.str x t from r);subst e;exact iC P w x t
theorem gE {P:Program} {w:World}:∀ {ks:List Key} {us:List Value},Vals (ks.map kV) us->ItemsAre (aU P w) ks us
 | [],_,r=>by rw [List.map_nil] at r;cases r;exact .nil
 | k::ks,_,r=>by
   rw [List.map_cons] at r
   cases r with
   | cons h t=>exact .cons (mF h) (gE t)
abbrev KT (H:Hp):List (List Key×V)->List (List Key×Addr×Value)->Prop:=Paired fun p q=>p.1=q.1/\H q.2.1=some (.tup (p.1.map kV))/\RelV p.2 q.2.2
theorem KT.val {H:Hp} {kvs:List (List Key×V)} {xs:List (List Key×Addr×Value)} (r:KT H kvs xs) (k:List Key):RelO (gf kvs k) ((atKey xs k).map (·.2)):=by
 induction r with
 | nil=>exact True.intro
 | @cons p q ps qs h t ih=>
   obtain ⟨h1,_,h2⟩:=h
   by_cases e:p.1=k
   · have e':q.1=k:=h1.symm.trans e
     have b:atKey (q::qs) k=some q.2:=by simp [atKey,List.find?_cons,e']
     rw [dG e,b];exact h2
   · have e':¬ q.1=k:=fun z=>e (h1.trans z)
     have b:atKey (q::qs) k=atKey qs k:=by simp [atKey,List.find?_cons,e']
     rw [dI e,b];exact ih
theorem KT.repl {H:Hp} {kvs:List (List Key×V)} {xs:List (List Key×Addr×Value)} (r:KT H kvs xs) (k:List Key) {y:V} {u:Value} (ry:RelV y u) :
 KT H (kvs.map fun kv=>if kv.1=k then (kv.1,y) else kv) (xs.map (putAt k u)):=by
 induction r with
 | nil=>exact .nil
 | @cons p q ps qs h t ih=>
   rw [List.map_cons,List.map_cons]
   refine .cons ?_ ih
   obtain ⟨h1,h2,h3⟩:=h
   unfold putAt
   by_cases e:p.1=k
   · rw [if_pos e,if_pos (h1.symm.trans e)];exact ⟨h1,h2,ry⟩
   · rw [if_neg e,if_neg (fun z=>e (h1.trans z))];exact ⟨h1,h2,h3⟩
theorem KT.put {H:Hp} {kvs:List (List Key×V)} {xs:List (List Key×Addr×Value)} (r:KT H kvs xs) (k:List Key) {b:Addr} {y:V} {u:Value} (hb:H b=some (.tup (k.map kV))) (ry:RelV y u) :
 KT H (fO kvs k y) (storedH xs k b u):=by
 have e:(kvs.any fun kv=>decide (kv.1=k))=(atKey xs k).isSome:=by
  rw [fE,(r.val k).isSome_eq,Option.isSome_map]
 unfold fO storedH
 rw [e]
 by_cases q:(atKey xs k).isSome=true
 · rw [if_pos q,if_pos q];exact r.repl k ry
 · rw [if_neg q,if_neg q];exact Paired.snoc r ⟨rfl,hb,ry⟩
theorem KT.keeps {H H':Hp} {kvs:List (List Key×V)} {xs:List (List Key×Addr×Value)} (r:KT H kvs xs) (ht:∀ b ys,H b=some (.tup ys)->H' b=some (.tup ys)):KT H' kvs xs:=
 Paired.mapP r fun _ _ z=>⟨z.1,ht _ _ z.2.1,z.2.2⟩
section
variable {P:Program} {w:World} {H:Hp} {h:Heap} {a:Addr}
theorem rd_of {u:HO} (ok:HOk P w H h) (e:Rd H a u):ObjOk P w H h a u:=e.ok ok
theorem tD {kvs:List (Key×V)} (ok:HOk P w H h) (e:Rd H a (.dK kvs)):kvs.length<=sizeLine/\(a == sysModules)=false/\∃ vs,KV kvs vs/\h.DictOf (aU P w) a vs:=
 show ObjOk P w H h a (.dK kvs) from rd_of ok e
theorem qc {kvs:List (Key×V)} (ok:HOk P w H h) (e:H a=some (.dK kvs)):kvs.length<=sizeLine/\(a == sysModules)=false/\∃ vs,KV kvs vs/\h.DictOf (aU P w) a vs:=tD ok (.inl e)
theorem mB {ks:List Key} (ok:HOk P w H h) (e:H a=some (.tup (ks.map kV))):(tupleKind (aU P w)).is h ks a:=by
 obtain ⟨_,its,r,pT⟩:=(show ObjOk P w H h a (.tup (ks.map kV)) from ok a _ e)
 obtain ⟨o,h1,h2,n,h3⟩:=pT.tup
 exact ⟨o,its.toArray,n,h1,h2,h3,by simpa using gE r⟩
theorem tz {kvs:List (List Key×V)} (ok:HOk P w H h) (e:Rd H a (.dT kvs)):kvs.length<=sizeLine/\(a == sysModules)=false /\
 ∃ xs,KT H kvs xs/\h.DictOfH (tupleKind (aU P w)) a xs:=by
 obtain ⟨z,y,xs,r,o,es,ep,h1,h2,h3,h4,h5⟩:=(show ObjOk P w H h a (.dT kvs) from rd_of ok e)
 refine ⟨z,y,xs,r,o,es,ep,h1,h2,h3,h4,fun x hx=>?_,h5⟩
 have all:∀ {l:List (List Key×V)} {m:List (List Key×Addr×Value)},KT H l m->∀ x∈m,(tupleKind (aU P w)).is h x.1 x.2.1:=by
  intro l m q
  induction q with
  | nil=>intro x hx;exact nomatch hx
  | @cons p q ps qs hq t ih=>
    intro x hx
    rcases List.mem_cons.mp hx with e | hx
    · subst e
      exact mB ok (by rw [← hq.1];exact hq.2.1)
    · exact ih x hx
 exact all r x hx
theorem dt_of {kvs:List (List Key×V)} (ok:HOk P w H h) (e:H a=some (.dT kvs)):kvs.length<=sizeLine/\(a == sysModules)=false /\
 ∃ xs,KT H kvs xs/\h.DictOfH (tupleKind (aU P w)) a xs:=tz ok (.inl e)
end
def DGet (H:Hp) (a:Addr) (y:V) (r:Option V):Prop:=
 (∃ kvs k,Rd H a (.dK kvs)/\y=kV k/\r=gf kvs k)\/∃ kvs k b,Rd H a (.dT kvs)/\y=.ref b/\H b=some (.tup (k.map kV))/\r=gf kvs k
def DPut (H:Hp) (a:Addr) (y v:V) (H':Hp):Prop:=
 (∃ kvs k,H a=some (.dK kvs)/\y=kV k/\kvs.length<sizeLine/\H'=upd H a (.dK (fO kvs k v))) \/
 ∃ kvs k b,H a=some (.dT kvs)/\y=.ref b/\H b=some (.tup (k.map kV))/\kvs.length<sizeLine/\H'=upd H a (.dT (fO kvs k v))
theorem DGet.k {H:Hp} {a:Addr} {kvs:List (Key×V)} {k:Key} (e:H a=some (.dK kvs)):DGet H a (kV k) (gf kvs k):=.inl ⟨kvs,k,.inl e,rfl,rfl⟩
theorem DPut.k {H:Hp} {a:Addr} {kvs:List (Key×V)} {k:Key} {v:V} (e:H a=some (.dK kvs)) (hl:kvs.length<sizeLine):DPut H a (kV k) v (upd H a (.dK (fO kvs k v))):=.inl ⟨kvs,k,e,rfl,hl,rfl⟩
section
variable {X:Cx} {pins:List (Addr×Obj)} {σ:St} {H:Hp} {s:Shared} {a:Addr} {y v:V} {u r:Value} {o:Option V} {A:Around} {E:Value->Shared->Prop}
theorem tE {Q:Value->Shared->Prop} (hu:A.units+1<cLine) (I:Inv X pins σ H s) (g:DGet H a y o) (ry:RelV y u) (h:∀ s',Inv X pins σ H s'->Q (.bool (!o.isSome)) s') :
 wpAny (model X.prog X.w) A (compareOp .NotIn u (.ref a)) Q E s:=by
 rcases g with ⟨kvs,k,e,ey,l⟩ | ⟨kvs,k,b,e,ey,eb,l⟩
 · subst ey
   obtain ⟨z,hd,vs,rel,dd⟩:=tD I.hok e
   refine wpAny_notIn_of (mF ry) hd dd.mapOf ?_
   rw [← (rel.val k).isSome_eq,← l]
   exact h _ (I.tok _)
 · subst ey
   cases (show u=Value.ref b from ry)
   obtain ⟨z,hd,xs,rel,dd⟩:=tz I.hok e
   refine wpAny_notIn_heap (tupleKind_room_in1 hu) (mB I.hok eb) hd dd ?_
   have q:=(rel.val k).isSome_eq
   rw [Option.isSome_map] at q
   rw [← q,← l]
   exact h _ (I.tok _)
theorem iI {h':Heap} {t':Nat} {ob:HO} (I:Inv X pins σ H s) (mu:Mut (H a)) (hs:Heap.SameBut a s.heap h') (he:∃ q,h'.get? a=some q) (new:ObjOk X.prog X.w (upd H a ob) h' a ob) :
 Inv X pins σ (upd H a ob) { s with heap:=h',toks:=t' }:=
 I.write (x:=a) (e:=a) mu (.inl rfl) (fun b q hb z=>(hs.2 b hb).trans z) he new
theorem qP {P:Program} {w:World} {H':Hp} {h':Heap} {kvs:List (Key×V)} {vs:List (Key×Value)} (z:kvs.length<=sizeLine) (hd:(a == sysModules)=false) (rel:KV kvs vs) (dd:h'.DictOf (aU P w) a vs) :
 ObjOk P w H' h' a (.dK kvs):=⟨z,hd,vs,rel,dd⟩
theorem m9 {H':Hp} {Q:Unit->Shared->Prop} (hu:A.units+1<cLine) (I:Inv X pins σ H s) (g:DPut H a y v H') (ry:RelV y u) (rv:RelV v r) (h:∀ s',Inv X pins σ H' s'->Q () s') :
 wpAny (model X.prog X.w) A (setItem (.ref a) u r) Q E s:=by
 rcases g with ⟨kvs,k,e,ey,l,eH⟩ | ⟨kvs,k,b,e,ey,eb,l,eH⟩
 · subst ey eH
   obtain ⟨z,hd,vs,rel,dd⟩:=qc I.hok e
   have hz:vs.length<=sizeLine:=by rw [← rel.length];exact z
   have hl:(fO kvs k v).length<=sizeLine:=by have:=cB kvs k v;lia
   refine wpAny_setItem_pairs (hsz:=hz) (mF ry) dd fun h' dd' hs=>h _ ?_
   have he:∃ q,h'.get? a=some q:=let ⟨q,_,_,hq,_⟩:=dd';⟨q,hq⟩
   exact iI I (by rw [e];exact True.intro) hs he (qP hl hd (rel.put k rv) dd')
 · subst ey eH
   cases (show u=Value.ref b from ry)
   obtain ⟨z,hd,xs,rel,dd⟩:=dt_of I.hok e
   have hz:xs.length<=sizeLine:=by rw [← Paired.length rel];exact z
   have hl:(fO kvs k v).length<=sizeLine:=by have:=cB kvs k v;lia
   refine wpAny_setItem_heap (hsz:=hz) (tupleKind_room_in1 hu) (mB I.hok eb) dd fun h' dd' hs=>h _ ?_
   obtain ⟨q,es,ep,hq,h2,h3,h4,_,h5⟩:=dd'
   refine iI I (by rw [e];exact True.intro) hs ⟨q,hq⟩ ⟨hl,hd,_,(rel.put k eb rv).keeps fun c ys ec=>?_,q,es,ep,hq,h2,h3,h4,h5⟩
   rw [am (pH ec e (fun z=>nomatch z))]
   exact ec
end
section
variable {X:Cx} {pins:List (Addr×Obj)} {σ:St} {H:Hp} {s:Shared} {a:Addr} {kvs:List (Key×V)} {k:Key} {u:Value} {A:Around} {E:Value->Shared->Prop}
theorem d_pop {v:V} {more:List Value} {Q:Value->Shared->Prop} (I:Inv X pins σ H s) (e:H a=some (.dK kvs)) (ry:RelV (kV k) u) (l:gf kvs k=some v) (hm:more=[]\/∃ x,more=[x])
 (h:∀ w' s',Inv X pins σ (upd H a (.dK (jU kvs k))) s'->RelV v w'->Q w' s'):wpAny (model X.prog X.w) A (call (.builtin "dict.pop") (.ref a::u::more)) Q E s:=by
 obtain ⟨z,hd,vs,rel,dd⟩:=qc I.hok e
 obtain ⟨w',hw,rw'⟩:=RelO.some_of (v:=v) (o:=valueAt vs k) (by rw [← l];exact rel.val k)
 have hp:(keyPart u).isSome=true:=by
  cases k with
  | inl i=>obtain ⟨t,q⟩:=(show ∃ t,u=Value.int i t from ry);subst q;rfl
  | inr x=>obtain ⟨t,q⟩:=(show ∃ t,u=Value.str x t from ry);subst q;rfl
 have ha:argsOk "dict.pop" ⟨.ref a::u::more,[]⟩:=by
  rcases hm with q | ⟨x,q⟩
  · subst q;exact PySem.F.args_dict_pop_2 _ _
  · subst q;exact PySem.F.args_dict_pop_3 _ _ _
 refine call_meetsIn PySem.F.slot_dict_pop dd.typeIs PySem.F.entry_dict_pop ha (meets_dict_pop_there (aU X.prog X.w) a (mF ry) more hm hp)
  ⟨vs,w',dd,by rw [← rel.length];exact z,hw,fun h' dd' hs=>h w' _ ?_ rw'⟩
 have he:∃ q,h'.get? a=some q:=let ⟨q,_,_,hq,_⟩:=dd';⟨q,hq⟩
 exact iI I (by rw [e];exact True.intro) hs he (qP (Nat.le_trans (p0 kvs k) z) hd (rel.drop k) dd')
end
def kQ (ty td:TE):TE:=fun σ H Q=>ty σ H fun y H1=>td σ H1 fun x H2=>∃ a o,x=.ref a/\DGet H2 a y o/\Q (.bl (!o.isSome)) H2
def sDPut (td ty tv:TE):TS:=fun D σ H=>tv σ H fun v H1=>td σ H1 fun x H2=>ty σ H2 fun y H3=>∃ a H4,x=.ref a/\DPut H3 a y v H4/\D.nx σ H4
section
variable {X:Cx} {o i e value:Expr} {pos pos' tpos:Pos} {td ty tv:TE}
theorem lW (hu:X.A.units+1<cLine) (hi:PE X i ty) (ho:PE X o td):PC X .NotIn i o (kQ ty td):=by
 intro pins s σ H Q I h
 refine thn (hi pins s σ H _ I h) fun iv s1 ⟨y,H1,I1,ry,q1⟩=>thn (ho pins s1 σ H1 _ I1 q1) fun u s2 ⟨x,H2,I2,rx,a,ov,ex,g,q2⟩=>?_
 subst ex
 obtain rfl:u=Value.ref a:=rx
 exact tE hu I2 g ry fun s3 I3=>⟨.bl (!ov.isSome),H2,I3,rfl,q2⟩
theorem kE (hu:X.A.units+1<cLine) (hi:ZE X i ty) (ho:ZE X o td):ZC X .NotIn i o (kQ ty td):=by with_unfolding_all exact lW hu hi ho
theorem sg (hu:X.A.units+1<cLine) (ho:PE X o td) (hi:PE X i ty) (hv:PE X value tv) (hs:swapsWith value (some (.Subscript o i pos')) pos.line X.env=pure false) :
 PS X (.Assign [.Subscript o i pos'] value pos) (sDPut td ty tv):=by
 intro pins s σ H D I h
 refine wpAny_Assign_Subscript (thn (hv pins s σ H _ I h) fun r s1 ⟨v,H1,I1,rv,q1⟩=>thn (ho pins s1 σ H1 _ I1 q1) fun u s2 ⟨x,H2,I2,rx,q2⟩=>thn (hi pins s2 σ H2 _ I2 q2) fun iv s3 ⟨y,H3,I3,ry,a,H4,ex,g,q3⟩=>?_) hs
 subst ex
 obtain rfl:u=Value.ref a:=rx
 exact m9 hu I3 g ry rv fun s4 I4=>⟨σ,H4,I4,q3⟩
theorem qX (hu:X.A.units+1<cLine) (ho:ZE X o td) (hi:ZE X i ty) (hv:ZE X value tv) (hs:swapsWith value (some (.Subscript o i pos')) pos.line X.env=pure false) :
 ZS X (.Assign [.Subscript o i pos'] value pos) (sDPut td ty tv):=by with_unfolding_all exact sg hu ho hi hv hs
end
def dv (kvs more:List (Key×V)):List (Key×V):=more.foldl (fun acc kv=>fO acc kv.1 kv.2) kvs
theorem KV.merge:∀ {more:List (Key×V)} {rs:List (Key×Value)} {kvs:List (Key×V)} {vs:List (Key×Value)},KV more rs->KV kvs vs->KV (dv kvs more) (merged vs rs):=by
 intro more rs kvs vs r
 unfold KV at r
 induction r generalizing kvs vs with
 | nil=>intro q;exact q
 | @cons p q ps qs h t ih=>
   intro r0
   have e:KV (fO kvs p.1 p.2) (stored vs q.1 q.2):=by
    have:=r0.put p.1 h.2
    rw [← h.1];exact this
   exact ih e
theorem cR:∀ (more kvs:List (Key×V)),(dv kvs more).length<=kvs.length+more.length
 | [],kvs=>by show kvs.length<=kvs.length+0;lia
 | p::r,kvs=>by
   have h1:=cR r (fO kvs p.1 p.2)
   have h2:=cB kvs p.1 p.2
   show (dv (fO kvs p.1 p.2) r).length<=_
   rw [List.length_cons];lia
end L2
namespace DCT
open PySem PyProof.Rows SRT L2
section
variable {prog:Program} {w:World} {A:Around} {E:Value->Shared->Prop} {s:Shared} {K:Type} [DecidableEq K] {knd:KeyKind prog w K}
theorem mQ {d:Addr} {kvs:List (K×Value)} {Q:Bool->Shared->Prop} (hm:s.heap.DictOf knd d kvs) (h:Q false s):wpAny (model prog w) A (Builtin.List.listLengthHint (.ref d)) Q E s:=by
 unfold Builtin.List.listLengthHint
 refine wpAny_bind (wpAny_specialOf hm.typeIs F.slot_dict_len.lookup ?_)
 generalize hid:("dict.__len__" : String)=id0
 wp_delta
 rw [show splitId id0=some ("dict","__len__") from by subst hid;decide +kernel]
 subst hid
 refine wpAny_bind (wpAny_isInstance hm.typeIs isSubtype_dict_dict ?_)
 refine wpAny_ite_split (fun hab=>absurd hab (by decide)) (fun _=>?_)
 refine wpAny_ite_split (fun _=>?_) (fun hab=>absurd (by decide +kernel) hab)
 refine wpAny_bind (wpAny_typeOf hm.typeIs ?_)
 exact wpAny_pure h
def KeyAt (knd:KeyKind prog w K) (kvs:List (K×Value)) (i:Nat) (v:Value):Prop:=∃ k x,kvs[i]? = some (k,x)/\knd.is k v=true
theorem eu {R:Result->Shared->Prop} {d:Addr} {kvs:List (K×Value)} {ep:Nat} (hh:A.handled=none) (hd:(d == sysModules)=false) (hm:s.heap.DictAt knd d kvs ep) (hlen:kvs.length<=sizeLine) (S:Addr) (res:Value) (c₀:Nat) (hS:s.heap.get? S=some { cls:=.type "list",data:=.seq #[] c₀ })
 (hR:∀ h' tk acc' c',(∀ b o,b≠S->s.heap.get? b=some o->h'.get? b=some o)->h'.get? S=some { cls:=.type "list",dict:=none,data:=.seq acc' c',slots:=#[] } ->
   ItemsOf (KeyAt knd kvs) acc' kvs.length->R (.ok (.ret res)) { s with heap:=h',toks:=tk }) :
 wpAny (model prog w) A.in1 (Builtin.List.listExtendWith (.ref S) (.ref d) res)
  (fun fin s'=>match fin with | .done f=>R (.ok f) s' | .again c'=>c'.quiet=true/\codeAny (model prog w) A c' R s') (fun e s'=>R (.error e) s') s:=by
 obtain ⟨od,es,hod,hde,hdd,_⟩:=id hm
 have hSd:S≠d:=fun e=>by
  rw [e,hod] at hS
  have:=Option.some.inj hS
  rw [this] at hdd
  cases hdd
 have hSlt:S<s.heap.objs.size:=Heap.lt_size hS
 have hdlt:d<s.heap.objs.size:=Heap.lt_size hod
 have hSI:S≠s.heap.objs.size:=Nat.ne_of_lt hSlt
 have hdI:d≠s.heap.objs.size:=Nat.ne_of_lt hdlt
 have hSf:S∉[s.heap.objs.size,d]:=fun hmm=>by
  rcases List.mem_cons.mp hmm with e | hmm
  · exact hSI e
  · exact hSd (List.mem_singleton.mp hmm)
 have W:=(Walks.dictKeys (prog:=prog) (w:=w) (knd:=knd) (A:=A.in1) hh s.heap.objs.size d hdI kvs ep).toS
 have key:∀ (h:Heap) (c₁ tk:Nat),h.IsKeyIter s.heap.objs.size d 0 kvs.length ep->h.DictAt knd d kvs ep->(∀ b o,b≠S->s.heap.get? b=some o->h.get? b=some o) ->
  h.get? S=some { cls:=.type "list",data:=.seq #[] c₁ }->codeAny (model prog w) A (.builtin "list.extend.loop" ⟨[.ref S,.ref s.heap.objs.size,res],[]⟩) R { s with heap:=h,toks:=tk }:=by
  intro h c₁ tk hit hda hk hS₁
  refine codeAny_extend_loopS W hlen S hSf res kvs.length 0 _ #[] c₁ rfl (Nat.zero_le _) ⟨hit,hda⟩ hS₁ (ItemsOf.nil _) fun s' acc' c' hmv hS' hacc=>?_
  rw [Moved.eq_with hmv]
  refine hR s'.heap s'.toks acc' c' (fun b o hb e=>hmv.heap b o (fun hmem=>?_) (hk b o hb e)) hS' hacc
  rcases List.mem_cons.mp hmem with e' | hmem
  · exact hb e'
  · exact absurd (Heap.lt_size e) (by rw [List.mem_singleton.mp hmem];exact Nat.lt_irrefl _)
 unfold Builtin.List.listExtendWith
 refine wpAny_bind (wpAny_typeOf (T:="dict") hm.dictOf.typeIs ?_)
 have h1:Builtin.List.listSameRef (.ref S) (.ref d)=false:=by simp [Builtin.List.listSameRef,hSd]
 have h2:(Value.type "dict" == Value.type "list")=false:=by decide
 have h3:(Value.type "dict" == Value.type "tuple")=false:=by decide
 simp only [h1,h2,h3,Bool.or_false,Bool.false_eq_true,if_false]
 refine wpAny_bind (wpAny_pyIter_dict hd hm ?_)
 have keep:∀ b o,s.heap.get? b=some o->(s.heap.push { cls:=.type "dict_keyiterator",data:=.fields #[.ref d,.int 0 0,.int kvs.length 0,.int ep 0] }).get? b=some o:=fun b o e=>Heap.get?_push_of_some _ e
 have hm₁:=hm.at' fun o e=>keep _ _ e
 refine wpAny_bind (wpAny_holding (mQ hm₁.dictOf ?_))
 have hit₁:(s.heap.push { cls:=.type "dict_keyiterator",data:=.fields #[.ref d,.int 0 0,.int kvs.length 0,.int ep 0] }).IsKeyIter s.heap.objs.size d 0 kvs.length ep:=⟨_,Heap.get?_push_size _ rfl,rfl,rfl⟩
 have hS₁:=keep _ _ hS
 refine wpAny_ite_split (fun _=>?_) (fun _=>wpAny_pure ⟨plainId_quiet F.plain_extend_loop _,key _ c₀ _ hit₁ hm₁ (fun b o _ e=>keep _ _ e) hS₁⟩)
 refine wpAny_bind (wpAny_rule ?_)
 refine wpAny_bind ?_
 show wpAny _ _ (updateSeq S (·.push .none) >>= fun _=>updateSeq S (·.pop)) _ _ _
 refine wpAny_bind (wpAny_updateSeq hS₁ rfl ?_)
 have hS₂:=Heap.get?_update_self (Obj.mapSeq (·.push Value.none)) hS₁ rfl
 refine wpAny_updateSeq (hz:=by seq_fits) hS₂ rfl ?_
 have hS₃:=Heap.get?_update_self (Obj.mapSeq (·.pop)) hS₂ rfl
 refine wpAny_pure ⟨plainId_quiet F.plain_extend_loop _,key _ _ _ (hit₁.at fun o e=>?_) (hm₁.at' fun o e=>?_) (fun b o hb e=>?_) hS₃⟩
 · exact (Heap.get?_update_other _ _ hSI).trans ((Heap.get?_update_other _ _ hSI).trans e)
 · exact (Heap.get?_update_other _ _ hSd).trans ((Heap.get?_update_other _ _ hSd).trans e)
 · exact (Heap.get?_update_other _ _ (Ne.symm hb)).trans ((Heap.get?_update_other _ _ (Ne.symm hb)).trans (keep b o e))
theorem gM {d:Addr} {kvs:List (K×Value)} {ep:Nat} {Q:List Value->Shared->Prop} (hh:A.handled=none) (hd:(d == sysModules)=false) (hm:s.heap.DictAt knd d kvs ep) (hlen:kvs.length<=sizeLine)
 (h:∀ h' tk acc,(∀ b o,s.heap.get? b=some o->h'.get? b=some o)->s.heap.objs.size<h'.objs.size->ItemsOf (KeyAt knd kvs) acc kvs.length->Q acc.toList { s with heap:=h',toks:=tk }):wpAny (model prog w) A (collect (.ref d)) Q E s:=by
 unfold collect
 refine wpAny_bind (wpAny_runValue (codeAny_builtin F.entry_proto_collect ?_))
 rw [Around.under_plainId F.plain_proto_collect _]
 show wpAny _ A.in1 (newList [] >>= fun l=>again (.builtin "list.__iadd__" ⟨[l,.ref d],[]⟩)) _ _ s
 refine wpAny_bind (wpAny_newObj_type ?_)
 refine wpAny_pure ⟨plainId_quiet F.plain_list_iadd _,codeAny_builtin F.entry_list_iadd ?_⟩
 rw [Around.under_plainId F.plain_list_iadd _]
 have hN:(s.heap.push { cls:=.type "list",data:=.seq ([]:List Value).toArray }).get? s.heap.objs.size=some { cls:=.type "list",data:=.seq ([]:List Value).toArray }:=Heap.get?_push_size _ rfl
 show wpAny _ A.in1 (Builtin.List.listExtendWith (.ref s.heap.objs.size) (.ref d) (.ref s.heap.objs.size)) _ _ _
 refine eu (R:=fun r s'=>match r with
  | .ok (.ret v)=>wpAny (model prog w) A (match v with
    | .ref a=>do
      let z ← load a
      match z.data with
      | .seq xs _=>pure xs.toList
      | _=>unsupported "internal:collect"
    | _=>unsupported "internal:collect") Q E s'
  | .ok _=>False
  | .error e=>E e s') hh hd (hm.at' fun o e=>Heap.get?_push_of_some _ e) hlen s.heap.objs.size (.ref s.heap.objs.size) 0 hN fun h' tk acc' c' hk hS' hacc=>?_
 refine wpAny_bind (wpAny_load hS' ?_)
 exact wpAny_pure (h h' tk acc' (fun b o e=>hk b o (Nat.ne_of_lt (Heap.lt_size e)) (Heap.get?_push_of_some _ e)) (Heap.lt_size hS') hacc)
theorem list_dict {d:Addr} {kvs:List (K×Value)} {ep:Nat} {Q:Value->Shared->Prop} (hh:A.handled=none) (hd:(d == sysModules)=false) (hm:s.heap.DictAt knd d kvs ep) (hlen:kvs.length<=sizeLine)
 (hQ:∀ h' tk acc' c',(∀ b o,s.heap.get? b=some o->h'.get? b=some o) ->
   h'.get? s.heap.objs.size=some { cls:=.type "list",dict:=none,data:=.seq acc' c',slots:=#[] }->ItemsOf (KeyAt knd kvs) acc' kvs.length->Q (.ref s.heap.objs.size) { s with heap:=h',toks:=tk }) :
 wpAny (model prog w) A (call (.type "list") [.ref d]) Q E s:=by
 refine callType_codes (Q₁:=fun obj s₁=>obj=.ref s.heap.objs.size/\s₁={ s with heap:=s.heap.push { cls:=.type "list",data:=.seq #[] } }) F.called_list (F.typeCall_list_1 _) F.entry_list_init
  (code_list_new _ ⟨rfl,rfl⟩) fun obj s₁ h₁=>?_
 obtain ⟨rfl,rfl⟩:=h₁
 have hS:(s.heap.push { cls:=.type "list",data:=.seq #[] }).get? s.heap.objs.size=some { cls:=.type "list",data:=.seq #[] }:=Heap.get?_push_size _ rfl
 refine ⟨⟨_,hS,rfl⟩,F.args_list_init_2 _ _,?_⟩
 have hm':=hm.at' (h':=s.heap.push { cls:=.type "list",data:=.seq #[] }) fun o e=>Heap.get?_push_of_some _ e
 have hdS:s.heap.objs.size≠d:=by
  obtain ⟨o,es,ho,_⟩:=id hm
  exact Ne.symm (Nat.ne_of_lt (Heap.lt_size ho))
 show wpAny _ _ (do let old ← Builtin.List.listItems (.ref s.heap.objs.size);Builtin.List.listUpdate (.ref s.heap.objs.size) (fun _=>#[]);letGo old.toList.reverse;Builtin.List.listExtendWith (.ref s.heap.objs.size) (.ref d) .none) _ _ _
 refine wpAny_bind ?_
 unfold Builtin.List.listItems
 refine wpAny_bind (wpAny_seqItems hS rfl (wpAny_pure ?_))
 show wpAny _ _ (updateSeq s.heap.objs.size (fun _=>#[]) >>= fun _=>letGo (#[]:Array Value).toList.reverse >>= fun _=>Builtin.List.listExtendWith (.ref s.heap.objs.size) (.ref d) .none) _ _ _
 refine wpAny_bind (wpAny_updateSeq hS rfl ?_)
 have hS₂:=Heap.get?_update_self (Obj.mapSeq (fun _=>(#[]:Array Value))) hS rfl
 refine wpAny_bind (wpAny_letGo ?_)
 refine eu (A:=A.in1) hh hd (hm'.at' fun o e=>(Heap.get?_update_other _ _ hdS).trans e) hlen _ .none _ hS₂ fun h' tk acc' c' hk hS' hacc=>?_
 refine ⟨rfl,hQ h' tk acc' c' (fun b o e=>?_) hS' hacc⟩
 have hb:b≠s.heap.objs.size:=Nat.ne_of_lt (Heap.lt_size e)
 exact hk b o hb ((Heap.get?_update_other _ _ (Ne.symm hb)).trans (Heap.get?_push_of_some _ e))
theorem sorted_dict {d:Addr} {kvs:List (K×Value)} {ep:Nat} {ns:List Int} {b:Bool} {Q:Value->Shared->Prop} (hh:A.handled=none) (hd:(d == sysModules)=false) (hm:s.heap.DictAt knd d kvs ep) (hlen:kvs.length<=sizeLine)
 (hk:∀ acc:Array Value,ItemsOf (KeyAt knd kvs) acc kvs.length->IntsAre acc.toList ns)
 (h:∀ h' tk l (r:Array Value) (ns':List Int) e,(∀ b o,s.heap.get? b=some o->h'.get? b=some o)->s.heap.objs.size<=l->h'.get? l=some (seqObj "list" r e)->IntsAre r.toList ns'->ns'.Perm ns->Ordered b ns'->Q (.ref l) { s with heap:=h',toks:=tk }) :
 wpAny (model prog w) A (call (.builtin "sorted") [.ref d] (kwOf b)) Q E s:=by
 have ha:argsOk "sorted" ⟨[.ref d],kwOf b⟩:=by cases b;exact args_sorted1 _;exact args_sorted_rev _ _
 refine call_function_entry_kw kind_sorted plain_sorted entry_sorted ha ?_
 unfold Builtin.«sorted»
 refine wpAny_bind (m:=checkCount "sorted" 1 1 _) (wpAny_pure (wpAny_bind (gM (A:=A.in1) hh hd hm hlen fun h' tk acc keep hsz hacc=>wpAny_bind (wpAny_newList ?_ ?hs))))
 case hs=>rw [Array.length_toList,hacc.1];exact hlen
 have hI:=hk acc hacc
 have hz:acc.toList.length<=sizeLine:=by rw [Array.length_toList,hacc.1];exact hlen
 have hL:(h'.push (seqObj "list" acc.toList.toArray 0)).get? h'.objs.size=some (seqObj "list" acc.toList.toArray 0):=Heap.get?_push_size _ rfl
 have hs:argsOk "list.sort" ⟨[.ref h'.objs.size],kwOf b⟩:=by cases b;exact args_list_sort _;exact args_list_sort_rev _ _
 show wpAny _ _ _ _ _ { s with heap:=h'.push (seqObj "list" acc.toList.toArray 0),toks:=tk }
 refine wpAny_bind (wpAny_holding (wpAny_call_entry_kw slot_list_sort ⟨_,hL,rfl⟩ entry_list_sort (qp hL hI hz fun r ns' g1 g2 g3=>⟨_,rfl,wpAny_pure ⟨_,rfl,?_⟩⟩) hs))
 obtain ⟨e,he⟩:=sortedHeap_at (out:=r) hL
 refine h _ tk _ r ns' e (fun b o eb=>?_) (Nat.le_of_lt hsz) he g1 g2 g3
 have e1:=keep b o eb
 have e2:=Heap.get?_push_of_some (seqObj "list" acc.toList.toArray 0) e1
 have hb:b≠h'.objs.size:=Nat.ne_of_lt (Heap.lt_size e1)
 rw [sortedHeap_old hb (Heap.lt_size e2)]
 exact e2
end
end DCT
namespace L2
open PySem PySem.Spec PyProof.Rows
section
variable {X:Cx}
theorem rE {k:Key} {v:Value} (h:gB k v=true):RelV (kV k) v:=by
 cases k with
 | inl i=>
   have h':Value.isInt i v=true:=h
   cases v with
   | int j t=>exact ⟨t,by simp [Value.isInt] at h';rw [h']⟩
   | _=>simp [Value.isInt] at h'
 | inr x=>
   have h':Value.isStrOf x v=true:=h
   cases v with
   | str y t=>exact ⟨t,by simp [Value.isStrOf] at h';rw [h']⟩
   | _=>simp [Value.isStrOf] at h'
theorem gA:∀ (ks:List Key) (us:List Value),us.length=ks.length->(∀ (j:Nat) v,us[j]? = some v->∃ k,ks[j]? = some k/\gB k v=true)->Vals (ks.map kV) us
 | [],[],_,_=>.nil
 | [],_::_,h,_=>by cases h
 | _::_,[],h,_=>by cases h
 | k::ks,u::us,h,g=>by
   obtain ⟨k',e,hk⟩:=g 0 u rfl
   cases e
   exact .cons (rE hk) (gA ks us (Nat.succ.inj h) fun j v e=>g (j+1) v e)
theorem fu {P:Program} {w:World} {vs:List (Key×Value)} {acc:Array Value} (h:ItemsOf (DCT.KeyAt (aU P w) vs) acc vs.length):Vals ((vs.map (·.1)).map kV) acc.toList:=by
 refine gA _ _ (by rw [Array.length_toList,h.1,List.length_map]) fun j v e=>?_
 rw [Array.getElem?_toList] at e
 obtain ⟨k,x,e1,e2⟩:=h.2 j v e
 exact ⟨k,by rw [List.getElem?_map,e1];rfl,e2⟩
def gt (b:Bool):List V->Hp->VK->Prop:=fun xs H Q=>match xs with
 | [.ref d]=>∃ (kvs:List (Key×V)) (ns:List Int),H d=some (.dK kvs)/\(kvs.map (·.1)).map kV=ns.map V.int/\∀ l ns',H l=none->List.Perm ns' ns->Ordered b ns'->Q (.ref l) (upd H l (.lst (ns'.map V.int)))
 | _=>False
theorem lc {b:Bool} (hc:X.calm=true) (pins:List (Addr×Obj)) (s:Shared) (σ:St) (H:Hp) (xs:List V) (us:List Value) (Q:VK) (I:Inv X pins σ H s) (r:Vals xs us) (h:gt b xs H Q) :
 wpAny (model X.prog X.w) X.A (call (.builtin "sorted") us (SRT.kwOf b)) (EP X pins σ Q) X.xe s:=by
 unfold gt at h
 split at h
 · rename_i d
   obtain ⟨kvs,ns,e,ek,q⟩:=h
   obtain ⟨u,rfl,rx⟩:=bT r
   cases rx
   obtain ⟨hz,hs,vs,rel,hd⟩:=qc I.hok e
   obtain ⟨ep,hat⟩:=hd.dictAt
   have hkeys:(vs.map (·.1)).map kV=ns.map V.int:=by rw [← rel.keys];exact ek
   have hlen:ns.length=kvs.length:=by
    have:=congrArg List.length ek
    rw [List.length_map,List.length_map,List.length_map] at this
    exact this.symm
   refine DCT.sorted_dict (ns:=ns) (I.ok.hd hc) hs hat (by rw [← rel.length];exact hz) (fun acc ha=>?_) fun h' tk l rr ns' e' keep hl hr a1 a2 a3=>?_
   · have:=fu ha
     rw [hkeys] at this
     exact di this
   · refine ⟨.ref l,_,I.laid (t':=tk) (a:=l) (o:=.lst (ns'.map V.int)) keep hl ?_,rfl,q _ ns' (I.hok.fresh hl) a2 a3⟩
     refine ⟨?_,rr.toList,e',cJ a1,hr⟩
     rw [List.length_map,a2.length_eq,hlen]
     exact hz
 · exact h.elim
theorem jY (hc:X.calm=true):CallR X (.builtin "sorted") (gt false):=fun pins s σ H xs us Q I r h=>lc (b:=false) hc pins s σ H xs us Q I r h
def i0:List V->Hp->VK->Prop:=fun xs H Q=>match xs with
 | [.ref d]=>∃ (kvs:List (Key×V)),H d=some (.dK kvs)/\∀ l,H l=none->Q (.ref l) (upd H l (.lst ((kvs.map (·.1)).map kV)))
 | _=>False
theorem j0 (hc:X.calm=true):CallR X (.type "list") i0:=by
 intro pins s σ H xs us Q I r h
 unfold i0 at h
 split at h
 · rename_i d
   obtain ⟨kvs,e,q⟩:=h
   obtain ⟨u,rfl,rx⟩:=bT r
   cases rx
   obtain ⟨hz,hs,vs,rel,hd⟩:=qc I.hok e
   obtain ⟨ep,hat⟩:=hd.dictAt
   refine DCT.list_dict (I.ok.hd hc) hs hat (by rw [← rel.length];exact hz) fun h' tk acc c' keep hr ha=>?_
   have hv:=fu ha
   rw [← rel.keys] at hv
   refine ⟨.ref s.heap.objs.size,_,I.laid (t':=tk) (a:=s.heap.objs.size) (o:=.lst ((kvs.map (·.1)).map kV)) keep (Nat.le_refl _) ?_,rfl,q _ (I.hok.fresh (Nat.le_refl _))⟩
   refine ⟨?_,acc.toList,c',hv,hr⟩
   rw [List.length_map,List.length_map]
   exact hz
 · exact h.elim
variable {e:Expr} {es:List Expr} {t:TA} {p pos:Pos}
theorem lQ (hc:X.calm=true) (hg:Gl X "sorted") (hm:X.mg "sorted" = none) (ha:PA X (e::es) t) (he:starEach (e::es) X.env=(false,eval e X.env)::starEach es X.env) (hpl:(backTo pos (starEach es X.env)).any (·.1)=false) :
 PE X (.Call (.Name "sorted" p) (e::es) [] pos) (tCB (gt false) t):=aY (jY hc) hg hm cj ha (by decide) (by decide) he hpl
theorem km (hc:X.calm=true) (hg:Gl X "sorted") (hm:X.mg "sorted" = none) (ha:ZA X (e::es) t) (he:starEach (e::es) X.env=(false,eval e X.env)::starEach es X.env) (hpl:(backTo pos (starEach es X.env)).any (·.1)=false) :
 ZE X (.Call (.Name "sorted" p) (e::es) [] pos) (tCB (gt false) t):=by with_unfolding_all exact lQ hc hg hm ha he hpl
theorem lT (hc:X.calm=true) (hg:Gl X "list") (hm:X.mg "list" = none) (ha:PA X (e::es) t) (he:starEach (e::es) X.env=(false,eval e X.env)::starEach es X.env) (hpl:(backTo pos (starEach es X.env)).any (·.1)=false) :
 PE X (.Call (.Name "list" p) (e::es) [] pos) (tCB i0 t):=bD (j0 hc) hg hm dq ha (by decide) (by decide) he hpl
theorem kw (hc:X.calm=true) (hg:Gl X "list") (hm:X.mg "list" = none) (ha:ZA X (e::es) t) (he:starEach (e::es) X.env=(false,eval e X.env)::starEach es X.env) (hpl:(backTo pos (starEach es X.env)).any (·.1)=false) :
 ZE X (.Call (.Name "list" p) (e::es) [] pos) (tCB i0 t):=by with_unfolding_all exact lT hc hg hm ha he hpl
end
end L2
namespace PySem
open Sem (wp)
theorem mz:typeLookup (.type "list") "keys" = pure none:=by rw [typeLookup_type,builtinLookup_eq_fast];kernel_rfl
theorem my {prog:Program} {w:World} {A:Around} {E:Value->Shared->Prop} {s:Shared} {a:Addr} {xs:Array Value} {k:Nat} {sl:Array (Option Value)} {Q:Option Value->Shared->Prop}
 (hx:s.heap.get? a=some { cls:=.type "list",dict:=none,data:=.seq xs k,slots:=sl }) (hA:A.handled=none)
 (h:∀ h' tk,(∀ b o,s.heap.get? b=some o->h'.get? b=some o)->Q none { s with heap:=h',toks:=tk }) :
 wpAny (model prog w) A (getAttr? (.ref a) "keys") Q E s:=by
 obtain ⟨hp,g,d,tk,os⟩:=s
 have hT:∀ tk',(⟨hp,g,d,tk',os⟩:Shared).TypeIs (.ref a) "list":=fun _=>⟨_,hx,rfl⟩
 have f1:=sub_AttributeError
 have f3:=F.slot_list_getattribute.lookup
 have f4:=F.slot_list_getattribute.bind (.ref a)
 have f5:=am_list_getattr_none
 have hmiss:=mz
 have hname:(["__module__","__name__","__qualname__","__doc__","__annotations__"]:List Str).contains "keys" = false:=by decide +kernel
 have hsz:("keys" : Str).length+100<=sizeLine:=by rw [sizeLine_eq];decide +kernel
 unfold getAttr? getAttrBy? getAttrBy
 repeat (any_goals (first | assumption | exact hT _ | ((with_reducible show wpAny _ _ (call (Value.builtin "list.__getattribute__") _ _) _ _ _);refine call_meets F.slot_list_getattribute (hT _) am_entry_list_getattribute (F.args_list_getattribute_2 _ _) (meets_getattribute_miss_list a xs k sl "keys" _ hmiss hname hsz) ⟨hx,hA,fun h' tk' e hx'=>?_⟩) | wp_step))
 obtain ⟨t',u',he⟩:=hx'.there
 show wpAny _ _ (getattributeRaised _ _ _ _ _ _ _) _ _ _
 unfold getattributeRaised
 repeat (any_goals (first | assumption | wp_step))
 exact h _ _ hx'.keeps
theorem cN:plainId "dict.update.loop" = true:=by decide +kernel
theorem gK:entryFor table "dict.update.loop" = some Builtin.«dict.update.loop»:=entryFor_of_tree (by kernel_rfl)
section
variable {prog:Program} {w:World} {A:Around} {E:Value->Shared->Prop} {K:Type} [DecidableEq K] {knd:KeyKind prog w K}
def PairAt (knd:KeyKind prog w K) (h:Heap) (items:Array Value) (ps:List (K×Value)) (it d:Addr) (j:Nat):Prop:=
 ∃ p o n k key v,items[j]? = some (.ref p)/\h.get? p=some o/\o.cls=.type "tuple"/\o.data=.seq #[key,v] n/\ps[j]? = some (k,v)/\knd.is k key=true/\p≠it/\p≠d
theorem kU (kvs:List (K×Value)) (k:K) (v:Value):(stored kvs k v).length<=kvs.length+1:=by
 unfold stored
 split
 · rw [List.length_map];lia
 · rw [List.length_append];exact Nat.le_refl _
theorem on {R:Result->Shared->Prop} {it l d:Addr} {items:Array Value} {ps:List (K×Value)} (hh:A.handled=none) (hsize:items.size=ps.length) (hdi:d≠it) (hli:l≠it) (hld:l≠d) :
 ∀ (m i:Nat) (s:Shared) (kvs:List (K×Value)),ps.length - i=m->i<=ps.length->s.heap.IsListIter it l i->s.heap.IsList l items->s.heap.DictOf knd d kvs->kvs.length+m<=sizeLine ->
 (∀ j,i<=j->j<ps.length->PairAt knd s.heap items ps it d j) ->
 (∀ h' tk,(∀ b o,b≠d->b≠it->s.heap.get? b=some o->h'.get? b=some o)->h'.DictOf knd d (merged kvs (ps.drop i))->R (.ok (.ret .none)) { s with heap:=h',toks:=tk }) ->
 codeAny (model prog w) A (.builtin "dict.update.loop" ⟨[.ref d,.ref it,rawInt i,.none],[]⟩) R s:=by
 intro m
 induction m with
 | zero=>
   intro i s kvs hm hi st hl hd hz hp hR
   have hin:i=ps.length:=by lia
   subst hin
   refine codeAny_builtin gK ?_
   rw [Around.under_plainId cN _]
   unfold Builtin.«dict.update.loop»
   show wpAny _ A.in1 (pyNext (.ref it) >>= _) _ _ s
   refine wpAny_bind (wpAny_pyNext_list_end hh st hl (by rw [Array.getElem?_eq_none];lia) fun h' he=>?_)
   show wpAny _ A.in1 (Builtin.Dict.addKeywords d [] >>= _) _ _ _
   refine wpAny_bind (wpAny_pure (wpAny_pure ?_))
   refine hR h' s.toks (fun b o _ hb e=>he b o hb e) ?_
   rw [List.drop_length]
   exact hd.extBut he hdi
 | succ m ih=>
   intro i s kvs hm hi st hl hd hz hp hR
   have hlt:i<ps.length:=by lia
   obtain ⟨p,o,n,k,key,v,e1,e2,e3,e4,e5,e6,hpi,hpd⟩:=hp i (Nat.le_refl _) hlt
   refine codeAny_builtin gK ?_
   rw [Around.under_plainId cN _]
   unfold Builtin.«dict.update.loop»
   show wpAny _ A.in1 (pyNext (.ref it) >>= _) _ _ s
   refine wpAny_bind (wpAny_pyNext_list_item st hl e1 fun h1 st1 sb1=>?_)
   have g2:h1.get? p=some o:=(sb1.2 p hpi).trans e2
   refine wpAny_bind (wpAny_holding ?_)
   refine wpAny_bind (wpAny_tryCatch ?_)
   show wpAny _ A.in1 (Builtin.Dict.pairItems (.ref p)) _ _ _
   unfold Builtin.Dict.pairItems
   refine wpAny_bind (wpAny_typeOf (T:="tuple") ⟨o,g2,e3⟩ ?_)
   refine wpAny_ite_split (fun _=>?_) (fun hab=>absurd (by decide) hab)
   show wpAny _ A.in1 (seqItems? (.ref p) >>= fun z=>pure (z.getD #[]).toList) _ _ _
   unfold seqItems?
   refine wpAny_bind (wpAny_bind (wpAny_load g2 ?_))
   rw [e4]
   refine wpAny_pure (wpAny_pure ?_)
   show wpAny _ A.in1 (holding [key,v] (dictSet d key v)) _ _ _
   refine wpAny_holding (wpAny_dictSet_pairs (hsz:=by lia) e6 (hd.sameBut sb1 hdi) fun h2 hd2 sb2=>?_)
   have keep:∀ b o,b≠d->b≠it->s.heap.get? b=some o->h2.get? b=some o:=fun b o hb1 hb2 e=>(sb2.2 b hb1).trans ((sb1.2 b hb2).trans e)
   have hit2:h2.IsListIter it l (i+1):=st1.at fun o e=>(sb2.2 it (Ne.symm hdi)).trans e
   have hl2:h2.IsList l items:=hl.at fun o e=>(sb2.2 l hld).trans ((sb1.2 l hli).trans e)
   refine wpAny_pure ⟨plainId_quiet cN _,?_⟩
   have:=ih (i+1) { s with heap:=h2,toks:=s.toks+1 } (stored kvs k v) (by lia) hlt hit2 hl2 hd2 (by have:=kU kvs k v;lia) (fun j hj hj2=>?_) fun h' tk kp hd'=>?_
   · exact this
   · obtain ⟨p',o',n',k',key',v',a1,a2,a3,a4,a5,a6,a7,a8⟩:=hp j (by lia) hj2
     exact ⟨p',o',n',k',key',v',a1,keep _ _ a8 a7 a2,a3,a4,a5,a6,a7,a8⟩
   · refine hR h' tk (fun b o hb1 hb2 e=>kp b o hb1 hb2 (keep b o hb1 hb2 e)) ?_
     have ed:ps.drop i=(k,v)::ps.drop (i+1):=by
      rw [List.drop_eq_getElem_cons hlt]
      congr 1
      rw [List.getElem?_eq_getElem hlt] at e5
      exact Option.some.inj e5
     rw [ed]
     exact hd'
theorem eE {s:Shared} {l:Addr} {items:Array Value} {n:Nat} {sl:Array (Option Value)} {ps:List (K×Value)} {Q:Value->Shared->Prop} (hh:A.handled=none) (hl:s.heap.get? l=some { cls:=.type "list",dict:=none,data:=.seq items n,slots:=sl }) (hsize:items.size=ps.length) (hz:ps.length<=sizeLine)
 (hp:∀ j,j<ps.length->∃ p o n k key v,items[j]? = some (.ref p)/\s.heap.get? p=some o/\o.cls=.type "tuple"/\o.data=.seq #[key,v] n/\ps[j]? = some (k,v)/\knd.is k key=true)
 (h:∀ h' tk,(∀ b o,s.heap.get? b=some o->h'.get? b=some o)->h'.DictOf knd s.heap.objs.size (merged [] ps)->Q (.ref s.heap.objs.size) { s with heap:=h',toks:=tk }) :
 wpAny (model prog w) A (call (.type "dict") [.ref l]) Q E s:=by
 refine callType_codes (Q₁:=fun obj s₁=>obj=.ref s.heap.objs.size/\s₁={ s with heap:=s.heap.push { cls:=.type "dict",data:=.dict #[] } }) F.kt_called_dict (F.kt_typeCall_dict_1 _) F.entry_dict_init (kt_code_dict_new _ ⟨rfl,rfl⟩) ?_
 rintro obj s₁ ⟨rfl,rfl⟩
 have hnew:(s.heap.push { cls:=.type "dict",data:=.dict #[] }).DictOf knd s.heap.objs.size []:=Heap.DictOf.new s.heap
 have keep0:∀ b o,s.heap.get? b=some o->(s.heap.push { cls:=.type "dict",data:=.dict #[] }).get? b=some o:=fun b o e=>Heap.get?_push_of_some _ e
 have lt:∀ b o,s.heap.get? b=some o->b≠s.heap.objs.size:=fun b o e=>Nat.ne_of_lt (Heap.lt_size e)
 refine ⟨hnew.typeIs,F.args_dict_init_2 _ _,?_⟩
 unfold Builtin.«dict.__init__»
 refine wpAny_bind ?_
 unfold Builtin.Dict.selfAndRest
 refine wpAny_bind (wpAny_notOrdered_dict hnew.typeIs ?_)
 show wpAny _ _ (pure (s.heap.objs.size,[Value.ref l])) _ _ _
 refine wpAny_pure ?_
 show wpAny _ _ (Builtin.Dict.updateFrom "dict.__init__" s.heap.objs.size (.ref l) [] .none) _ _ _
 unfold Builtin.Dict.updateFrom
 refine wpAny_bind (wpAny_typeOf (T:="list") ⟨_,keep0 _ _ hl,rfl⟩ ?_)
 refine wpAny_ite_split (fun _=>?_) (fun hab=>absurd (by decide) hab)
 refine wpAny_bind (my (keep0 _ _ hl) hh fun h1 tk1 keep1=>?_)
 refine wpAny_ite_split (fun _=>?_) (fun hab=>absurd (by rfl) hab)
 refine wpAny_bind (wpAny_rule ?_)
 have hl1:h1.IsList l items:=⟨_,keep1 _ _ (keep0 _ _ hl),rfl,n,rfl⟩
 refine wpAny_bind (wpAny_pyIter_list hl1 ?_)
 have sz1:s.heap.objs.size<h1.objs.size:=Heap.lt_size (keep1 _ _ (show (s.heap.push { cls:=.type "dict",data:=.dict #[] }).get? s.heap.objs.size=some _ from Heap.get?_push_size _ rfl))
 have keep2:∀ b o,h1.get? b=some o->(h1.push { cls:=.type "list_iterator",data:=.fields #[.ref l,.int 0 0] }).get? b=some o:=fun b o e=>Heap.get?_push_of_some _ e
 have hd2:(h1.push { cls:=.type "list_iterator",data:=.fields #[.ref l,.int 0 0] }).DictOf knd s.heap.objs.size []:=by
  obtain ⟨ep,hat⟩:=hnew.dictAt
  exact (hat.at' fun o e=>keep2 _ _ (keep1 _ _ e)).dictOf
 have hlt1:∀ b o,h1.get? b=some o->b≠h1.objs.size:=fun b o e=>Nat.ne_of_lt (Heap.lt_size e)
 refine wpAny_pure ⟨plainId_quiet cN _,?_⟩
 refine on (A:=A.in1) (it:=h1.objs.size) (l:=l) (d:=s.heap.objs.size) (ps:=ps) hh hsize (Nat.ne_of_lt sz1) (hlt1 _ _ (keep1 _ _ (keep0 _ _ hl))) (lt _ _ hl) ps.length 0 { s with heap:=h1.push { cls:=.type "list_iterator",data:=.fields #[.ref l,.int 0 0] },toks:=tk1 } [] rfl (Nat.zero_le _)
  ⟨_,Heap.get?_push_size _ rfl,rfl,rfl⟩ (hl1.push _) hd2 (by show 0+ps.length<=_;lia) (fun j _ hj=>?_) fun h' tk kp hd'=>?_
 · obtain ⟨p,o,n',k,key,v,a1,a2,a3,a4,a5,a6⟩:=hp j hj
   have b2:=keep1 _ _ (keep0 _ _ a2)
   exact ⟨p,o,n',k,key,v,a1,keep2 _ _ b2,a3,a4,a5,a6,hlt1 _ _ b2,lt _ _ a2⟩
 · refine ⟨rfl,h h' tk (fun b o e=>?_) hd'⟩
   have b2:=keep1 _ _ (keep0 _ _ e)
   exact kp b o (lt _ _ e) (hlt1 _ _ b2) (keep2 _ _ b2)
end
end PySem
namespace L2
open PySem PySem.Spec PyProof.Rows
section
variable {X:Cx}
def i3:List V->Hp->VK->Prop:=fun xs H Q=>match xs with
 | [.ref l]=>∃ (ps:List (Key×V)) (cs:List Addr),H l=some (.lst (cs.map V.ref))/\cs.length=ps.length/\ps.length<=sizeLine/\(∀ (j:Nat) c kv,cs[j]? = some c->ps[j]? = some kv->H c=some (.tup [kV kv.1,kv.2]))/\∀ p,H p=none->Q (.ref p) (upd H p (.dK (dv [] ps)))
 | _=>False
theorem gu {P:Program} {w:World} {H:Hp} {h:Heap} (ok:HOk P w H h):∀ (ps:List (Key×V)) (cs:List Addr),cs.length=ps.length->(∀ (j:Nat) c kv,cs[j]? = some c->ps[j]? = some kv->H c=some (.tup [kV kv.1,kv.2])) ->
 ∃ vs:List (Key×Value),KV ps vs/\∀ (j:Nat) c,cs[j]? = some c->∃ o n k key v,h.get? c=some o/\o.cls=.type "tuple"/\o.data=.seq #[key,v] n/\vs[j]? = some (k,v)/\(aU P w).is k key=true
 | [],[],_,_=>⟨[],.nil,fun j c e=>by cases e⟩
 | [],_::_,hl,_=>by cases hl
 | _::_,[],hl,_=>by cases hl
 | kv::ps,c::cs,hl,g=>by
   obtain ⟨vs,h1,h2⟩:=gu ok ps cs (Nat.succ.inj hl) fun j c' kv' e1 e2=>g (j+1) c' kv' e1 e2
   obtain ⟨_,its,r,pT⟩:=ok c _ (g 0 c kv rfl rfl)
   obtain ⟨o,g1,g2,n,g3⟩:=pT.tup
   cases r with
   | cons r1 r2=>
     cases r2 with
     | cons r3 r4=>
       cases r4
       rename_i key v
       refine ⟨(kv.1,v)::vs,.cons ⟨rfl,r3⟩ h1,fun j c' e=>?_⟩
       cases j with
       | zero=>
         cases e
         exact ⟨o,n,kv.1,key,v,g1,g2,g3,rfl,mF r1⟩
       | succ j=>exact h2 j c' e
theorem lz:∀ (cs:List Addr) (its:List Value),Vals (cs.map V.ref) its->its=cs.map Value.ref
 | [],_,r=>by cases r;rfl
 | c::cs,_,r=>by
   cases r with
   | cons a b=>
     cases a
     rw [lz cs _ b]
     rfl
theorem j4 (hc:X.calm=true):CallR X (.type "dict") i3:=by
 intro pins s σ H xs us Q I r h
 unfold i3 at h
 split at h
 · rename_i l
   obtain ⟨ps,cs,e,hl,hz,hp,q⟩:=h
   obtain ⟨u,rfl,rx⟩:=bT r
   cases rx
   obtain ⟨_,its,n,rv,hO⟩:=I.hok l _ e
   obtain ⟨vs,kv,hv⟩:=gu I.hok ps cs hl hp
   have refs:its=cs.map Value.ref:=lz cs its rv
   have ln:its.length=cs.length:=by rw [refs,List.length_map]
   have lv:vs.length=ps.length:=(KV.length kv).symm
   refine eE (knd:=aU X.prog X.w) (ps:=vs) (I.ok.hd hc) hO (by rw [List.size_toArray,ln,hl,lv]) (by rw [lv];exact hz) (fun j hj=>?_) fun h' tk keep hd=>?_
   · have hjc:j<cs.length:=by lia
     obtain ⟨o,n',k,key,v,a1,a2,a3,a4,a5⟩:=hv j cs[j] (List.getElem?_eq_getElem hjc)
     refine ⟨cs[j],o,n',k,key,v,?_,a1,a2,a3,a4,a5⟩
     rw [refs,List.getElem?_toArray,List.getElem?_map,List.getElem?_eq_getElem hjc]
     rfl
   · refine ⟨.ref s.heap.objs.size,_,I.laid (t':=tk) (a:=s.heap.objs.size) (o:=.dK (dv [] ps)) keep (Nat.le_refl _) ⟨?_,beq_eq_false_iff_ne.mpr (Ne.symm (Nat.ne_of_lt I.big)),_,KV.merge kv (show KV [] [] from .nil),hd⟩,rfl,q _ (I.hok.fresh (Nat.le_refl _))⟩
     have:=cR ps []
     have:([]:List (Key×V)).length=0:=rfl
     lia
 · exact h.elim
variable {e:Expr} {es:List Expr} {t:TA} {p pos:Pos}
theorem j5:bootBuiltins "dict" = some (.type "dict"):=by decide +kernel
theorem lV (hc:X.calm=true) (hg:Gl X "dict") (hm:X.mg "dict" = none) (ha:PA X (e::es) t) (he:starEach (e::es) X.env=(false,eval e X.env)::starEach es X.env) (hpl:(backTo pos (starEach es X.env)).any (·.1)=false) :
 PE X (.Call (.Name "dict" p) (e::es) [] pos) (tCB i3 t):=bD (j4 hc) hg hm j5 ha (by decide) (by decide) he hpl
theorem kz (hc:X.calm=true) (hg:Gl X "dict") (hm:X.mg "dict" = none) (ha:ZA X (e::es) t) (he:starEach (e::es) X.env=(false,eval e X.env)::starEach es X.env) (hpl:(backTo pos (starEach es X.env)).any (·.1)=false) :
 ZE X (.Call (.Name "dict" p) (e::es) [] pos) (tCB i3 t):=by with_unfolding_all exact lV hc hg hm ha he hpl
end
structure M1 (X:Cx) (o:Expr) (m:Str) (apos:Pos) (e:Expr) (cpos:Pos):Prop where
 base:attributeBase o m X.env (eval o X.env)=eval o X.env
 few:((backTo cpos (starEach [e] X.env)).all (fun x=>!x.1)&&(backToKw cpos (keywordEach [] X.env)).all (fun x=>x.1.isSome)
  && decide (([e]:List Expr).length+([]:List Keyword).length+(if ([]:List Keyword).isEmpty then 0 else 1)<30))=true
 line:(apos.endLine == cpos.line)=true
 trees:backTo cpos (starEach [e] X.env)=[(false,eval e X.env)]
def IsD (H:Hp) (a:Addr):Prop:=(∃ kvs,Rd H a (.dK kvs))\/∃ kvs,Rd H a (.dT kvs)
theorem isD_at {X:Cx} {pins:List (Addr×Obj)} {σ:St} {H:Hp} {s:Shared} {a:Addr} (I:Inv X pins σ H s) (d:IsD H a) :
 s.TypeIs (.ref a) "dict"/\(∀ b,Value.ref a=.ref b->∃ ob,s.heap.get? b=some ob/\ob.dict=none)/\(a == sysModules)=false:=by
 rcases d with ⟨kvs,e⟩ | ⟨kvs,e⟩
 · obtain ⟨_,hd,vs,_,dd⟩:=tD I.hok e
   refine ⟨dd.typeIs,fun b q=>?_,hd⟩
   cases q
   obtain ⟨ob,_,_,h1,h2,_⟩:=dd
   exact ⟨ob,h1,h2.2.1⟩
 · obtain ⟨_,hd,xs,_,dd⟩:=tz I.hok e
   refine ⟨dd.typeIs,fun b q=>?_,hd⟩
   cases q
   obtain ⟨ob,_,_,h1,h2,_⟩:=dd
   exact ⟨ob,h1,h2.2.1⟩
def qv (td ty:TE):TE:=fun σ H Q=>td σ H fun x H1=>∃ a,x=.ref a/\IsD H1 a/\ty σ H1 fun y H2=>∃ kvs k v,H2 a=some (.dK kvs)/\y=kV k/\gf kvs k=some v/\Q v (upd H2 a (.dK (jU kvs k)))
section
variable {X:Cx} {o e f:Expr} {apos cpos:Pos} {td ty tx:TE}
theorem pe (ho:PE X o td) (he:PE X e ty) (m:M1 X o "pop" apos e cpos):PE X (.Call (.Attribute o "pop" apos) [e] [] cpos) (qv td ty):=by
 intro pins s σ H Q I h
 refine wpAny_Call_method m.base m.few m.line PySem.F.plainAttrs_dict PySem.F.slot_dict_pop PySem.F.type_dict_pop (thn (ho pins s σ H _ I h) fun u s1 ⟨x,H1,I1,rx,a,ex,d,q1⟩=>?_)
 subst ex
 obtain rfl:u=Value.ref a:=rx
 obtain ⟨t1,t2,_⟩:=isD_at I1 d
 refine ⟨t1,t2,?_⟩
 rw [m.trees]
 refine Calls.callWith_builtin rfl (Calls.evalArgs_plain (Calls.spliced_cons (thn (he pins s1 σ H1 _ I1 q1) fun iv s2 ⟨y,H2,I2,ry,kvs,k,v,ea,ey,l,q2⟩=>Calls.spliced_nil ?_)))
 subst ey
 exact d_pop I2 ea ry l (.inl rfl) fun w' s3 I3 rw'=>⟨v,_,I3,rw',q2⟩
theorem oh (ho:ZE X o td) (he:ZE X e ty) (m:M1 X o "pop" apos e cpos):ZE X (.Call (.Attribute o "pop" apos) [e] [] cpos) (qv td ty):=by with_unfolding_all exact pe ho he m
end
section
variable {X:Cx}
def Itv (K:PySem.W.Frag) (a:Addr) (n:Nat):It:=⟨fun i H=>i<n/\∃ xs,SqL K H a xs/\xs.length=n,fun i H x H'=>H'=H/\∀ xs,SqL K H a xs->xs[n - 1 - i]? = some x,fun i _=>i=n⟩
theorem oq {P:Program} {w:World} {K:PySem.W.Frag} {tg:Expr} {a it:Addr} {n:Nat}:Turn P w K tg (Itv K a n) [it] it (fun i h=>h.IsRevIter it a ((n:Int) - 1 - (i:Int))) where
 mem:=by simp
 obj:=fun i h st b hb=>by
  have e:b=it:=by simpa using hb
  subst e
  obtain ⟨o,e,c,d⟩:=st
  exact ⟨o,e,fun v z=>by rw [d] at z;cases z⟩
 keep:=fun i h h' st k=>st.at fun o e=>k it (by simp) o e
 item:=by
  intro X hP hw hK hc i pins s σ H E I hf st hg
  subst hP hw hK
  obtain ⟨hi,xs,hq,hl⟩:=hg
  obtain ⟨its,rv,pl,hz⟩:=I.list hq
  obtain ⟨f0,f1,f2,f3,f4,f5⟩:=hf it (by simp)
  have e:(n:Int) - 1 - (i:Int)=((n - 1 - i:Nat):Int):=by lia
  rw [e] at st
  have hxl:n - 1 - i<xs.length:=by lia
  have hx:xs[n - 1 - i]? = some xs[n - 1 - i]:=List.getElem?_eq_getElem hxl
  obtain ⟨u,hu,ru⟩:=rv.get hx
  refine wpAny_pyNext_rev_item st pl.isList (x:=u) (by simpa using hu) fun h' st' sb=>?_
  have I1:Inv X pins σ H { s with heap:=h' }:=I.turned (t':=s.toks) (fun b o hb e=>(sb.2 b hb).trans e) f0 f1 f3 f4 f5
  have e2:((n - 1 - i:Nat):Int) - 1=(n:Int) - 1 - ((i+1:Nat):Int):=by lia
  rw [e2] at st'
  obtain ⟨o,e,c,d⟩:=id st'
  exact ⟨u,rfl,pV (s:={ s with heap:=h' }) e c d (by decide) ⟨xs[n - 1 - i],H,I1,ru,⟨rfl,fun ys hy=>by rw [I.list_inj hy hq];exact hx⟩,st',fun b hb=>(hf b hb).1⟩⟩
 done:=by
  intro X hP hw hK hc i pins s σ H E I hf st hg
  subst hP hw hK
  have hi:i=n:=hg
  subst hi
  obtain ⟨f0,f1,f2,f3,f4,f5⟩:=hf it (by simp)
  have e:(i:Int) - 1 - (i:Int)=-1:=by lia
  rw [e] at st
  exact wpAny_pyNext_rev_end (I.ok.hd hc) st fun h' eb=>⟨rfl,I.turned (t':=s.toks) (fun b o hb e=>eb b o hb e) f0 f1 f3 f4 f5⟩
 self:=fun _ _ _ _ _ st h=>wpAny_pyIter_revIter st h
theorem eX:bootBuiltins "reversed" = some (.type "reversed"):=by decide +kernel
def iRev (K:PySem.W.Frag) (ta:TA):TI:=fun σ H R=>ta σ H fun vs H1=>match vs with
 | [.ref a]=>∃ xs,SqL K H1 a xs/\R (Itv K a xs.length) H1
 | _=>False
theorem pi_rev {l tg:Expr} {ta:TA} {p pos:Pos} (hg:Gl X "reversed") (hm:X.mg "reversed" = none) (ha:PA X [l] ta) (hs:starEach [l] X.env=[(false,eval l X.env)]:=by rfl) :
 PI X tg (.Call (.Name "reversed" p) [l] [] pos) (iRev X.K ta):=by
 intro pins s σ H R I h
 refine Call_ (dw I hg hm eX (PyProof.Rows.callWith_type1 (thn (ha pos pins s σ H _ I h) fun us s1 ⟨vs,H1,I1,r1,q1⟩=>?_) hs rfl))
 dsimp only at q1
 split at q1
 · rename_i a
   obtain ⟨xs,hx,q⟩:=q1
   obtain ⟨u,rfl,rx⟩:=bT r1
   cases rx
   obtain ⟨its,rv,pl,hz⟩:=I1.list hx
   refine call_reversed_list pl.isList ?_
   have e:((its.toArray.size:Nat):Int) - 1=(xs.length:Int) - 1 - ((0:Nat):Int):=by rw [List.size_toArray,← rv.length];lia
   rw [e]
   have hit:(s1.heap.push (revObj a ((xs.length:Int) - 1 - ((0:Nat):Int)))).IsRevIter s1.heap.objs.size a ((xs.length:Int) - 1 - ((0:Nat):Int)):=⟨_,Heap.get?_push_size _ rfl,rfl,rfl⟩
   refine wpAny_pyIter_revIter (s:={ s1 with heap:=s1.heap.push (revObj a ((xs.length:Int) - 1 - ((0:Nat):Int))) }) hit ⟨s1.heap.objs.size,[s1.heap.objs.size],_,_,H1,rfl,I1.kept (t':=s1.toks) fun b o e=>Heap.get?_push_of_some _ e,oq,hit,fun b hb=>?_,q⟩
   have e:b=s1.heap.objs.size:=by simpa using hb
   subst e
   exact I1.fpOk (Nat.le_refl _) (I1.hok.fresh (Nat.le_refl _))
 · exact q1.elim
theorem zi_rev {l tg:Expr} {ta:TA} {p pos:Pos} (hg:Gl X "reversed") (hm:X.mg "reversed" = none) (ha:ZA X [l] ta) (hs:starEach [l] X.env=[(false,eval l X.env)]:=by rfl) :
 ZI X tg (.Call (.Name "reversed" p) [l] [] pos) (iRev X.K ta):=by with_unfolding_all exact pi_rev hg hm ha hs
theorem tH {K:PySem.W.Frag} {a:Addr} {xs:List V} {nv:List Str} {ix:List (Str×Nat)} {σ:St} {H:Hp} {g:TG} {ti:TT} {te:TE} {Fin:List V->Hp->Prop} (Pv:Nat->List V->Hp->Prop) (h0:Pv 0 [] H) (hl:∀ i ys H,i<=xs.length->Pv i ys H->SqL K H a xs)
 (hs:∀ i x ys H,i<xs.length->xs[xs.length - 1 - i]? = some x->Pv i ys H->ys.length<sizeLine/\g x (st0 nv ix σ) H fun σ2 H2=>ti σ2 H2 fun b H3=>if b=true then te σ2 H3 fun y H4=>Pv (i+1) (ys++[y]) H4 else Pv (i+1) ys H3)
 (hd:∀ ys H,Pv xs.length ys H->Fin ys H):n5 nv ix g ti te σ (Itv K a xs.length) Fin H:=by
 refine ⟨fun i m ys H=>m=xs.length - i/\i<=xs.length/\Pv i ys H,⟨xs.length,by simp,Nat.zero_le _,h0⟩,?_⟩
 rintro i m ys H ⟨rfl,hi,p⟩
 have q:=hl i ys H hi p
 by_cases hlt:i<xs.length
 · have hx:xs[xs.length - 1 - i]? = some (xs[xs.length - 1 - i]'(by lia)):=List.getElem?_eq_getElem (by lia)
   refine .inr ⟨⟨hlt,xs,q,rfl⟩,(hs i _ ys H hlt hx p).1,Pv (i+1),fun σ' H' p'=>⟨xs.length - (i+1),by lia,rfl,hlt,p'⟩,fun x H' y=>?_⟩
   obtain ⟨e',y⟩:=y
   subst e'
   exact (hs i x ys _ hlt (y xs q) p).2
 · have e:i=xs.length:=by lia
   subst e
   exact .inl ⟨rfl,hd ys H p⟩
end
end L2
namespace K41
open PySem L2 M39 M40
theorem cq {H H':Hp} {p:Addr} (y:Same H H') (h:H' p=none):H p=none:=by
 cases e:H p with
 | none=>rfl
 | some o=>
   have:=y _ _ e
   rw [h] at this
   cases this
structure Lls (H:Hp) (rs:List Addr) (lss:List (List Int)):Prop where
 len:rs.length=lss.length
 at_:∀ (i:Nat) (h1:i<rs.length) (h2:i<lss.length),H rs[i]=some (.lst (lss[i].map V.int))
 nd:rs.Nodup
theorem Lls.same {H H':Hp} {rs:List Addr} {lss:List (List Int)} (x:Lls H rs lss) (y:Same H H'):Lls H' rs lss:=⟨x.len,fun i h1 h2=>y _ _ (x.at_ i h1 h2),x.nd⟩
theorem Lls.set {H:Hp} {rs:List Addr} {lss:List (List Int)} {i:Nat} {ls:List Int} (x:Lls H rs lss) (h1:i<rs.length):Lls (upd H rs[i] (.lst (ls.map V.int))) rs (lss.set i ls):=by
 refine ⟨by rw [List.length_set];exact x.len,fun j h2 h3=>?_,x.nd⟩
 rw [List.length_set] at h3
 by_cases e:i=j
 · subst e
   rw [ad,List.getElem_set_self]
 · have ne:rs[j]≠rs[i]:=fun z=>e ((List.getElem_inj x.nd).mp z).symm
   rw [am ne,List.getElem_set_ne e]
   exact x.at_ j h2 h3
theorem Lls.mem {H:Hp} {rs:List Addr} {lss:List (List Int)} (x:Lls H rs lss) {r:Addr} (h:r∈rs):∃ xs,H r=some (.lst xs):=by
 obtain ⟨i,hi,rfl⟩:=List.mem_iff_getElem.mp h
 exact ⟨_,x.at_ i hi (by rw [← x.len];exact hi)⟩
def But (rs:List Addr) (H H':Hp):Prop:=∀ b o,b∉rs->H b=some o->H' b=some o
theorem But.upd {rs:List Addr} {H H1:Hp} {r:Addr} {o:HO} (x:But rs H H1) (h:r∈rs):But rs H (upd H1 r o):=fun b u nb e=>by
 rw [am (show b≠r from fun z=>nb (by rw [z];exact h))]
 exact x b u nb e
section
variable {P:Program} {w:World} {K:PySem.W.Frag} {mg:Str->Option Value} {base:Heap} {f:Addr} {fd:FuncData}
theorem sc_beads_of:FnScope ["parting","many","parts"] ["parting","many"] (ah (top 12)):=⟨rfl,rfl,rfl,by decide +kernel,rfl,by decide +kernel,by decide +kernel⟩
def bQ:Sp:=fun vs H Q _=>∃ (a:Addr) (ns:List Int) (k:Nat),vs=[.ref a,.int k]/\H a=some (.tup (ns.map V.int))/\ns.length<=k/\k<=900/\∀ p H',H p=none->Same H H'->H' p=some (.lst ((bd ns k).map V.int))->Q (.ref p) H'
theorem iw {ns:List Int} {k i:Nat} (hk:ns.length<=k) (hi:i<k):(ns.map V.int++(List.replicate (k - ns.length) (0:Int)).map V.int)[i]? = some (.int (ns.getD i 0)):=by
 rw [← List.map_append,List.getElem?_map]
 by_cases h:i<ns.length
 · rw [List.getElem?_append_left h,List.getElem?_eq_getElem h,List.getD_eq_getElem?_getD,List.getElem?_eq_getElem h];rfl
 · rw [List.getElem?_append_right (by lia),List.getElem?_replicate,if_pos (by lia),List.getD_eq_getElem?_getD,List.getElem?_eq_none (by lia)];rfl
def tN (ns:List Int) (k m:Nat):List Int:=(List.range m).map fun (i:Nat)=>ns.getD i 0+k - 1 - i
theorem gW (ns:List Int) (k m:Nat):tN ns k (m+1)=tN ns k m++[ns.getD m 0+k - 1 - m]:=by unfold tN;rw [List.range_succ,List.map_append];rfl
theorem jw (ns:List Int) (k m:Nat):(tN ns k m).length=m:=by unfold tN;rw [List.length_map,List.length_range]
theorem iz (F:Fun K "beads_of" "beads_of" (top 12) f fd) (m_enumerate:mg "enumerate" = none) (m_len:mg "len" = none):FnOk P w K mg base CX0 1 f fd ["parting","many"] bQ:=by
 refine F.okz sc_beads_of (fun vs H Q E h=>?_) (fun cdv A outer s H vs Q E hr h=>?_)
 · obtain ⟨a,ns,k,rfl,_⟩:=h;rfl
 obtain ⟨a,ns,k,rfl,ha,hk,hk9,q⟩:=h
 have nd:=sc_beads_of.nd
 have hu:=hr.units
 refine ⟨_,(af (aq (i:=2) nd rfl (Or.inl rfl) (ai au (zn 0) (ai aF (aL (aa ag ae)) (ai aN (zn 1) (bo rfl m_len (aa (zn 0) ae) rfl rfl)))))
  (aj (aK (ba ["at","part"] [("many",1)] rfl ⟨rfl,by decide +kernel,by decide +kernel,rfl,rfl⟩ (bq rfl m_enumerate (aa (zn 2) ae)) cf (fun _ _ _ _=>bB rfl (av (ak (i:=0) (show List.Nodup (["at","part","many"]:List Str) by decide +kernel) rfl (Or.inl rfl)) (av (ak (i:=1) (show List.Nodup (["at","part","many"]:List Str) by decide +kernel) rfl (Or.inl rfl)) aZ))) (fun _ _ _ _=>aS) (fun _ _ _ _=>(ai aN (ai aN (ai au (zn 1) (zn 2)) ag) (zn 0))))))),?_⟩
 refine ⟨by show 1<=sizeLine;decide,fun d hd=>?_⟩
 have yd:=Same.new hd (.tup [V.int 0])
 refine ⟨_,.inr (yd _ _ ha),?_⟩
 rw [List.length_map]
 have ek:((k:Int) - (ns.length:Int)).toNat=k - ns.length:=by lia
 refine ⟨⟨by lia,by lia⟩,.inr ⟨_,ad,aW (by rw [ek];show 1*(k - ns.length)<=1000;lia),fun r H1 y1 hr1=>?_⟩⟩
 rw [cp,ek] at hr1
 refine .inr ⟨_,_,y1 _ _ (yd _ _ ha),hr1,aW (by rw [List.length_map,List.length_map,List.length_replicate];lia),fun r2 H2 y2 hr2=>?_⟩
 have hlen:(ns.map V.int++(List.replicate (k - ns.length) (0:Int)).map V.int).length=k:=by rw [List.length_append,List.length_map,List.length_map,List.length_replicate];lia
 have yy:=(yd.trans y1).trans y2
 refine ⟨true,_,SqK.tup hr2,bO (xs:=ns.map V.int++(List.replicate (k - ns.length) (0:Int)).map V.int) (fun i zs H'=>Same H2 H'/\zs=(tN ns k i).map V.int) ⟨Same.refl _,rfl⟩ ?_ ?_ ?_ ?_⟩
 · rintro i zs H' _ ⟨y,_⟩
   exact SqK.tup (y _ _ hr2)
 · rintro i zs H' hi ⟨_,rfl⟩
   rw [List.length_map,jw]
   exact aA (by lia)
 · rintro i x zs H' p hx ⟨y,rfl⟩ hp
   have hi:i<k:=by rw [← hlen];exact (List.getElem?_eq_some_iff.mp hx).1
   have ex:x=.int (ns.getD i 0):=by rw [iw hk hi] at hx;exact (Option.some.inj hx).symm
   subst ex
   refine ⟨p,_,rfl,SqT.of ad,rfl,_,_,rfl,_,_,rfl,rfl,?_⟩
   refine ⟨y.trans (Same.new hp _),?_⟩
   rw [gW,List.map_append]
   rfl
 · rintro zs H' ⟨y,rfl⟩ D hD
   rw [hlen]
   refine q D _ ?_ ((yy.trans y).trans (Same.new hD _)) ad
   cases e:H D with
   | none=>rfl
   | some o=>have:=(yy.trans y) D o e;rw [hD] at this;cases this
theorem sc_rounds_of:FnScope ["parting","t"] ["parting","t"] (ah (top 14)):=⟨rfl,rfl,rfl,by decide +kernel,rfl,by decide +kernel,by decide +kernel⟩
def bG:Sp:=fun vs H Q _=>∃ (a:Addr) (ns:List Int) (t:Nat),vs=[.ref a,.int t]/\H a=some (.tup (ns.map V.int))/\0<t/\t<=100/\Q (.int (rd ns t)) H
theorem qE (ns:List Int) {t:Nat} (ht:0<t):((ns.length:Int)+(t:Int) - 1) / (t:Int)=(rd ns t:Int):=by
 unfold rd
 rw [Int.natCast_ediv]
 congr 1
 lia
theorem gv (F:Fun K "rounds_of" "rounds_of" (top 14) f fd) (m_len:mg "len" = none):FnOk P w K mg base CX0 1 f fd ["parting","t"] bG:=by
 refine F.okz sc_rounds_of (fun vs H Q E h=>?_) (fun cdv A outer s H vs Q E hr h=>?_)
 · obtain ⟨a,ns,t,rfl,_⟩:=h;rfl
 obtain ⟨a,ns,t,rfl,ha,ht,ht1,q⟩:=h
 have nd:=sc_rounds_of.nd
 refine ⟨_,(aj (aK (ai bv (ai aN (ai au (bo rfl m_len (aa (zn 0) ae) rfl rfl) (zn 1)) ag) (zn 1)))),?_⟩
 refine ⟨_,.inr ha,⟨by lia,by lia⟩,?_⟩
 rw [List.length_map]
 show Q (.int (((ns.length:Int)+(t:Int) - 1) / (t:Int))) H
 rw [qE ns ht]
 exact q
def rn (bs:List Int) (t r:Nat):List Int:=(bs.filter fun b=>decide (b % (t:Int)=(r:Int))).map fun b=>b / (t:Int)
def rns (bs:List Int) (t:Nat):List (List Int):=(List.range t).map fun r=>rn bs t r
theorem dh (bs:List Int) (t:Nat):(rns bs t).length=t:=by unfold rns;rw [List.length_map,List.length_range]
theorem fj (bs:List Int) {t i:Nat} (h:i<(rns bs t).length):(rns bs t)[i]=rn bs t i:=by simp [rns]
theorem oF (bs:List Int) (b:Int) {t:Nat} (ht:0<t):rns (bs++[b]) t=(rns bs t).set (b % (t:Int)).toNat (rn bs t (b % (t:Int)).toNat++[b / (t:Int)]):=by
 have h0:0<=b % (t:Int):=Int.emod_nonneg _ (by lia)
 have h1:b % (t:Int)<t:=Int.emod_lt_of_pos _ (by lia)
 refine List.ext_getElem (by rw [List.length_set,dh,dh]) fun i hi1 hi2=>?_
 rw [fj,List.getElem_set]
 have e:rn (bs++[b]) t i=if (b % (t:Int)).toNat=i then rn bs t i++[b / (t:Int)] else rn bs t i:=by
  unfold rn
  rw [List.filter_append,List.map_append,List.filter_cons]
  by_cases h:(b % (t:Int)).toNat=i
  · rw [if_pos h,if_pos (decide_eq_true (by lia))];rfl
  · rw [if_neg h,if_neg (by simp;lia)];simp
 rw [e]
 by_cases h:(b % (t:Int)).toNat=i
 · rw [if_pos h,if_pos h,h]
 · rw [if_neg h,if_neg h,fj]
theorem sc_runs_of:FnScope ["parting","t","rounds","runs","bead"] ["parting","t","rounds"] (ah (top 15)):=⟨rfl,rfl,rfl,by decide +kernel,rfl,by decide +kernel,by decide +kernel⟩
def cm:Sp:=fun vs H Q _=>∃ (a:Addr) (ns:List Int) (t k:Nat),vs=[.ref a,.int t,.int k]/\H a=some (.tup (ns.map V.int))/\0<t/\t<=100/\ns.length<=t*k/\t*k<=900/\∀ p rs H',H p=none->(∀ r∈rs,H r=none)->Same H H'->H' p=some (.lst (rs.map V.ref))->Lls H' rs (rns (bd ns (t*k)) t)->Q (.ref p) H'
theorem jO (F:Fun K "runs_of" "runs_of" (top 15) f fd) (m_range:mg "range" = none) (F_beads_of:FnA P w K mg base "beads_of" 1 ["parting","many"] bQ):FnOk P w K mg base CX0 2 f fd ["parting","t","rounds"] cm:=by
 refine F.okz sc_runs_of (fun vs H Q E h=>?_) (fun cdv A outer s H vs Q E hr h=>?_)
 · obtain ⟨a,ns,t,k,rfl,_⟩:=h;rfl
 obtain ⟨a,ns,t,k,rfl,ha,ht,ht1,hk,hk9,q⟩:=h
 have nd:=sc_runs_of.nd
 have hu:=hr.units
 refine ⟨_,(af (db (i:=3) ["rest"] [] rfl nd rfl (Or.inl rfl) ⟨rfl,by decide +kernel,by decide +kernel,rfl,rfl⟩ (bK rfl m_range (aa (zn 1) ae)) bj (fun _ _ _ _=>ak (i:=0) (show List.Nodup (["rest"]:List Str) by decide +kernel) rfl (Or.inl rfl)) (fun _ _ _ _=>aS) (fun _ _ _ _=>(bn ae)))
  (af (bW PassesOwn.never rfl (bP (aJ F_beads_of hr (by decide) rfl (aa (zn 0) (aa (ai aF (zn 1) (zn 2)) ae)))) (ak (i:=4) nd rfl (Or.inl rfl)) (aj (dc (cI (br dy (zn 3) (ai bI (zn 4) (zn 1)) (fun _ _=>rfl)) (aa (ai bv (zn 4) (zn 1)) ae)))))
  (aj (aK (zn 3))))),?_⟩
 refine ⟨t,rfl,by lia,by lia,gO (fun i zs H'=>Same H H'/\∃ rs:List Addr,zs=rs.map V.ref/\rs.length=i/\rs.Nodup/\∀ r∈rs,H r=none/\H' r=some (.lst [])) ⟨Same.refl H,[],rfl,rfl,List.nodup_nil,by simp⟩ ?_ ?_⟩
 · rintro i zs H' hi ⟨y,rs,rfl,hl,hnd,hrs⟩
   refine ⟨by rw [List.length_map];exact aA (by lia),?_⟩
   refine ⟨Nat.zero_le _,fun d hd=>?_⟩
   have dr:d∉rs:=fun z=>by have:=(hrs d z).2;rw [hd] at this;cases this
   refine ⟨y.trans (Same.new hd _),rs++[d],by rw [List.map_append];rfl,by rw [List.length_append,hl];rfl,?_,fun r hr'=>?_⟩
   · rw [List.nodup_append]
     refine ⟨hnd,by simp,fun x hx z hz=>?_⟩
     have:z=d:=by simpa using hz
     subst this
     exact fun e=>dr (e▸hx)
   · rcases List.mem_append.mp hr' with hr' | hr'
     · refine ⟨(hrs r hr').1,?_⟩
       rw [am (show r≠d from fun z=>dr (by rw [← z];exact hr'))]
       exact (hrs r hr').2
     · have:r=d:=by simpa using hr'
       subst this
       refine ⟨?_,ad⟩
       cases e:H r with
       | none=>rfl
       | some o=>have:=y r o e;rw [hd] at this;cases this
 · rintro zs H' ⟨y,rs,rfl,hl,hnd,hrs⟩ L hL
   have eT:((t:Int)).toNat=t:=by lia
   rw [eT] at hl
   have yL:=Same.new hL (.lst (rs.map V.ref))
   have hLn:L∉rs:=fun z=>by have:=(hrs L z).2;rw [hL] at this;cases this
   have lls0:Lls (upd H' L (.lst (rs.map V.ref))) rs (rns [] t):=by
    refine ⟨by rw [hl,dh],fun i h1 h2=>?_,hnd⟩
    rw [fj]
    exact yL _ _ (hrs _ (List.getElem_mem h1)).2
   have hLL:upd H' L (.lst (rs.map V.ref)) L=some (.lst (rs.map V.ref)):=ad
   have y0:=y.trans yL
   generalize upd H' L (.lst (rs.map V.ref))=H1 at lls0 hLL y0
   refine ⟨IntMulOk.of_right (intBits_le_64 (by lia) ?_),?_⟩
   · have:k<=t*k:=Nat.le_mul_of_pos_left k ht
     lia
   refine ⟨a,ns,t*k,by rw [Int.natCast_mul],y0 _ _ ha,hk,hk9,fun B H2 hB y2 hBl=>?_⟩
   have lls2:=lls0.same y2
   have hL2:=y2 _ _ hLL
   have BL:B≠L:=fun z=>by rw [z,hLL] at hB;cases hB
   have Brs:B∉rs:=fun z=>by obtain ⟨xs,e⟩:=lls0.mem z;rw [hB] at e;cases e
   have bl:(bd ns (t*k)).length<=900:=by rw [aO];exact hk9
   generalize bd ns (t*k)=bs at hBl q bl
   have key:∀ r∈rs,H r=none:=fun r hr'=>(hrs r hr').1
   refine ⟨B,rfl,⟨_,SqL.of hBl⟩,cW (xs:=bs.map V.int) (fun i σ H'=>But rs H2 H'/\Lls H' rs (rns (bs.take i) t)/\∃ x4,σ=[some (.ref a),some (.int t),some (.int k),some (.ref L),x4]) ⟨fun _ _ _ e=>e,lls2,_,rfl⟩ ?_ ?_ ?_⟩
   · rintro i σ H' _ ⟨bt,_⟩
     exact SqL.of (bt _ _ Brs hBl)
   · rintro i x σ H' hx ⟨bt,ll,x4,rfl⟩
     have hi:i<bs.length:=by
      have:=(List.getElem?_eq_some_iff.mp hx).1
      rw [List.length_map] at this
      exact this
     have ex:x=.int bs[i]:=by rw [jh hi] at hx;exact (Option.some.inj hx).symm
     subst ex
     have h0:0<=bs[i] % (t:Int):=Int.emod_nonneg _ (by lia)
     have h1:bs[i] % (t:Int)<t:=Int.emod_lt_of_pos _ (by lia)
     have hj:(bs[i] % (t:Int)).toNat<rs.length:=by lia
     have hj2:(bs[i] % (t:Int)).toNat<(rns (bs.take i) t).length:=by rw [dh];lia
     refine ⟨(show (0:Int)<t by lia),?_⟩
     refine ⟨_,.inl (SqL.of (bt _ _ hLn hL2)),.ref rs[(bs[i] % (t:Int)).toNat],fw (j:=(bs[i] % (t:Int)).toNat) (by lia) (by rw [List.getElem?_map,List.getElem?_eq_getElem hj];rfl),?_⟩
     have hcell:=ll.at_ _ hj hj2
     rw [fj] at hcell
     refine ⟨tyL hcell,⟨by lia,by lia⟩,?_⟩
     refine ⟨_,hcell,?_,?_⟩
     · rw [List.length_map]
       unfold rn
       rw [List.length_map]
       have:=List.length_filter_le (fun b=>decide (b % (t:Int)=((bs[i] % (t:Int)).toNat:Int))) (bs.take i)
       rw [List.length_take] at this
       exact aA (by lia)
     · refine ⟨bt.upd (List.getElem_mem hj),?_,_,rfl⟩
       have:=ll.set (ls:=rn (bs.take i) t (bs[i] % (t:Int)).toNat++[bs[i] / (t:Int)]) hj
       rw [List.take_succ,List.getElem?_eq_getElem hi]
       show Lls _ rs (rns (bs.take i++[bs[i]]) t)
       rw [oF _ _ ht]
       rw [List.map_append] at this
       exact this
   · rintro σ H' ⟨bt,ll,x4,rfl⟩
     rw [List.length_map,List.take_of_length_le (Nat.le_refl _)] at ll
     refine q L rs H' (cq y hL) key (fun b o e=>?_) (bt _ _ hLn hL2) ll
     refine bt b o (fun z=>?_) (y2 _ _ (y0 _ _ e))
     have:=key b z
     rw [e] at this
     cases this
end
theorem rn_len (ns:List Int) (k t r:Nat):(rn (bd ns k) t r).length=ct ns k t r:=by
 unfold rn ct
 rw [List.length_map,List.countP_eq_length_filter]
section
variable {P:Program} {w:World} {K:PySem.W.Frag} {mg:Str->Option Value} {base:Heap} {f:Addr} {fd:FuncData}
theorem sc_lbeads:FnScope ["_law_parting_here","_law_t","_law_more","_law_many","_law_parts"] ["_law_parting_here","_law_t","_law_more"] (ah (top 24)):=⟨rfl,rfl,rfl,by decide +kernel,rfl,by decide +kernel,by decide +kernel⟩
def cL:Sp:=fun vs H Q _=>∃ (a:Addr) (ns:List Int) (t m:Nat),vs=[.ref a,.int t,.int m]/\H a=some (.tup (ns.map V.int))/\ns.length<=400/\0<t/\t<=20/\m<=20/\∀ p H',H p=none->Same H H'->H' p=some (.lst ((bd ns (t*(rd ns t+m))).map V.int))->Q (.ref p) H'
theorem lZ (F:Fun K "_law_beads" "_law_beads" (top 24) f fd) (m_enumerate:mg "enumerate" = none) (m_len:mg "len" = none) (m_list:mg "list" = none):FnOk P w K mg base CX0 1 f fd ["_law_parting_here","_law_t","_law_more"] cL:=by
 refine F.okz sc_lbeads (fun vs H Q E h=>?_) (fun cdv A outer s H vs Q E hr h=>?_)
 · obtain ⟨a,ns,t,m,rfl,_⟩:=h;rfl
 obtain ⟨a,ns,t,m,rfl,ha,hl,ht,ht1,hm,q⟩:=h
 have nd:=sc_lbeads.nd
 have hu:=hr.units
 have r1:=fL ns ht
 have r2:=lA ns ht
 have tm:t*m<=20*20:=Nat.mul_le_mul ht1 hm
 have hk:t*(rd ns t+m)=t*rd ns t+t*m:=Nat.mul_add ..
 have rl:rd ns t<=t*rd ns t:=Nat.le_mul_of_pos_left _ ht
 refine ⟨_,(af (aq (i:=3) nd rfl (Or.inr rfl) (ai aF (zn 1) (ai au (ai bv (ai aN (ai au (bo rfl m_len (aa (zn 0) ae) rfl rfl) (zn 1)) ag) (zn 1)) (zn 2))))
  (af (aq (i:=4) nd rfl (Or.inl rfl) (ai au (dC rfl m_list (aa (zn 0) ae) rfl rfl) (ai aF (bn (aa ag ae)) (ai aN (zn 3) (bo rfl m_len (aa (zn 0) ae) rfl rfl)))))
  (aj (aK (ba ["_law_where","_law_part"] [("_law_many",3)] rfl ⟨rfl,by decide +kernel,by decide +kernel,rfl,rfl⟩ (bq rfl m_enumerate (aa (zn 4) ae)) cf (fun _ _ _ _=>bB rfl (av (ak (i:=0) (show List.Nodup (["_law_where","_law_part","_law_many"]:List Str) by decide +kernel) rfl (Or.inl rfl)) (av (ak (i:=1) (show List.Nodup (["_law_where","_law_part","_law_many"]:List Str) by decide +kernel) rfl (Or.inl rfl)) aZ))) (fun _ _ _ _=>aS) (fun _ _ _ _=>(ai aN (ai aN (ai au (zn 1) (zn 2)) ag) (zn 0)))))))),?_⟩
 refine ⟨_,.inr ha,⟨by lia,by lia⟩,?_⟩
 rw [List.length_map]
 have ek:(t:Int)*(((ns.length:Int)+(t:Int) - 1) / (t:Int)+(m:Int))=((t*(rd ns t+m):Nat):Int):=by rw [qE ns ht,Int.natCast_mul,Int.natCast_add]
 refine ⟨IntMulOk.of_left (intBits_le_64 (by lia) (by lia)),?_⟩
 generalize hkk:t*(rd ns t+m)=k at ek q hk
 have kn:ns.length<=k:=by lia
 have k9:k<=900:=by lia
 clear r1 r2 tm hk rl hl ht1 hm hkk
 refine ⟨_,.inr ha,fun l hl'=>?_⟩
 have yl:=Same.new hl' (.lst (ns.map V.int))
 refine ⟨by show 1<=sizeLine;decide,fun d hd=>?_⟩
 have yd:=Same.new hd (.lst [V.int 0])
 refine ⟨_,.inr (yd _ _ (yl _ _ ha)),?_⟩
 rw [List.length_map]
 have ekk:((t:Int)*(((ns.length:Int)+(t:Int) - 1) / (t:Int)+(m:Int)) - (ns.length:Int)).toNat=k - ns.length:=by rw [ek];lia
 refine ⟨⟨by show -(2 ^ 63)<=(t:Int)*(((ns.length:Int)+(t:Int) - 1) / (t:Int)+(m:Int)) - (ns.length:Int);rw [ek];lia,by show (t:Int)*(((ns.length:Int)+(t:Int) - 1) / (t:Int)+(m:Int)) - (ns.length:Int)<2 ^ 63;rw [ek];lia⟩,.inl ⟨_,ad,aW (by show 1*((t:Int)*(((ns.length:Int)+(t:Int) - 1) / (t:Int)+(m:Int)) - (ns.length:Int)).toNat<=1000;rw [ekk];lia),fun e he=>?_⟩⟩
 have ye:=Same.new he (.lst (List.replicate ((t:Int)*(((ns.length:Int)+(t:Int) - 1) / (t:Int)+(m:Int)) - (ns.length:Int)).toNat [V.int 0]).flatten)
 refine .inl ⟨_,_,ye _ _ (yd _ _ ad),ad,aW (by rw [List.length_map];show ns.length+(List.replicate ((t:Int)*(((ns.length:Int)+(t:Int) - 1) / (t:Int)+(m:Int)) - (ns.length:Int)).toNat [V.int 0]).flatten.length<=1000;rw [cp,ekk,List.length_map,List.length_replicate];lia),fun g hg=>?_⟩
 have yg:=Same.new hg (.lst (ns.map V.int++(List.replicate (k - ns.length) (0:Int)).map V.int))
 have eg:(upd (upd (upd (upd H l (.lst (ns.map V.int))) d (.lst [V.int 0])) e (.lst (List.replicate ((t:Int)*(((ns.length:Int)+(t:Int) - 1) / (t:Int)+(m:Int)) - (ns.length:Int)).toNat [V.int 0]).flatten)) g (.lst (ns.map V.int++(List.replicate ((t:Int)*(((ns.length:Int)+(t:Int) - 1) / (t:Int)+(m:Int)) - (ns.length:Int)).toNat [V.int 0]).flatten)))=(upd (upd (upd (upd H l (.lst (ns.map V.int))) d (.lst [V.int 0])) e (.lst (List.replicate ((t:Int)*(((ns.length:Int)+(t:Int) - 1) / (t:Int)+(m:Int)) - (ns.length:Int)).toNat [V.int 0]).flatten)) g (.lst (ns.map V.int++(List.replicate (k - ns.length) (0:Int)).map V.int))):=by rw [ekk,cp]
 have y4:=((yl.trans yd).trans ye).trans yg
 have hlen:(ns.map V.int++(List.replicate (k - ns.length) (0:Int)).map V.int).length=k:=by rw [List.length_append,List.length_map,List.length_map,List.length_replicate];lia
 have goal:∀ H5:Hp,Same H H5->H5 g=some (.lst (ns.map V.int++(List.replicate (k - ns.length) (0:Int)).map V.int))->n5 ["_law_where","_law_part"] [("_law_many",3)] (gTup K 2 (gF (cV 0) (gF (cV 1) gNil))) tYes (tOp (rP0 fun i j=>.int (i - j)) (tOp (rP0 fun i j=>.int (i - j)) (tOp (rM K) (tV 1) (tV 2)) (tC (.int 1))) (tV 0)) [some (.ref a),some (.int t),some (.int m),some (.int k),some (.ref g)] (ItE false g) (fun ys H2=>∀ D,H2 D=none->Q (.ref D) (upd H2 D (.lst ys))) H5:=by
  intro H5 y5 h5
  refine bO (xs:=ns.map V.int++(List.replicate (k - ns.length) (0:Int)).map V.int) (fun i zs H'=>Same H5 H'/\zs=(tN ns k i).map V.int) ⟨Same.refl _,rfl⟩ ?_ ?_ ?_ ?_
  · rintro i zs H' _ ⟨y,_⟩
    exact SqK.lst (y _ _ h5)
  · rintro i zs H' hi ⟨_,rfl⟩
    rw [List.length_map,jw]
    exact aA (by lia)
  · rintro i x zs H' p hx ⟨y,rfl⟩ hp
    have hi:i<k:=by rw [← hlen];exact (List.getElem?_eq_some_iff.mp hx).1
    have ex:x=.int (ns.getD i 0):=by rw [iw (by lia) hi] at hx;exact (Option.some.inj hx).symm
    subst ex
    refine ⟨p,_,rfl,SqT.of ad,rfl,_,_,rfl,_,_,rfl,rfl,?_⟩
    refine ⟨y.trans (Same.new hp _),?_⟩
    rw [gW,List.map_append]
    rfl
  · rintro zs H' ⟨y,rfl⟩ D hD
    rw [hlen]
    refine q D _ ?_ ((y5.trans y).trans (Same.new hD _)) ad
    cases e:H D with
    | none=>rfl
    | some o=>have:=(y5.trans y) D o e;rw [hD] at this;cases this
 refine ⟨false,_,SqK.lst ad,?_⟩
 rw [eg]
 have:=goal _ y4 ad
 rw [← ek] at this
 exact this
end
theorem mw {K:PySem.W.Frag} {x y z:Str}:KpG2 [x,y,z] (gTup K 2 (gF (cV 0) (gF (cV 1) gNil))) (cV 2):=fun fr v H Q h=>by
 obtain ⟨a,xs,e,hq,hl,v1,r1,e1,v2,r2,e2,e3,q⟩:=h
 refine ⟨a,xs,e,hq,hl,v1,r1,e1,v2,r2,e2,e3,⟨⟨by simp,fun i w e=>?_⟩,fun v3 H3 Q3 h3=>⟨⟨by simp,fun i w e=>?_⟩,h3⟩⟩,q⟩
 · match i,e with
   | 0,e=>cases e
   | 1,e=>cases e
   | i+2,e=>exact e
 · match i,e with
   | 0,e=>exact e
   | 1,e=>exact e
   | 2,e=>cases e
   | i+3,e=>exact e
theorem jX {nv:List Str} {ix:List (Str×Nat)} {σ:L2.St} {H:Hp} {g1 g2:TG} {ti1 ti2:TT} {wi2:TI} {te:TE} {Fin:List V->Hp->Prop} {c:Bool} {a:Addr} {xs:List V} (Pv:Nat->List V->Hp->Prop) (h0:Pv 0 [] H) (hl:∀ i zs H,i<=xs.length->Pv i zs H->SqK H c a xs)
 (hs:∀ i x zs H p,xs[i]? = some x->Pv i zs H->H p=none->g1 (.ref p) (st0 nv ix σ) (upd H p (.tup [.int i,x])) fun σ1 H2=>ti1 σ1 H2 fun b H3=>if b=true then wi2 σ1 H3 fun J2 H4=>CmpI g2 ti2 te σ1 J2 zs (Pv (i+1)) H4 else Pv (i+1) zs H3)
 (hd:∀ zs H,Pv xs.length zs H->Fin zs H):tT nv ix g1 ti1 wi2 g2 ti2 te σ (ItE c a) Fin H:=by
 refine ⟨fun i m zs H=>m=xs.length - i/\i<=xs.length/\Pv i zs H,⟨_,rfl,Nat.zero_le _,h0⟩,?_⟩
 rintro i m zs H ⟨rfl,hi,p⟩
 have q:=hl i zs H hi p
 by_cases hlt:i<xs.length
 · refine .inr ⟨⟨xs,xs[i],q,by simp [hlt]⟩,Pv (i+1),fun σ' H' p'=>⟨_,by lia,rfl,hlt,p'⟩,fun x H' y=>?_⟩
   obtain ⟨pp,hn',rfl,hy⟩:=y
   obtain ⟨z,hz,rfl⟩:=hy xs q
   exact hs i z zs H pp hz p hn'
 · have e:i=xs.length:=by lia
   subst e
   exact .inl ⟨⟨xs,q,rfl⟩,hd zs H p⟩
theorem jV {σ:L2.St} {H:Hp} {g:TG} {ti:TT} {te:TE} {ys:List V} {Fin:List V->Hp->Prop} {lo:Int} {n:Nat} (Pv:Nat->List V->Hp->Prop) (h0:Pv 0 ys H)
 (hs:∀ i zs H,i<n->Pv i zs H->zs.length<sizeLine/\g (.int (lo+i)) σ H fun σ2 H2=>ti σ2 H2 fun b H3=>if b=true then te σ2 H3 fun y H4=>Pv (i+1) (zs++[y]) H4 else Pv (i+1) zs H3)
 (hd:∀ zs H,Pv n zs H->Fin zs H):CmpI g ti te σ (Itr lo n) ys Fin H:=by
 refine ⟨fun i m zs H=>m=n - i/\i<=n/\Pv i zs H,⟨n,by simp,Nat.zero_le _,h0⟩,?_⟩
 rintro i m zs H ⟨rfl,hi,p⟩
 by_cases hlt:i<n
 · refine .inr ⟨hlt,(hs i zs H hlt p).1,Pv (i+1),fun σ' H' p'=>⟨n - (i+1),by lia,rfl,hlt,p'⟩,fun x H' y=>?_⟩
   obtain ⟨e',y⟩:=y
   subst e' y
   exact (hs i zs _ hlt p).2
 · have e:i=n:=by lia
   subst e
   exact .inl ⟨Nat.le_refl _,hd zs H p⟩
theorem qF {ns:List Int} (h:PyProof.Rows.Ordered false ns):ns.Pairwise (·<=·):=h
theorem ord_dn {ns:List Int} (h:PyProof.Rows.Ordered true ns):ns.Pairwise (·>=·):=h
def qa (as:List Int) (m:Nat):List Int:=(List.range m).map fun (j:Nat)=>as.getD j 0 - j
theorem mZ (as:List Int) (m:Nat):qa as (m+1)=qa as m++[as.getD m 0 - m]:=by unfold qa;rw [List.range_succ,List.map_append];rfl
theorem p9 (as:List Int) (m:Nat):(qa as m).length=m:=by unfold qa;simp
theorem gI (l:List Int) (x:Int):(l++[x]).filter (fun x=>decide (0<x))=if 0<x then l.filter (fun x=>decide (0<x))++[x] else l.filter (fun x=>decide (0<x)):=by
 rw [List.filter_append]
 by_cases h:0<x
 · rw [if_pos h,List.filter_cons_of_pos (by simpa using h)];rfl
 · rw [if_neg h,List.filter_cons_of_neg (by simpa using h)];simp
section
variable {P:Program} {w:World} {K:PySem.W.Frag} {mg:Str->Option Value} {base:Heap} {f:Addr} {fd:FuncData}
theorem sc_po:FnScope ["beads","parts"] ["beads"] (ah (top 13)):=⟨rfl,rfl,rfl,by decide +kernel,rfl,by decide +kernel,by decide +kernel⟩
def eP:Sp:=fun vs H Q _=>∃ (a:Addr) (bs:List Int),vs=[.ref a]/\H a=some (.lst (bs.map V.int))/\bs.length<=900/\∀ r H',Same H H'->H' r=some (.tup ((pt bs).map V.int))->Q (.ref r) H'
theorem ok_po (F:Fun K "parting_of" "parting_of" (top 13) f fd) (m_enumerate:mg "enumerate" = none) (m_reversed:mg "reversed" = none) (m_sorted:mg "sorted" = none) (m_tuple:mg "tuple" = none):FnOk P w K mg base CX0 1 f fd ["beads"] eP:=by
 refine F.okz sc_po (fun vs H Q E h=>?_) (fun cdv A outer s H vs Q E hr h=>?_)
 · obtain ⟨a,bs,rfl,_⟩:=h;rfl
 obtain ⟨a,bs,rfl,ha,hl,q⟩:=h
 have nd:=sc_po.nd
 have hu:=hr.units
 refine ⟨_,(af (db (i:=1) ["behind","bead"] [] rfl nd rfl (Or.inl rfl) ⟨rfl,by decide +kernel,by decide +kernel,rfl,rfl⟩ (bq rfl m_enumerate (aa (ko rfl m_sorted (aa (zn 0) ae) rfl rfl) ae)) cf (fun _ _ _ _=>bB rfl (av (ak (i:=0) (show List.Nodup (["behind","bead"]:List Str) by decide +kernel) rfl (Or.inl rfl)) (av (ak (i:=1) (show List.Nodup (["behind","bead"]:List Str) by decide +kernel) rfl (Or.inl rfl)) aZ))) (fun _ _ _ _=>aS) (fun _ _ _ _=>(ai aN (zn 1) (zn 0))))
  (aj (aK (bL rfl m_tuple (aa (ba ["part"] [] rfl ⟨rfl,by decide +kernel,by decide +kernel,rfl,rfl⟩ (zi_rev rfl m_reversed (aa (zn 1) ae)) bj (fun _ _ _ _=>ak (i:=0) (show List.Nodup (["part"]:List Str) by decide +kernel) rfl (Or.inl rfl)) (fun _ _ _ _=>(hU (aG fq (zn 0) ag (aI _)))) (fun _ _ _ _=>(zn 0))) ae) rfl rfl)))),?_⟩
 refine ⟨bs,.inl (SqL.of ha),fun l as hl0 perm ord=>?_⟩
 have e:=fz perm (qF ord)
 subst e
 have yl:=Same.new hl0 (.lst ((asc bs).map V.int))
 have hlen:=ck bs
 refine ⟨false,_,SqK.lst ad,bO (xs:=(asc bs).map V.int) (fun i zs H'=>Same (upd H l (.lst ((asc bs).map V.int))) H'/\zs=(qa (asc bs) i).map V.int) ⟨Same.refl _,rfl⟩ ?_ ?_ ?_ ?_⟩
 · rintro i zs H' _ ⟨y,_⟩
   exact SqK.lst (y _ _ ad)
 · rintro i zs H' hi ⟨_,rfl⟩
   rw [List.length_map,p9]
   rw [List.length_map] at hi
   exact aA (by lia)
 · rintro i x zs H' p hx ⟨y,rfl⟩ hp
   have hi:i<(asc bs).length:=by
    have:=(List.getElem?_eq_some_iff.mp hx).1
    rw [List.length_map] at this
    exact this
   have ex:x=.int ((asc bs).getD i 0):=by
    rw [List.getElem?_map,List.getElem?_eq_getElem hi] at hx
    rw [List.getD_eq_getElem?_getD,List.getElem?_eq_getElem hi]
    exact (Option.some.inj hx).symm
   subst ex
   refine ⟨p,_,rfl,SqT.of ad,rfl,_,_,rfl,_,_,rfl,rfl,?_⟩
   refine ⟨y.trans (Same.new hp _),?_⟩
   rw [mZ,List.map_append]
   rfl
 · rintro zs H1 ⟨y1,rfl⟩ D hD
   rw [List.length_map]
   have yD:=Same.new hD (.lst ((qa (asc bs) (asc bs).length).map V.int))
   have z1:=(yl.trans y1).trans yD
   have hD1:(upd H1 D (.lst ((qa (asc bs) (asc bs).length).map V.int))) D=some (.lst ((dl (asc bs)).map V.int)):=ad
   generalize upd H1 D (.lst ((qa (asc bs) (asc bs).length).map V.int))=H2 at z1 hD1
   have hn:(dl (asc bs)).length=(asc bs).length:=dz _
   refine ⟨_,SqL.of hD1,tH (xs:=(dl (asc bs)).map V.int) (fun i zs H'=>H'=H2/\zs=(((dl (asc bs)).reverse.take i).filter fun x=>decide (0<x)).map V.int) ⟨rfl,by rw [List.take_zero];rfl⟩ ?_ ?_ ?_⟩
   · rintro i zs H' _ ⟨rfl,_⟩
     exact SqL.of hD1
   · rintro i x zs H' hi hx ⟨rfl,rfl⟩
     rw [List.length_map] at hi hx
     have hk:(dl (asc bs)).length - 1 - i<(dl (asc bs)).length:=by lia
     rw [List.getElem?_map,List.getElem?_eq_getElem hk] at hx
     have ex:=(Option.some.inj hx).symm
     subst ex
     have et:(dl (asc bs)).reverse.take (i+1)=(dl (asc bs)).reverse.take i++[(dl (asc bs))[(dl (asc bs)).length - 1 - i]]:=by
      rw [List.take_succ,List.getElem?_reverse hi,List.getElem?_eq_getElem hk]
      rfl
     rw [et,gI]
     refine ⟨?_,?_⟩
     · rw [List.length_map]
       refine aA (Nat.le_trans (List.length_filter_le _ _) ?_)
       rw [List.length_take]
       lia
     refine mJ (fun c=>?_) (fun c=>?_)
     · rw [if_pos c,List.map_append]
       exact ⟨rfl,rfl⟩
     · rw [if_neg c]
       exact ⟨rfl,rfl⟩
   · rintro zs H' ⟨rfl,rfl⟩ D2 hD2
     rw [List.length_map,List.take_of_length_le (by rw [List.length_reverse];exact Nat.le_refl _)]
     refine ⟨_,.inl (SqL.of ad),fun r H3 y3 hr3=>?_⟩
     exact q r H3 ((z1.trans (Same.new hD2 _)).trans y3) hr3
theorem sc_by:FnScope ["_law_numbers","_law_ordered","_law_parts"] ["_law_numbers"] (ah (top 25)):=⟨rfl,rfl,rfl,by decide +kernel,rfl,by decide +kernel,by decide +kernel⟩
theorem dn_rev {ds bs:List Int} (h:ds.Perm bs) (hd:ds.Pairwise (·>=·)):ds=(asc bs).reverse:=by
 have:=fz ((List.reverse_perm ds).trans h) (List.pairwise_reverse.mpr hd)
 rw [← this,List.reverse_reverse]
def qU (as:List Int) (m:Nat):List Int:=(List.range m).map fun (i:Nat)=>as.reverse.getD i 0 - as.length+1+i
theorem nM (as:List Int) (m:Nat):qU as (m+1)=qU as m++[as.reverse.getD m 0 - as.length+1+m]:=by unfold qU;rw [List.range_succ,List.map_append];rfl
theorem jv (as:List Int) (m:Nat):(qU as m).length=m:=by unfold qU;simp
theorem qi (as:List Int):qU as as.length=(dl as).reverse:=by
 refine List.ext_getElem? fun i=>?_
 by_cases hi:i<as.length
 · have hk:as.length - 1 - i<as.length:=by lia
   unfold qU
   rw [List.getElem?_map,List.getElem?_range hi,List.getElem?_reverse (by rw [dz];exact hi),dz]
   unfold dl
   rw [List.getElem?_map,List.getElem?_range hk]
   show some (as.reverse.getD i 0 - (as.length:Int)+1+(i:Int))=some (as.getD (as.length - 1 - i) 0 - ((as.length - 1 - i:Nat):Int))
   rw [List.getD_eq_getElem?_getD,List.getElem?_reverse hi,List.getD_eq_getElem?_getD]
   congr 1
   lia
 · rw [List.getElem?_eq_none (by rw [jv];lia),List.getElem?_eq_none (by rw [List.length_reverse,dz];lia)]
theorem ok_by (F:Fun K "_law_by" "_law_by" (top 25) f fd) (m_enumerate:mg "enumerate" = none) (m_len:mg "len" = none) (m_sorted:mg "sorted" = none) (m_tuple:mg "tuple" = none):FnOk P w K mg base CX0 1 f fd ["_law_numbers"] eP:=by
 refine F.okz sc_by (fun vs H Q E h=>?_) (fun cdv A outer s H vs Q E hr h=>?_)
 · obtain ⟨a,bs,rfl,_⟩:=h;rfl
 obtain ⟨a,bs,rfl,ha,hl,q⟩:=h
 have nd:=sc_by.nd
 have hu:=hr.units
 refine ⟨_,(af (aq (i:=1) nd rfl (Or.inr rfl) (dN rfl m_sorted (aa (zn 0) ae) rfl))
  (af (db (i:=2) ["_law_where","_law_bead"] [("_law_ordered",1)] rfl nd rfl (Or.inl rfl) ⟨rfl,by decide +kernel,by decide +kernel,rfl,rfl⟩ (bq rfl m_enumerate (aa (zn 1) ae)) cf (fun _ _ _ _=>bB rfl (av (ak (i:=0) (show List.Nodup (["_law_where","_law_bead","_law_ordered"]:List Str) by decide +kernel) rfl (Or.inl rfl)) (av (ak (i:=1) (show List.Nodup (["_law_where","_law_bead","_law_ordered"]:List Str) by decide +kernel) rfl (Or.inl rfl)) aZ))) (fun _ _ _ _=>aS) (fun _ _ _ _=>(ai au (ai au (ai aN (zn 1) (dE rfl m_len (aa (zn 2) ae) rfl rfl rfl)) ag) (zn 0))))
  (aj (aK (bL rfl m_tuple (aa (ba ["_law_part"] [] rfl ⟨rfl,by decide +kernel,by decide +kernel,rfl,rfl⟩ (bP (zn 2)) bj (fun _ _ _ _=>ak (i:=0) (show List.Nodup (["_law_part"]:List Str) by decide +kernel) rfl (Or.inl rfl)) (fun _ _ _ _=>(hU (aG fq (zn 0) ag (aI _)))) (fun _ _ _ _=>(zn 0))) ae) rfl rfl))))),?_⟩
 refine ⟨bs,.inl (SqL.of ha),fun l ds hl0 perm ord=>?_⟩
 have e:=dn_rev perm (ord_dn ord)
 subst e
 have hlen:=ck bs
 have yl:=Same.new hl0 (.lst ((asc bs).reverse.map V.int))
 have hl1:(upd H l (.lst ((asc bs).reverse.map V.int))) l=some (.lst ((asc bs).reverse.map V.int)):=ad
 generalize upd H l (.lst ((asc bs).reverse.map V.int))=H0 at yl hl1
 refine ⟨false,_,SqK.lst hl1,bO (xs:=(asc bs).reverse.map V.int) (fun i zs H'=>Same H0 H'/\zs=(qU (asc bs) i).map V.int) ⟨Same.refl _,rfl⟩ ?_ ?_ ?_ ?_⟩
 · rintro i zs H' _ ⟨y,_⟩
   exact SqK.lst (y _ _ hl1)
 · rintro i zs H' hi ⟨_,rfl⟩
   rw [List.length_map,jv]
   rw [List.length_map,List.length_reverse] at hi
   exact aA (by lia)
 · rintro i x zs H' p hx ⟨y,rfl⟩ hp
   have hi:i<(asc bs).reverse.length:=by
    have:=(List.getElem?_eq_some_iff.mp hx).1
    rw [List.length_map] at this
    exact this
   have ex:x=.int ((asc bs).reverse.getD i 0):=by
    rw [List.getElem?_map,List.getElem?_eq_getElem hi] at hx
    rw [List.getD_eq_getElem?_getD,List.getElem?_eq_getElem hi]
    exact (Option.some.inj hx).symm
   subst ex
   have yp:=Same.new hp (.tup [.int (i:Int),.int ((asc bs).reverse.getD i 0)])
   refine ⟨p,_,rfl,SqT.of ad,rfl,_,_,rfl,_,_,rfl,rfl,?_⟩
   refine ⟨_,.inl (SqL.of (yp _ _ (y _ _ hl1))),?_⟩
   rw [List.length_map,List.length_reverse]
   refine ⟨y.trans yp,?_⟩
   rw [nM,List.map_append]
   rfl
 · rintro zs H1 ⟨y1,rfl⟩ D hD
   rw [List.length_map,List.length_reverse,qi]
   have yD:=Same.new hD (.lst ((dl (asc bs)).reverse.map V.int))
   have z1:=(yl.trans y1).trans yD
   have hD1:(upd H1 D (.lst ((dl (asc bs)).reverse.map V.int))) D=some (.lst ((dl (asc bs)).reverse.map V.int)):=ad
   generalize upd H1 D (.lst ((dl (asc bs)).reverse.map V.int))=H2 at z1 hD1
   have hn:(dl (asc bs)).length=(asc bs).length:=dz _
   refine ⟨D,rfl,⟨_,SqL.of hD1⟩,cY (xs:=(dl (asc bs)).reverse.map V.int) (fun i zs H'=>H'=H2/\zs=(((dl (asc bs)).reverse.take i).filter fun x=>decide (0<x)).map V.int) ⟨rfl,by rw [List.take_zero];rfl⟩ ?_ ?_ ?_⟩
   · rintro i zs H' _ ⟨rfl,_⟩
     exact SqL.of hD1
   · rintro i x zs H' hx ⟨rfl,rfl⟩
     have hi:i<(dl (asc bs)).reverse.length:=by
      have:=(List.getElem?_eq_some_iff.mp hx).1
      rw [List.length_map] at this
      exact this
     rw [List.getElem?_map,List.getElem?_eq_getElem hi] at hx
     have ex:=(Option.some.inj hx).symm
     subst ex
     have et:(dl (asc bs)).reverse.take (i+1)=(dl (asc bs)).reverse.take i++[(dl (asc bs)).reverse[i]]:=by
      rw [List.take_succ,List.getElem?_eq_getElem hi]
      rfl
     rw [et,gI]
     refine ⟨?_,?_⟩
     · rw [List.length_map]
       refine aA (Nat.le_trans (List.length_filter_le _ _) ?_)
       rw [List.length_take]
       rw [List.length_reverse] at hi
       lia
     refine mJ (fun c=>?_) (fun c=>?_)
     · rw [if_pos c,List.map_append]
       exact ⟨rfl,rfl⟩
     · rw [if_neg c]
       exact ⟨rfl,rfl⟩
   · rintro zs H' ⟨rfl,rfl⟩ D2 hD2
     rw [List.length_map,List.take_of_length_le (Nat.le_refl _)]
     refine ⟨_,.inl (SqL.of ad),fun r H3 y3 hr3=>?_⟩
     exact q r H3 ((z1.trans (Same.new hD2 _)).trans y3) hr3
end
def qK (t:Nat) (c:Nat->Nat) (m:Nat):List Int:=(List.range m).flatMap fun (r:Nat)=>(List.range (c r)).map fun (i:Nat)=>((r+t*i:Nat):Int)
def qJ (t r j:Nat):List Int:=(List.range j).map fun (i:Nat)=>((r+t*i:Nat):Int)
theorem gz (t:Nat) (c:Nat->Nat) (m:Nat):qK t c (m+1)=qK t c m++qJ t m (c m):=by
 unfold qK qJ
 rw [List.range_succ,List.flatMap_append]
 simp
theorem mq (t r j:Nat):qJ t r (j+1)=qJ t r j++[((r+t*j:Nat):Int)]:=by unfold qJ;rw [List.range_succ,List.map_append];rfl
theorem i8 (t r j:Nat):(qJ t r j).length=j:=by unfold qJ;simp
theorem jf {t:Nat} {c:Nat->Nat}:∀ m:Nat,(∀ r,r<m->c r<=900)->(qK t c m).length<=m*900
 | 0,_=>Nat.le_refl _
 | m+1,h=>by
   rw [gz,List.length_append,i8,Nat.add_mul,Nat.one_mul]
   have:=jf (t:=t) m fun r hr=>h r (by lia)
   have:=h m (by lia)
   lia
theorem mulS {a b:Int} (h1:-(2 ^ 64)<a) (h2:a<2 ^ 64):IntMulOk a b:=IntMulOk.of_left (intBits_le_64 h1 h2)
section
variable {P:Program} {w:World} {K:PySem.W.Frag} {mg:Str->Option Value} {base:Heap} {f:Addr} {fd:FuncData}
theorem sc_wl:FnScope ["numbers","t"] ["numbers"] (ah (top 16)):=⟨rfl,rfl,rfl,by decide +kernel,rfl,by decide +kernel,by decide +kernel⟩
def rf:Sp:=fun vs H Q _=>∃ (a:Addr) (t:Nat) (c:Nat->Nat),vs=[.ref a]/\H a=some (.lst ((List.range t).map fun (r:Nat)=>V.int (c r)))/\t<=100/\(∀ r,r<t->c r<=900)/\(aE t c).length<=900/\∀ r H',Same H H'->H' r=some (.tup ((pt (aE t c)).map V.int))->Q (.ref r) H'
theorem ok_wl (F:Fun K "with_least_beads" "with_least_beads" (top 16) f fd) (m_enumerate:mg "enumerate" = none) (m_len:mg "len" = none) (m_range:mg "range" = none) (F_parting_of:FnA P w K mg base "parting_of" 1 ["beads"] eP):FnOk P w K mg base CX0 2 f fd ["numbers"] rf:=by
 refine F.okz sc_wl (fun vs H Q E h=>?_) (fun cdv A outer s H vs Q E hr h=>?_)
 · obtain ⟨a,t,c,rfl,_⟩:=h;rfl
 obtain ⟨a,t,c,rfl,ha,ht,hc,hlen,q⟩:=h
 have nd:=sc_wl.nd
 have hu:=hr.units
 refine ⟨_,(af (aq (i:=1) nd rfl (Or.inr rfl) (bo rfl m_len (aa (zn 0) ae) rfl rfl))
  (aj (aK (aJ F_parting_of hr (by decide) rfl (aa (ze_two ["rest","number","at"] [("t",1)] rfl ⟨rfl,by decide +kernel,by decide +kernel,rfl,rfl⟩ (bq rfl m_enumerate (aa (zn 0) ae)) mw (fun _ _ _ _=>bB rfl (av (ak (i:=0) (show List.Nodup (["rest","number","at","t"]:List Str) by decide +kernel) rfl (Or.inl rfl)) (av (ak (i:=1) (show List.Nodup (["rest","number","at","t"]:List Str) by decide +kernel) rfl (Or.inl rfl)) aZ))) (fun _ _ _ _=>aS) (fun _ _ _ _=>(bK rfl m_range (aa (zn 1) ae))) (fun _ _ _ _=>ak (i:=2) (show List.Nodup (["rest","number","at","t"]:List Str) by decide +kernel) rfl (Or.inl rfl)) (fun _ _ _ _=>aS) (fun _ _ _ _=>(ai au (zn 0) (ai aF (zn 3) (zn 2))))) ae))))),?_⟩
 refine ⟨_,.inl (SqL.of ha),?_⟩
 rw [List.length_map,List.length_range]
 refine ⟨false,_,SqK.lst ha,jX (xs:=(List.range t).map fun (r:Nat)=>V.int (c r)) (fun i zs H'=>Same H H'/\zs=(qK t c i).map V.int) ⟨Same.refl _,rfl⟩ ?_ ?_ ?_⟩
 · rintro i zs H' _ ⟨y,_⟩
   exact SqK.lst (y _ _ ha)
 · rintro i x zs H' p hx ⟨y,rfl⟩ hp
   have hi:i<t:=by
    have:=(List.getElem?_eq_some_iff.mp hx).1
    rw [List.length_map,List.length_range] at this
    exact this
   have ex:x=.int (c i):=by
    rw [List.getElem?_map,List.getElem?_range hi] at hx
    exact (Option.some.inj hx).symm
   subst ex
   have yp:=Same.new hp (.tup [.int (i:Int),.int (c i)])
   refine ⟨p,_,rfl,SqT.of ad,rfl,_,_,rfl,_,_,rfl,rfl,?_⟩
   have hci:=hc i hi
   refine ⟨(c i:Int),rfl,by lia,by lia,?_⟩
   refine jV (fun j zs H''=>Same H H''/\zs=(qK t c i++qJ t i j).map V.int) ⟨y.trans yp,by show _=(qK t c i++[]).map V.int;rw [List.append_nil]⟩ ?_ ?_
   · rintro j zs H'' hj ⟨y',rfl⟩
     have hj':j<c i:=by lia
     have hlt:=jf (t:=t) (c:=c) i fun r hr'=>hc r (by lia)
     refine ⟨?_,?_⟩
     · rw [List.length_map,List.length_append,i8,sizeLine_eq]
       have:i*900<=100*900:=Nat.mul_le_mul_right _ (by lia)
       lia
     refine ⟨mulS (by lia) (by lia),?_⟩
     refine ⟨y',?_⟩
     rw [mq,← List.append_assoc,List.map_append]
     have e:(i:Int)+(t:Int)*(0+(j:Int))=((i+t*j:Nat):Int):=by rw [Int.zero_add,Int.natCast_add,Int.natCast_mul]
     show _++[V.int ((i:Int)+(t:Int)*(0+(j:Int)))]=_
     rw [e]
     simp only [List.map_append,List.map_cons,List.map_nil]
   · rintro zs H'' ⟨y',rfl⟩
     refine ⟨y',?_⟩
     rw [gz,Int.toNat_natCast]
 · rintro zs H1 ⟨y1,rfl⟩ D hD
   rw [List.length_map,List.length_range]
   have yD:=Same.new hD (.lst ((qK t c t).map V.int))
   refine ⟨D,aE t c,rfl,ad,hlen,fun r H2 y2 hr2=>?_⟩
   exact q r H2 ((y1.trans yD).trans y2) hr2
structure Tl (H:Hp) (qs:List Addr) (lss:List (List Int)):Prop where
 len:qs.length=lss.length
 at_:∀ (i:Nat) (h1:i<qs.length) (h2:i<lss.length),H qs[i]=some (.tup (lss[i].map V.int))
theorem Tl.same {H H':Hp} {qs:List Addr} {lss:List (List Int)} (x:Tl H qs lss) (y:Same H H'):Tl H' qs lss:=⟨x.len,fun i h1 h2=>y _ _ (x.at_ i h1 h2)⟩
theorem Tl.snoc {H:Hp} {qs:List Addr} {lss:List (List Int)} {q:Addr} {ls:List Int} (x:Tl H qs lss) (e:H q=some (.tup (ls.map V.int))):Tl H (qs++[q]) (lss++[ls]):=by
 have hl:=x.len
 refine ⟨by rw [List.length_append,List.length_append,hl];rfl,fun i h1 h2=>?_⟩
 by_cases hi:i<qs.length
 · rw [List.getElem_append_left hi,List.getElem_append_left (by lia)]
   exact x.at_ i hi (by lia)
 · have h1':i<qs.length+1:=by simpa using h1
   have e':i=qs.length:=by lia
   subst e'
   rw [List.getElem_append_right (Nat.le_refl _),List.getElem_append_right (by lia)]
   simpa [hl] using e
def t4 (ns:List Int) (t:Nat):List (List Int):=(List.range t).map fun (r:Nat)=>pt (rq (bd ns (t*rd ns t)) t r)
def core (ns:List Int) (t:Nat):List Int:=pt (aE t fun r=>cnt (bd ns (t*rd ns t)) t r)
def Apt (H:Hp) (p:Addr) (ns:List Int) (t:Nat):Prop:=∃ c d qs,H p=some (.tup [.ref c,.ref d])/\H c=some (.tup ((core ns t).map V.int))/\H d=some (.tup (qs.map V.ref))/\Tl H qs (t4 ns t)
theorem sc_apart:FnScope ["parting","t","runs","core"] ["parting","t"] (ah (top 17)):=⟨rfl,rfl,rfl,by decide +kernel,rfl,by decide +kernel,by decide +kernel⟩
def fI:Sp:=fun vs H Q _=>∃ (a:Addr) (ns:List Int) (t:Nat),vs=[.ref a,.int t]/\H a=some (.tup (ns.map V.int))/\ns.length<=400/\0<t/\t<=20/\∀ p H',Same H H'->Apt H' p ns t->Q (.ref p) H'
theorem qB (bs:List Int) (t:Nat) {i:Nat} (h:i<(rns bs t).length):(rns bs t)[i]=rq bs t i:=fj bs h
theorem pE (F:Fun K "apart" "apart" (top 17) f fd) (m_len:mg "len" = none) (m_tuple:mg "tuple" = none) (F_rounds_of:FnA P w K mg base "rounds_of" 1 ["parting","t"] bG) (F_runs_of:FnA P w K mg base "runs_of" 2 ["parting","t","rounds"] cm) (F_parting_of:FnA P w K mg base "parting_of" 1 ["beads"] eP) (F_with_least_beads:FnA P w K mg base "with_least_beads" 2 ["numbers"] rf):FnOk P w K mg base CX0 3 f fd ["parting","t"] fI:=by
 refine F.okz sc_apart (fun vs H Q E h=>?_) (fun cdv A outer s H vs Q E hr h=>?_)
 · obtain ⟨a,ns,t,rfl,_⟩:=h;rfl
 obtain ⟨a,ns,t,rfl,ha,hl,t0,t1,q⟩:=h
 have nd:=sc_apart.nd
 have hu:=hr.units
 have hge:=fL ns t0
 have hle:=lA ns t0
 refine ⟨_,(af (aq (i:=2) nd rfl (Or.inl rfl) (aJ F_runs_of hr (by decide) rfl (aa (zn 0) (aa (zn 1) (aa (aJ F_rounds_of hr (by decide) rfl (aa (zn 0) (aa (zn 1) ae))) ae)))))
  (af (aq (i:=3) nd rfl (Or.inl rfl) (aJ F_with_least_beads hr (by decide) rfl (aa (ba ["run"] [] rfl ⟨rfl,by decide +kernel,by decide +kernel,rfl,rfl⟩ (bP (zn 2)) bj (fun _ _ _ _=>ak (i:=0) (show List.Nodup (["run"]:List Str) by decide +kernel) rfl (Or.inl rfl)) (fun _ _ _ _=>aS) (fun _ _ _ _=>(dE rfl m_len (aa (zn 0) ae) rfl rfl rfl))) ae)))
  (aj (aK (aL (aa (zn 3) (aa (bL rfl m_tuple (aa (ba ["run"] [] rfl ⟨rfl,by decide +kernel,by decide +kernel,rfl,rfl⟩ (bP (zn 2)) bj (fun _ _ _ _=>ak (i:=0) (show List.Nodup (["run"]:List Str) by decide +kernel) rfl (Or.inl rfl)) (fun _ _ _ _=>aS) (fun _ _ _ _=>(aJ F_parting_of hr (by decide) rfl (aa (zn 0) ae)))) ae) rfl rfl) ae))))))),?_⟩
 refine ⟨a,ns,t,rfl,ha,t0,by lia,?_⟩
 refine ⟨a,ns,t,rd ns t,rfl,ha,t0,by lia,hge,by lia,fun p rs H1 _ _ y1 hp ls=>?_⟩
 have hrl:rs.length=t:=by rw [ls.len];unfold rns;simp
 have hlr:∀ r,r<t->cnt (bd ns (t*rd ns t)) t r<=900:=fun r _=>by
  have:cnt (bd ns (t*rd ns t)) t r<=(bd ns (t*rd ns t)).length:=List.countP_le_length
  rw [aO] at this
  lia
 refine ⟨p,rfl,⟨_,SqL.of hp⟩,cY (xs:=rs.map V.ref) (fun i zs H'=>H'=H1/\zs=(List.range i).map fun (r:Nat)=>V.int (cnt (bd ns (t*rd ns t)) t r)) ⟨rfl,rfl⟩ ?_ ?_ ?_⟩
 · rintro i zs H' _ ⟨rfl,_⟩
   exact SqL.of hp
 · rintro i x zs H' hx ⟨rfl,rfl⟩
   have hi:i<rs.length:=by
    have:=(List.getElem?_eq_some_iff.mp hx).1
    rw [List.length_map] at this
    exact this
   rw [List.getElem?_map,List.getElem?_eq_getElem hi] at hx
   have ex:=(Option.some.inj hx).symm
   subst ex
   have h2:i<(rns (bd ns (t*rd ns t)) t).length:=by rw [← ls.len];exact hi
   refine ⟨by rw [List.length_map,List.length_range];exact aA (by lia),?_⟩
   refine ⟨_,.inl (SqL.of (ls.at_ i hi h2)),?_⟩
   refine ⟨rfl,?_⟩
   rw [List.range_succ,List.map_append,List.length_map,qB,fh]
   rfl
 · rintro zs H' ⟨rfl,rfl⟩ D hD
   rw [List.length_map,hrl]
   have yD:=Same.new hD (.lst ((List.range t).map fun (r:Nat)=>V.int (cnt (bd ns (t*rd ns t)) t r)))
   refine ⟨D,t,fun r=>cnt (bd ns (t*rd ns t)) t r,rfl,ad,by lia,hlr,by rw [fX t0];lia,fun c H2 y2 hc=>?_⟩
   have z2:=yD.trans y2
   have hp2:=z2 _ _ hp
   have ls2:=ls.same z2
   refine ⟨p,rfl,⟨_,SqL.of hp2⟩,cY (xs:=rs.map V.ref) (fun i zs H'=>Same H2 H'/\∃ qs,zs=qs.map V.ref/\Tl H' qs ((List.range i).map fun (r:Nat)=>pt (rq (bd ns (t*rd ns t)) t r))) ⟨Same.refl _,[],rfl,rfl,fun i h1 _=>by cases h1⟩ ?_ ?_ ?_⟩
   · rintro i zs H' _ ⟨y,_⟩
     exact SqL.of (y _ _ hp2)
   · rintro i x zs H' hx ⟨y,qs,rfl,tl⟩
     have hi:i<rs.length:=by
      have:=(List.getElem?_eq_some_iff.mp hx).1
      rw [List.length_map] at this
      exact this
     rw [List.getElem?_map,List.getElem?_eq_getElem hi] at hx
     have ex:=(Option.some.inj hx).symm
     subst ex
     have h2:i<(rns (bd ns (t*rd ns t)) t).length:=by rw [← ls.len];exact hi
     have hq:=y _ _ (ls2.at_ i hi h2)
     rw [qB] at hq
     have ql:=tl.len
     rw [List.length_map,List.length_range] at ql
     refine ⟨by rw [List.length_map];exact aA (by lia),?_⟩
     refine ⟨rs[i],_,rfl,hq,by rw [fh];exact hlr i (by lia),fun r H3 y3 hr3=>?_⟩
     refine ⟨y.trans y3,qs++[r],by rw [List.map_append];rfl,?_⟩
     rw [List.range_succ,List.map_append]
     exact (tl.same y3).snoc hr3
   · rintro zs H' ⟨y,qs,rfl,tl⟩ D2 hD2
     rw [List.length_map,hrl] at tl
     have yD2:=Same.new hD2 (.lst (qs.map V.ref))
     refine ⟨_,.inl (SqL.of ad),fun r H3 y3 hr3=>?_⟩
     have z3:=yD2.trans y3
     refine ⟨by show 2<=sizeLine;decide,fun g hg=>?_⟩
     have yg:=Same.new hg (.tup [V.ref c,.ref r])
     exact q g _ ((((y1.trans z2).trans y).trans z3).trans yg) ⟨c,r,qs,ad,yg _ _ (z3 _ _ (y _ _ hc)),yg _ _ hr3,(tl.same z3).same yg⟩
theorem sc_quo:FnScope ["_law_parting_here","_law_t","_law_more","_law_some"] ["_law_parting_here","_law_t","_law_more"] (ah (top 27)):=⟨rfl,rfl,rfl,by decide +kernel,rfl,by decide +kernel,by decide +kernel⟩
def gn:Sp:=fun vs H Q _=>∃ (a:Addr) (ns:List Int) (t m:Nat),vs=[.ref a,.int t,.int m]/\H a=some (.tup (ns.map V.int))/\ns.length<=400/\(∀ n∈ns,(0:Int)<=n)/\0<t/\t<=20/\m<=20/\∀ d qs H',Same H H'->H' d=some (.tup (qs.map V.ref))->Tl H' qs (t4 ns t)->Q (.ref d) H'
theorem mV (p:Int->Bool) (g:Int->Int) (l:List Int) {i:Nat} (h:i<l.length):((l.take (i+1)).filter p).map g=if p l[i]=true then ((l.take i).filter p).map g++[g l[i]] else ((l.take i).filter p).map g:=by
 rw [List.take_succ,List.getElem?_eq_getElem h]
 show ((l.take i++[l[i]]).filter p).map g=_
 rw [List.filter_append,List.map_append]
 by_cases hp:p l[i]=true
 · rw [if_pos hp,List.filter_cons_of_pos hp];rfl
 · rw [if_neg hp,List.filter_cons_of_neg hp];simp
theorem ok_quo (F:Fun K "_law_quotients" "_law_quotients" (top 27) f fd) (m_range:mg "range" = none) (m_tuple:mg "tuple" = none) (F_law_beads:FnA P w K mg base "_law_beads" 1 ["_law_parting_here","_law_t","_law_more"] cL) (F_law_by:FnA P w K mg base "_law_by" 1 ["_law_numbers"] eP):FnOk P w K mg base CX0 2 f fd ["_law_parting_here","_law_t","_law_more"] gn:=by
 refine F.okz sc_quo (fun vs H Q E h=>?_) (fun cdv A outer s H vs Q E hr h=>?_)
 · obtain ⟨a,ns,t,m,rfl,_⟩:=h;rfl
 obtain ⟨a,ns,t,m,rfl,ha,hl,hn,t0,t1,m1,q⟩:=h
 have nd:=sc_quo.nd
 have hu:=hr.units
 have hle:=lA ns t0
 have hbl:(bd ns (t*(rd ns t+m))).length<=900:=by
  rw [aO,Nat.mul_add]
  have:t*m<=20*20:=Nat.mul_le_mul t1 m1
  lia
 refine ⟨_,(af (aq (i:=3) nd rfl (Or.inr rfl) (aJ F_law_beads hr (by decide) rfl (aa (zn 0) (aa (zn 1) (aa (zn 2) ae)))))
  (aj (aK (bL rfl m_tuple (aa (oi "_law_rest" ["_law_rest"] [("_law_some",3),("_law_t",1)] rfl ⟨rfl,by decide +kernel,rfl,rfl,fun _ _=>rfl,fun _=>rfl,rfl⟩ (bK rfl m_range (aa (zn 1) ae)) bj (fun _ _ _ _=>ak (i:=0) (show List.Nodup (["_law_rest","_law_some","_law_t"]:List Str) by decide +kernel) rfl (Or.inr rfl)) (fun _ _ _ _=>aS) (fun _ _ _ _=>(aJ F_law_by hr (by decide) rfl (aa (ba ["_law_bead"] [("_law_t",2),("_law_rest",0)] rfl ⟨rfl,by decide +kernel,by decide +kernel,rfl,rfl⟩ (n9 (zn 1) rfl) bj (fun _ _ _ _=>ak (i:=0) (show List.Nodup (["_law_bead","_law_t","_law_rest"]:List Str) by decide +kernel) rfl (Or.inl rfl)) (fun _ _ _ _=>(hU (aG (cO hu) (ai bI (zn 0) (zn 1)) (zn 2) (aI _)))) (fun _ _ _ _=>(ai bv (zn 0) (zn 1)))) ae)))) ae) rfl rfl)))),?_⟩
 refine ⟨a,ns,t,m,rfl,ha,hl,t0,t1,m1,fun p H1 hp0 y1 hp=>?_⟩
 generalize hB:bd ns (t*(rd ns t+m))=bs at hbl hp
 refine ⟨(t:Int),rfl,by lia,by lia,gO (fun i zs H'=>Same H1 H'/\∃ qs,zs=qs.map V.ref/\Tl H' qs ((List.range i).map fun (r:Nat)=>pt (rq bs t r))) ⟨Same.refl _,[],rfl,rfl,fun i h1 _=>by cases h1⟩ ?_ ?_⟩
 · rintro i zs H' hi ⟨y,qs,rfl,tl⟩
   rw [Int.toNat_natCast] at hi
   have ql:=tl.len
   rw [List.length_map,List.length_range] at ql
   refine ⟨by rw [List.length_map];exact aA (by lia),?_⟩
   have hp':=y _ _ hp
   refine ⟨p,rfl,⟨_,SqL.of hp'⟩,cY (xs:=bs.map V.int) (fun j zs H''=>H''=H'/\zs=(((bs.take j).filter fun b=>decide (b % (t:Int)=(i:Int))).map fun b=>b / (t:Int)).map V.int) ⟨rfl,by rw [List.take_zero];rfl⟩ ?_ ?_ ?_⟩
   · rintro j zs H'' _ ⟨rfl,_⟩
     exact SqL.of hp'
   · rintro j x zs H'' hx ⟨rfl,rfl⟩
     have hj:j<bs.length:=by
      have:=(List.getElem?_eq_some_iff.mp hx).1
      rw [List.length_map] at this
      exact this
     rw [jh hj] at hx
     have ex:=(Option.some.inj hx).symm
     subst ex
     rw [mV (fun b=>decide (b % (t:Int)=(i:Int))) (fun b=>b / (t:Int)) bs hj]
     refine ⟨?_,?_⟩
     · rw [List.length_map,List.length_map]
       refine aA (Nat.le_trans (List.length_filter_le _ _) ?_)
       rw [List.length_take]
       lia
     refine ⟨by show (0:Int)<t;lia,?_⟩
     refine mJ (fun c=>?_) (fun c=>?_)
     · have c':bs[j] % (t:Int)=0+(i:Int):=V.int.inj c
       refine ⟨⟨by lia,by lia⟩,?_⟩
       rw [if_pos (by simpa using c'),List.map_append]
       exact ⟨rfl,rfl⟩
     · have c':¬ bs[j] % (t:Int)=(i:Int):=fun z=>c (by show V.int (bs[j] % (t:Int))=V.int (0+(i:Int));rw [z,Int.zero_add])
       rw [if_neg (by simpa using c')]
       exact ⟨rfl,rfl⟩
   · rintro zs H'' ⟨rfl,rfl⟩ D hD
     rw [List.length_map,List.take_of_length_le (Nat.le_refl _)]
     have yD:=Same.new hD (.lst ((rq bs t i).map V.int))
     refine ⟨D,rq bs t i,rfl,ad,?_,fun r H3 y3 hr3=>?_⟩
     · rw [fh]
       exact Nat.le_trans List.countP_le_length hbl
     have z3:=yD.trans y3
     refine ⟨y.trans z3,qs++[r],by rw [List.map_append];rfl,?_⟩
     rw [List.range_succ,List.map_append]
     exact (tl.same z3).snoc hr3
 · rintro zs H' ⟨y,qs,rfl,tl⟩ D2 hD2
   rw [Int.toNat_natCast] at tl
   have yD2:=Same.new hD2 (.lst (qs.map V.ref))
   refine ⟨_,.inl (SqL.of ad),fun r H3 y3 hr3=>?_⟩
   have z3:=yD2.trans y3
   refine q r qs H3 ((y1.trans y).trans z3) hr3 ?_
   have e:t4 ns t=(List.range t).map fun (r:Nat)=>pt (rq bs t r):=by
    unfold t4
    refine List.map_congr_left fun r hr'=>?_
    rw [← hB]
    exact (fN hn (List.mem_range.mp hr') m).symm
   rw [e]
   exact tl.same z3
end
def dk (ks:List Int):List (Key×V):=ks.map fun x=>((Sum.inl x:Key),V.bl true)
theorem m3 (ks:List Int):((dk ks).map (·.1)).map kV=ks.map V.int:=by
 unfold dk
 rw [List.map_map,List.map_map]
 rfl
theorem jp:∀ (ks:List Int) (x:Int),gf (dk ks) (.inl x)=if x∈ks then some (V.bl true) else none
 | [],x=>rfl
 | k::ks,x=>by
   have ih:=jp ks x
   by_cases h:k=x
   · subst h
     rw [if_pos List.mem_cons_self]
     exact dG (p:=((Sum.inl k:Key),V.bl true)) (r:=dk ks) rfl
   · have e:gf (dk (k::ks)) (.inl x)=gf (dk ks) (.inl x):=dI (p:=((Sum.inl k:Key),V.bl true)) (r:=dk ks) (fun z=>h (by cases z;rfl))
     rw [e,ih]
     by_cases hx:x∈ks
     · rw [if_pos hx,if_pos (List.mem_cons_of_mem _ hx)]
     · rw [if_neg hx,if_neg (fun z=>(List.mem_cons.mp z).elim (fun z=>h z.symm) hx)]
theorem m4:∀ (ks:List Int) (x:Int),jU (dk ks) (.inl x)=dk (ks.filter fun y=>decide (y≠x))
 | [],x=>rfl
 | k::ks,x=>by
   have ih:=m4 ks x
   show List.filter _ (((Sum.inl k:Key),V.bl true)::dk ks)=_
   by_cases h:k=x
   · subst h
     rw [List.filter_cons_of_neg (by simp),List.filter_cons_of_neg (by simp)]
     exact ih
   · rw [List.filter_cons_of_pos (by simpa using h),List.filter_cons_of_pos (by simpa using h)]
     show _=((Sum.inl k:Key),V.bl true)::dk (ks.filter fun y=>decide (y≠x))
     rw [← ih]
     rfl
theorem qO {ks:List Int} {x:Int} (h:x∉ks):fO (dk ks) (.inl x) (V.bl true)=dk (ks++[x]):=by
 rw [oV (V.bl true) (by rw [jp,if_neg h])]
 unfold dk
 rw [List.map_append]
 rfl
theorem jq:∀ (bs ks:List Int),(ks++bs).Nodup->dv (dk ks) (dk bs)=dk (ks++bs)
 | [],ks,_=>by rw [List.append_nil];rfl
 | b::bs,ks,h=>by
   show dv (fO (dk ks) (.inl b) (V.bl true)) (dk bs)=_
   have hb:b∉ks:=fun z=>by
    have:=(List.nodup_append.mp h).2.2 b z b List.mem_cons_self
    exact this rfl
   rw [qO hb,jq bs (ks++[b]) (by rw [List.append_assoc];exact h),List.append_assoc]
   rfl
section
variable {P:Program} {w:World} {K:PySem.W.Frag} {mg:Str->Option Value} {base:Heap} {f:Addr} {fd:FuncData}
theorem sc_slid:FnScope ["_law_parting_here","_law_t","_law_there","_law_bead","_law_spot"] ["_law_parting_here","_law_t"] (ah (top 26)):=⟨rfl,rfl,rfl,by decide +kernel,rfl,by decide +kernel,by decide +kernel⟩
def dR:Sp:=fun vs H Q _=>∃ (a:Addr) (ns:List Int) (t:Nat),vs=[.ref a,.int t]/\H a=some (.tup (ns.map V.int))/\ns.length<=400/\(∀ n∈ns,(0:Int)<=n)/\ns.Pairwise (·>=·)/\0<t/\t<=20/\∀ r H',Same H H'->H' r=some (.tup ((core ns t).map V.int))->Q (.ref r) H'
theorem sO (F:Fun K "_law_slid" "_law_slid" (top 26) f fd) (m_dict:mg "dict" = none) (m_list:mg "list" = none) (m_sorted:mg "sorted" = none) (F_law_beads:FnA P w K mg base "_law_beads" 1 ["_law_parting_here","_law_t","_law_more"] cL) (F_law_by:FnA P w K mg base "_law_by" 1 ["_law_numbers"] eP):FnOk P w K mg base CX0 2 f fd ["_law_parting_here","_law_t"] dR:=by
 refine F.okz sc_slid (fun vs H Q E h=>?_) (fun cdv A outer s H vs Q E hr h=>?_)
 · obtain ⟨a,ns,t,rfl,_⟩:=h;rfl
 obtain ⟨a,ns,t,rfl,ha,hl,hn,hw,t0,t1,q⟩:=h
 have nd:=sc_slid.nd
 have hu:=hr.units
 have hu1:=hu_of hr
 have hle:=lA ns t0
 have hlen0:t*(rd ns t+1)<=900:=by rw [Nat.mul_add,Nat.mul_one];lia
 have hc:(fun r=>cnt (bd ns (t*(rd ns t+1))) t r)=fun r=>cnt (bd ns (t*(rd ns t+1))) t r:=rfl
 have hcore:pt (aE t fun r=>cnt (bd ns (t*(rd ns t+1))) t r)=core ns t:=by
  unfold core
  have e:∀ r,r<t->cnt (bd ns (t*(rd ns t+1))) t r=cnt (bd ns (t*rd ns t)) t r+1:=fun r hr'=>cF (ns:=ns) hr' 1
  refine Eq.trans ?_ (ft t _)
  congr 1
  unfold aE
  rw [List.flatMap_def,List.flatMap_def]
  congr 1
  refine List.map_congr_left fun r hr'=>?_
  show List.map _ (List.range (cnt (bd ns (t*(rd ns t+1))) t r))=List.map _ (List.range (cnt (bd ns (t*rd ns t)) t r+1))
  rw [e r (List.mem_range.mp hr')]
 refine ⟨_,(af (aq (i:=2) nd rfl (Or.inl rfl) (kz rfl rfl m_dict (aa (ba ["_law_bead"] [] rfl ⟨rfl,by decide +kernel,by decide +kernel,rfl,rfl⟩ (bP (aJ F_law_beads hr (by decide) rfl (aa (zn 0) (aa (zn 1) (aa ag ae))))) bj (fun _ _ _ _=>ak (i:=0) (show List.Nodup (["_law_bead"]:List Str) by decide +kernel) rfl (Or.inl rfl)) (fun _ _ _ _=>aS) (fun _ _ _ _=>(aL (aa (zn 0) (aa dA ae))))) ae) rfl rfl))
  (af (bW PassesOwn.never rfl (bP (km rfl rfl m_sorted (aa (zn 2) ae) rfl rfl)) (ak (i:=3) nd rfl (Or.inl rfl)) (af (aq (i:=4) nd rfl (Or.inl rfl) (zn 3))
  (af (iP PassesOwn.never (ZW.zt (gb (aG qI (zn 4) (zn 1) (aI _)) (dM (zt_cmp (kE hu1 (ai aN (zn 4) (zn 1)) (zn 2)) (by with_unfolding_all rfl))))) (aj (aq (i:=4) nd rfl (Or.inl rfl) (ai aN (zn 4) (zn 1)))))
  (af (dc (oh (zn 2) (zn 3) ⟨rfl,rfl,rfl,rfl⟩))
  (aj (qX hu1 (zn 2) (zn 4) dA rfl))))))
  (aj (aK (aJ F_law_by hr (by decide) rfl (aa (kw rfl rfl m_list (aa (zn 2) ae) rfl rfl) ae)))))),?_⟩
 refine ⟨a,ns,t,1,rfl,ha,hl,t0,t1,by decide,fun p H1 hp0 y1 hp=>?_⟩
 have hbn:=cu (k:=t*(rd ns t+1)) hw hn
 have hb0:=gV (k:=t*(rd ns t+1)) hn
 have hbl:=aO ns (t*(rd ns t+1))
 have hcl:=fX (ns:=ns) (k:=t*(rd ns t+1)) t0
 generalize hB:bd ns (t*(rd ns t+1))=bs at hp hbn hb0 hbl hcore hcl
 have hb9:bs.length<=900:=by lia
 refine ⟨p,rfl,⟨_,SqL.of hp⟩,cY (xs:=bs.map V.int) (fun i zs H'=>Same H1 H'/\∃ cs:List Addr,zs=cs.map V.ref/\cs.length=i/\∀ (j:Nat) c b,cs[j]? = some c->bs[j]? = some b->H' c=some (.tup [.int b,.bl true])) ⟨Same.refl _,[],rfl,rfl,fun j c b e=>by cases e⟩ ?_ ?_ ?_⟩
 · rintro i zs H' _ ⟨y,_⟩
   exact SqL.of (y _ _ hp)
 · rintro i x zs H' hx ⟨y,cs,rfl,hcs,hj⟩
   have hi:i<bs.length:=by
    have:=(List.getElem?_eq_some_iff.mp hx).1
    rw [List.length_map] at this
    exact this
   rw [jh hi] at hx
   have ex:=(Option.some.inj hx).symm
   subst ex
   refine ⟨by rw [List.length_map];exact aA (by lia),?_⟩
   refine ⟨by show 2<=sizeLine;decide,fun g hg=>?_⟩
   have yg:=Same.new hg (.tup [.int bs[i],.bl true])
   refine ⟨y.trans yg,cs++[g],by rw [List.map_append];rfl,by rw [List.length_append,hcs];rfl,fun j c b e1 e2=>?_⟩
   by_cases hji:j<cs.length
   · rw [List.getElem?_append_left hji] at e1
     exact yg _ _ (hj j c b e1 e2)
   · have hj':j=cs.length:=by
      have:=(List.getElem?_eq_some_iff.mp e1).1
      rw [List.length_append] at this
      have:j<cs.length+1:=this
      lia
     subst hj'
     rw [List.getElem?_append_right (Nat.le_refl _),Nat.sub_self] at e1
     cases e1
     rw [hcs,List.getElem?_eq_getElem hi] at e2
     cases e2
     exact ad
 · rintro zs H2 ⟨y2,cs,rfl,hcs,hj⟩ D0 hD0
   rw [List.length_map] at hcs
   have yD0:=Same.new hD0 (.lst (cs.map V.ref))
   refine ⟨dk bs,cs,ad,by rw [hcs];unfold dk;rw [List.length_map],by unfold dk;rw [List.length_map,sizeLine_eq];lia,fun j c kv e1 e2=>?_,fun D hD=>?_⟩
   · unfold dk at e2
     rw [List.getElem?_map] at e2
     cases eb:bs[j]? with
     | none=>rw [eb] at e2;cases e2
     | some b=>
       rw [eb] at e2
       cases e2
       exact yD0 _ _ (hj j c b e1 eb)
   have em:dv [] (dk bs)=dk bs:=by
    have:=jq bs [] (by rw [List.nil_append];exact hbn)
    rw [List.nil_append] at this
    exact this
   rw [em]
   have z3:=(y1.trans y2).trans yD0
   have ye:=Same.new hD (.dK (dk bs))
   have hDn:H D=none:=by
    cases e:H D with
    | none=>rfl
    | some o=>have:=z3 D o e;rw [hD] at this;cases this
   refine ⟨dk bs,bs,ad,m3 bs,fun L as hL perm ord=>?_⟩
   have e:=fz perm (qF ord)
   subst e
   have z4:=z3.trans ye
   have yL:=Same.new hL (.lst ((asc bs).map V.int))
   have hup:=jy hbn
   have hnn:∀ b∈asc bs,(0:Int)<=b:=fun b hb=>hb0 b ((aM bs).mem_iff.mp hb)
   have hal:=ck bs
   have hLD:L≠D:=fun z=>by rw [z,ad] at hL;cases hL
   have kp0:∀ b o,H b=some o->upd (upd (upd H2 D0 (.lst (cs.map V.ref))) D (.dK (dk bs))) L (.lst ((asc bs).map V.int)) b=some o:=fun b o e=>yL _ _ (z4 _ _ e)
   have hD3:upd (upd (upd H2 D0 (.lst (cs.map V.ref))) D (.dK (dk bs))) L (.lst ((asc bs).map V.int)) D=some (.dK (dk bs)):=yL _ _ ad
   have hL3:upd (upd (upd H2 D0 (.lst (cs.map V.ref))) D (.dK (dk bs))) L (.lst ((asc bs).map V.int)) L=some (.lst ((asc bs).map V.int)):=ad
   generalize upd (upd (upd H2 D0 (.lst (cs.map V.ref))) D (.dK (dk bs))) L (.lst ((asc bs).map V.int))=H3 at kp0 hD3 hL3
   refine ⟨L,rfl,⟨_,SqL.of hL3⟩,cW (xs:=(asc bs).map V.int) (fun i σ H'=>(∀ b o,H b=some o->H' b=some o)/\H' L=some (.lst ((asc bs).map V.int))/\∃ (ks:List Int) (x3 x4:Option V),σ=[some (.ref a),some (.int t),some (.ref D),x3,x4]/\H' D=some (.dK (dk ks))/\ks.Nodup/\ks.length<=900+i/\∀ x,x∈ks↔qm (asc bs) t i x) ⟨kp0,hL3,bs,_,_,rfl,hD3,hbn,by lia,fun x=>?_⟩ ?_ ?_ ?_⟩
   · unfold qm
     rw [List.take_zero,List.drop_zero]
     refine ⟨fun hx=>.inr ((aM bs).mem_iff.mpr hx),fun hx=>hx.elim (fun z=>?_) fun z=>(aM bs).mem_iff.mp z⟩
     obtain ⟨r,i,_,h2,_⟩:=(bi t0).mp z
     exact absurd h2 (Nat.not_lt_zero _)
   · rintro i σ H' _ ⟨_,h,_⟩
     exact SqL.of h
   · rintro i x σ H' hx ⟨kp,hL',ks,x3,x4,rfl,hD',hkn,hkl,hkm⟩
     have hi:i<(asc bs).length:=by
      have:=(List.getElem?_eq_some_iff.mp hx).1
      rw [List.length_map] at this
      exact this
     rw [jh hi] at hx
     have ex:=(Option.some.inj hx).symm
     subst ex
     have hb0':=hnn _ (List.getElem_mem hi)
     obtain ⟨r,hr0⟩:∃ r:Nat,(asc bs)[i] % (t:Int)=(r:Int):=⟨((asc bs)[i] % (t:Int)).toNat,by
      have:=Int.emod_nonneg (asc bs)[i] (show (t:Int)≠0 by lia)
      lia⟩
     have hrt:r<t:=by
      have:=Int.emod_lt_of_pos (asc bs)[i] (show (0:Int)<t by lia)
      lia
     have hsl:=rk t0 hup hnn hi hr0
     have hdm:=Int.emod_add_mul_ediv (asc bs)[i] t
     rw [hr0] at hdm
     obtain ⟨qb,hqb⟩:∃ qb:Nat,(asc bs)[i] / (t:Int)=(qb:Int):=⟨((asc bs)[i] / (t:Int)).toNat,by
      have:=Int.ediv_nonneg hb0' (show (0:Int)<=t by lia)
      lia⟩
     rw [hqb] at hsl hdm
     have hbq:(asc bs)[i]=((r+t*qb:Nat):Int):=by rw [Int.natCast_add,Int.natCast_mul];lia
     have hcq:cnt ((asc bs).take i) t r<=qb:=by lia
     have hbk:(asc bs)[i]∈ks:=(hkm _).mpr (.inr (by rw [List.drop_eq_getElem_cons hi];exact List.mem_cons_self))
     refine ge (fun m σ H''=>H''=H'/\cnt ((asc bs).take i) t r<=m/\m<=qb/\σ=[some (.ref a),some (.int t),some (.ref D),some (.int (asc bs)[i]),some (.int ((r+t*m:Nat):Int))]) qb ⟨rfl,hcq,Nat.le_refl _,by rw [← hbq];rfl⟩ ?_
     rintro m σ H'' ⟨rfl,hm1,hm2,rfl⟩
     have hval:=jp ks (((r+t*m:Nat):Int) - (t:Int))
     by_cases hmc:cnt ((asc bs).take i) t r<m
     · have hge:(t:Int)<=((r+t*m:Nat):Int):=by
        have:t*1<=t*m:=Nat.mul_le_mul_left _ (by lia)
        lia
       have em1:((r+t*m:Nat):Int) - (t:Int)=((r+t*(m - 1):Nat):Int):=by
        obtain ⟨m',rfl⟩:∃ m',m=m' + 1:=⟨m - 1,by lia⟩
        rw [Nat.add_sub_cancel,Nat.mul_succ]
        lia
       have hno:¬ (((r+t*m:Nat):Int) - (t:Int))∈ks:=fun z=>by
        rw [em1] at z
        refine lh t0 hup hi hrt (q:=m - 1) (by lia) ?_ ((hkm _).mp z)
        rw [hbq]
        have:t*(m - 1)+t<=t*qb:=by
         have:t*(m - 1)+t=t*(m - 1+1):=(Nat.mul_succ _ _).symm
         rw [this]
         exact Nat.mul_le_mul_left _ (by lia)
        lia
       rw [if_neg hno] at hval
       refine mJ (fun _=>?_) (fun c=>absurd hge (by lia))
       refine ⟨D,_,rfl,DGet.k (k:=.inl _) hD',_,rfl,?_⟩
       rw [hval]
       refine ⟨fun (σ':L2.St) (H4:Hp)=>H4=H''/\σ'=[some (.ref a),some (.int t),some (.ref D),some (.int (asc bs)[i]),some (.int ((r+t*(m - 1):Nat):Int))],fun σ' H4 ⟨e1,e2⟩=>⟨m - 1,by lia,e1,by lia,by lia,e2⟩,?_⟩
       refine ⟨rfl,?_⟩
       rw [← em1]
       rfl
     · have hmq:m=cnt ((asc bs).take i) t r:=by lia
       have hnl:¬ (asc bs)[i]∈aE t (fun r=>cnt ((asc bs).take i) t r):=fun z=>by
        obtain ⟨r',j,h1,h2,e⟩:=(bi t0).mp z
        rw [hbq] at e
        obtain ⟨e1,e2⟩:=bZ hrt h1 (show r+t*qb=r' + t*j by lia)
        subst e1 e2
        lia
       have step:=lg t0 hup hi hr0 hrt hnl
       have hnew:¬ ((r+t*m:Nat):Int)∈ks.filter (fun y=>decide (y≠(asc bs)[i])):=fun z=>by
        obtain ⟨z1,z2⟩:=List.mem_filter.mp z
        have z2':((r+t*m:Nat):Int)≠(asc bs)[i]:=by simpa using z2
        refine lh t0 hup hi hrt (q:=m) (by lia) ?_ ((hkm _).mp z1)
        have:t*m<=t*qb:=Nat.mul_le_mul_left _ hm2
        rw [hbq] at z2' ⊢
        lia
       have hyes:(t:Int)<=((r+t*m:Nat):Int)->(((r+t*m:Nat):Int) - (t:Int))∈ks:=fun hge=>by
        have hm0:0<m:=by
         rcases Nat.eq_zero_or_pos m with z | z
         · rw [z,Nat.mul_zero] at hge;lia
         · exact z
        have em1:((r+t*m:Nat):Int) - (t:Int)=((r+t*(m - 1):Nat):Int):=by
         obtain ⟨m',rfl⟩:∃ m',m=m' + 1:=⟨m - 1,by lia⟩
         rw [Nat.add_sub_cancel,Nat.mul_succ]
         lia
        rw [em1]
        exact (hkm _).mpr (oC t0 hrt (by lia))
       refine mJ (fun c1=>⟨D,_,rfl,DGet.k (k:=.inl _) hD',_,rfl,?a⟩) (fun c1=>?b)
       case' a=>
        rw [hval,if_pos (hyes c1)]
        refine mK (fun c=>absurd c (by decide)) (fun _=>?_)
       all_goals
        refine ⟨D,rfl,.inl ⟨_,.inl hD'⟩,?_⟩
        refine ⟨dk ks,.inl (asc bs)[i],.bl true,hD',rfl,by rw [jp,if_pos hbk],?_⟩
        rw [m4]
        refine ⟨D,_,rfl,DPut.k (k:=.inl _) ad (by unfold dk;rw [List.length_map,sizeLine_eq];have:=List.length_filter_le (fun y=>decide (y≠(asc bs)[i])) ks;lia),?_⟩
        rw [qO hnew]
        have ne:∀ b o,H b=some o->b≠D:=fun b o e z=>by rw [z,hDn] at e;cases e
        refine ⟨fun b o e=>by rw [am (ne b o e),am (ne b o e)];exact kp b o e,by rw [am hLD,am hLD];exact hL',ks.filter (fun y=>decide (y≠(asc bs)[i]))++[((r+t*m:Nat):Int)],_,_,rfl,ad,?_,?_,fun x=>?_⟩
        · refine List.nodup_append.mpr ⟨List.Pairwise.filter _ hkn,List.pairwise_singleton _ _,fun u hu v hv e=>?_⟩
          have:v=((r+t*m:Nat):Int):=by simpa using hv
          exact hnew (this▸e▸hu)
        · rw [List.length_append]
          have:=List.length_filter_le (fun y=>decide (y≠(asc bs)[i])) ks
          show _+1<=_
          lia
        · rw [step,List.mem_append,List.mem_filter,hkm,List.mem_singleton,hmq]
          simp
   · rintro σ H' ⟨kp,hL',ks,x3,x4,rfl,hD',hkn,hkl,hkm⟩
     rw [List.length_map] at hkm
     have pk:=oD t0 (aM bs) hkn hkm
     refine ⟨_,hD',fun l hl=>?_⟩
     rw [m3]
     have yl:=Same.new hl (.lst (ks.map V.int))
     refine ⟨l,ks,rfl,ad,by rw [pk.length_eq,hcl];lia,fun r H5 y5 hr5=>?_⟩
     rw [jH pk,hcore] at hr5
     exact q r H5 (fun b o e=>y5 _ _ (yl _ _ (kp b o e))) hr5
end
end K41
namespace M43
open M39 M40
theorem cU (t:Nat) (c:Nat->Nat):∀ m:Nat,pt (aE t fun r=>c r+m)=pt (aE t c)
 | 0=>rfl
 | m+1=>(ft t fun r=>c r+m).trans (cU t c m)
theorem cC {t:Nat} {c d:Nat->Nat} (h:∀ r,r<t->c r=d r):aE t c=aE t d:=by
 unfold aE
 rw [List.flatMap_def,List.flatMap_def]
 congr 1
 refine List.map_congr_left fun r hr=>?_
 rw [h r (List.mem_range.mp hr)]
theorem js {t R:Nat} {c:Nat->Nat} (ht:0<t) (hs:((List.range t).map fun (r:Nat)=>(c r:Int)).sum=((t*R:Nat):Int)):pt (aE t fun r=>cnt (bd (pt (aE t c)) (t*rd (pt (aE t c)) t)) t r)=pt (aE t c):=by
 have hlen:(aE t c).length=t*R:=by
  have:=cT t c
  rw [hs] at this
  lia
 have hb:=qj (bb ht c) (cS t c)
 rw [hlen] at hb
 have hle:rd (pt (aE t c)) t<=R:=by
  have h1:=lG (aE t c)
  rw [hlen] at h1
  unfold rd
  have h2:((pt (aE t c)).length+t - 1) / t<=(t*R+(t - 1)) / t:=Nat.div_le_div_right (by lia)
  have h3:(t*R+(t - 1)) / t=R:=by
   have h4:(t - 1) / t=0:=Nat.div_eq_of_lt (Nat.sub_lt ht (by decide))
   rw [Nat.mul_add_div ht,h4,Nat.add_zero]
  lia
 obtain ⟨m,hm⟩:∃ m,R=rd (pt (aE t c)) t+m:=⟨R - rd (pt (aE t c)) t,by lia⟩
 have e:∀ r,r<t->cnt (bd (pt (aE t c)) (t*rd (pt (aE t c)) t)) t r+m=c r:=fun r hr=>by
  have h1:=cF (ns:=pt (aE t c)) hr m
  rw [← hm] at h1
  have h2:ct (pt (aE t c)) (t*R) t r=c r:=by
   unfold ct
   rw [hb,(List.reverse_perm _).countP_eq,(aM _).countP_eq]
   exact nj ht c hr
  rw [h2] at h1
  exact h1.symm
 rw [← cU t _ m,cC e]
def sq (t:Nat) (n:Nat->Int):Int:=((List.range t).map fun (r:Nat)=>n r*n r).sum
def ro (t:Nat) (n:Nat->Int):Int:=((List.range t).map fun (r:Nat)=>(r:Int)*n r).sum
theorem jE {t R:Nat} {c:Nat->Nat} {n:Nat->Int} (ht:0<t) (hc:∀ r,r<t->(c r:Int)=R+n r) (hn:((List.range t).map n).sum=0):2*(pt (aE t c)).sum=(t:Int)*sq t n+2*ro t n:=by
 have hs:((List.range t).map fun (r:Nat)=>(c r:Int)).sum=(t:Int)*R:=by
  have:∀ m:Nat,((List.range m).map fun (r:Nat)=>(R:Int)+n r).sum=(m:Int)*R+((List.range m).map n).sum:=by
   intro m
   induction m with
   | zero=>simp
   | succ m ih=>
     rw [List.range_succ,List.map_append,List.map_append,List.sum_append,List.sum_append,ih]
     simp only [List.map_cons,List.map_nil,List.sum_cons,List.sum_nil]
     rw [show ((m+1:Nat):Int)=(m:Int)+1 by lia,Int.add_mul,Int.one_mul]
     lia
  rw [List.map_congr_left (g:=fun (r:Nat)=>(R:Int)+n r) fun r hr=>hc r (List.mem_range.mp hr),this t,hn,Int.add_zero]
 have h1:=lE (bb ht c) (cS t c)
 rw [cT,hs,gy] at h1
 have h2:((List.range t).map fun (r:Nat)=>2*((r:Int)*(c r:Int))+(t:Int)*((c r:Int)*((c r:Int) - 1))).sum=(R:Int)*((t:Int)*((t:Int) - 1))+2*ro t n+(t:Int)*((t:Int)*((R:Int)*((R:Int) - 1)))+(t:Int)*((2*(R:Int) - 1)*((List.range t).map n).sum)+(t:Int)*sq t n:=by
  have e:((List.range t).map fun (r:Nat)=>2*((r:Int)*(c r:Int))+(t:Int)*((c r:Int)*((c r:Int) - 1)))=(List.range t).map fun (r:Nat)=>2*((r:Int)*((R:Int)+n r))+(t:Int)*(((R:Int)+n r)*(((R:Int)+n r) - 1)):=by
   refine List.map_congr_left fun r hr=>?_
   rw [hc r (List.mem_range.mp hr)]
  rw [e]
  have go:∀ m:Nat,((List.range m).map fun (r:Nat)=>2*((r:Int)*((R:Int)+n r))+(t:Int)*(((R:Int)+n r)*(((R:Int)+n r) - 1))).sum=(R:Int)*((m:Int)*((m:Int) - 1))+2*ro m n+(t:Int)*((m:Int)*((R:Int)*((R:Int) - 1)))+(t:Int)*((2*(R:Int) - 1)*((List.range m).map n).sum)+(t:Int)*sq m n:=by
   intro m
   induction m with
   | zero=>simp [ro,sq]
   | succ m ih=>
     unfold ro sq at ih ⊢
     rw [List.range_succ,List.map_append,List.map_append,List.map_append,List.map_append,List.sum_append,List.sum_append,List.sum_append,List.sum_append,ih]
     simp only [List.map_cons,List.map_nil,List.sum_cons,List.sum_nil,Int.add_zero]
     have e1:((m+1:Nat):Int)=(m:Int)+1:=by lia
     rw [e1]
     generalize (m:Int)=M
     generalize (R:Int)=Q
     generalize (t:Int)=T
     generalize n m=N
     generalize ((List.range m).map fun (r:Nat)=>(r:Int)*n r).sum=A
     generalize ((List.range m).map n).sum=B
     generalize ((List.range m).map fun (r:Nat)=>n r*n r).sum=C
     grind
  exact go t
 rw [h2,hn,Int.mul_zero,Int.mul_zero] at h1
 generalize (pt (aE t c)).sum=S at h1 ⊢
 generalize sq t n=A at h1 ⊢
 generalize ro t n=B at h1 ⊢
 generalize (t:Int)=T at h1 ⊢
 generalize (R:Int)=Q at h1
 grind
end M43
namespace MRow
end MRow
namespace M13
open MRow
end M13
set_option exponentiation.threshold 1000
namespace M14
open MRow M13
end M14
namespace M80
open MRow
end M80
namespace M21
open MRow
end M21
namespace MP
end MP
namespace M81
open M39 M40 MRow
theorem bd_at (ns:List Int) {k i:Nat} (h:i<k):(bd ns k)[i]? = some (ns.getD i 0+k - 1 - i):=by
 unfold bd
 rw [List.getElem?_map,List.getElem?_range h]
 rfl
theorem jj:∀ {a b:List Int},(∀ x∈a,(1:Int)<=x)->(∀ x∈b,(1:Int)<=x)->(∀ i,a.getD i 0=b.getD i 0)->a=b
 | [],[],_,_,_=>rfl
 | [],y::b,_,hb,h=>by
   have:=h 0
   have h1:=hb y List.mem_cons_self
   have h2:(0:Int)=y:=this
   lia
 | x::a,[],ha,_,h=>by
   have:=h 0
   have h1:=ha x List.mem_cons_self
   have h2:x=(0:Int):=this
   lia
 | x::a,y::b,ha,hb,h=>by
   have h0:x=y:=h 0
   rw [h0,jj (fun z hz=>ha z (List.mem_cons_of_mem _ hz)) (fun z hz=>hb z (List.mem_cons_of_mem _ hz)) fun i=>h (i+1)]
def Prt (ns:List Int):Prop:=(∀ n∈ns,(1:Int)<=n)/\ns.Pairwise (·>=·)
theorem Prt.nn {ns:List Int} (h:Prt ns):∀ n∈ns,(0:Int)<=n:=fun n hn=>by have:=h.1 n hn;lia
theorem bd_inj {a b:List Int} {k:Nat} (ha:∀ x∈a,(1:Int)<=x) (hb:∀ x∈b,(1:Int)<=x) (la:a.length<=k) (lb:b.length<=k) (h:bd a k=bd b k):a=b:=by
 refine jj ha hb fun i=>?_
 by_cases hi:i<k
 · have:=congrArg (fun l=>l[i]?) h
   simp only [bd_at _ hi] at this
   have:=Option.some.inj this
   lia
 · rw [List.getD_eq_getElem?_getD,List.getD_eq_getElem?_getD,List.getElem?_eq_none (by lia),List.getElem?_eq_none (by lia)]
theorem tP {l:List Int} (h:l.Pairwise (· > ·)):(asc l).reverse=l:=by
 have h2:l.reverse.Pairwise (·<=·):=List.pairwise_reverse.mpr (h.imp fun h=>by lia)
 have:=fz (l:=l) (List.reverse_perm l) h2
 rw [← this,List.reverse_reverse]
theorem rY {ns:List Int} {k:Nat} (h:Prt ns) (hk:ns.length<=k):pt (bd ns k)=ns:=by
 have nd:=cu (k:=k) h.2 h.nn
 have e:=qj nd (gV h.nn)
 rw [aO,tP (nU h.2 h.nn)] at e
 have pk:=lF nd
 have pl:=lG (bd ns k)
 rw [aO] at pl
 exact bd_inj pk.1 h.1 pl hk e
def jb (t:Nat) (c:Nat->Nat) (q:Nat->List Int):List Int:=(List.range t).flatMap fun (r:Nat)=>(bd (q r) (c r)).map fun (b:Int)=>(r:Int)+(t:Int)*b
theorem gG {α β:Type} {f g:α->List β}:∀ {l:List α},(∀ a∈l,(f a).Perm (g a))->(l.flatMap f).Perm (l.flatMap g)
 | [],_=>.nil
 | a::l,h=>by
   rw [List.flatMap_cons,List.flatMap_cons]
   exact (h a List.mem_cons_self).append (gG fun b hb=>h b (List.mem_cons_of_mem _ hb))
theorem jb_nn {t:Nat} {c:Nat->Nat} {q:Nat->List Int} (h:∀ r,r<t->Prt (q r)):∀ b∈jb t c q,(0:Int)<=b:=fun b hb=>by
 obtain ⟨r,hr,hb⟩:=List.mem_flatMap.mp hb
 obtain ⟨x,hx,rfl⟩:=List.mem_map.mp hb
 have:=gV (h r (List.mem_range.mp hr)).nn x hx
 have h2:0<=(t:Int)*x:=Int.mul_nonneg (by lia) this
 lia
def quo (ns:List Int) (t r:Nat):List Int:=pt (rq (bd ns (t*rd ns t)) t r)
def cor (ns:List Int) (t:Nat):List Int:=pt (aE t fun r=>cnt (bd ns (t*rd ns t)) t r)
theorem rN {ns:List Int} {t r:Nat} (ht:0<t) (h:Prt ns):Prt (quo ns t r):=lF (fK ht (cu h.2 h.nn))
def Cl (bs:List Int) (t:Nat):Prop:=∀ b∈bs,b<(t:Int)\/b - (t:Int)∈bs
theorem ie {α:Type} [DecidableEq α]:∀ {l m:List α},l.Nodup->(∀ x∈l,x∈m)->l.length<=m.length
 | [],_,_,_=>Nat.zero_le _
 | a::l,m,hn,h=>by
   have hn2:=List.nodup_cons.mp hn
   have ha:=h a List.mem_cons_self
   have ih:=ie (m:=m.erase a) hn2.2 fun x hx=>by
    have:x≠a:=fun e=>hn2.1 (by rw [← e];exact hx)
    exact (List.mem_erase_of_ne this).mpr (h x (List.mem_cons_of_mem _ hx))
   rw [List.length_erase_of_mem ha] at ih
   have:=List.length_pos_of_mem ha
   rw [List.length_cons]
   lia
theorem iu {l m:List Int} (hl:l.Nodup) (hm:m.Nodup) (h:∀ x∈l,x∈m) (e:m.length<=l.length):l.Perm m:=by
 refine (List.perm_ext_iff_of_nodup hl hm).mpr fun x=>⟨h x,fun hx=>?_⟩
 by_cases hxl:x∈l
 · exact hxl
 · have:=ie (l:=x::l) (m:=m) (List.nodup_cons.mpr ⟨hxl,hl⟩) fun y hy=>by
    rcases List.mem_cons.mp hy with rfl | hy
    · exact hx
    · exact h y hy
   rw [List.length_cons] at this
   lia
theorem qS {bs:List Int} {t r:Nat} (ht:0<t) (hr:r<t) (h:Cl bs t):∀ i:Nat,((r+t*i:Nat):Int)∈bs->∀ j,j<=i->((r+t*j:Nat):Int)∈bs
 | 0,hb,j,hj=>by
   have:j=0:=by lia
   subst this;exact hb
 | i+1,hb,j,hj=>by
   by_cases e:j=i+1
   · subst e;exact hb
   · refine qS ht hr h i ?_ j (by lia)
     have e1:t*(i+1)=t*i+t:=Nat.mul_succ t i
     rcases h _ hb with hlt | hm
     · exfalso
       have:t<=r+t*(i+1):=by lia
       lia
     · rw [show ((r+t*i:Nat):Int)=((r+t*(i+1):Nat):Int) - (t:Int) by lia]
       exact hm
theorem cl_cnt {bs:List Int} {t r i:Nat} (ht:0<t) (hr:r<t) (h:Cl bs t) (hb:((r+t*i:Nat):Int)∈bs):i<cnt bs t r:=by
 have low:=qS ht hr h i hb
 have nd:((List.range (i+1)).map fun (j:Nat)=>((r+t*j:Nat):Int)).Nodup:=by
  refine List.Pairwise.map _ (fun a b hab=>?_) (List.nodup_range (n:=i+1))
  intro e
  have:=(bZ hr hr (Int.ofNat.inj e)).2
  exact hab this
 have:=ie (m:=bs.filter fun b=>decide (b % (t:Int)=(r:Int))) nd fun x hx=>by
  obtain ⟨j,hj,rfl⟩:=List.mem_map.mp hx
  refine List.mem_filter.mpr ⟨low j (by have:=List.mem_range.mp hj;lia),decide_eq_true ?_⟩
  rw [show ((r+t*j:Nat):Int)=(r:Int)+(t:Int)*(j:Int) by rw [Int.natCast_add,Int.natCast_mul],Int.add_mul_emod_self_left]
  exact Int.emod_eq_of_lt (by lia) (by lia)
 rw [List.length_map,List.length_range] at this
 unfold cnt
 rw [List.countP_eq_length_filter]
 lia
theorem tJ {ns:List Int} {t:Nat} (ht:0<t) (h:Prt ns):cor ns t=ns↔Cl (bd ns (t*rd ns t)) t:=by
 have nd:=cu (k:=t*rd ns t) h.2 h.nn
 have nn:=gV (k:=t*rd ns t) h.nn
 have lnd:=bb ht fun r=>cnt (bd ns (t*rd ns t)) t r
 have llen:=fX (ns:=ns) (k:=t*rd ns t) ht
 have rg:=fL ns ht
 constructor
 · intro e
   have e1:=qj lnd (cS t fun r=>cnt (bd ns (t*rd ns t)) t r)
   rw [llen] at e1
   have e2:bd ns (t*rd ns t)=(asc (aE t fun r=>cnt (bd ns (t*rd ns t)) t r)).reverse:=by
    rw [← e1]
    show _=bd (cor ns t) _
    rw [e]
   have mem:∀ x,x∈bd ns (t*rd ns t)↔x∈aE t fun r=>cnt (bd ns (t*rd ns t)) t r:=fun x=>by
    conv=>lhs;rw [e2]
    rw [List.mem_reverse]
    exact (aM _).mem_iff
   intro b hb
   obtain ⟨r,i,hr,hi,rfl⟩:=(bi ht).mp ((mem b).mp hb)
   cases i with
   | zero=>left;lia
   | succ i=>
     right
     refine (mem _).mpr ((bi ht).mpr ⟨r,i,hr,by lia,?_⟩)
     have e1:t*(i+1)=t*i+t:=Nat.mul_succ t i
     lia
 · intro hc
   have p:(bd ns (t*rd ns t)).Perm (aE t fun r=>cnt (bd ns (t*rd ns t)) t r):=by
    refine iu nd lnd (fun x hx=>?_) (by rw [llen,aO];exact Nat.le_refl _)
    have hx0:=nn x hx
    obtain ⟨r,i,hr,rfl⟩:∃ r i:Nat,r<t/\x=((r+t*i:Nat):Int):=by
     refine ⟨x.toNat % t,x.toNat / t,Nat.mod_lt _ ht,?_⟩
     have:=Nat.mod_add_div x.toNat t
     lia
    exact (bi ht).mpr ⟨r,i,hr,cl_cnt ht hr hc hx,rfl⟩
   show pt _=ns
   rw [← jH p]
   exact rY h rg
theorem qg {ns:List Int} {t k:Nat} (hn:∀ n∈ns,(0:Int)<=n) (hk:ns.length<=k) (m:Nat):Cl (bd ns (k+m)) t↔Cl (bd ns k) t:=by
 have nn:=gV (k:=k) hn
 have mem:∀ x:Int,x∈bd ns (k+m)↔(0<=x/\x<(m:Int))\/x - (m:Int)∈bd ns k:=fun x=>by
  rw [nT m hk,List.mem_append]
  constructor
  · rintro (hx | hx)
    · obtain ⟨b,hb,rfl⟩:=List.mem_map.mp hx
      exact .inr (by rw [show b+(m:Int) - (m:Int)=b by lia];exact hb)
    · obtain ⟨j,hj,rfl⟩:=List.mem_map.mp hx
      have:=List.mem_range.mp (List.mem_reverse.mp hj)
      exact .inl (by lia)
  · rintro (hx | hx)
    · exact .inr (List.mem_map.mpr ⟨x.toNat,List.mem_reverse.mpr (List.mem_range.mpr (by lia)),by lia⟩)
    · exact .inl (List.mem_map.mpr ⟨x - (m:Int),hx,by lia⟩)
 constructor
 · intro h b hb
   have hb0:=nn b hb
   rcases h (b+(m:Int)) ((mem _).mpr (.inr (by rw [show b+(m:Int) - (m:Int)=b by lia];exact hb))) with h1 | h1
   · left;lia
   · rcases (mem _).mp h1 with h2 | h2
     · left;lia
     · right
       rw [show b+(m:Int) - (t:Int) - (m:Int)=b - (t:Int) by lia] at h2
       exact h2
 · intro h b hb
   rcases (mem b).mp hb with h1 | h1
   · by_cases hlt:b<(t:Int)
     · exact .inl hlt
     · exact .inr ((mem _).mpr (.inl (by lia)))
   · rcases h _ h1 with h2 | h2
     · by_cases hlt:b<(t:Int)
       · exact .inl hlt
       · refine .inr ((mem _).mpr (.inl ?_))
         lia
     · refine .inr ((mem _).mpr (.inr ?_))
       rw [show b - (t:Int) - (m:Int)=b - (m:Int) - (t:Int) by lia]
       exact h2
def clB (ns:List Int) (t:Nat):Bool:=(bd ns ns.length).all fun b=>decide (b<(t:Int))||(bd ns ns.length).any fun x=>decide (x=b - (t:Int))
theorem clB_is {ns:List Int} {t:Nat} (ht:0<t) (h:Prt ns):decide (cor ns t=ns)=clB ns t:=by
 have e:cor ns t=ns↔clB ns t=true:=by
  rw [tJ ht h]
  obtain ⟨m,em⟩:∃ m,t*rd ns t=ns.length+m:=⟨t*rd ns t - ns.length,by have:=fL ns ht;lia⟩
  rw [em,qg h.nn (Nat.le_refl _)]
  unfold clB Cl
  rw [List.all_eq_true]
  refine ⟨fun g b hb=>?_,fun g b hb=>?_⟩
  · rcases g b hb with g | g
    · rw [decide_eq_true g];rfl
    · rw [Bool.or_eq_true]
      exact .inr (List.any_eq_true.mpr ⟨_,g,decide_eq_true rfl⟩)
  · rcases Bool.or_eq_true_iff.mp (g b hb) with g | g
    · exact .inl (of_decide_eq_true g)
    · obtain ⟨x,hx,ex⟩:=List.any_eq_true.mp g
      rw [← of_decide_eq_true ex]
      exact .inr hx
 by_cases c:cor ns t=ns
 · rw [decide_eq_true c,e.mp c]
 · rw [decide_eq_false c]
   cases hb:clB ns t with
   | false=>rfl
   | true=>exact absurd (e.mpr hb) c
end M81
namespace M41
open M39 M40 M43 M81
theorem qA (a b:List Int) (t r:Nat):rq (a++b) t r=rq a t r++rq b t r:=by unfold rq;rw [List.filter_append,List.map_append]
theorem lp {t r r':Nat} (ht:0<t) (hr':r' < t):∀ l:List Int,rq (l.map fun (b:Int)=>(r':Int)+(t:Int)*b) t r=if r'=r then l else []
 | []=>by unfold rq;simp
 | b::l=>by
   have ih:=lp (r:=r) ht hr' l
   have e1:((r':Int)+(t:Int)*b) % (t:Int)=(r':Int):=by
    rw [Int.add_mul_emod_self_left]
    exact Int.emod_eq_of_lt (by lia) (by lia)
   have e2:((r':Int)+(t:Int)*b) / (t:Int)=b:=by
    rw [Int.add_mul_ediv_left _ _ (by lia)]
    rw [Int.ediv_eq_zero_of_lt (by lia) (by lia)]
    lia
   have sp:rq ((b::l).map fun (b:Int)=>(r':Int)+(t:Int)*b) t r=rq [(r':Int)+(t:Int)*b] t r++rq (l.map fun (b:Int)=>(r':Int)+(t:Int)*b) t r:=by
    rw [← qA]
    rfl
   rw [sp,ih]
   by_cases h:r'=r
   · subst h
     rw [if_pos rfl,if_pos rfl]
     unfold rq
     simp [e1,e2]
   · rw [if_neg h,if_neg h]
     unfold rq
     have:¬ ((r':Int)=(r:Int)):=by lia
     simp [e1,this]
theorem lr {t r:Nat} (ht:0<t) (f:Nat->List Int):∀ m,m<=t->rq ((List.range m).flatMap fun (r':Nat)=>(f r').map fun (b:Int)=>(r':Int)+(t:Int)*b) t r=if r<m then f r else []
 | 0,_=>by simp [rq]
 | m+1,h=>by
   rw [List.range_succ,List.flatMap_append,qA,lr ht f m (by lia)]
   have e:rq ([m].flatMap fun (r':Nat)=>(f r').map fun (b:Int)=>(r':Int)+(t:Int)*b) t r=if m=r then f m else []:=by
    simp only [List.flatMap_cons,List.flatMap_nil,List.append_nil]
    exact lp ht (by lia) (f m)
   rw [e]
   by_cases h1:r<m
   · rw [if_pos h1,if_neg (by lia),if_pos (by lia),List.append_nil]
   · by_cases h2:m=r
     · subst h2
       rw [if_neg h1,if_pos rfl,if_pos (by lia),List.nil_append]
     · rw [if_neg h1,if_neg h2,if_neg (by lia),List.append_nil]
theorem rq_jb {t r:Nat} (ht:0<t) (c:Nat->Nat) (q:Nat->List Int) (hr:r<t):rq (jb t c q) t r=bd (q r) (c r):=by
 unfold jb
 rw [lr ht (fun r=>bd (q r) (c r)) t (Nat.le_refl _),if_pos hr]
theorem cnt_jb {t r:Nat} (ht:0<t) (c:Nat->Nat) (q:Nat->List Int) (hr:r<t):cnt (jb t c q) t r=c r:=by
 rw [← fh,rq_jb ht c q hr,aO]
theorem jb_len (t:Nat) (c:Nat->Nat) (q:Nat->List Int):((jb t c q).length:Int)=((List.range t).map fun (r:Nat)=>(c r:Int)).sum:=by
 unfold jb
 rw [fU]
 congr 1
 refine List.map_congr_left fun r _=>?_
 rw [List.length_map,aO]
theorem pO {t:Nat} (ht:0<t) {c:Nat->Nat} {q:Nat->List Int} (hq:∀ r,r<t->Prt (q r)):(jb t c q).Nodup:=by
 unfold jb List.Nodup
 rw [List.pairwise_flatMap]
 refine ⟨fun r hr=>?_,?_⟩
 · have p:=hq r (List.mem_range.mp hr)
   rw [List.pairwise_map]
   refine (cu (k:=c r) p.2 p.nn).imp fun {x y} h z=>h ?_
   have z2:(t:Int)*x=(t:Int)*y:=by lia
   exact Int.eq_of_mul_eq_mul_left (by lia) z2
 · refine List.Pairwise.imp_of_mem (R:=fun a b=>a<b) ?_ List.pairwise_lt_range
   intro a b ha hb hab x hx y hy z
   have ha:=List.mem_range.mp ha
   have hb:=List.mem_range.mp hb
   obtain ⟨u,_,rfl⟩:=List.mem_map.mp hx
   obtain ⟨v,_,rfl⟩:=List.mem_map.mp hy
   have e1:((a:Int)+(t:Int)*u) % (t:Int)=(a:Int):=by
    rw [Int.add_mul_emod_self_left]
    exact Int.emod_eq_of_lt (by lia) (by lia)
   have e2:((b:Int)+(t:Int)*v) % (t:Int)=(b:Int):=by
    rw [Int.add_mul_emod_self_left]
    exact Int.emod_eq_of_lt (by lia) (by lia)
   rw [z,e2] at e1
   lia
theorem rd_mul {ns:List Int} {t R:Nat} (ht:0<t) (h:ns.length<=t*R):rd ns t<=R:=by
 unfold rd
 have h2:(ns.length+t - 1) / t<=(t*R+(t - 1)) / t:=Nat.div_le_div_right (by lia)
 have h3:(t*R+(t - 1)) / t=R:=by
  have h4:(t - 1) / t=0:=Nat.div_eq_of_lt (Nat.sub_lt ht (by decide))
  rw [Nat.mul_add_div ht,h4,Nat.add_zero]
 lia
theorem rB {a b:List Int} (h:a.Perm b) (t r:Nat):(rq a t r).Perm (rq b t r):=(h.filter _).map _
theorem pP {t R:Nat} {c:Nat->Nat} {q:Nat->List Int} (ht:0<t) (hq:∀ r,r<t->Prt (q r)) (hl:∀ r,r<t->(q r).length<=c r) (hs:((List.range t).map fun (r:Nat)=>(c r:Int)).sum=((t*R:Nat):Int)) :
 Prt (pt (jb t c q))/\(pt (jb t c q)).length<=t*R/\cor (pt (jb t c q)) t=pt (aE t c)/\∀ r,r<t->quo (pt (jb t c q)) t r=q r:=by
 have nd:=pO ht (c:=c) hq
 have nn:=jb_nn (c:=c) hq
 have hlen:(jb t c q).length=t*R:=by
  have:=jb_len t c q
  rw [hs] at this
  lia
 have hb:=qj nd nn
 rw [hlen] at hb
 have hpm:(bd (pt (jb t c q)) (t*R)).Perm (jb t c q):=by
  rw [hb]
  exact (List.reverse_perm _).trans (aM _)
 have hP:=lF nd
 have hle:(pt (jb t c q)).length<=t*R:=by
  have:=lG (jb t c q)
  lia
 have hrd:=rd_mul ht hle
 obtain ⟨m,hm⟩:∃ m,R=rd (pt (jb t c q)) t+m:=⟨R - rd (pt (jb t c q)) t,by lia⟩
 refine ⟨hP,hle,?_,fun r hr=>?_⟩
 · unfold cor
   rw [← cU t _ m]
   congr 1
   refine cC fun r hr=>?_
   have h1:=cF (ns:=pt (jb t c q)) hr m
   rw [← hm] at h1
   have h2:ct (pt (jb t c q)) (t*R) t r=c r:=by
    unfold ct
    rw [hpm.countP_eq]
    exact cnt_jb ht c q hr
   rw [h2] at h1
   exact h1.symm
 · unfold quo
   rw [← fN (fun n hn=>by have:=hP.1 n hn;lia) hr m,← hm,jH (rB hpm t r),rq_jb ht c q hr]
   exact rY (hq r hr) (hl r hr)
theorem bd_nil (k:Nat):(bd [] k).Perm ((List.range k).map fun (i:Nat)=>(i:Int)):=by
 have e:bd [] k=((List.range k).map fun (i:Nat)=>(i:Int)).reverse:=by
  refine List.ext_getElem (by simp [bd]) fun j h1 h2=>?_
  have hj:j<k:=by simpa [bd] using h1
  simp [bd]
  lia
 rw [e]
 exact List.reverse_perm _
theorem mG (t:Nat) (c:Nat->Nat):(jb t c fun _=>[]).Perm (aE t c):=by
 unfold jb aE
 refine gG fun r _=>?_
 have h:=(bd_nil (c r)).map fun (b:Int)=>(r:Int)+(t:Int)*b
 rw [List.map_map] at h
 refine h.trans (.of_eq ?_)
 refine List.map_congr_left fun i _=>?_
 show (r:Int)+(t:Int)*(i:Int)=((r+t*i:Nat):Int)
 lia
def jn (cs:List Int) (t M:Nat) (q:Nat->List Int):List Int:=pt (jb t (fun r=>ct cs (t*(rd cs t+M)) t r) q)
theorem qR {ns:List Int} {t k:Nat} (ht:0<t):((List.range t).map fun (r:Nat)=>(ct ns k t r:Int)).sum=(k:Int):=by
 have h:=dP t ht (bd ns k)
 rw [aO] at h
 exact h
theorem je {cs:List Int} {t M:Nat} (ht:0<t):pt (aE t fun r=>ct cs (t*(rd cs t+M)) t r)=cor cs t:=by
 unfold cor
 rw [← cU t (fun r=>cnt (bd cs (t*rd cs t)) t r) M]
 congr 1
 exact cC fun r hr=>cF hr M
theorem jg {cs:List Int} {t M:Nat} {q:Nat->List Int} (ht:0<t) (hq:∀ r,r<t->Prt (q r)) (hM:∀ r,r<t->(q r).length<=M) :
 Prt (jn cs t M q)/\(jn cs t M q).length<=t*(rd cs t+M)/\cor (jn cs t M q) t=cor cs t/\∀ r,r<t->quo (jn cs t M q) t r=q r:=by
 obtain ⟨a,b,c,d⟩:=pP (R:=rd cs t+M) (c:=fun r=>ct cs (t*(rd cs t+M)) t r) ht hq (fun r hr=>by rw [cF hr M];exact Nat.le_trans (hM r hr) (Nat.le_add_left _ _)) (qR ht)
 exact ⟨a,b,c.trans (je ht),d⟩
theorem tj {cs:List Int} {t M:Nat} (ht:0<t):jn cs t M (fun _=>[])=cor cs t:=by
 unfold jn
 rw [jH (mG t _),je ht]
theorem gX {ns:List Int} {t:Nat} (ht:0<t) (h:Prt ns):(cor ns t).sum+(t:Int)*((List.range t).map fun (r:Nat)=>(quo ns t r).sum).sum=ns.sum:=rb ht h.nn h.2 (fL ns ht)
theorem jn_sum {cs:List Int} {t M:Nat} {q:Nat->List Int} (ht:0<t) (hq:∀ r,r<t->Prt (q r)) (hM:∀ r,r<t->(q r).length<=M):(jn cs t M q).sum=(cor cs t).sum+(t:Int)*((List.range t).map fun (r:Nat)=>(q r).sum).sum:=by
 obtain ⟨a,b,c,d⟩:=jg (cs:=cs) ht hq hM
 rw [← gX ht a,c]
 congr 2
 congr 1
 refine List.map_congr_left fun r hr=>?_
 rw [d r (List.mem_range.mp hr)]
theorem cb:∀ {ns:List Int},(∀ n∈ns,(1:Int)<=n)->(ns.length:Int)<=ns.sum
 | [],_=>by simp
 | n::ns,h=>by
   have h1:=h n List.mem_cons_self
   have h2:=cb (ns:=ns) fun m hm=>h m (List.mem_cons_of_mem _ hm)
   rw [List.length_cons,List.sum_cons]
   lia
end M41
namespace L2
open PySem PySem.Spec PyProof.Rows
section
variable {X:Cx}
theorem jd {ns:List Int} (h:ns≠[]):ns.getD (argBest (fun i j=>decide (ns.getD i 0<ns.getD j 0)) (ns.length - 1)) 0∈ns/\∀ n∈ns,ns.getD (argBest (fun i j=>decide (ns.getD i 0<ns.getD j 0)) (ns.length - 1)) 0<=n:=by
 have hp:0<ns.length:=List.length_pos_iff.mpr h
 obtain ⟨h1,h2⟩:=argBest_lt (fun i=>ns.getD i 0) (ns.length - 1)
 have hlt:argBest (fun i j=>decide (ns.getD i 0<ns.getD j 0)) (ns.length - 1)<ns.length:=by lia
 refine ⟨?_,fun n hn=>?_⟩
 · rw [List.getD_eq_getElem?_getD,List.getElem?_eq_getElem hlt]
   exact List.getElem_mem hlt
 · obtain ⟨i,hi,rfl⟩:=List.mem_iff_getElem.mp hn
   have:=h2 i (by lia)
   have e:ns.getD i 0=ns[i]:=by rw [List.getD_eq_getElem?_getD,List.getElem?_eq_getElem hi];rfl
   rw [e] at this
   exact this
def rMinT:List V->Hp->VK->Prop:=fun xs H Q=>match xs with
 | [.ref p]=>∃ ns:List Int,H p=some (.tup (ns.map V.int))/\ns≠[]/\∀ M,M∈ns->(∀ n∈ns,M<=n)->Q (.int M) H
 | _=>False
theorem nw (hc:X.calm=true):CallR X (.builtin "min") rMinT:=by
 intro pins s σ H xs us Q I r h
 unfold rMinT at h
 split at h
 · rename_i p
   obtain ⟨ns,hq,hne,q⟩:=h
   obtain ⟨u,rfl,rx⟩:=bT r
   cases rx
   have hh:X.A.in1.handled=none:=I.ok.hd hc
   have hb:=jd hne
   obtain ⟨its,rv,pl,hz⟩:=I.tuple (SqT.of hq)
   have hlen:its.length=ns.length:=by rw [← rv.length,List.length_map]
   have hlt:p<s.heap.objs.size:=pl.lt
   refine call_min_walk (wpAny_pyIter_tuple pl ?_)
   refine ⟨s.heap.objs.size,_,_,_,_,_,_,rfl,Walks.tuple hh s.heap.objs.size p (Nat.ne_of_lt hlt) its.toArray,⟨⟨_,Heap.get?_push_size _ rfl,rfl,rfl⟩,pl.push _⟩,?_,?_,CmpOf.ints_lt (fun i=>ns.getD i 0) (fun i v hv=>bJ rv hv),fun v h' tk hv hk=>?_⟩
   · intro b hb
     rw [Heap.size_push]
     rcases List.mem_cons.mp hb with rfl | hb
     · exact Nat.lt_succ_self _
     · rcases List.mem_cons.mp hb with rfl | hb
       · exact Nat.lt_succ_of_lt hlt
       · cases hb
   · rw [List.size_toArray,hlen];exact List.length_pos_iff.mpr hne
   · obtain ⟨t,rfl⟩:=bJ rv hv
     refine ⟨.int _,H,I.kept fun b o e=>hk b o (by simpa using Nat.ne_of_lt (Heap.lt_size e)) (Heap.get?_push_of_some _ e),⟨t,rfl⟩,?_⟩
     rw [List.size_toArray,hlen]
     exact q _ hb.1 hb.2
 · exact h.elim
variable {e:Expr} {es:List Expr} {t:TA} {p pos:Pos}
end
end L2
namespace HT
open PySem PyProof.Rows PySem.SeqAt
variable {prog:Program} {w:World} {A:Around} {E:Value->Shared->Prop} {s:Shared}
end HT
namespace EN1
open PySem PyProof.Rows
end EN1
namespace PySem
open PyProof.Rows
section
variable {prog:Program} {w:World} {A:Around} {E:Value->Shared->Prop} {s:Shared}
theorem iK {r:Addr} {a b c:Int} {t u v:Tok} {n:Nat} {Q:List Value->Shared->Prop} (hh:A.handled=none) (hr:IsRange s.heap r a b c t u v) (hsmall:Builtin.Range.small a b c=true)
 (hn:Builtin.Range.rangeSize a b c=n) (hlen:n<=2 ^ 24)
 (h:∀ h' tk acc,(∀ b o,s.heap.get? b=some o->h'.get? b=some o)->ItemsOf (fun i v=>∃ t,v=.int (a+i*c) t) acc n->Q acc.toList { s with heap:=h',toks:=tk }):wpAny (model prog w) A (collect (.ref r)) Q E s:=by
 unfold collect
 refine wpAny_bind (wpAny_runValue (codeAny_builtin F.entry_proto_collect ?_))
 rw [Around.under_plainId F.plain_proto_collect _]
 show wpAny _ A.in1 (newList [] >>= fun l=>again (.builtin "list.__iadd__" ⟨[l,.ref r],[]⟩)) _ _ s
 refine wpAny_bind (wpAny_newObj_type ?_)
 refine wpAny_pure ⟨plainId_quiet F.plain_list_iadd _,codeAny_builtin F.entry_list_iadd ?_⟩
 rw [Around.under_plainId F.plain_list_iadd _]
 have hN:(s.heap.push { cls:=.type "list",data:=.seq ([]:List Value).toArray }).get? s.heap.objs.size=some { cls:=.type "list",data:=.seq ([]:List Value).toArray }:=Heap.get?_push_size _ rfl
 show wpAny _ A.in1 (Builtin.List.listExtendWith (.ref s.heap.objs.size) (.ref r) (.ref s.heap.objs.size)) _ _ _
 refine wpAny_extend_range (R:=fun r s'=>match r with
  | .ok (.ret v)=>wpAny (model prog w) A (match v with
    | .ref a=>do
      let z ← load a
      match z.data with
      | .seq xs _=>pure xs.toList
      | _=>unsupported "internal:collect"
    | _=>unsupported "internal:collect") Q E s'
  | .ok _=>False
  | .error e=>E e s') hh (Heap.get?_push_of_some _ hr) hsmall hn hlen s.heap.objs.size (.ref s.heap.objs.size) 0 hN fun h' tk acc' c' hk hS' hacc=>?_
 refine wpAny_bind (wpAny_load hS' ?_)
 exact wpAny_pure (h h' tk acc' (fun b o e=>hk b o (Nat.ne_of_lt (Heap.lt_size e)) (Heap.get?_push_of_some _ e)) hacc)
end
theorem cA (r:Addr) (a b c:Int) (t u v:Tok) (n:Nat) (hsmall:Builtin.Range.small a b c=true) (hn:Builtin.Range.rangeSize a b c=n) (hlen:n<=2 ^ 24) :
 Meets (Builtin.«tuple.__new__» ⟨[.type "tuple",.ref r],[]⟩)
  (fun A R s=>A.handled=none/\IsRange s.heap r a b c t u v/\∀ (h':Heap) (tk:Nat) (acc:Array Value),(∀ b o',s.heap.get? b=some o'->h'.get? b=some o')->ItemsOf (fun i v=>∃ t,v=.int (a+i*c) t) acc n->R (.ok (.ret (.ref h'.objs.size))) { s with heap:=h'.push { cls:=.type "tuple",data:=.seq acc },toks:=tk }):=
 .of_wp fun prog w A R s h=>by
  obtain ⟨hp,g,d,tk,os⟩:=s;obtain ⟨hh,ht,h⟩:=h
  have hsub:=sub_tuple_self
  have hinit:=init_tuple_lookup
  have hmh:=madeHere_tuple
  have hT:Shared.TypeIs ⟨hp,g,d,tk,os⟩ (.ref r) "range":=⟨_,ht,rfl⟩
  wp_walk using wpAny_loadPart' ht,wpAny_typeOf hT,iK (A:=A.in1) hh ht hsmall hn hlen
  intro h' tk' acc hk hacc
  show wpAny _ _ (Builtin.Tuple.tupleExact acc.toList.toArray >>= fun v=>ret v) _ _ _
  unfold Builtin.Tuple.tupleExact
  refine wpAny_bind (wpAny_newObj_type ?_ (by show acc.toList.toArray.size<=sizeLine;rw [Array.toArray_toList,hacc.1,sizeLine_eq];lia))
  refine wpAny_pure ⟨_,rfl,?_⟩
  rw [Array.toArray_toList]
  exact h h' tk' acc hk hacc
theorem eW {prog:Program} {w:World} {A:Around} {E:Value->Shared->Prop} {s:Shared} {Q:Value->Shared->Prop} {r:Addr} {a b c:Int} {t u v:Tok} {n:Nat} (hh:A.handled=none) (hr:IsRange s.heap r a b c t u v) (hsmall:Builtin.Range.small a b c=true)
 (hn:Builtin.Range.rangeSize a b c=n) (hlen:n<=2 ^ 24)
 (hQ:∀ (h':Heap) (tk:Nat) (acc:Array Value),(∀ b o',s.heap.get? b=some o'->h'.get? b=some o')->ItemsOf (fun i v=>∃ t,v=.int (a+i*c) t) acc n->Q (.ref h'.objs.size) { s with heap:=h'.push { cls:=.type "tuple",data:=.seq acc },toks:=tk }) :
 wpAny (model prog w) A (call (.type "tuple") [.ref r]) Q E s:=
 callType_new F.called_tuple (by decide) (F.typeCall_tuple_1 _) (F.newCall_tuple_1 _) (fun obj=>F.args_object_init_2 obj _) F.entry_tuple_new
  (cA r a b c t u v n hsmall hn hlen) ⟨hh,hr,fun h' tk acc hk ha=>⟨⟨_,Heap.get?_push_size _ rfl,rfl⟩,hQ h' tk acc hk ha⟩⟩
end PySem
namespace L2
open PySem PySem.Spec PyProof.Rows
section
variable {X:Cx}
def oJ:List V->Hp->VK->Prop:=fun vs H Q=>match vs with
 | [.ref p]=>∃ i j c,H p=some (tZ p i j c)/\Builtin.Range.small i j c=true/\c≠0/\(Builtin.Range.rangeSize i j c).toNat<=1000000/\∀ l,H l=none->Q (.ref l) (upd H l (.tup (((List.range (Builtin.Range.rangeSize i j c).toNat).map fun (k:Nat)=>i+(k:Int)*c).map V.int)))
 | _=>False
theorem nt (hc:X.calm=true):CallR X (.type "tuple") oJ:=by
 intro pins s σ H xs us Q I r h
 unfold oJ at h
 split at h
 · rename_i p
   obtain ⟨i,j,c,hp,hs,hc0,hn,q⟩:=h
   obtain ⟨u,rfl,rx⟩:=bT r
   cases rx
   obtain ⟨⟨t,u,v,hr⟩,_⟩:=I.hok p _ hp
   have h0:=ik (a:=i) (b:=j) hc0
   refine eW (I.ok.hd hc) hr hs (n:=(Builtin.Range.rangeSize i j c).toNat) (by lia) (by lia) fun h' tk acc' hk hit=>?_
   have rv:Vals (((List.range (Builtin.Range.rangeSize i j c).toNat).map fun (k:Nat)=>i+(k:Int)*c).map V.int) acc'.toList:=fD _ (by rw [Array.length_toList];exact hit.1) fun k v e=>hit.2 k v (by simpa using e)
   have I1:Inv X pins σ H { s with heap:=h',toks:=tk }:=I.kept (t':=tk) hk
   have I2:Inv X pins σ (upd H h'.objs.size (.tup (((List.range (Builtin.Range.rangeSize i j c).toNat).map fun (k:Nat)=>i+(k:Int)*c).map V.int))) { s with heap:=h'.push { cls:=.type "tuple",data:=.seq acc' },toks:=tk }:=
    I1.laid (t':=tk) (fun b o e=>Heap.get?_push_of_some _ e) (Nat.le_refl _) (show ObjOk X.prog X.w _ _ _ (.tup (((List.range (Builtin.Range.rangeSize i j c).toNat).map fun (k:Nat)=>i+(k:Int)*c).map V.int)) from ⟨by rw [List.length_map,List.length_map,List.length_range,sizeLine_eq];lia,acc'.toList,rv,by rw [Array.toArray_toList];exact TupD.new _ _⟩)
   exact ⟨.ref h'.objs.size,_,I2,rfl,q _ (I1.hok.fresh (Nat.le_refl _))⟩
 · exact h.elim
variable {e:Expr} {es:List Expr} {t:TA} {p pos:Pos}
theorem iM:bootBuiltins "tuple" = some (.type "tuple"):=by decide +kernel
theorem jM (hc:X.calm=true) (hg:Gl X "tuple") (hm:X.mg "tuple" = none) (ha:PA X (e::es) t) (he:starEach (e::es) X.env=(false,eval e X.env)::starEach es X.env) (hpl:(backTo pos (starEach es X.env)).any (·.1)=false) :
 PE X (.Call (.Name "tuple" p) (e::es) [] pos) (tCB oJ t):=bD (nt hc) hg hm iM ha (by decide) (by decide) he hpl
theorem jz (hc:X.calm=true) (hg:Gl X "tuple") (hm:X.mg "tuple" = none) (ha:ZA X (e::es) t) (he:starEach (e::es) X.env=(false,eval e X.env)::starEach es X.env) (hpl:(backTo pos (starEach es X.env)).any (·.1)=false) :
 ZE X (.Call (.Name "tuple" p) (e::es) [] pos) (tCB oJ t):=by with_unfolding_all exact jM hc hg hm ha he hpl
end
end L2
namespace B9
open PySem L2
end B9
namespace SRP
open PySem PySem.W PySem.Calls PyProof.Rows SRT
end SRP
namespace SRP
end SRP
namespace L2
open PySem PySem.Spec PyProof.Rows PySem.W PySem.Builtin PySem.Builtin.ObjectAttr PySem.Builtin.Getset_descriptor
structure ExC (K:PySem.W.Frag) (C:Addr):Prop where
 cls:(clsIn K C).isSome=true
 ga:findIn K (.ref C) "__getattribute__" = some (some (.builtin "BaseException.__getattribute__"))
 gh:findIn K (.ref C) "__getattr__" = some none
 ha:findIn K (.ref C) "__class__" = some (some (.builtin "object.__class__"))
 hn:specialIn K (.builtin "object.__class__") "__get__" = some (some (.builtin "getset_descriptor.__get__"))
 htk:takesIn K (.builtin "object.__class__")=some true
 hm:mroIn K C (.type "object")=some true
 sb:subIn K (.ref C) (.type "BaseException")=some true
def exCB (K:PySem.W.Frag) (C:Addr):Bool:=
 (clsIn K C).isSome&&findIn K (.ref C) "__getattribute__" == some (some (.builtin "BaseException.__getattribute__"))&&findIn K (.ref C) "__getattr__" == some none
   && findIn K (.ref C) "__class__" == some (some (.builtin "object.__class__"))&&specialIn K (.builtin "object.__class__") "__get__" == some (some (.builtin "getset_descriptor.__get__"))
   && takesIn K (.builtin "object.__class__") == some true&&mroIn K C (.type "object") == some true&&subIn K (.ref C) (.type "BaseException") == some true
theorem ExC.of {K:PySem.W.Frag} {C:Addr} (h:exCB K C=true):ExC K C:=by
 unfold exCB at h
 simp only [Bool.and_eq_true,beq_iff_eq] at h
 obtain ⟨⟨⟨⟨⟨⟨⟨a,b⟩,c⟩,d⟩,e⟩,f⟩,g⟩,i⟩:=h
 exact ⟨a,b,c,d,e,f,g,i⟩
def IsX (x C:Addr) (h:Heap):Prop:=∃ ox vs,h.get? x=some ox/\ox.cls=.ref C/\ox.data=.fields vs
theorem IsX.ty {x C:Addr} {h:Heap} {M:Model} (I:IsX x C h):Looks M h (typeOf (.ref x)) (.ref C):=by
 obtain ⟨ox,vs,e,c,_⟩:=I
 have z:Looks M h (typeOf (.ref x)) ox.cls:=(Looks.ld e).andThen .now
 rw [c] at z
 exact z
section
variable {prog:Program} {w:World} {A:Around} {E:Value->Shared->Prop} {s:Shared} {K:Frag} {x C:Addr}
theorem mY {M:Model} {nameV:Value} {Q:Unit->Shared->Prop} (L:ExC K C) (X:K.In s.heap) (I:IsX x C s.heap) (hq:Q () s):wpAny M A (checkBuiltinCall "BaseException.__getattribute__" ⟨[.ref x,nameV],[]⟩) Q E s:=by
 have hk1:builtinKind "BaseException.__getattribute__" = some .slot:=by decide +kernel
 have hs1:splitId "BaseException.__getattribute__" = some ("BaseException","__getattribute__"):=by decide +kernel
 have ha:=F.args_bexc_ga (.ref x) nameV
 have LI:Looks M s.heap (isInstance (.ref x) (.type "BaseException")) true:=I.ty.andThen (looks_subIn (M:=M) X L.sb)
 obtain ⟨hh,g,d,t,os⟩:=s
 simp only [checkBuiltinCall,hk1,hs1]
 refine wpAny_bind (LI.at ?_)
 repeat (first | wp_step)
 all_goals exact hq
theorem pY {M:Model} {h:Heap} (L:ExC K C) (X:K.In h) (I:IsX x C h):Looks M h (Builtin.ObjectAttr.find (.ref x) (.ref C) "__class__") (.bind (.builtin "getset_descriptor.__get__") (.builtin "object.__class__")):=by
 have L1:=looks_findIn (M:=M) X L.ha
 have L2:Looks M h (Builtin.ObjectAttr.getOf (some (.builtin "object.__class__"))) (some (.builtin "getset_descriptor.__get__")):=looks_specialIn X L.hn
 have L3:=looks_takesIn (M:=M) X L.htk
 intro A Q E s k q
 unfold Builtin.ObjectAttr.find
 refine wpAny_bind (L1 A _ E s k (wpAny_bind (L2 A _ E s k (wpAny_bind ?_))))
 unfold Builtin.ObjectAttr.dataDescriptor?
 refine wpAny_bind (L3 A _ E s k ?_)
 rw [if_pos rfl]
 exact wpAny_pure (wpAny_bind (wpAny_rule (wpAny_pure q)))
theorem pZ {R:Result->Shared->Prop} {tp:Value} (L:ExC K C) (X:K.In s.heap) (I:IsX x C s.heap) (h:R (.ok (.ret (.ref C))) s) :
 codeAny (model prog w) A (.call (.builtin "getset_descriptor.__get__") ⟨[.builtin "object.__class__",.ref x,tp],[]⟩) R s:=by
 have M0:=I.ty (M:=model prog w)
 have M1:=looks_mroIn (M:=model prog w) X L.hm
 obtain ⟨hh,g,dr,t,os⟩:=s
 refine codeAny_call_builtin KF.slot_gs.plain KF.entry_gs (KF.slot_gs.check _ _ _ _ _ _ _ _ KF.type_class (KF.args_gs _ _ _) ?_)
 unfold Builtin.«getset_descriptor.__get__» descrGet;rw [dga_obj]
 refine wpAny_bind (wpAny_pure ?_);unfold descrGetter descrCheckInstance descrNameAndClass isInstance;simp only [KF.owner_class]
 repeat lk
 refine ⟨Code.quiet_builtin _ (by decide +kernel),codeAny_builtin KF.entry_class ?_⟩;unfold Builtin.«object.__class__» shownTypeOf
 repeat lk
 exact h
theorem mX {Q:Option Value->Shared->Prop} (L:ExC K C) (X:K.In s.heap) (I:IsX x C s.heap) (h:Q (some (.ref C)) { s with toks:=s.toks+1 }):wpAny (model prog w) A (getAttr? (.ref x) "__class__") Q E s:=by
 have M0:=I.ty (M:=model prog w)
 have M1:=looks_findIn (M:=model prog w) X L.ga
 have M2:=looks_findIn (M:=model prog w) X L.gh
 have M3:=pY (M:=model prog w) L X I
 obtain ⟨hh,g,d,t,os⟩:=s
 unfold getAttr? getAttrBy? getAttrBy
 refine wpAny_bind (wpAny_mkText (wpAny_bind (wpAny_attempt (wpAny_holding (wpAny_bind (M0.at (wpAny_bind (M1.at ?_))))))))
 have hx2:(Value.builtin "BaseException.__getattribute__" == Value.builtin "object.__getattribute__")=false:=by decide +kernel
 dsimp only
 rw [if_neg (by rw [hx2];simp)]
 unfold getAttrByItsOwn hookBefore
 rw [if_pos (show onTheHeap (Value.ref C)=true from rfl)]
 refine wpAny_bind (M2.at (wpAny_bind (wpAny_attempt (wpAny_holding ?_))))
 unfold callGetattribute
 rw [if_neg (by simp [onTheHeap])]
 unfold boundAndCalled
 refine wpAny_bind (wpAny_of_eq (PySem.F.attrBase_ValueError.ga.bind (.ref x)) ?_)
 refine wpAny_call (codeAny_call_builtin PySem.F.attrBase_ValueError.ga.plain F.entry_bexc_ga (mY L X I ?_))
 refine wpAny_bind ?_
 repeat (first | wp_step)
 obtain ⟨ox,vs,hx,hc,hd⟩:=id I
 refine wpAny_loadPart_at hx ?_
 refine wpAny_pure ?_
 rw [hc]
 refine wpAny_bind (M3.at ?_)
 dsimp only
 unfold Builtin.ObjectAttr.bindTo
 refine wpAny_bind (wpAny_holding ?_)
 refine wpAny_call (pZ L X I ?_)
 repeat (first | wp_step)
 exact h
theorem pN (L:ExC K C):KitX K (.ref x) (.ref C) (IsX x C) where
 ty:=fun _ _ _ I=>I.ty
 it:=fun _ _ X _=>by
  have z0:=L.cls
  unfold clsIn at z0
  split at z0
  · rename_i c1 d1 cd1 sl1 ho
    intro A1 Q1 E1 s1 k q
    unfold isType loadHead
    exact wpAny_bind (wpAny_loadPart (k _ _ (X _ _ ho)) (wpAny_pure q))
  · cases z0
 ne:=fun h tp dd its n sl X htp=>by
  have z0:=L.cls
  refine Bool.eq_false_iff.mpr fun q=>?_
  have e:C=tp:=Value.ref.inj (beq_iff_eq.mp q)
  subst e
  unfold clsIn at z0
  split at z0
  · rename_i c1 d1 cd1 sl1 ho
    have z:=(X _ _ ho).symm.trans htp
    cases z
  · cases z0
 ca:=fun X I k=>mX L X I k
end
end L2
namespace L2
open PySem PySem.Spec PyProof.Rows PySem.W
theorem ObjOk.has {P:Program} {w:World} {H:Hp} {h:Heap} {a:Addr} {o:HO} (x:ObjOk P w H h a o):∃ ob,h.get? a=some ob:=by
 induction o with
 | lst xs=>obtain ⟨_,_,_,_,e⟩:=x;exact ⟨_,e⟩
 | tup xs=>obtain ⟨_,_,_,_,e⟩:=x;exact ⟨_,e⟩
 | dK kvs=>obtain ⟨_,_,_,_,_,_,_,e,_⟩:=x;exact ⟨_,e⟩
 | dT kvs=>obtain ⟨_,_,_,_,_,_,_,e,_⟩:=x;exact ⟨_,e⟩
 | set S n=>obtain ⟨_,_,_,_,e,_⟩:=x;exact ⟨_,e⟩
 | ins C dx fs=>obtain ⟨_,_,_,e,_⟩:=x;exact ⟨_,e⟩
 | own y=>obtain ⟨_,e⟩:=x;exact ⟨_,e⟩
 | xd fs=>obtain ⟨_,⟨_,_,_,e,_⟩,_⟩:=x;exact ⟨_,e⟩
 | rng lo hi=>obtain ⟨_,_,_,e⟩:=x;exact ⟨_,e⟩
 | frz ob u ih=>obtain ⟨e,_⟩:=x;exact ⟨_,e⟩
 | tbl ps=>exact ⟨_,x⟩
 | met f y=>exact ⟨_,x⟩
 | ext φ=>obtain ⟨_,⟨o,e⟩,_⟩:=x;exact ⟨_,e⟩
def CXF (P:Program) (w:World):CXT:=fun outer H s E v s'=>∃ (e C:Addr) (a0:Value) (B:Heap) (H':Hp),v=.ref e/\s'.os=s.os/\AllBare s'.gens/\Un (frs outer) [] H H' s.heap s'.heap/\HOk P w H' s'.heap /\
 Heap.FlyingW B outer e (.ref C) a0 s'.heap/\(∀ b u,H' b=some u->∃ o,B.get? b=some o)/\(∀ b o,s.heap.get? b=some o->b∉frs outer->∃ o',B.get? b=some o')/\E (.ref C) none H'
section
variable {X:Cx} {pins:List (Addr×Obj)} {σ:St} {H H1:Hp} {s s1:Shared} {B h':Heap}
theorem mP {P:Program} {w:World} {h:Heap} (ok:HOk P w H h) (bs:B.StaysIn h) (st:B.StaysIn h') (trk:∀ b u,H b=some u->∃ o,B.get? b=some o):HOk P w H h':=fun a u e=>
 (ok a u e).stay (fun b v hb q=>by
   have:∃ o,B.get? b=some o:=by
    rcases hb with z | z
    · rw [z];exact trk a u e
    · exact trk b _ z
   obtain ⟨o,eo⟩:=this
   have z:=bs b o eo
   rw [q] at z
   cases z
   exact st b v eo) (fun _ q=>q) fun _ _ q=>q
theorem mT (J:Inv X pins σ H s) {b:Addr} (h1:b≠X.env.locals) (h2:b∉X.fs):b∉frs X.stack:=fun z=>(List.mem_cons.mp (J.stkSub b z)).elim h1 h2
theorem pX (J:Inv X pins σ H s) {b:Addr} (h:b∈X.fs):b∈frs X.stack:=by
 rcases J.ok.stk with e | ⟨e,hf⟩
 · rw [e];exact h
 · rw [e]
   unfold frs
   rw [List.filterMap_cons,hf]
   exact List.mem_cons_of_mem _ h
theorem Inv.fly {t':Nat} (I1:Inv X pins σ H1 s1) (J:Inv X pins σ H s) (bs:B.StaysIn s.heap) (st:B.StaysIn h') (cov:∀ b o,s1.heap.get? b=some o->b∉frs X.stack->∃ o',B.get? b=some o')
 (trk:∀ b u,H b=some u->∃ o,B.get? b=some o) (up:∀ b,b∈frs X.stack->∀ o,s.heap.get? b=some o->(∀ vs,o.data≠.fields vs)->∃ sl,h'.get? b=some { o with slots:=sl }) :
 Inv X pins σ H { s with heap:=h',toks:=t' }:=by
 have key:∀ b o o1,s1.heap.get? b=some o1->s.heap.get? b=some o->b∉frs X.stack->h'.get? b=some o:=fun b o o1 e1 e nf=>by
  obtain ⟨o',eo⟩:=cov b o1 e1 nf
  have z:=bs b o' eo
  rw [e] at z
  cases z
  exact st b o eo
 have any:∀ b o o1,s1.heap.get? b=some o1->s.heap.get? b=some o->(∀ vs,o.data≠.fields vs)->∃ sl,h'.get? b=some { o with slots:=sl }:=fun b o o1 e1 e nd=>by
  by_cases hb:b∈frs X.stack
  · exact up b hb o e nd
  · exact ⟨o.slots,key b o o1 e1 e hb⟩
 have neL:∀ b o,X.s₀.heap.get? b=some o->b≠X.env.locals:=fun b o e=>Nat.ne_of_lt (Nat.lt_of_lt_of_le (Heap.lt_size e) J.ok.above)
 have cellK:∀ x c,X.env.cells.lookup x=some c->∀ v,s.heap.IsCell c v->h'.IsCell c v:=fun x c e v ⟨o,ho,hd⟩=>by
  obtain ⟨v1,o1,e1,_⟩:=I1.cell x c e
  obtain ⟨sl,q⟩:=any c o o1 e1 ho fun vs z=>by rw [hd] at z;cases z
  exact ⟨_,q,hd⟩
 refine ⟨J.ok,J.os,J.bare,⟨fun b o e n hb hx=>?_,fun b o e n hb hx=>?_,J.base.free,fun b o e hx=>?_,J.base.tups,J.base.frzs,J.base.tbls⟩,?_,fun x c e=>?_,J.free,J.freeC,fun p hp=>?_,mP J.hok bs st trk,J.len⟩
 · exact key b o o (I1.base.keep b o e n hb hx) (J.base.keep b o e n hb hx) (mT J (neL b o e) hb)
 · obtain ⟨sl,e1⟩:=J.base.slot b o e n hb hx
   obtain ⟨_,o2,e2,d2⟩:=J.ok.funs.mem hb
   rw [e] at e2
   cases e2
   obtain ⟨sl',e3⟩:=up b (pX J hb) _ e1 d2
   exact ⟨sl',e3⟩
 · obtain ⟨o1,e1⟩:=I1.base.there b o e hx
   obtain ⟨o2,e2⟩:=J.base.there b o e hx
   by_cases hb:b∈frs X.stack
   · obtain ⟨_,o3,e3,d3⟩:=J.stack.mem hb
     obtain ⟨sl,e4⟩:=up b hb o3 e3 d3
     exact ⟨_,e4⟩
   · exact ⟨o2,key b o2 o1 e1 e2 hb⟩
 · obtain ⟨m,⟨o,es,ep,ho,hd,r⟩,hl⟩:=J.loc
   obtain ⟨m1,⟨o1,_,_,e1,_⟩,_⟩:=I1.loc
   obtain ⟨sl,q⟩:=any _ o o1 e1 ho fun vs z=>by rw [hd] at z;cases z
   refine ⟨m,⟨_,es,ep,q,hd,r⟩,fun i x v e1 e2 e3=>?_⟩
   obtain ⟨u,r,l⟩:=hl i x v e1 e2 e3
   refine ⟨u,r,?_⟩
   rcases l with l | ⟨k,c,e,z⟩
   · exact .inl l
   · exact .inr ⟨k,c,e,cellK x c e _ z⟩
 · obtain ⟨v,z⟩:=J.cell x c e
   exact ⟨v,cellK x c e v z⟩
 · obtain ⟨e,n,ne,nf,d⟩:=J.pin p hp
   obtain ⟨e1,_⟩:=I1.pin p hp
   exact ⟨key p.1 p.2 p.2 e1 e (mT J ne nf),n,ne,nf,d⟩
theorem tw {E:XK} {e C:Addr} {a0:Value} (J:Inv X pins σ H s) (hex:X.ex=[]) (bs:B.StaysIn s.heap) (st:B.StaysIn h') (cov:∀ b o,X.s₀.heap.get? b=some o->b∉X.fs->∃ o',B.get? b=some o')
 (trk:∀ b u,H b=some u->∃ o,B.get? b=some o) (up:∀ b,b∈X.fs->∀ o,s.heap.get? b=some o->(∀ vs,o.data≠.fields vs)->∃ sl,h'.get? b=some { o with slots:=sl })
 (fl:Heap.FlyingW B X.outer e (.ref C) a0 h') (q:E (.ref C) none H):CXF X.prog X.w X.outer X.H₀ X.s₀ E (.ref e) { s with heap:=h' }:=by
 have nx:∀ b,b∉X.ex:=fun b z=>by rw [hex] at z;cases z
 refine ⟨e,C,a0,B,H,rfl,J.os,J.bare,⟨fun b o eb n hb _=>?_,fun b o eb n hb _=>?_,fun b o eb n _=>J.base.free b o eb n (nx b),fun b o eb _=>?_,J.base.tups,J.base.frzs,J.base.tbls⟩,mP J.hok bs st trk,fl,trk,cov,q⟩
 · obtain ⟨o',eo⟩:=cov b o eb hb
   have z:=bs b o' eo
   rw [J.base.keep b o eb n hb (nx b)] at z
   cases z
   exact st b o eo
 · obtain ⟨sl,e1⟩:=J.base.slot b o eb n hb (nx b)
   obtain ⟨_,o2,e2,d2⟩:=J.ok.funs.mem hb
   rw [eb] at e2
   cases e2
   obtain ⟨sl',e3⟩:=up b hb _ e1 d2
   exact ⟨sl',e3⟩
 · by_cases hb:b∈X.fs
   · obtain ⟨o2,e2⟩:=J.base.there b o eb (nx b)
     obtain ⟨_,o3,e3,d3⟩:=J.funs.mem hb
     obtain ⟨sl,e4⟩:=up b hb o3 e3 d3
     exact ⟨_,e4⟩
   · obtain ⟨o',eo⟩:=cov b o eb hb
     exact ⟨o',st b o' eo⟩
end
structure RaC (K:PySem.W.Frag) (C:Addr):Prop where
 ex:excIn K C [.type "ValueError",.type "Exception",.type "BaseException",.type "object"] "ValueError.__new__" = true
theorem RaC.obj {K:PySem.W.Frag} {C:Addr} {h:Heap} (R:RaC K C) (X:K.In h):∃ bm N nm q bs hdct sn sub ab col dd k0 k1 k2 k3 k5 mN,h.get? C=some (excClassObj nm q C N bs bm hdct sn sub ab col dd k0 k1 k2 k3 k5 "ValueError.__new__")/\h.Ns N mN/\mN "__init__" = none /\
 OwnTail h [.type "ValueError",.type "Exception",.type "BaseException",.type "object"] bm:=by
 have z:=R.ex
 unfold excIn at z
 split at z
 · rename_i dd cd sl ho
   split at z
   · rename_i C1 bm k0 k1 k2 k3 n k5 hm hs
     rw [Bool.and_eq_true,Bool.and_eq_true,Bool.and_eq_true,Bool.and_eq_true,Bool.and_eq_true] at z
     obtain ⟨⟨⟨⟨⟨z1,z2⟩,z3⟩,z4⟩,z5⟩,z6⟩:=z
     have y1:=beq_iff_eq.mp z1
     have y2:=beq_iff_eq.mp z2
     have y6:=beq_iff_eq.mp z6
     subst y1 y2
     obtain ⟨nm,bs,mro,ns,qn,hd,sn,sub,ab,col,del⟩:=cd
     have y3:del=false:=by simpa using z3
     have ym:mro=.ref C1::bm:=hm
     subst ym y3
     have hsl:sl=#[k0,k1,k2,k3,some (.builtin "ValueError.__new__"),k5]:=by
      rw [← hs]
     subst hsl
     exact ⟨bm,ns,nm,qn,bs,hd,sn,sub,ab,col,dd,k0,k1,k2,k3,k5,_,X _ _ ho,.of_isNs (isNs_of_in X z5),nsMap_none_of_in X z5 y6,tail_of_in X z4⟩
   · cases z
 · cases z
section
variable {P:Program} {w:World} {K:PySem.W.Frag} {mg:Str->Option Value} {base:Heap} {N:List Str} {qual:Str} {scope:Scope} {f:Addr} {cdv:Value} {A:Around} {outer:List Env} {s0:Shared} {H0:Hp} {E:XK}
def qt (C:Addr) (E:XK) (t:TA):TS:=fun _ σ H=>t σ H fun vs H1=>vs.length<=sizeLine/\E (.ref C) none H1
theorem o0 {x:Str} {C:Addr} {e:Expr} {es:List Expr} {t:TA} {np cpos pos:Pos} (R:RaC K C) (hm:mg x=some (.ref C)) (hg:Gl (cE (CXF P w) P w K mg base N qual scope f cdv A outer s0 H0 E) x)
 (ha:PA (cE (CXF P w) P w K mg base N qual scope f cdv A outer s0 H0 E).nox (e::es) t) (hdb:(x == ("__debug__" : Str))=false:=by decide)
 (he:starEach (e::es) (cE (CXF P w) P w K mg base N qual scope f cdv A outer s0 H0 E).env=(false,eval e (cE (CXF P w) P w K mg base N qual scope f cdv A outer s0 H0 E).env)::starEach es (cE (CXF P w) P w K mg base N qual scope f cdv A outer s0 H0 E).env:=by rfl)
 (hpl:(backTo cpos (starEach es (cE (CXF P w) P w K mg base N qual scope f cdv A outer s0 H0 E).env)).any (·.1)=false:=by rfl) :
 PS (cE (CXF P w) P w K mg base N qual scope f cdv A outer s0 H0 E) (.Raise (some (.Call (.Name x np) (e::es) [] cpos)) none pos) (qt C E t):=by
 intro pins s σ H D I h
 obtain ⟨bm,Nn,nm,q,bs,hdct,sn,sub,ab,col,dd,k0,k1,k2,k3,k5,mN,hC,hNs,hni,T⟩:=R.obj I.ok.mod.kin
 refine wpAny_Raise_call_subT (C:=C) (nm:=nm) (q:=q) (N:=Nn) (bs:=bs) (bm:=bm) (hdct:=hdct) (sn:=sn) (sub:=sub) (ab:=ab) (col:=col) (dd:=dd) (k0:=k0) (k1:=k1) (k2:=k2) (k3:=k3) (k5:=k5) PySem.F.excBase_ValueError (mN:=mN) (T.hasType PySem.F.excBase_ValueError.hasBase) (I.ok.hd rfl) (by rw [he];exact (Bool.or_eq_false_iff.mpr ⟨rfl,hpl⟩)) hni (d6 I hg hm ⟨rfl,?_⟩ hdb)
 have hA:=ha cpos pins s σ H _ (I.wish _) h
 have he':starEach (e::es) (envOfC qual scope s0.heap.objs.size f cdv)=(false,eval e (envOfC qual scope s0.heap.objs.size f cdv))::starEach es (envOfC qual scope s0.heap.objs.size f cdv):=he
 show wpAny _ _ (evalArgs _ true (backTo cpos (starEach (e::es) (envOfC qual scope s0.heap.objs.size f cdv))) []) _ _ _
 have hA:wpAny (model P w) _ (spliced (backTo cpos (starEach (e::es) (envOfC qual scope s0.heap.objs.size f cdv)))) _ _ _:=hA
 rw [he'] at hA ⊢
 refine Calls.evalArgs_plain (wpAny_mono hA (fun vs s2 ⟨xs,H2,I2,rv,len,q2⟩=>?_) fun _ _ z=>False.elim z)
 have I2:=I2.unwish
 refine ⟨rfl,by rw [← rv.length];exact len,I2.bk _ _ hC,hNs.keeps I2.bk,T.keeps I2.bk,fun h' e' hx=>?_⟩
 have hin:∀ env∈(envOfC qual scope s0.heap.objs.size f cdv::outer),∀ b,env.frame=some b->b∈frs (envOfC qual scope s0.heap.objs.size f cdv::outer):=fun env hen b hb=>List.mem_filterMap.mpr ⟨env,hen,hb⟩
 show wpAny (model P w) (A.deeper (envOfC qual scope s0.heap.objs.size f cdv)) (leaving (envOfC qual scope s0.heap.objs.size f cdv) (.ref e')) _ _ _
 refine wpAny_leaves_madeW (base:=hideAll s2.heap (frs (envOfC qual scope s0.heap.objs.size f cdv::outer))) (h:=s2.heap) (outer:=outer) I2.ok.frames rfl (fun b o z=>of_hideAll _ z) (funFrames_hide I2.stack hin) hx fun h3 t x1 x2 x3 x4=>?_
 have nin:∀ b o,s0.heap.get? b=some o->b∉frs outer->b∉frs (envOfC qual scope s0.heap.objs.size f cdv::outer):=fun b o eb hb=>mT I2 (Nat.ne_of_lt (Nat.lt_of_lt_of_le (Heap.lt_size eb) I2.ok.above)) hb
 refine tw (X:=cE (CXF P w) P w K mg base N qual scope f cdv A outer s0 H0 E) (s:=s2) (h':=h3) (a0:=.ref t) I2 rfl (fun b o z=>of_hideAll _ z) x1.1 (fun b o eb hb=>?_) (fun b u eb=>?_) (fun b hb o eb nd=>?_) x1 q2
 · obtain ⟨o',e1⟩:=I2.base.there b o eb (by intro z;cases z)
   exact ⟨o',hideAll_get _ e1 (nin b o eb hb)⟩
 · obtain ⟨ob,e1⟩:=(I2.hok b u eb).has
   exact ⟨ob,hideAll_get _ e1 fun z=>by have:=I2.stkFree b z;rw [eb] at this;cases this⟩
 · exact x4 b o (hx.keeps b o eb) nd
end
structure FnR (P:Program) (w:World) (K:PySem.W.Frag) (mg:Str->Option Value) (base:Heap) (x:Str) (k:Nat) (ps:List Str) (sp:Sp):Prop where
 ex:∃ f fd,FnOk P w K mg base (CXF P w) k f fd ps sp/\Binds K fd ps []/\PySem.W.keepIn K (.ref f)=true/\mg x=some (.ref f)
theorem FnOk.toX {P:Program} {w:World} {K:PySem.W.Frag} {mg:Str->Option Value} {base:Heap} {CX:CXT} {k:Nat} {f:Addr} {fd:FuncData} {ps:List Str} {sp:Sp} (F:FnOk P w K mg base CX0 k f fd ps sp):FnOk P w K mg base CX k f fd ps sp:=
 ⟨F.len,fun A outer s H args us vs Q E hr e0 hb r h=>codeAny_mono (F.run A outer s H args us vs Q E hr e0 hb r h) fun r s' hq=>by
  cases r with
  | ok fl=>cases fl <;> exact hq
  | error e=>exact False.elim hq⟩
theorem FnOk.both {P:Program} {w:World} {K:PySem.W.Frag} {mg:Str->Option Value} {base:Heap} {CX:CXT} {k:Nat} {f:Addr} {fd:FuncData} {ps:List Str} {sp sp':Sp} (F:FnOk P w K mg base CX k f fd ps sp) (G:FnOk P w K mg base CX k f fd ps sp') :
 FnOk P w K mg base CX k f fd ps (fun vs H Q E=>sp vs H Q E\/sp' vs H Q E):=
 ⟨fun vs H Q E h=>h.elim (F.len vs H Q E) (G.len vs H Q E),fun A outer s H args us vs Q E hr e0 hb r h=>h.elim (F.run A outer s H args us vs Q E hr e0 hb r) (G.run A outer s H args us vs Q E hr e0 hb r)⟩
section
variable {P:Program} {w:World} {K:PySem.W.Frag} {mg:Str->Option Value} {base:Heap}
theorem Fun.okx {x qual:Str} {st:Stmt} {f:Addr} {fd:FuncData} {N ps:List Str} {k:Nat} {sp:Sp} (F:Fun K x qual st f fd) (S:FnScope N ps (ah st)) (len:∀ vs H Q E,sp vs H Q E->vs.length=ps.length)
 (hbody:∀ (cdv:Value) (A:Around) (outer:List Env) (s:Shared) (H:Hp) (vs:List V) (Q:VK) (E:XK),Room k (A.deeper (envOfC qual (ah st) s.heap.objs.size f cdv))->sp vs H Q E ->
   ∃ t,ZSs (cE (CXF P w) P w K mg base N qual (ah st) f cdv A outer s H E) (az st) t/\t { nx:=fun _ H'=>Q .non H',rt:=Q } (start N vs) H):FnOk P w K mg base (CXF P w) (k+1) f fd ps sp:=by
 obtain ⟨oc,od,kV,doc,pm,an,cdv,ct,osl,rfl,lk,hcd⟩:=F.ex
 refine fn_of lk hcd S len fun A outer s H vs Q E hr hsp=>?_
 obtain ⟨t,h,q⟩:=hbody cdv A outer s H vs Q E hr hsp
 exact ⟨t,h.p,q⟩
end
section
variable {P:Program} {w:World} {K:PySem.W.Frag} {mg:Str->Option Value} {base:Heap} {N:List Str} {qual:Str} {scope:Scope} {f:Addr} {cdv:Value} {A:Around} {outer:List Env} {s0:Shared} {H0:Hp} {E:XK}
theorem n6 {x:Str} {C:Addr} {e:Expr} {es:List Expr} {t:TA} {np cpos pos:Pos} (R:RaC K C) (hm:mg x=some (.ref C)) (hg:Gl (cE (CXF P w) P w K mg base N qual scope f cdv A outer s0 H0 E) x)
 (ha:ZA (cE (CXF P w) P w K mg base N qual scope f cdv A outer s0 H0 E).nox (e::es) t) (hdb:(x == ("__debug__" : Str))=false:=by decide)
 (he:starEach (e::es) (cE (CXF P w) P w K mg base N qual scope f cdv A outer s0 H0 E).env=(false,eval e (cE (CXF P w) P w K mg base N qual scope f cdv A outer s0 H0 E).env)::starEach es (cE (CXF P w) P w K mg base N qual scope f cdv A outer s0 H0 E).env:=by rfl)
 (hpl:(backTo cpos (starEach es (cE (CXF P w) P w K mg base N qual scope f cdv A outer s0 H0 E).env)).any (·.1)=false:=by rfl) :
 ZS (cE (CXF P w) P w K mg base N qual scope f cdv A outer s0 H0 E) (.Raise (some (.Call (.Name x np) (e::es) [] cpos)) none pos) (qt C E t):=by with_unfolding_all exact o0 R hm hg ha hdb he hpl
end
section
variable {X:Cx}
abbrev TX:=St->Hp->VK->XK->Prop
def PX (X:Cx) (e:Expr) (t:TX):Prop:=∀ (xe:Value->Shared->Prop) (pins:List (Addr×Obj)) (s:Shared) (σ:St) (H:Hp) (Q:VK) (E:XK),Inv X pins σ H s->t σ H Q E ->
 (∀ H1 s1 v s2,Inv X pins σ H1 s1->CXF X.prog X.w X.stack H1 s1 E v s2->xe v s2)->wpAny (model X.prog X.w) X.A (eval e X.env) (EP X pins σ Q) xe s
abbrev TXS:=Ends->(St->XK)->St->Hp->Prop
def PXS (X:Cx) (st:List Stmt) (t:TXS):Prop:=∀ (xe:Value->Shared->Prop) (pins:List (Addr×Obj)) (s:Shared) (σ:St) (H:Hp) (D:Ends) (E:St->XK),Inv X pins σ H s->t D E σ H ->
 (∀ σ1 H1 s1 v s2,Inv X pins σ1 H1 s1->CXF X.prog X.w X.stack H1 s1 (E σ1) v s2->xe v s2)->wpAny (model X.prog X.w) X.A (execs st X.env) (SP X pins D) xe s
def tXfn (sp:Sp) (t:TA):TX:=fun σ H Q E=>t σ H fun vs H1=>sp vs H1 Q E
theorem rR {x:Str} {k k':Nat} {ps:List Str} {sp:Sp} {e:Expr} {es:List Expr} {t:TA} {p pos:Pos} (F:FnR X.prog X.w X.K X.mg X.base x k ps sp) (hr:Room k' X.A) (hk:k<=k') (hg:Gl X x)
 (ha:PA X.nox (e::es) t) (hdb:(x == ("__debug__" : Str))=false:=by decide) (he:starEach (e::es) X.env=(false,eval e X.env)::starEach es X.env:=by rfl) (hpl:(backTo pos (starEach es X.env)).any (·.1)=false:=by rfl) :
 PX X (.Call (.Name x p) (e::es) [] pos) (tXfn sp t):=by
 intro xe pins s σ H Q E I h pass
 obtain ⟨f,fd,F1,b1,k1,m1⟩:=F.ex
 refine wpAny_Call_Name_kw (d6 I hg m1 ?_ hdb)
 refine PySem.W.callWith_K (h₀:=X.base) I.ok.mod.kin k1 (wpAny_mono (ha pos pins s σ H _ (I.wish _) h) (fun us s1 ⟨vs,H1,I1,r,q⟩=>⟨I1.kIn,?_⟩) fun _ _ z=>False.elim z) he hpl
 have I1:=I1.unwish
 have hl:us.length=ps.length:=by rw [← r.length];exact F1.len _ _ _ _ q
 refine wpAny_call (codeAny_mono ((F1.mono hk).run X.A X.stack s1 H1 ⟨us,[]⟩ us vs Q E hr I1.env0 (by have:=b1 s1 us I1.kIn (by rw [List.append_nil];exact hl);rw [List.append_nil] at this;exact this) r q) fun r s' hq=>?_)
 cases r with
 | error e=>exact pass H1 s1 e s' I1 hq
 | ok fl=>
   cases fl with
   | ret u=>exact I1.after hq
   | next=>exact False.elim hq
   | brk=>exact False.elim hq
   | cont=>exact False.elim hq
def tXset (i:Nat) (tx:TX):TXS:=fun D E σ H=>tx σ H (fun v H1=>D.nx (σ.set i (some v)) H1) (E σ)
theorem rQ {i:Nat} {x:Str} {e:Expr} {te:TX} {pos pos':Pos} (hN:X.N.Nodup) (hi:X.N[i]? = some x) (hx:Loc X.env.scope x) (he:PX X e te) (hs:swapsWith e (some (.Name x pos')) pos.line X.env=pure false:=by rfl) (hf:X.fn x=true\/X.env.scope.names.lookup x=some .local:=by first | exact .inl rfl | exact .inr rfl | assumption) :
 PXS X [.Assign [.Name x pos'] e pos] (tXset i te):=by
 intro xe pins s σ H D E I h pass
 refine wpAny_execs_cons (wpAny_Assign_Name (thn (he xe pins s σ H _ _ I h fun H1 s1 v s2=>pass σ H1 s1 v s2) fun v s1 ⟨y,H1,I1,r1,q1⟩=>?_) hs)
 exact bu I1 hN hi hx r1 (fun s2 I2=>wpAny_execs_nil ⟨_,H1,I2,q1⟩) hf
abbrev Cx.inx (X:Cx) (a:Addr):Cx:={ X with A:=X.A.mark (some (.ref a)),calm:=false,xe:=fun _ _=>False }
theorem Cx.Ok.inx {X:Cx} (ok:X.Ok) (a:Addr):(X.inx a).Ok:=
 ⟨ok.mod,ok.kind,ok.glob,ok.blt,ok.above,ok.inj,ok.has,ok.cab,(fun z=>by cases z),ok.frames,ok.stk,ok.exf,ok.bs,ok.bsz,ok.noex,ok.exfs,ok.funs,ok.frf⟩
theorem Inv.inx {pins:List (Addr×Obj)} {σ:St} {H:Hp} {s:Shared} (I:Inv X pins σ H s) (a:Addr):Inv (X.inx a) pins σ H s:=⟨I.ok.inx a,I.os,I.bare,I.base,I.loc,I.cell,I.free,I.freeC,I.pin,I.hok,I.len⟩
theorem Inv.outx {pins:List (Addr×Obj)} {σ:St} {H:Hp} {s:Shared} {a:Addr} (ok:X.Ok) (I:Inv (X.inx a) pins σ H s):Inv X pins σ H s:=⟨ok,I.os,I.bare,I.base,I.loc,I.cell,I.free,I.freeC,I.pin,I.hok,I.len⟩
def dropN (i:Nat) (D:Ends):Ends:={ nx:=fun σ H=>D.nx (σ.set i none) H,rt:=D.rt,bk:=fun σ H=>D.bk (σ.set i none) H,ct:=fun σ H=>D.ct (σ.set i none) H }
def tTry (K:PySem.W.Frag) (PC:Addr) (i:Nat) (tx:TXS) (u:TS):TS:=fun D σ H=>tx D (fun σ1 c _ H1=>∃ C,c=.ref C/\exmOne K (.ref C) (.ref PC)=some true/\∀ a,H1 a=none->u (dropN i D) (σ1.set i (some (.ref a))) (upd H1 a (.ext (IsX a C)))) σ H
theorem Inv.drop {pins:List (Addr×Obj)} {σ:St} {H:Hp} {s:Shared} {i:Nat} {n:Str} {h':Heap} {v:Option Value} {t':Nat} {m:Str->Option Value} (I:Inv X pins σ H s) (hN:X.N.Nodup) (hi:X.N[i]? = some n) (hk:X.env.scope.names.lookup n=some .local)
 (hm:s.heap.Ns X.env.locals m) (hl:∀ (i:Nat) (x:Str) (v:V),X.N[i]? = some x->σ[i]? = some (some v)->Vis X.env.scope x->∃ u,RelV v u/\Look X.env s.heap m x u)
 (hn:h'.Ns X.env.locals (fun x=>if x=n then v else m x)) (hs:Heap.SameBut X.env.locals s.heap h'):Inv X pins (σ.set i none) H { s with heap:=h',toks:=t' }:=by
 have neL:∀ b o,X.s₀.heap.get? b=some o->b≠X.env.locals:=fun b o e=>Nat.ne_of_lt (Nat.lt_of_lt_of_le (Heap.lt_size e) I.ok.above)
 refine ⟨I.ok,I.os,I.bare,⟨fun b o e n hb hx=>(hs.2 b (neL b o e)).trans (I.base.keep b o e n hb hx),fun b o e n hb hx=>?_,I.base.free,fun b o e hx=>?_,I.base.tups,I.base.frzs,I.base.tbls⟩,⟨_,hn,fun j y v' e1 e2 e3=>?_⟩,fun y c e=>?_,I.free,I.freeC,fun p hp=>?_,fun b u e=>?_,by rw [List.length_set];exact I.len⟩
 · obtain ⟨sl,e1⟩:=I.base.slot b o e n hb hx
   exact ⟨sl,(hs.2 b (neL b o e)).trans e1⟩
 · obtain ⟨o',e1⟩:=I.base.there b o e hx
   exact ⟨o',(hs.2 b (neL b o e)).trans e1⟩
 · by_cases hj:j=i
   · subst hj
     by_cases hlt:j<σ.length
     · rw [List.getElem?_set_self hlt] at e2;cases e2
     · rw [List.getElem?_eq_none (by rw [List.length_set];lia)] at e2;cases e2
   · rw [List.getElem?_set_ne (Ne.symm hj)] at e2
     obtain ⟨u',r',q⟩:=hl j y v' e1 e2 e3
     refine ⟨u',r',?_⟩
     rcases q with ⟨k,e⟩ | ⟨k,c,e,z⟩
     · refine .inl ⟨k,?_⟩
       have ne:y≠n:=fun e=>hj (fP hN e1 (e▸hi))
       show (if y=n then v else m y)=_
       rw [if_neg ne]
       exact e
     · exact .inr ⟨k,c,e,z.sameBut hs (I.cne y c e)⟩
 · obtain ⟨w',z⟩:=I.cell y c e
   exact ⟨w',z.sameBut hs (I.cne y c e)⟩
 · obtain ⟨e,n,ne,nf,d⟩:=I.pin p hp
   exact ⟨(hs.2 p.1 ne).trans e,n,ne,nf,d⟩
 · refine (I.hok b u e).stay (fun c w' hc q=>(hs.2 c ?_).trans q) (fun _ q=>q) fun _ _ q=>q
   rintro rfl
   have fr:=I.free
   rcases hc with z | z
   · rw [← z,fr] at e;cases e
   · rw [fr] at z;cases z
theorem ps_try {PC:Addr} {i:Nat} {tx:TXS} {u:TS} {n pn:Str} {body:List Stmt} {b0:Stmt} {suite:List Stmt} {np hpos pos:Pos} (hb:PXS X body tx) (hu:∀ a,PSs (X.inx a) (b0::suite) u) (hst:X.stack=X.env::X.outer) (hfr:X.env.frame=some X.env.locals) (hN:X.N.Nodup) (hi:X.N[i]? = some n)
 (hn:X.env.scope.names.lookup n=some .local) (hg:Gl X pn) (hm:X.mg pn=some (.ref PC)) (hdb:(pn == ("__debug__" : Str))=false:=by decide) :
 PS X (.Try body [.ExceptHandler (some (.Name pn np)) (some n) (b0::suite) hpos] [] [] pos) (tTry X.K PC i tx u):=by
 intro pins s σ H D I h
 refine wpAny_Try_except (wpAny_mono (hb _ pins s σ H D _ I h fun σ1 H1 s1 v s2 I1 hx=>?_) (fun f s1 q=>?_) fun _ _ z=>z)
 · obtain ⟨e,C,a0,B,H',rfl,os,bare,un,hok,fl,trk,cov,C',ec,mt,q⟩:=hx
   cases ec
   have J:Inv X pins σ1 H' s2:=I1.call' os un hok bare (fun b z=>absurd z (by simp))
   have fr:=I.ok.frames
   rw [hst] at fr fl
   have eB:B.get? e=none:=fl.2.1
   have eH:H' e=none:=by
    cases z:H' e with
    | none=>rfl
    | some u0=>
      obtain ⟨o,eo⟩:=trk e u0 z
      rw [eB] at eo;cases eo
   have cov':∀ b o,s1.heap.get? b=some o->b∉frs X.stack->∃ o',B.get? b=some o':=cov
   refine wpAny_looks_onW fr hfr fl fun h4 hheld4 sm4=>?_
   refine wpAny_landsW hheld4 fun h5 fl5 sm5=>?_
   have J5:Inv X pins σ1 H' { s2 with heap:=h5 }:=I1.fly (t':=s2.toks) J fl.1 fl5.1 cov' trk fun b hb o eo nd=>by
    obtain ⟨sl,e1⟩:=sm4 b o eo nd
    obtain ⟨sl2,e2⟩:=sm5 b _ e1 nd
    exact ⟨sl2,e2⟩
   have LT:Looks (model X.prog X.w) h5 (typeOf (.ref e)) (.ref C):=by
    obtain ⟨ob,eo,oc⟩:=fl5.there
    have z:Looks (model X.prog X.w) h5 (typeOf (.ref e)) ob.cls:=(Looks.ld eo).andThen .now
    rw [oc] at z
    exact z
   refine wpAny_handleBy_cons (codeAny_handlers_test (d6 (X:=X.inx e) (J5.inx e) hg hm ((exm_one J5.kIn LT mt).here ?_) hdb)) (by intro z;cases z)
   refine codeAny_handlers_suite_as ?_
   refine lands_againW fl5 fun h6 fl6 sm6=>?_
   have J6:Inv X pins σ1 H' { s2 with heap:=h6 }:=I1.fly (s:={ s2 with heap:=h5 }) (t':=s2.toks) J5 fl5.1 fl6.1 cov' trk fun b hb o eo nd=>sm6 b o eo nd
   have IX:IsX e C h6:=by
    obtain ⟨oe,ws,hoe,hoec,hoed,_⟩:=fl6.first
    exact ⟨oe,ws,hoe,hoec,hoed⟩
   have J7:Inv X pins σ1 (upd H' e (.ext (IsX e C))) { s2 with heap:=h6 }:=by
    have nn:∀ b u0,H' b=some u0->b≠e:=fun b u0 z y=>by rw [y,eH] at z;cases z
    have old:∀ b o,X.s₀.heap.get? b=some o->b∉X.ex->b≠e:=fun b o z hx y=>by
     obtain ⟨o1,e1⟩:=I1.base.there b o z hx
     by_cases hf:b∈frs X.stack
     · obtain ⟨_,o2,e2,d2⟩:=J6.stack.mem hf
       obtain ⟨oe,ws,hoe,_,hoed⟩:=IX
       rw [y] at e2
       have e2':h6.get? e=some o2:=e2
       rw [hoe] at e2'
       cases e2'
       exact d2 _ hoed
     · obtain ⟨o3,e3⟩:=cov' b o1 e1 hf
       rw [y,eB] at e3;cases e3
    have nd0:∀ b o,s1.heap.get? b=some o->b∉frs X.stack->b≠e:=fun b o z hf y=>by
     obtain ⟨o3,e3⟩:=cov' b o z hf
     rw [y,eB] at e3;cases e3
    have dF:∀ b,b∈frs X.stack->b≠e:=fun b hf y=>by
     obtain ⟨_,o2,e2,d2⟩:=J6.stack.mem hf
     obtain ⟨oe,ws,hoe,_,hoed⟩:=IX
     rw [y] at e2
     have e2':h6.get? e=some o2:=e2
     rw [hoe] at e2'
     cases e2'
     exact d2 _ hoed
    have any:∀ b o,s1.heap.get? b=some o->b≠e:=fun b o z=>by
     by_cases hf:b∈frs X.stack
     · exact dF b hf
     · exact nd0 b o z hf
    refine ⟨J6.ok,J6.os,J6.bare,⟨J6.base.keep,J6.base.slot,fun b o z n0 hx=>?_,J6.base.there,fun b xs z=>?_,fun b o u0 z=>?_,fun b ps z=>?_⟩,J6.loc,J6.cell,?_,fun x c z=>?_,fun p hp=>?_,fun b u0 z=>?_,J6.len⟩
    · rw [am (old b o z hx)];exact J6.base.free b o z n0 hx
    · have y:=J6.base.tups b xs z
      rw [am (nn b _ y)];exact y
    · have y:=J6.base.frzs b o u0 z
      rw [am (nn b _ y)];exact y
    · obtain ⟨more,y⟩:=J6.base.tbls b ps z
      exact ⟨more,by rw [am (nn b _ y)];exact y⟩
    · obtain ⟨m1,⟨o1,_,_,e1,_⟩,_⟩:=I1.loc
      rw [am (any _ o1 e1)];exact J6.free
    · obtain ⟨v1,o1,e1,_⟩:=I1.cell x c z
      rw [am (any c o1 e1)];exact J6.freeC x c z
    · obtain ⟨e1,n1,ne,nf,d⟩:=J6.pin p hp
      obtain ⟨y1,_⟩:=I1.pin p hp
      exact ⟨e1,by rw [am (any p.1 p.2 y1)];exact n1,ne,nf,d⟩
    · by_cases hbe:b=e
      · subst hbe
        rw [ad] at z
        cases z
        obtain ⟨oe,ws,hoe,hoec,hoed⟩:=id IX
        refine ⟨IX,⟨oe,hoe⟩,fun h1 h2 p1 k1=>?_⟩
        obtain ⟨o1,w1,x1,x2,x3⟩:=p1
        exact ⟨o1,w1,k1 _ x1,x2,x3⟩
      · rw [am hbe] at z
        exact (J6.hok b u0 z).stay (fun _ _ _ y=>y) (fun c y=>by rw [am (nn c _ y)];exact y) fun c xs y=>by rw [am (nn c _ y)];exact y
   refine bu (X:=X.inx e) (J7.inx e) hN hi (.inl hn) (show RelV (.ref e) (.ref e) from rfl) (fun s7 I7=>?_) (.inr hn)
   refine wpAny_mono (hu e pins s7 _ _ (dropN i D) I7 (q e eH)) (fun f s8 q8=>?_) fun _ _ z=>False.elim z
   have fin:∀ {σ8:St} {H8:Hp} {Qf:Unit->Shared->Prop},Inv (X.inx e) pins σ8 H8 s8->(∀ s9,Inv X pins (σ8.set i none) H8 s9->Qf () s9)->wpAny (model X.prog X.w) X.A (do bindName X.env n .none;unbindBehindTheSuite X.env n hpos) Qf X.xe s8:=fun {σ8 H8 Qf} I8 k=>by
    have I8:=I8.outx I.ok
    obtain ⟨m8,hm8,hl8⟩:=id I8.loc
    exact wpAny_nameGoes_keeps (show X.env.kindOf n=some .local from hn) hm8 (by rw [I8.ok.kind];rfl) fun h9 v9 hn9 hs9=>k _ (I8.drop hN hi hn hm8 hl8 hn9 hs9)
   cases f with
   | next=>
     obtain ⟨σ8,H8,I8,q9⟩:=q8
     exact fin I8 fun s9 I9=>⟨_,H8,I9,q9⟩
   | brk=>
     obtain ⟨σ8,H8,I8,q9⟩:=q8
     exact fin I8 fun s9 I9=>⟨_,H8,I9,q9⟩
   | cont=>
     obtain ⟨σ8,H8,I8,q9⟩:=q8
     exact fin I8 fun s9 I9=>⟨_,H8,I9,q9⟩
   | ret v8=>
     obtain ⟨v,σ8,H8,I8,r8,q9⟩:=q8
     exact fin I8 fun s9 I9=>⟨v,_,H8,I9,r8,q9⟩
 · cases f with
   | next=>exact wpAny_execs_nil q
   | ret v=>exact q
   | brk=>exact q
   | cont=>exact q
end
section
variable {X:Cx}
theorem qV {x:Str} {k k':Nat} {ps:List Str} {sp:Sp} {e:Expr} {es:List Expr} {t:TA} {p pos:Pos} (F:FnR X.prog X.w X.K X.mg X.base x k ps sp) (hr:Room k' X.A) (hk:k<=k') (hg:Gl X x)
 (ha:ZA X.nox (e::es) t) (hdb:(x == ("__debug__" : Str))=false:=by decide) (he:starEach (e::es) X.env=(false,eval e X.env)::starEach es X.env:=by rfl) (hpl:(backTo pos (starEach es X.env)).any (·.1)=false:=by rfl) :
 PX X (.Call (.Name x p) (e::es) [] pos) (tXfn sp t):=by with_unfolding_all exact rR F hr hk hg ha hdb he hpl
theorem zs_try {PC:Addr} {i:Nat} {tx:TXS} {u:TS} {n pn:Str} {body:List Stmt} {b0:Stmt} {suite:List Stmt} {np hpos pos:Pos} (hb:PXS X body tx) (hu:∀ a,ZSs (X.inx a) (b0::suite) u) (hst:X.stack=X.env::X.outer) (hfr:X.env.frame=some X.env.locals) (hN:X.N.Nodup) (hi:X.N[i]? = some n)
 (hn:X.env.scope.names.lookup n=some .local) (hg:Gl X pn) (hm:X.mg pn=some (.ref PC)) (hdb:(pn == ("__debug__" : Str))=false:=by decide) :
 ZS X (.Try body [.ExceptHandler (some (.Name pn np)) (some n) (b0::suite) hpos] [] [] pos) (tTry X.K PC i tx u):=by with_unfolding_all exact ps_try hb (fun a=>hu a) hst hfr hN hi hn hg hm hdb
def clV:V->Option Value
 | .ref D=>some (.ref D)
 | .ty n=>some (.type n)
 | _=>none
def rH (K:PySem.W.Frag):List V->Hp->VK->Prop:=fun xs H Q=>match xs with
 | [.ref x,c]=>∃ C b y,H x=some (.ext (IsX x C))/\ExC K C/\clV c=some y/\kitOne K (.ref C) y=some b/\Q (.bl b) H
 | _=>False
theorem nI:CallR X (.builtin "isinstance") (rH X.K):=by
 intro pins s σ H xs us Q I r h
 unfold rH at h
 split at h
 · rename_i x c
   obtain ⟨C,b,y,hx,L,ey,kk,q⟩:=h
   obtain ⟨u,w',rfl,r1,r2⟩:=hW r
   cases r1
   have e2:w'=y:=by
    cases c with
    | ref D=>cases ey;exact r2
    | ty n=>cases ey;exact r2
    | non=>cases ey
    | bl b=>cases ey
    | int i=>cases ey
    | str x=>cases ey
    | byt b=>cases ey
    | flt b=>cases ey
   subst e2
   obtain ⟨p,_,_⟩:=I.hok x _ hx
   exact kia_one (pN L) I.kIn p kk (fun z=>nomatch z) fun tk=>⟨.bl _,H,I.tok tk,rfl,q⟩
 · exact h.elim
theorem bg {p pos:Pos} {e:Expr} {es:List Expr} {t:TA} (hg:Gl X "isinstance") (hm:X.mg "isinstance" = none) (ha:ZA X (e::es) t) (he:starEach (e::es) X.env=(false,eval e X.env)::starEach es X.env) (hpl:(backTo pos (starEach es X.env)).any (·.1)=false) :
 ZE X (.Call (.Name "isinstance" p) (e::es) [] pos) (tCB (rH X.K) t):=by with_unfolding_all exact aY nI hg hm bF ha (by decide) (by decide) he hpl
theorem cv {x:Str} {C:Addr} {pos:Pos} (hg:Gl X x) (hm:X.mg x=some (.ref C)) (hd:(x == ("__debug__" : Str))=false:=by decide):ZE X (.Name x pos) (tC (.ref C)):=by with_unfolding_all exact su hg hm (show RelV (.ref C) (.ref C) from rfl) hd
theorem eI:bootBuiltins "ValueError" = some (.type "ValueError"):=by decide +kernel
theorem eK {pos:Pos} (hg:Gl X "ValueError") (hm:X.mg "ValueError" = none):ZE X (.Name "ValueError" pos) (tC (.ty "ValueError")):=by with_unfolding_all exact jL hg hm eI (by decide) (by decide)
end
def errB (K:PySem.W.Frag) (p C:Addr) (os:List Addr):Bool:=
 exCB K C&&excIn K C [.type "ValueError",.type "Exception",.type "BaseException",.type "object"] "ValueError.__new__"&&exmOne K (.ref C) (.ref p) == some true&&kitOne K (.ref C) (.type "ValueError") == some true
  && kitOne K (.ref C) (.ref C) == some true&&os.all fun D=>kitOne K (.ref C) (.ref D) == some false
structure ErrK (K:PySem.W.Frag) (p C:Addr) (os:List Addr):Prop where
 cls:ExC K C
 ra:RaC K C
 mt:exmOne K (.ref C) (.ref p)=some true
 vE:kitOne K (.ref C) (.type "ValueError")=some true
 me:kitOne K (.ref C) (.ref C)=some true
 ot:∀ D∈os,kitOne K (.ref C) (.ref D)=some false
theorem ErrK.of {K:PySem.W.Frag} {p C:Addr} {os:List Addr} (h:errB K p C os=true):ErrK K p C os:=by
 unfold errB at h
 simp only [Bool.and_eq_true,beq_iff_eq,List.all_eq_true] at h
 obtain ⟨⟨⟨⟨⟨a,b⟩,c⟩,d⟩,e⟩,g⟩:=h
 exact ⟨.of a,⟨b⟩,c,d,e,g⟩
section
variable {X:Cx}
theorem kf {sts:List Stmt}:ZSs X sts qu:=by with_unfolding_all exact lH
def ip (K:PySem.W.Frag):V->List V->Hp->VK->Prop:=fun x vs H Q=>match x,vs with
 | .ref a,[.bl k]=>∃ bs:List Bool,SqL K H a (bs.map V.bl)/\Q (.int (bs.count k)) H
 | _,_=>False
theorem dU (hp:Heap):∀ {bs:List Bool} {its:List Value},Vals (bs.map V.bl) its->ReadsAll hp its (bs.map PyData.bool) []
 | [],_,.nil=>.nil
 | b::bs,_,.cons r rs=>by
   cases (show _=Value.bool b from r)
   exact .cons (.bool b) (dU hp rs)
theorem eC (k:Bool):∀ bs:List Bool,Spec.countIn (.bool k) (bs.map PyData.bool)=(bs.count k:Int)
 | []=>rfl
 | b::bs=>by
   rw [List.map_cons,Spec.countIn,eC k bs,List.count_cons]
   cases b <;> cases k <;> simp [Spec.same] <;> lia
theorem mf:MtM X "list.count" (ip X.K):=by
 intro pins s σ H x vs v us Q I rx rv h
 unfold ip at h
 split at h
 · rename_i a k
   obtain ⟨bs,hH,q⟩:=h
   cases rx
   obtain ⟨u,rfl,ru⟩:=rv.one
   cases (show u=Value.bool k from ru)
   obtain ⟨its,r,pl,hz⟩:=I.list hH
   refine count_list_bools pl.isList (dU s.heap r) (by rw [List.all_map];exact List.all_eq_true.mpr fun _ _=>rfl) ?_
   rw [eC]
   exact ⟨.int _,H,I.tok _,⟨_,rfl⟩,q⟩
 · exact h.elim
theorem kj {o e:Expr} {es:List Expr} {to:TE} {t:TA} {apos cpos:Pos} (ho:ZE X o to) (ha:ZA X (e::es) t) (hbase:attributeBase o "count" X.env (eval o X.env)=eval o X.env:=by rfl)
 (hfew:((backTo cpos (starEach (e::es) X.env)).all (fun x=>!x.1)&&(backToKw cpos (keywordEach [] X.env)).all (fun x=>x.1.isSome)
   && decide ((e::es).length+([]:List Keyword).length+(if ([]:List Keyword).isEmpty then 0 else 1)<30))=true:=by rfl)
 (hline:(apos.endLine == cpos.line)=true:=by rfl) (hs:starEach (e::es) X.env=(false,eval e X.env)::starEach es X.env:=by rfl) (hplain:(backTo cpos (starEach es X.env)).any (·.1)=false:=by rfl) :
 ZE X (.Call (.Attribute o "count" apos) (e::es) [] cpos) (fun σ H Q=>to σ H fun x H1=>tyV X.K "list" x H1/\t σ H1 fun xs H2=>ip X.K x xs H2 Q):=by
 with_unfolding_all exact sy PySem.F.plainAttrs_list PySem.F.slot_list_count PySem.F.type_list_count mf ho ha hbase hfew hline hs hplain
end
end L2
namespace K41
open PySem L2 M39 M40 M81
theorem jo:∀ (as bs:List Int),PyData.eqvAll (as.map PyData.int) (bs.map PyData.int)=decide (as=bs)
 | [],[]=>by simp [PyData.eqvAll]
 | [],b::bs=>by simp [PyData.eqvAll]
 | a::as,[]=>by simp [PyData.eqvAll]
 | a::as,b::bs=>by
   have ih:=jo as bs
   simp only [List.map_cons,PyData.eqvAll,ih,PyData.eqv]
   by_cases h:a=b
   · subst h
     simp
   · simp [h]
theorem iH (as bs:List Int):PyData.eqv (.tuple (as.map PyData.int)) (.tuple (bs.map PyData.int))=decide (as=bs):=by
 show PyData.eqvAll _ _=_
 exact jo as bs
theorem eq_dec {H:Hp} {a b:Addr} {as bs:List Int} {Q:VK} (ha:H a=some (.tup (as.map V.int))) (hb:H b=some (.tup (bs.map V.int))) (q:Q (.bl (decide (as=bs))) H):rEqD false (.ref a) (.ref b) H Q:=
 ⟨_,_,.ints ha,.ints hb,aP _,aP _,by rw [if_neg (by decide),iH];exact q⟩
def mH (t:Nat) (c:Nat->Nat) (q:Nat->List Int) (m:Nat):List Int:=(List.range m).flatMap fun (r:Nat)=>(bd (q r) (c r)).map fun (b:Int)=>(r:Int)+(t:Int)*b
theorem bE (t:Nat) (c:Nat->Nat) (q:Nat->List Int) (m:Nat):mH t c q (m+1)=mH t c q m++(bd (q m) (c m)).map fun (b:Int)=>(m:Int)+(t:Int)*b:=by
 unfold mH
 rw [List.range_succ,List.flatMap_append]
 simp
theorem fS (t:Nat) (c:Nat->Nat) (q:Nat->List Int):∀ m,(mH t c q m).length=((List.range m).map c).sum
 | 0=>rfl
 | m+1=>by
   rw [bE,List.length_append,List.length_map,aO,fS t c q m,List.range_succ,List.map_append,List.sum_append]
   simp
theorem fH (c:Nat->Nat):∀ (m d:Nat),((List.range m).map c).sum<=((List.range (m+d)).map c).sum
 | m,0=>Nat.le_refl _
 | m,d+1=>by
   rw [← Nat.add_assoc,List.range_succ,List.map_append,List.sum_append]
   exact Nat.le_trans (fH c m d) (Nat.le_add_right _ _)
theorem ct_sum {ns:List Int} {t k:Nat} (ht:0<t):((List.range t).map fun r=>ct ns k t r).sum=k:=by
 have h:=dP t ht (bd ns k)
 rw [aO] at h
 have:(((List.range t).map fun r=>ct ns k t r).sum:Int)=((List.range t).map fun (r:Nat)=>((ct ns k t r:Nat):Int)).sum:=by
  generalize List.range t=l
  induction l with
  | nil=>rfl
  | cons a l ih=>rw [List.map_cons,List.sum_cons,List.map_cons,List.sum_cons,Int.natCast_add,ih]
 have h2:(((List.range t).map fun r=>ct ns k t r).sum:Int)=(k:Int):=this.trans h
 lia
section
variable {P:Program} {w:World} {K:PySem.W.Frag} {mg:Str->Option Value} {base:Heap} {f:Addr} {fd:FuncData}
theorem sc_ic:FnScope ["parting","t"] ["parting","t"] (ah (top 18)):=⟨rfl,rfl,rfl,by decide +kernel,rfl,by decide +kernel,by decide +kernel⟩
def oA:Sp:=fun vs H Q _=>∃ (a:Addr) (ns:List Int) (t:Nat),vs=[.ref a,.int t]/\H a=some (.tup (ns.map V.int))/\ns.length<=400/\0<t/\t<=20/\∀ H',Same H H'->Q (.bl (decide (cor ns t=ns))) H'
theorem ok_ic (F:Fun K "is_core" "is_core" (top 18) f fd)  (F_apart:FnA P w K mg base "apart" 3 ["parting","t"] fI):FnOk P w K mg base CX0 4 f fd ["parting","t"] oA:=by
 refine F.okz sc_ic (fun vs H Q E h=>?_) (fun cdv A outer s H vs Q E hr h=>?_)
 · obtain ⟨a,ns,t,rfl,_⟩:=h;rfl
 obtain ⟨a,ns,t,rfl,ha,hl,t0,t1,q⟩:=h
 have nd:=sc_ic.nd
 have hu:=hr.units
 refine ⟨_,(aj (aK (bX (cO hu) (br dy (aJ F_apart hr (by decide) rfl (aa (zn 0) (aa (zn 1) ae))) ag (fun _ _=>rfl)) (zn 0) (aI _)))),?_⟩
 refine ⟨a,ns,t,rfl,ha,hl,t0,t1,fun p H1 y1 ap=>?_⟩
 obtain ⟨c,d,qs,e1,e2,e3,e4⟩:=ap
 refine ⟨_,.inr e1,.ref c,rfl,?_⟩
 exact eq_dec e2 (y1 _ _ ha) (q H1 y1)
theorem sc_jn:FnScope ["core","quotients","t","rounds","beads","rest","run","bead"] ["core","quotients"] (ah (top 19)):=⟨rfl,rfl,rfl,by decide +kernel,rfl,by decide +kernel,by decide +kernel⟩
def oz:Sp:=fun vs H Q _=>∃ (c d:Addr) (cs:List Int) (qs:List Addr) (lss:List (List Int)) (t B:Nat),vs=[.ref c,.ref d]/\H c=some (.tup (cs.map V.int))/\H d=some (.tup (qs.map V.ref))/\Tl H qs lss/\lss.length=t/\0<t/\t<=20/\cs.length<=400/\cor cs t=cs/\(∀ ls∈lss,ls.length<=B)/\t*(rd cs t+B)<=900 /\
 ∀ r H' M,Same H H'->(∀ ls∈lss,ls.length<=M)->M<=B->H' r=some (.tup ((pt (jb t (fun r=>ct cs (t*(rd cs t+M)) t r) fun r=>lss.getD r [])).map V.int))->Q (.ref r) H'
theorem ok_jn (F:Fun K "joined" "joined" (top 19) f fd) (m_enumerate:mg "enumerate" = none) (m_len:mg "len" = none) (m_max:mg "max" = none) (F_beads_of:FnA P w K mg base "beads_of" 1 ["parting","many"] bQ) (F_is_core:FnA P w K mg base "is_core" 4 ["parting","t"] oA) (F_parting_of:FnA P w K mg base "parting_of" 1 ["beads"] eP) (F_rounds_of:FnA P w K mg base "rounds_of" 1 ["parting","t"] bG) (F_runs_of:FnA P w K mg base "runs_of" 2 ["parting","t","rounds"] cm):FnOk P w K mg base CX0 5 f fd ["core","quotients"] oz:=by
 refine F.okz sc_jn (fun vs H Q E h=>?_) (fun cdv A outer s H vs Q E hr h=>?_)
 · obtain ⟨c,d,cs,qs,lss,t,B,rfl,_⟩:=h;rfl
 obtain ⟨c,d,cs,qs,lss,t,B,rfl,hc,hd,tl,et,t0,t1,cl,co,lB,room,q⟩:=h
 have nd:=sc_jn.nd
 have hu:=hr.units
 have lq:=tl.len
 refine ⟨_,(af (aq (i:=2) nd rfl (Or.inl rfl) (bo rfl m_len (aa (zn 1) ae) rfl rfl))
  (af (bV (cG (bH (aJ F_is_core hr (by decide) rfl (aa (zn 0) (aa (zn 2) ae))))) (aj zs_no) aT)
  (af (aq (i:=3) nd rfl (Or.inl rfl) (ai au (aJ F_rounds_of hr (by decide) rfl (aa (zn 0) (aa (zn 2) ae))) (ku rfl rfl m_max (aa (ba ["quotient"] [] rfl ⟨rfl,by decide +kernel,by decide +kernel,rfl,rfl⟩ (kl (zn 1)) bj (fun _ _ _ _=>ak (i:=0) (show List.Nodup (["quotient"]:List Str) by decide +kernel) rfl (Or.inl rfl)) (fun _ _ _ _=>aS) (fun _ _ _ _=>(dE rfl m_len (aa (zn 0) ae) rfl rfl rfl))) ae) rfl rfl)))
  (af (aq (i:=4) nd rfl (Or.inl rfl) (bn ae))
  (af (bW PassesOwn.never rfl (bq rfl m_enumerate (aa (aJ F_runs_of hr (by decide) rfl (aa (zn 0) (aa (zn 2) (aa (zn 3) ae)))) ae)) (bB rfl (av (ak (i:=5) nd rfl (Or.inl rfl)) (av (ak (i:=6) nd rfl (Or.inl rfl)) aZ))) (aj (bW PassesOwn.never rfl (bP (aJ F_beads_of hr (by decide) rfl (aa (br dy (zn 1) (zn 5) (fun _ _=>rfl)) (aa (bo rfl m_len (aa (zn 6) ae) rfl rfl) ae)))) (ak (i:=7) nd rfl (Or.inl rfl)) (aj (dc (cI (zn 4) (aa (ai au (zn 5) (ai aF (zn 2) (zn 7))) ae)))))))
  (aj (aK (aJ F_parting_of hr (by decide) rfl (aa (zn 4) ae))))))))),?_⟩
 refine ⟨_,.inr hd,?_⟩
 have el:(((qs.map V.ref).length:Nat):Int)=(t:Int):=by rw [List.length_map,lq,et]
 refine ⟨c,cs,t,congrArg (fun z=>[V.ref c,V.int z]) el,hc,cl,t0,t1,fun H1 y1=>?_⟩
 rw [decide_eq_true co]
 refine ⟨c,cs,t,congrArg (fun z=>[V.ref c,V.int z]) el,y1 _ _ hc,t0,by lia,?_⟩
 have hd1:=y1 _ _ hd
 have tl1:=tl.same y1
 refine ⟨d,rfl,⟨_,SqT.of hd1⟩,iL (xs:=qs.map V.ref) (fun i zs H'=>H'=H1/\zs=((lss.take i).map fun ls=>(ls.length:Int)).map V.int) ⟨rfl,by rw [List.take_zero];rfl⟩ ?_ ?_ ?_⟩
 · rintro i zs H' _ ⟨rfl,_⟩
   exact SqT.of hd1
 · rintro i z zs H' hz ⟨rfl,rfl⟩
   have hi:i<qs.length:=by have:=(List.getElem?_eq_some_iff.mp hz).1;rw [List.length_map] at this;exact this
   have hi2:i<lss.length:=by lia
   have ez:z=.ref qs[i]:=by rw [List.getElem?_map,List.getElem?_eq_getElem hi] at hz;exact (Option.some.inj hz).symm
   subst ez
   refine ⟨by rw [List.length_map,List.length_map,List.length_take];exact aA (by lia),?_⟩
   refine ⟨_,.inr (tl1.at_ i hi hi2),rfl,?_⟩
   rw [List.take_succ,List.getElem?_eq_getElem hi2,List.map_append,List.map_append,List.length_map]
   rfl
 · rintro zs H2 ⟨rfl,rfl⟩ D hD
   have yD:=Same.new hD (.lst (((lss.take (qs.map V.ref).length).map fun ls=>(ls.length:Int)).map V.int))
   have eN:(lss.take (qs.map V.ref).length)=lss:=List.take_of_length_le (by rw [List.length_map,lq];exact Nat.le_refl _)
   have gD:upd H2 D (.lst (((lss.take (qs.map V.ref).length).map fun ls=>(ls.length:Int)).map V.int)) D=some (.lst ((lss.map fun ls=>(ls.length:Int)).map V.int)):=by rw [ad,eN]
   have hc2:=yD _ _ (y1 _ _ hc)
   have hd2:=yD _ _ hd1
   have tl2:=tl1.same yD
   have z2:=y1.trans yD
   generalize upd H2 D (.lst (((lss.take (qs.map V.ref).length).map fun ls=>(ls.length:Int)).map V.int))=H3 at yD gD hc2 hd2 tl2 z2
   refine ⟨_,.inl (SqL.of gD),(fun z=>by have:=congrArg List.length z;rw [List.length_map,et] at this;simp at this;lia),fun M0 hM0 allM=>?_⟩
   obtain ⟨lm,hlm,rfl⟩:=List.mem_map.mp hM0
   have hMB:=lB lm hlm
   have allM':∀ ls∈lss,ls.length<=lm.length:=fun ls hls=>by
    have:=allM (ls.length:Int) (List.mem_map.mpr ⟨ls,hls,rfl⟩)
    lia
   generalize lm.length=M at hMB allM'
   have eR:(rd cs t:Int)+(M:Int)=((rd cs t+M:Nat):Int):=by lia
   have rg:=fL cs t0
   have hroom:t*(rd cs t+M)<=900:=Nat.le_trans (Nat.mul_le_mul_left _ (by lia)) room
   refine ⟨by show 0<=sizeLine;decide,fun L hL=>?_⟩
   have yL:=Same.new hL (.lst [])
   have LH:H L=none:=cq z2 hL
   have gL:upd H3 L (.lst []) L=some (.lst ((mH t (fun r=>ct cs (t*(rd cs t+M)) t r) (fun r=>lss.getD r []) 0).map V.int)):=ad
   have hc3:=yL _ _ hc2
   have hd3:=yL _ _ hd2
   have tl3:=tl2.same yL
   have z3:=z2.trans yL
   generalize upd H3 L (.lst [])=H4 at yL gL hc3 hd3 tl3 z3
   refine ⟨c,cs,t,rd cs t+M,by rw [← eR,← el],hc3,t0,by lia,by rw [Nat.mul_add];lia,hroom,fun p rs H5 fp frs y5 hp5 ll5=>?_⟩
   have lrs:=ll5.len
   rw [dh] at lrs
   have gL5:=y5 _ _ gL
   have Lp:p≠L:=fun z=>by rw [z,gL] at fp;cases fp
   have Lrs:∀ r∈rs,r≠L:=fun r hr' z=>by have:=frs r hr';rw [z,gL] at this;cases this
   have z5:=z3.trans y5
   have hd5:=y5 _ _ hd3
   have tl5:=tl3.same y5
   have csum:((List.range t).map fun r=>ct cs (t*(rd cs t+M)) t r).sum=t*(rd cs t+M):=ct_sum t0
   have lim:∀ m,m<=t->(mH t (fun r=>ct cs (t*(rd cs t+M)) t r) (fun r=>lss.getD r []) m).length<=900:=fun m hm=>by
    rw [fS]
    obtain ⟨e,rfl⟩:∃ e,t=m+e:=⟨t - m,by lia⟩
    have:=fH (fun r=>ct cs ((m+e)*(rd cs (m+e)+M)) (m+e) r) m e
    lia
   -- the beads of all rests up to one,in the list
   refine ⟨false,_,SqK.lst hp5,ei (xs:=rs.map V.ref) (fun i σ H'=>i<=t/\Same H H'/\(∀ b o,b≠L->H5 b=some o->H' b=some o)/\H' L=some (.lst ((mH t (fun r=>ct cs (t*(rd cs t+M)) t r) (fun r=>lss.getD r []) i).map V.int))/\∃ x5 x6 x7,σ=[some (.ref c),some (.ref d),some (.int (((qs.map V.ref).length:Nat):Int)),some (.int ((rd cs t:Int)+(M:Int))),some (.ref L),x5,x6,x7]) ⟨Nat.zero_le _,z5,fun _ _ _ e=>e,gL5,_,_,_,rfl⟩ ?_ ?_ ?_⟩
   · rintro i σ H' _ ⟨_,_,k,_⟩
     exact SqK.lst (k _ _ Lp hp5)
   · rintro i x σ H6 pr hx ⟨_,y6,k6,hL6,x5,x6,x7,rfl⟩ hpr
     have hi:i<rs.length:=by have:=(List.getElem?_eq_some_iff.mp hx).1;rw [List.length_map] at this;exact this
     have hit:i<t:=by lia
     have ex:x=.ref rs[i]:=by rw [List.getElem?_map,List.getElem?_eq_getElem hi] at hx;exact (Option.some.inj hx).symm
     subst ex
     have yp:=Same.new hpr (.tup [.int i,.ref rs[i]])
     refine ⟨pr,_,rfl,SqT.of ad,rfl,_,_,rfl,_,_,rfl,rfl,?_⟩
     have y7:=y6.trans yp
     have k7:∀ b o,b≠L->H5 b=some o->upd H6 pr (.tup [.int i,.ref rs[i]]) b=some o:=fun b o nb e=>yp _ _ (k6 b o nb e)
     have hL7:=yp _ _ hL6
     generalize upd H6 pr (.tup [.int i,.ref rs[i]])=H7 at yp y7 k7 hL7
     have hiq:i<qs.length:=by lia
     have hil:i<lss.length:=by lia
     have hd7:=k7 _ _ (pH hd5 gL5 (by intro z;cases z)) hd5
     have hq5:=tl5.at_ i hiq hil
     have hq7:=k7 _ _ (pH hq5 gL5 (by intro z;cases z)) hq5
     refine ⟨_,.inr hd7,.ref qs[i],fw (j:=i) rfl (by rw [List.getElem?_map,List.getElem?_eq_getElem hiq];rfl),?_⟩
     have hcell:=ll5.at_ i hi (by rw [dh];exact hit)
     rw [fj] at hcell
     have hcell7:=k7 _ _ (Lrs _ (List.getElem_mem hi)) hcell
     refine ⟨_,.inl (SqL.of hcell7),?_⟩
     have elen:(((rn (bd cs (t*(rd cs t+M))) t i).map V.int).length:Int)=((ct cs (t*(rd cs t+M)) t i:Nat):Int):=by rw [List.length_map,rn_len]
     have hlm:=allM' lss[i] (List.getElem_mem hil)
     have hctM:M<=ct cs (t*(rd cs t+M)) t i:=by rw [cF hit M];lia
     have hct9:ct cs (t*(rd cs t+M)) t i<=900:=by
      have:=lim (i+1) (by lia)
      rw [bE,List.length_append,List.length_map,aO] at this
      lia
     have eg:lss.getD i []=lss[i]:=by rw [List.getD_eq_getElem?_getD,List.getElem?_eq_getElem hil];rfl
     refine ⟨qs[i],lss[i],ct cs (t*(rd cs t+M)) t i,congrArg (fun z=>[V.ref qs[i],V.int z]) elen,hq7,by lia,hct9,fun B8 H8 hB8 y8 gB8=>?_⟩
     have hL8:=y8 _ _ hL7
     have BL:B8≠L:=fun z=>by rw [z,hL7] at hB8;cases hB8
     refine ⟨B8,rfl,⟨_,SqL.of gB8⟩,cW (xs:=(bd lss[i] (ct cs (t*(rd cs t+M)) t i)).map V.int) (fun j σ H'=>Same H H'/\(∀ b o,b≠L->H8 b=some o->H' b=some o)/\H' L=some (.lst ((mH t (fun r=>ct cs (t*(rd cs t+M)) t r) (fun r=>lss.getD r []) i++((bd lss[i] (ct cs (t*(rd cs t+M)) t i)).take j).map fun (b:Int)=>(i:Int)+(t:Int)*b).map V.int))/\∃ x7,σ=[some (.ref c),some (.ref d),some (.int (((qs.map V.ref).length:Nat):Int)),some (.int ((rd cs t:Int)+(M:Int))),some (.ref L),some (.int i),some (.ref rs[i]),x7]) ⟨y7.trans y8,fun _ _ _ e=>e,by rw [hL8,List.take_zero,List.map_nil,List.append_nil],_,rfl⟩ ?_ ?_ ?_⟩
     · rintro j σ H' _ ⟨_,k,_⟩
       exact SqL.of (k _ _ BL gB8)
     · rintro j z σ H9 hz ⟨y9,k9,hL9,x7,rfl⟩
       have hj:j<(bd lss[i] (ct cs (t*(rd cs t+M)) t i)).length:=by have:=(List.getElem?_eq_some_iff.mp hz).1;rw [List.length_map] at this;exact this
       have ez:z=.int (bd lss[i] (ct cs (t*(rd cs t+M)) t i))[j]:=by rw [jh hj] at hz;exact (Option.some.inj hz).symm
       subst ez
       refine ⟨tyL hL9,pI (by rw [List.length_map];lia) (by rw [List.length_map];lia),?_⟩
       have lim2:=lim (i+1) (by lia)
       rw [bE,List.length_append,List.length_map,aO] at lim2
       rw [aO] at hj
       refine ⟨_,hL9,?_,?_⟩
       · rw [List.length_map,List.length_append,List.length_map,List.length_take,aO]
         exact aA (by lia)
       · refine ⟨Same.updN y9 LH,fun b o nb e=>by rw [am nb];exact k9 b o nb e,?_,_,rfl⟩
         have et2:(bd lss[i] (ct cs (t*(rd cs t+M)) t i)).take (j+1)=(bd lss[i] (ct cs (t*(rd cs t+M)) t i)).take j++[(bd lss[i] (ct cs (t*(rd cs t+M)) t i))[j]'(by rw [aO];exact hj)]:=by rw [List.take_succ,List.getElem?_eq_getElem (by rw [aO];exact hj)];rfl
         rw [ad,et2,el]
         simp only [List.map_append,List.map_cons,List.map_nil,List.append_assoc]
     · rintro σ H9 ⟨y9,k9,hL9,x7,rfl⟩
       rw [List.length_map,List.take_of_length_le (Nat.le_refl _)] at hL9
       refine ⟨by lia,y9,fun b o nb e=>k9 b o nb (y8 _ _ (k7 b o nb e)),?_,_,_,_,rfl⟩
       rw [bE,eg]
       exact hL9
   · rintro σ H6 ⟨_,y6,k6,hL6,x5,x6,x7,rfl⟩
     rw [List.length_map,lrs] at hL6
     have lim3:=lim t (Nat.le_refl _)
     refine ⟨L,_,rfl,hL6,lim3,fun r H7 y7 hr7=>?_⟩
     exact q r H7 M (y6.trans y7) allM' hMB hr7
end
end K41
namespace L2
open PySem PySem.Spec PyProof.Rows
section
variable {X:Cx}
def rG (K:PySem.W.Frag):List V->Hp->VK->Prop:=fun xs H Q=>match xs with
 | [.ref p]=>∃ ns:List Int,(SqL K H p (ns.map V.int)\/H p=some (.tup (ns.map V.int)))/\ns≠[]/\∀ M,M∈ns->(∀ n∈ns,M<=n)->Q (.int M) H
 | _=>False
theorem ny (hc:X.calm=true):CallR X (.builtin "min") (rG X.K):=by
 intro pins s σ H xs us Q I r h
 unfold rG at h
 split at h
 · rename_i p
   obtain ⟨ns,hq,hne,q⟩:=h
   rcases hq with hq | hq
   · obtain ⟨u,rfl,rx⟩:=bT r
     cases rx
     have hh:X.A.in1.handled=none:=I.ok.hd hc
     have hb:=jd hne
     obtain ⟨its,rv,pl,hz⟩:=I.list hq
     have hlen:its.length=ns.length:=by rw [← rv.length,List.length_map]
     have hlt:p<s.heap.objs.size:=by
      obtain ⟨_,e,_⟩:=pl.isList
      exact Heap.lt_size e
     refine call_min_walk (wpAny_pyIter_list pl.isList ?_)
     refine ⟨s.heap.objs.size,_,_,_,_,_,_,rfl,Walks.list hh s.heap.objs.size p (Nat.ne_of_lt hlt) its.toArray,⟨⟨_,Heap.get?_push_size _ rfl,rfl,rfl⟩,pl.isList.push _⟩,?_,?_,CmpOf.ints_lt (fun i=>ns.getD i 0) (fun i v hv=>bJ rv hv),fun v h' tk hv hk=>?_⟩
     · intro b hb
       rw [Heap.size_push]
       rcases List.mem_cons.mp hb with rfl | hb
       · exact Nat.lt_succ_self _
       · rcases List.mem_cons.mp hb with rfl | hb
         · exact Nat.lt_succ_of_lt hlt
         · cases hb
     · rw [List.size_toArray,hlen];exact List.length_pos_iff.mpr hne
     · obtain ⟨t,rfl⟩:=bJ rv hv
       refine ⟨.int _,H,I.kept fun b o e=>hk b o (by simpa using Nat.ne_of_lt (Heap.lt_size e)) (Heap.get?_push_of_some _ e),⟨t,rfl⟩,?_⟩
       rw [List.size_toArray,hlen]
       exact q _ hb.1 hb.2
   · exact nw hc pins s σ H _ us Q I r ⟨ns,hq,hne,q⟩
 · exact h.elim
theorem ol {e:Expr} {es:List Expr} {t:TA} {p pos:Pos} (hc:X.calm=true) (hg:Gl X "min") (hm:X.mg "min" = none) (ha:ZA X (e::es) t) (he:starEach (e::es) X.env=(false,eval e X.env)::starEach es X.env) (hpl:(backTo pos (starEach es X.env)).any (·.1)=false) :
 ZE X (.Call (.Name "min" p) (e::es) [] pos) (tCB (rG X.K) t):=by with_unfolding_all exact aY (ny hc) hg hm gP ha (by decide) (by decide) he hpl
end
end L2
namespace K41
open PySem L2 M39 M40 M43 M81 M41
structure Errs (mg:Str->Option Value) (c0 c1 c2 c3 c4 c5 c6 c7 c8 c9:Addr):Prop where
 g0:mg "PartError" = some (.ref c0)
 g1:mg "NoRow" = some (.ref c1)
 g2:mg "NoCore" = some (.ref c2)
 g3:mg "NoTurn" = some (.ref c3)
 g4:mg "NoPair" = some (.ref c4)
 g5:mg "NoList" = some (.ref c5)
 g6:mg "NoPlace" = some (.ref c6)
 g7:mg "NoText" = some (.ref c7)
 g8:mg "NoLine" = some (.ref c8)
 g9:mg "NotSo" = some (.ref c9)
structure Nine (K:PySem.W.Frag) (C c1 c2 c3 c4 c5 c6 c7 c8 c9:Addr):Prop where
 cls:ExC K C
 vE:PySem.W.kitOne K (.ref C) (.type "ValueError")=some true
 ex:∃ b1 b2 b3 b4 b5 b6 b7 b8 b9,PySem.W.kitOne K (.ref C) (.ref c1)=some b1/\PySem.W.kitOne K (.ref C) (.ref c2)=some b2/\PySem.W.kitOne K (.ref C) (.ref c3)=some b3/\PySem.W.kitOne K (.ref C) (.ref c4)=some b4/\PySem.W.kitOne K (.ref C) (.ref c5)=some b5/\PySem.W.kitOne K (.ref C) (.ref c6)=some b6/\PySem.W.kitOne K (.ref C) (.ref c7)=some b7/\PySem.W.kitOne K (.ref C) (.ref c8)=some b8/\PySem.W.kitOne K (.ref C) (.ref c9)=some b9/\[b1,b2,b3,b4,b5,b6,b7,b8,b9].count true=1
section
variable {P:Program} {w:World} {K:PySem.W.Frag} {mg:Str->Option Value} {base:Heap} {f:Addr} {fd:FuncData} {c0 c1 c2 c3 c4 c5 c6 c7 c8 c9:Addr}
theorem sc_ot:FnScope ["_law_error","_law_some"] ["_law_error"] (ah (top 29)):=⟨rfl,rfl,rfl,by decide +kernel,rfl,by decide +kernel,by decide +kernel⟩
def oy (K:PySem.W.Frag) (c1 c2 c3 c4 c5 c6 c7 c8 c9:Addr):Sp:=fun vs H Q _=>∃ (e C:Addr),vs=[.ref e]/\H e=some (.ext (IsX e C))/\Nine K C c1 c2 c3 c4 c5 c6 c7 c8 c9/\∀ H',Same H H'->Q (.bl true) H'
theorem ok_ot (G:Errs mg c0 c1 c2 c3 c4 c5 c6 c7 c8 c9) (F:Fun K "_law_others" "_law_others" (top 29) f fd) (m_ValueError:mg "ValueError" = none) (m_isinstance:mg "isinstance" = none):FnOk P w K mg base CX0 1 f fd ["_law_error"] (oy K c1 c2 c3 c4 c5 c6 c7 c8 c9):=by
 obtain ⟨g_PartError,g_NoRow,g_NoCore,g_NoTurn,g_NoPair,g_NoList,g_NoPlace,g_NoText,g_NoLine,g_NotSo⟩:=G
 refine F.okz sc_ot (fun vs H Q E h=>?_) (fun cdv A outer s H vs Q E hr h=>?_)
 · obtain ⟨e,C,rfl,_⟩:=h;rfl
 obtain ⟨e,C,rfl,he,N9,q⟩:=h
 have nd:=sc_ot.nd
 have hu:=hr.units
 obtain ⟨L,vE,b1,b2,b3,b4,b5,b6,b7,b8,b9,k1,k2,k3,k4,k5,k6,k7,k8,k9,cnt⟩:=N9
 refine ⟨_,(af (aq (i:=1) nd rfl (Or.inl rfl) (bn (aa (bg rfl m_isinstance (aa (zn 0) (aa (cv rfl g_NoRow) ae)) rfl rfl) (aa (bg rfl m_isinstance (aa (zn 0) (aa (cv rfl g_NoCore) ae)) rfl rfl) (aa (bg rfl m_isinstance (aa (zn 0) (aa (cv rfl g_NoTurn) ae)) rfl rfl) ae)))))
  (af (aq (i:=1) nd rfl (Or.inl rfl) (ai au (zn 1) (bn (aa (bg rfl m_isinstance (aa (zn 0) (aa (cv rfl g_NoPair) ae)) rfl rfl) (aa (bg rfl m_isinstance (aa (zn 0) (aa (cv rfl g_NoList) ae)) rfl rfl) (aa (bg rfl m_isinstance (aa (zn 0) (aa (cv rfl g_NoPlace) ae)) rfl rfl) ae))))))
  (af (aq (i:=1) nd rfl (Or.inl rfl) (ai au (zn 1) (bn (aa (bg rfl m_isinstance (aa (zn 0) (aa (cv rfl g_NoText) ae)) rfl rfl) (aa (bg rfl m_isinstance (aa (zn 0) (aa (cv rfl g_NoLine) ae)) rfl rfl) (aa (bg rfl m_isinstance (aa (zn 0) (aa (cv rfl g_NotSo) ae)) rfl rfl) ae))))))
  (aj (aK (fC (bX (cO hu) (kj (zn 1) (aa dA ae)) ag (aI _)) (iQ (bg rfl m_isinstance (aa (zn 0) (aa (eK rfl m_ValueError) ae)) rfl rfl)))))))),?_⟩
 refine ⟨C,b1,_,he,L,rfl,k1,C,b2,_,he,L,rfl,k2,C,b3,_,he,L,rfl,k3,?_⟩
 refine ⟨by show 3<=sizeLine;decide,fun d1 hd1=>?_⟩
 have y1:=Same.new hd1 (.lst [V.bl b1,.bl b2,.bl b3])
 have h1:upd H d1 (.lst [V.bl b1,.bl b2,.bl b3]) d1=some (.lst [V.bl b1,.bl b2,.bl b3]):=ad
 generalize upd H d1 (.lst [V.bl b1,.bl b2,.bl b3])=H1 at y1 h1
 have he1:=y1 _ _ he
 refine ⟨C,b4,_,he1,L,rfl,k4,C,b5,_,he1,L,rfl,k5,C,b6,_,he1,L,rfl,k6,?_⟩
 refine ⟨by show 3<=sizeLine;decide,fun d2 hd2=>?_⟩
 have y2:=Same.new hd2 (.lst [V.bl b4,.bl b5,.bl b6])
 refine .inl ⟨_,_,y2 _ _ h1,ad,by show 6<=sizeLine;decide,fun d3 hd3=>?_⟩
 have y3:=Same.new hd3 (.lst ([V.bl b1,.bl b2,.bl b3]++[V.bl b4,.bl b5,.bl b6]))
 have h3:upd (upd H1 d2 (.lst [V.bl b4,.bl b5,.bl b6])) d3 (.lst ([V.bl b1,.bl b2,.bl b3]++[V.bl b4,.bl b5,.bl b6])) d3=some (.lst ([V.bl b1,.bl b2,.bl b3]++[V.bl b4,.bl b5,.bl b6])):=ad
 have he3:=y3 _ _ (y2 _ _ he1)
 have z3:=(y1.trans y2).trans y3
 generalize upd (upd H1 d2 (.lst [V.bl b4,.bl b5,.bl b6])) d3 (.lst ([V.bl b1,.bl b2,.bl b3]++[V.bl b4,.bl b5,.bl b6]))=H3 at y3 h3 he3 z3
 refine ⟨C,b7,_,he3,L,rfl,k7,C,b8,_,he3,L,rfl,k8,C,b9,_,he3,L,rfl,k9,?_⟩
 refine ⟨by show 3<=sizeLine;decide,fun d4 hd4=>?_⟩
 have y4:=Same.new hd4 (.lst [V.bl b7,.bl b8,.bl b9])
 refine .inl ⟨_,_,y4 _ _ h3,ad,by show 9<=sizeLine;decide,fun d5 hd5=>?_⟩
 have y5:=Same.new hd5 (.lst ([V.bl b1,.bl b2,.bl b3]++[V.bl b4,.bl b5,.bl b6]++[V.bl b7,.bl b8,.bl b9]))
 have h5:upd (upd H3 d4 (.lst [V.bl b7,.bl b8,.bl b9])) d5 (.lst ([V.bl b1,.bl b2,.bl b3]++[V.bl b4,.bl b5,.bl b6]++[V.bl b7,.bl b8,.bl b9])) d5=some (.lst ([b1,b2,b3,b4,b5,b6,b7,b8,b9].map V.bl)):=ad
 have he5:=y5 _ _ (y4 _ _ he3)
 have z5:=(z3.trans y4).trans y5
 generalize upd (upd H3 d4 (.lst [V.bl b7,.bl b8,.bl b9])) d5 (.lst ([V.bl b1,.bl b2,.bl b3]++[V.bl b4,.bl b5,.bl b6]++[V.bl b7,.bl b8,.bl b9]))=H5 at y5 h5 he5 z5
 refine ⟨.inl ⟨rfl,_,SqL.of h5⟩,?_⟩
 refine ⟨_,SqL.of h5,?_⟩
 rw [cnt]
 refine ⟨C,true,_,he5,L,rfl,vE,?_⟩
 exact q _ z5
def rj (C:Addr):Sp:=fun vs H _ E=>∃ (c d:Addr) (cs:List Int) (qs:List Addr) (lss:List (List Int)) (t:Nat),vs=[.ref c,.ref d]/\H c=some (.tup (cs.map V.int))/\H d=some (.tup (qs.map V.ref))/\Tl H qs lss/\lss.length=t/\0<t/\t<=20/\cs.length<=400/\cor cs t≠cs/\∀ H',Same H H'->E (.ref C) none H'
theorem ok_jx {C:Addr} (R_NoCore:RaC K C) (g_NoCore:mg "NoCore" = some (.ref C)) (m_len:mg "len" = none) (F:Fun K "joined" "joined" (top 19) f fd) (F_is_core:FnA P w K mg base "is_core" 4 ["parting","t"] oA):FnOk P w K mg base (CXF P w) 5 f fd ["core","quotients"] (rj C):=by
 refine F.okx sc_jn (fun vs H Q E h=>?_) (fun cdv A outer s H vs Q E hr h=>?_)
 · obtain ⟨c,d,cs,qs,lss,t,rfl,_⟩:=h;rfl
 obtain ⟨c,d,cs,qs,lss,t,rfl,hc,hd,tl,et,t0,t1,cl,co,q⟩:=h
 have nd:=sc_jn.nd
 have hu:=hr.units
 have lq:=tl.len
 refine ⟨_,(af (aq (i:=2) nd rfl (Or.inl rfl) (bo rfl m_len (aa (zn 1) ae) rfl rfl))
  (af (bV (cG (bH (aJ F_is_core hr (by decide) rfl (aa (zn 0) (aa (zn 2) ae))))) (aj (n6 R_NoCore g_NoCore rfl (aa ze_str ae))) aT)
  kf)),?_⟩
 refine ⟨_,.inr hd,?_⟩
 have el:(((qs.map V.ref).length:Nat):Int)=(t:Int):=by rw [List.length_map,lq,et]
 refine ⟨c,cs,t,congrArg (fun z=>[V.ref c,V.int z]) el,hc,cl,t0,t1,fun H1 y1=>?_⟩
 rw [decide_eq_false co]
 exact ⟨by show 1<=sizeLine;decide,q _ y1⟩
theorem sc_lj:FnScope ["_law_core","_law_threads","_law_told","_law_caught","_law_error"] ["_law_core","_law_threads"] (ah (top 32)):=⟨rfl,rfl,rfl,by decide +kernel,rfl,by decide +kernel,by decide +kernel⟩
def kY (C:Addr):Sp:=fun vs H Q _=>∃ (c d:Addr) (cs:List Int) (qs:List Addr) (lss:List (List Int)) (t B:Nat),vs=[.ref c,.ref d]/\H c=some (.tup (cs.map V.int))/\H d=some (.tup (qs.map V.ref))/\Tl H qs lss/\lss.length=t/\0<t/\t<=20/\cs.length<=400/\(∀ ls∈lss,ls.length<=B)/\t*(rd cs t+B)<=900 /\
 (cor cs t=cs->∀ d r H' M,Same H H'->(∀ ls∈lss,ls.length<=M)->H' d=some (.tup [.ref r,.non])->H' r=some (.tup ((jn cs t M fun r=>lss.getD r []).map V.int))->Q (.ref d) H') /\
 (cor cs t≠cs->∀ d e H',Same H H'->H' d=some (.tup [.non,.ref e])->H' e=some (.ext (IsX e C))->Q (.ref d) H')
theorem ok_lj {C:Addr} (mt:PySem.W.exmOne K (.ref C) (.ref c0)=some true) (G:Errs mg c0 c1 c2 c3 c4 c5 c6 c7 c8 c9) (F:Fun K "_law_joined" "_law_joined" (top 32) f fd)  (R_joined:FnR P w K mg base "joined" 5 ["core","quotients"] (fun vs H Q E=>oz vs H Q E\/rj C vs H Q E)):FnOk P w K mg base CX0 6 f fd ["_law_core","_law_threads"] (kY C):=by
 obtain ⟨g_PartError,g_NoRow,g_NoCore,g_NoTurn,g_NoPair,g_NoList,g_NoPlace,g_NoText,g_NoLine,g_NotSo⟩:=G
 refine F.okz sc_lj (fun vs H Q E h=>?_) (fun cdv A outer s H vs Q E hr h=>?_)
 · obtain ⟨c,d,cs,qs,lss,t,B,rfl,_⟩:=h;rfl
 obtain ⟨c,d,cs,qs,lss,t,B,rfl,hc,hd,tl,et,t0,t1,cl,lB,room,q1,q2⟩:=h
 have nd:=sc_lj.nd
 have hu:=hr.units
 refine ⟨_,(af (cH (aL (aa gc (aa gc ae))) (bB rfl (av (ak (i:=2) nd rfl (Or.inl rfl)) (av (ak (i:=3) nd rfl (Or.inl rfl)) aZ))))
  (af (zs_try (rQ (i:=2) nd rfl (Or.inl rfl) (qV R_joined hr (by decide) rfl (aa (zn 0) (aa (zn 1) ae)))) (fun _=>(aj (aq (i:=3) nd rfl (Or.inl rfl) (zn 4)))) rfl rfl nd (i:=4) rfl rfl rfl g_PartError)
  (aj (aK (aL (aa (zn 2) (aa (zn 3) ae))))))),?_⟩
 refine ⟨by show 2<=sizeLine;decide,fun d0 hd0=>?_⟩
 have y0:=Same.new hd0 (.tup [V.non,.non])
 refine ⟨d0,_,rfl,SqT.of ad,rfl,_,_,rfl,_,_,rfl,rfl,?_⟩
 generalize upd H d0 (.tup [V.non,.non])=H1 at y0
 by_cases co:cor cs t=cs
 · refine .inl ⟨c,d,cs,qs,lss,t,B,rfl,y0 _ _ hc,y0 _ _ hd,tl.same y0,et,t0,t1,cl,co,lB,room,fun r H2 M y2 hM _ hr2=>?_⟩
   refine ⟨by show 2<=sizeLine;decide,fun d3 hd3=>?_⟩
   have y3:=Same.new hd3 (.tup [V.ref r,.non])
   exact q1 co d3 r _ M ((y0.trans y2).trans y3) hM ad (y3 _ _ hr2)
 · refine .inr ⟨c,d,cs,qs,lss,t,rfl,y0 _ _ hc,y0 _ _ hd,tl.same y0,et,t0,t1,cl,co,fun H2 y2=>?_⟩
   refine ⟨C,rfl,mt,fun e he=>?_⟩
   have y3:=Same.new he (.ext (IsX e C))
   refine ⟨by show 2<=sizeLine;decide,fun d4 hd4=>?_⟩
   have y4:=Same.new hd4 (.tup [V.non,.ref e])
   exact q2 co d4 e _ (((y0.trans y2).trans y3).trans y4) ad (y4 _ _ ad)
end
def nf (ns:List Int) (r:Nat):Int:=ns.getD r 0
theorem eS {ns:List Int} {i:Nat} (h:i<ns.length):nf ns i=ns[i]:=by unfold nf;rw [List.getD_eq_getElem?_getD,List.getElem?_eq_getElem h];rfl
theorem ma (ns:List Int):(List.range ns.length).map (nf ns)=ns:=by
 refine List.ext_getElem (by simp) fun i h1 h2=>?_
 rw [List.getElem_map,List.getElem_range,eS h2]
theorem kX {K:PySem.W.Frag} {H:Hp} {c:Bool} {a:Addr} {xs:List V} (h:SqK H c a xs):SqL K H a xs\/H a=some (.tup xs):=by
 cases c with
 | true=>exact .inr h
 | false=>exact .inl (SqL.of h)
def iF (ns:List Int) (lss:List (List Int)) (m:Nat):List Int:=(List.range m).map fun (i:Nat)=>((lss.getD i []).length:Int) - nf ns i
theorem mv (ns:List Int) (lss:List (List Int)) (m:Nat):iF ns lss (m+1)=iF ns lss m++[((lss.getD m []).length:Int) - nf ns m]:=by unfold iF;rw [List.range_succ,List.map_append];rfl
theorem jc (ns:List Int) (lss:List (List Int)) (m:Nat):(iF ns lss m).length=m:=by unfold iF;simp
theorem qx {ns:List Int} {t L:Nat} (hl:ns.length=t) (h0:ns.sum=0) (hc:∀ i,i<t->0<=nf ns i+(L:Int)):((List.range t).map fun (r:Nat)=>((nf ns r+(L:Int)).toNat:Int)).sum=((t*L:Nat):Int):=by
 have e:((List.range t).map fun (r:Nat)=>((nf ns r+(L:Int)).toNat:Int))=(List.range t).map fun (r:Nat)=>nf ns r+(L:Int):=by
  refine List.map_congr_left fun r hr=>?_
  have:=hc r (List.mem_range.mp hr)
  lia
 rw [e,bC]
 have e1:((List.range t).map fun (r:Nat)=>nf ns r).sum=0:=by
  have:((List.range t).map (nf ns)).sum=0:=by rw [← hl,ma];exact h0
  exact this
 have e2:∀ m:Nat,((List.range m).map fun (_:Nat)=>(L:Int)).sum=((m*L:Nat):Int):=by
  intro m
  induction m with
  | zero=>simp
  | succ m ih=>
    rw [List.range_succ,List.map_append,List.sum_append,ih,Nat.add_mul]
    simp
 rw [e1,e2]
 lia
theorem pG {ns:List Int} (h:ns≠[]) (h0:ns.sum=0) {M:Int} (hM:∀ n∈ns,M<=n):M<=0:=by
 by_cases c:M<=0
 · exact c
 · exfalso
   have:=cb (ns:=ns) fun n hn=>by have:=hM n hn;lia
   have hp:0<ns.length:=List.length_pos_iff.mpr h
   lia
theorem ee {t L m:Nat} {ns:List Int} {q:Nat->List Int} (hl:ns.length=t) (h0:ns.sum=0) (hc:∀ i,i<t->0<=nf ns i+(L:Int)) (hm:m<=t):(mH t (fun r=>(nf ns r+(L:Int)).toNat) q m).length<=t*L:=by
 rw [fS]
 obtain ⟨d,rfl⟩:∃ d,t=m+d:=⟨t - m,by lia⟩
 refine Nat.le_trans (fH (fun r=>(nf ns r+(L:Int)).toNat) m d) ?_
 have h:=qx hl h0 hc
 have cast:∀ l:List Nat,((l.map fun r=>(nf ns r+(L:Int)).toNat).sum:Int)=(l.map fun (r:Nat)=>((nf ns r+(L:Int)).toNat:Int)).sum:=by
  intro l
  induction l with
  | nil=>rfl
  | cons x l ih=>rw [List.map_cons,List.sum_cons,List.map_cons,List.sum_cons,Int.natCast_add,ih]
 have:=cast (List.range (m+d))
 lia
section
variable {P:Program} {w:World} {K:PySem.W.Frag} {mg:Str->Option Value} {base:Heap} {f:Addr} {fd:FuncData}
theorem sc_pu:FnScope ["_law_numbers","_law_threads","_law_t","_law_lots","_law_found","_law_rest","_law_one","_law_many","_law_parts"] ["_law_numbers","_law_threads"] (ah (top 30)):=⟨rfl,rfl,rfl,by decide +kernel,rfl,by decide +kernel,by decide +kernel⟩
def rh:Sp:=fun vs H Q _=>∃ (ca cd:Bool) (a d:Addr) (ns:List Int) (qs:List Addr) (lss:List (List Int)) (t LB:Nat),vs=[.ref a,.ref d]/\SqK H ca a (ns.map V.int)/\SqK H cd d (qs.map V.ref)/\Tl H qs lss/\ns.length=t/\lss.length=t/\0<t/\t<=20/\ns.sum=0/\(∀ i,i<t->-(LB:Int)<=nf ns i/\((lss.getD i []).length:Int) - nf ns i<=LB)/\t*LB<=900 /\
 ∀ r H' (L:Nat),Same H H'->L<=LB->(∀ i,i<t->0<=nf ns i+(L:Int)/\((lss.getD i []).length:Int)<=nf ns i+(L:Int))->H' r=some (.tup ((pt (jb t (fun r=>(nf ns r+(L:Int)).toNat) fun r=>lss.getD r [])).map V.int))->Q (.ref r) H'
theorem ok_pu (F:Fun K "_law_pushed" "_law_pushed" (top 30) f fd) (m_enumerate:mg "enumerate" = none) (m_len:mg "len" = none) (m_list:mg "list" = none) (m_max:mg "max" = none) (m_min:mg "min" = none) (m_zip:mg "zip" = none) (F_law_by:FnA P w K mg base "_law_by" 1 ["_law_numbers"] eP):FnOk P w K mg base CX0 2 f fd ["_law_numbers","_law_threads"] rh:=by
 refine F.okz sc_pu (fun vs H Q E h=>?_) (fun cdv A outer s H vs Q E hr h=>?_)
 · obtain ⟨ca,cd,a,d,ns,qs,lss,t,LB,rfl,_⟩:=h;rfl
 obtain ⟨ca,cd,a,d,ns,qs,lss,t,LB,rfl,ha,hd,tl,nl,ll,t0,t1,h0,hb,room,q⟩:=h
 have nd:=sc_pu.nd
 have hu:=hr.units
 have lq:=tl.len
 have nne:ns≠[]:=fun z=>by rw [z] at nl;simp at nl;lia
 refine ⟨_,(af (aq (i:=2) nd rfl (Or.inr rfl) (bo rfl m_len (aa (zn 0) ae) rfl rfl))
  (af (aq (i:=3) nd rfl (Or.inl rfl) (ku rfl rfl m_max (aa (ai au (ba ["_law_one","_law_number"] [] rfl ⟨rfl,by decide +kernel,by decide +kernel,rfl,rfl⟩ (qo rfl m_zip (aa (zn 1) (aa (zn 0) ae))) cf (fun _ _ _ _=>bB rfl (av (ak (i:=0) (show List.Nodup (["_law_one","_law_number"]:List Str) by decide +kernel) rfl (Or.inl rfl)) (av (ak (i:=1) (show List.Nodup (["_law_one","_law_number"]:List Str) by decide +kernel) rfl (Or.inl rfl)) aZ))) (fun _ _ _ _=>aS) (fun _ _ _ _=>(ai aN (dE rfl m_len (aa (zn 0) ae) rfl rfl rfl) (zn 1)))) (bn (aa (q4 kI (ol rfl rfl m_min (aa (zn 0) ae) rfl rfl)) ae))) ae) rfl rfl))
  (af (aq (i:=4) nd rfl (Or.inl rfl) (bn ae))
  (af (bW PassesOwn.never rfl (bq rfl m_enumerate (aa (zn 1) ae)) (bB rfl (av (ak (i:=5) nd rfl (Or.inr rfl)) (av (ak (i:=6) nd rfl (Or.inl rfl)) aZ))) (af (aq (i:=7) nd rfl (Or.inr rfl) (ai au (br dy (zn 0) (zn 5) (fun _ _=>rfl)) (zn 3)))
  (af (aq (i:=8) nd rfl (Or.inl rfl) (ai au (dC rfl m_list (aa (zn 6) ae) rfl rfl) (ai aF (bn (aa ag ae)) (ai aN (zn 7) (bo rfl m_len (aa (zn 6) ae) rfl rfl)))))
  (aj (dc (ki (zn 4) (aa (ba ["_law_k","_law_part"] [("_law_rest",5),("_law_t",2),("_law_many",7)] rfl ⟨rfl,by decide +kernel,by decide +kernel,rfl,rfl⟩ (bq rfl m_enumerate (aa (zn 8) ae)) cf (fun _ _ _ _=>bB rfl (av (ak (i:=0) (show List.Nodup (["_law_k","_law_part","_law_rest","_law_t","_law_many"]:List Str) by decide +kernel) rfl (Or.inl rfl)) (av (ak (i:=1) (show List.Nodup (["_law_k","_law_part","_law_rest","_law_t","_law_many"]:List Str) by decide +kernel) rfl (Or.inl rfl)) aZ))) (fun _ _ _ _=>aS) (fun _ _ _ _=>(ai au (zn 2) (ai aF (zn 3) (ai aN (ai aN (ai au (zn 1) (zn 4)) ag) (zn 0)))))) ae)))))))
  (aj (aK (aJ F_law_by hr (by decide) rfl (aa (zn 4) ae)))))))),?_⟩
 refine ⟨_,(kX ha),?_⟩
 have el:((ns.map V.int).length:Int)=(t:Int):=by rw [List.length_map,nl]
 have em:min (qs.map V.ref).length (ns.map V.int).length=t:=by rw [List.length_map,List.length_map];lia
 refine ⟨cd,ca,_,_,hd,ha,nk (xs:=qs.map V.ref) (ys:=ns.map V.int) (fun i zs H'=>Same H H'/\zs=(iF ns lss i).map V.int) ⟨Same.refl _,rfl⟩ ?_ ?_ ?_ ?_⟩
 · rintro i zs H' _ ⟨y,_⟩
   exact ⟨hd.same y,ha.same y⟩
 · rintro i zs H' hi ⟨_,rfl⟩
   rw [em] at hi
   rw [List.length_map,jc]
   exact aA (by lia)
 · rintro i x y zs H' p' hx hy ⟨yy,rfl⟩ hp'
   have hi:i<qs.length:=by
    have:=(List.getElem?_eq_some_iff.mp hx).1
    rwa [List.length_map] at this
   have hi2:i<lss.length:=by lia
   have hi3:i<ns.length:=by lia
   have ex:x=.ref qs[i]:=by rw [List.getElem?_map,List.getElem?_eq_getElem hi] at hx;exact (Option.some.inj hx).symm
   subst ex
   have ey:y=.int ns[i]:=by rw [jh hi3] at hy;exact (Option.some.inj hy).symm
   subst ey
   have yp:=Same.new hp' (.tup [.ref qs[i],.int ns[i]])
   refine ⟨p',_,rfl,SqT.of ad,rfl,_,_,rfl,_,_,rfl,rfl,?_⟩
   refine ⟨_,.inr (yp _ _ (yy _ _ (tl.at_ i hi hi2))),?_⟩
   refine ⟨yy.trans yp,?_⟩
   have eg:lss.getD i []=lss[i]:=by rw [List.getD_eq_getElem?_getD,List.getElem?_eq_getElem hi2];rfl
   rw [mv,List.map_append,eS hi3,eg,List.length_map]
   rfl
 rintro zs H1 ⟨y1,rfl⟩ D1 hD1
 rw [em]
 have yD1:=Same.new hD1 (.lst ((iF ns lss t).map V.int))
 have z1:=y1.trans yD1
 have gD1:upd H1 D1 (.lst ((iF ns lss t).map V.int)) D1=some (.lst ((iF ns lss t).map V.int)):=ad
 generalize upd H1 D1 (.lst ((iF ns lss t).map V.int))=H2 at z1 gD1
 refine ⟨ns,(kX (ha.same z1)),nne,fun M hM hmin=>?_⟩
 refine ⟨M,rfl,?_⟩
 refine ⟨by show 1<=sizeLine;decide,fun D2 hD2=>?_⟩
 have yD2:=Same.new hD2 (.lst [V.int (-M)])
 refine .inl ⟨_,_,yD2 _ _ gD1,ad,aW (by rw [List.length_map,jc];show t+1<=1000;lia),fun D3 hD3=>?_⟩
 have yD3:=Same.new hD3 (.lst ((iF ns lss t).map V.int++[V.int (-M)]))
 have z3:=(z1.trans yD2).trans yD3
 have gD3:upd (upd H2 D2 (.lst [V.int (-M)])) D3 (.lst ((iF ns lss t).map V.int++[V.int (-M)])) D3=some (.lst ((iF ns lss t++[-M]).map V.int)):=by rw [ad,List.map_append];rfl
 generalize upd (upd H2 D2 (.lst [V.int (-M)])) D3 (.lst ((iF ns lss t).map V.int++[V.int (-M)]))=H3 at z3 gD3
 refine ⟨iF ns lss t++[-M],.inl (SqL.of gD3),by simp,fun L' hL' hmax=>?_⟩
 have hM0:=pG nne h0 hmin
 have hLM:-M<=L':=hmax _ (by simp)
 have hLi:∀ i,i<t->0<=nf ns i+L'/\((lss.getD i []).length:Int)<=nf ns i+L':=fun i hi=>by
  have h1:=hmin (nf ns i) (by rw [eS (by lia)];exact List.getElem_mem _)
  have h2:=hmax (((lss.getD i []).length:Int) - nf ns i) (List.mem_append_left _ (List.mem_map.mpr ⟨i,List.mem_range.mpr hi,rfl⟩))
  lia
 have hLB:L'<=LB:=by
  rcases List.mem_append.mp hL' with z | z
  · obtain ⟨i,hi,rfl⟩:=List.mem_map.mp z
    exact (hb i (List.mem_range.mp hi)).2
  · have e:L'=-M:=by simpa using z
    obtain ⟨i,hi,e2⟩:=List.mem_iff_getElem.mp hM
    have:=(hb i (by lia)).1
    rw [eS hi,e2] at this
    lia
 obtain ⟨L,rfl⟩:∃ L:Nat,L'=(L:Int):=⟨L'.toNat,by lia⟩
 have hLB':L<=LB:=by lia
 have tL:t*L<=900:=Nat.le_trans (Nat.mul_le_mul_left _ hLB') room
 have hc0:∀ i,i<t->0<=nf ns i+(L:Int):=fun i hi=>(hLi i hi).1
 have ltL:L<=t*L:=Nat.le_mul_of_pos_left _ t0
 refine ⟨by show 0<=sizeLine;decide,fun D hD=>?_⟩
 have yD:=Same.new hD (.lst [])
 have z4:=z3.trans yD
 have DH:H D=none:=cq z3 hD
 have gD:upd H3 D (.lst []) D=some (.lst ((mH t (fun r=>(nf ns r+(L:Int)).toNat) (fun r=>lss.getD r []) 0).map V.int)):=ad
 generalize upd H3 D (.lst [])=H4 at z4 gD
 have ha4:=ha.same z4
 have hd4:=hd.same z4
 have aD:a≠D:=SqK.ne ha DH
 have dD:d≠D:=SqK.ne hd DH
 refine ⟨cd,_,hd4,ei (xs:=qs.map V.ref) (fun i σ H'=>i<=t/\(∀ b o,b≠D->H4 b=some o->H' b=some o)/\H' D=some (.lst ((mH t (fun r=>(nf ns r+(L:Int)).toNat) (fun r=>lss.getD r []) i).map V.int))/\∃ x5 x6 x7 x8,σ=[some (.ref a),some (.ref d),some (.int ((ns.map V.int).length:Int)),some (.int (L:Int)),some (.ref D),x5,x6,x7,x8]) ⟨Nat.zero_le _,fun _ _ _ e=>e,gD,_,_,_,_,rfl⟩ ?_ ?_ ?_⟩
 · rintro i σ H' _ ⟨_,k,_⟩
   exact k _ _ dD hd4
 · rintro i x σ H5 p hx ⟨_,k5,hD5,x5,x6,x7,x8,rfl⟩ hp
   have hi:i<qs.length:=by
    have:=(List.getElem?_eq_some_iff.mp hx).1
    rwa [List.length_map] at this
   have hit:i<t:=by lia
   have hi2:i<lss.length:=by lia
   have hi3:i<ns.length:=by lia
   have ex:x=.ref qs[i]:=by rw [List.getElem?_map,List.getElem?_eq_getElem hi] at hx;exact (Option.some.inj hx).symm
   subst ex
   have yp:=Same.new hp (.tup [.int i,.ref qs[i]])
   refine ⟨p,_,rfl,SqT.of ad,rfl,_,_,rfl,_,_,rfl,rfl,?_⟩
   have k6:∀ b o,b≠D->H4 b=some o->upd H5 p (.tup [.int i,.ref qs[i]]) b=some o:=fun b o nb e=>yp _ _ (k5 b o nb e)
   have hD6:=yp _ _ hD5
   generalize upd H5 p (.tup [.int i,.ref qs[i]])=H6 at k6 hD6
   have ha6:SqK H6 ca a (ns.map V.int):=k6 _ _ aD ha4
   have hq4:=z4 _ _ (tl.at_ i hi hi2)
   have qD:qs[i]≠D:=fun z=>by rw [z,gD] at hq4;cases hq4
   have hq6:=k6 _ _ qD hq4
   refine ⟨_,(kX ha6),.int ns[i],fw (j:=i) rfl (jh hi3),?_⟩
   have li:=hLi i hit
   rw [eS hi3] at li
   have eg:lss.getD i []=lss[i]:=by rw [List.getD_eq_getElem?_getD,List.getElem?_eq_getElem hi2];rfl
   rw [eg] at li
   obtain ⟨mN,emN⟩:∃ mN:Nat,ns[i]+(L:Int)=(mN:Int):=⟨(ns[i]+(L:Int)).toNat,by lia⟩
   have hmN:mN<=900:=by
    have h1:=ee (q:=fun r=>lss.getD r []) nl h0 hc0 (show i+1<=t by lia)
    rw [bE,List.length_append,List.length_map,aO,eS hi3,emN,Int.toNat_natCast] at h1
    lia
   refine ⟨_,.inr hq6,fun l hl'=>?_⟩
   have yl:=Same.new hl' (.lst (lss[i].map V.int))
   refine ⟨by show 1<=sizeLine;decide,fun d7 hd7=>?_⟩
   have yd:=Same.new hd7 (.lst [V.int 0])
   refine ⟨_,.inr (yd _ _ (yl _ _ hq6)),?_⟩
   have ekk:(ns[i]+(L:Int) - ((lss[i].map V.int).length:Int)).toNat=mN - lss[i].length:=by rw [emN,List.length_map];lia
   refine ⟨⟨by show -(2 ^ 63)<=ns[i]+(L:Int) - ((lss[i].map V.int).length:Int);rw [List.length_map];lia,by show ns[i]+(L:Int) - ((lss[i].map V.int).length:Int)<2 ^ 63;rw [List.length_map];lia⟩,.inl ⟨_,ad,aW (by show 1*(ns[i]+(L:Int) - ((lss[i].map V.int).length:Int)).toNat<=1000;rw [ekk];lia),fun e he=>?_⟩⟩
   have ye:=Same.new he (.lst (List.replicate (ns[i]+(L:Int) - ((lss[i].map V.int).length:Int)).toNat [V.int 0]).flatten)
   refine .inl ⟨_,_,ye _ _ (yd _ _ ad),ad,aW (by rw [cp,ekk,List.length_map,List.length_map,List.length_replicate];lia),fun g hg=>?_⟩
   have yg:=Same.new hg (.lst (lss[i].map V.int++(List.replicate (ns[i]+(L:Int) - ((lss[i].map V.int).length:Int)).toNat [V.int 0]).flatten))
   have gg:upd (upd (upd (upd H6 l (.lst (lss[i].map V.int))) d7 (.lst [V.int 0])) e (.lst (List.replicate (ns[i]+(L:Int) - ((lss[i].map V.int).length:Int)).toNat [V.int 0]).flatten)) g (.lst (lss[i].map V.int++(List.replicate (ns[i]+(L:Int) - ((lss[i].map V.int).length:Int)).toNat [V.int 0]).flatten)) g=some (.lst (lss[i].map V.int++(List.replicate (mN - lss[i].length) (0:Int)).map V.int)):=by rw [ad,cp,ekk]
   have y7:=((yl.trans yd).trans ye).trans yg
   have hD7:=y7 _ _ hD6
   have k7:∀ b o,b≠D->H4 b=some o->upd (upd (upd (upd H6 l (.lst (lss[i].map V.int))) d7 (.lst [V.int 0])) e (.lst (List.replicate (ns[i]+(L:Int) - ((lss[i].map V.int).length:Int)).toNat [V.int 0]).flatten)) g (.lst (lss[i].map V.int++(List.replicate (ns[i]+(L:Int) - ((lss[i].map V.int).length:Int)).toNat [V.int 0]).flatten)) b=some o:=fun b o nb eb=>y7 _ _ (k6 b o nb eb)
   have gDn:g≠D:=fun z=>by have:=ye _ _ (yd _ _ (yl _ _ hD6));rw [z] at hg;rw [hg] at this;cases this
   generalize upd (upd (upd (upd H6 l (.lst (lss[i].map V.int))) d7 (.lst [V.int 0])) e (.lst (List.replicate (ns[i]+(L:Int) - ((lss[i].map V.int).length:Int)).toNat [V.int 0]).flatten)) g (.lst (lss[i].map V.int++(List.replicate (ns[i]+(L:Int) - ((lss[i].map V.int).length:Int)).toNat [V.int 0]).flatten))=H7 at gg hD7 k7
   have plen:(lss[i].map V.int++(List.replicate (mN - lss[i].length) (0:Int)).map V.int).length=mN:=by rw [List.length_append,List.length_map,List.length_map,List.length_replicate];lia
   refine ⟨.inl ⟨rfl,_,SqL.of hD7⟩,?_⟩
   refine ⟨false,_,SqK.lst gg,bO (xs:=lss[i].map V.int++(List.replicate (mN - lss[i].length) (0:Int)).map V.int) (fun j zs H'=>Same H7 H'/\zs=(((bd lss[i] mN).map fun (b:Int)=>(i:Int)+(t:Int)*b).take j).map V.int) ⟨Same.refl _,rfl⟩ ?_ ?_ ?_ ?_⟩
   · rintro j zs H' _ ⟨y,_⟩
     exact SqK.lst (y _ _ gg)
   · rintro j zs H' hj ⟨_,rfl⟩
     rw [plen] at hj
     rw [List.length_map,List.length_take]
     exact aA (by lia)
   · rintro j x zs H' p8 hx ⟨y,rfl⟩ hp8
     have hj:j<mN:=by rw [← plen];exact (List.getElem?_eq_some_iff.mp hx).1
     have ex:x=.int (lss[i].getD j 0):=by rw [iw (by lia) hj] at hx;exact (Option.some.inj hx).symm
     subst ex
     refine ⟨p8,_,rfl,SqT.of ad,rfl,_,_,rfl,_,_,rfl,rfl,?_⟩
     refine ⟨pI (by rw [List.length_map];lia) (by rw [List.length_map];lia),?_⟩
     refine ⟨y.trans (Same.new hp8 _),?_⟩
     have hjb:j<((bd lss[i] mN).map fun (b:Int)=>(i:Int)+(t:Int)*b).length:=by rw [List.length_map,aO];exact hj
     rw [List.take_succ,List.getElem?_eq_getElem hjb,List.map_append]
     congr 1
     have eb:(bd lss[i] mN)[j]'(by rw [aO];exact hj)=lss[i].getD j 0+(mN:Int) - 1 - (j:Int):=by simp [bd]
     rw [List.getElem_map,eb,← emN]
     show [V.int ((i:Int)+((ns.map V.int).length:Int)*(lss[i].getD j 0+(ns[i]+(L:Int)) - 1 - (j:Int)))]=[V.int ((i:Int)+(t:Int)*(lss[i].getD j 0+(ns[i]+(L:Int)) - 1 - (j:Int)))]
     rw [el]
   · rintro zs H' ⟨y,rfl⟩ D8 hD8
     rw [plen,List.take_of_length_le (by rw [List.length_map,aO];exact Nat.le_refl _)]
     have y8:=Same.new hD8 (.lst (((bd lss[i] mN).map fun (b:Int)=>(i:Int)+(t:Int)*b).map V.int))
     have hD9:=y8 _ _ (y _ _ hD7)
     have lim:=ee (q:=fun r=>lss.getD r []) nl h0 hc0 (show i+1<=t by lia)
     rw [bE,List.length_append,List.length_map,aO,eS hi3,emN,Int.toNat_natCast] at lim
     refine ⟨_,_,hD9,ad,aW (by rw [List.length_map,List.length_map,List.length_map,aO];lia),?_⟩
     refine ⟨by lia,fun b o nb eb=>by rw [am nb];exact y8 _ _ (y _ _ (k7 b o nb eb)),?_,_,_,_,_,rfl⟩
     rw [ad,bE,List.map_append,eS hi3,emN,Int.toNat_natCast,eg]
 · rintro σ H5 ⟨_,k5,hD5,x5,x6,x7,x8,rfl⟩
   rw [List.length_map,lq,ll] at hD5
   refine ⟨D,_,rfl,hD5,by have:=ee (q:=fun r=>lss.getD r []) nl h0 hc0 (Nat.le_refl t);lia,fun r H6 y6 hr6=>?_⟩
   exact q r H6 L (fun b o e=>y6 _ _ (k5 b o (aV e DH) (z4 _ _ e))) hLB' hLi hr6
end
def kc (t:Nat) (ns:List Int) (m:Nat):List Int:=(List.range m).map fun (r:Nat)=>(t:Int)*nf ns r*nf ns r+2*(r:Int)*nf ns r
theorem gx (t:Nat) (ns:List Int) (m:Nat):kc t ns (m+1)=kc t ns m++[(t:Int)*nf ns m*nf ns m+2*(m:Int)*nf ns m]:=by unfold kc;rw [List.range_succ,List.map_append];rfl
theorem pL (t:Nat) (ns:List Int) (m:Nat):(kc t ns m).length=m:=by unfold kc;simp
theorem i7 (t:Nat) (ns:List Int):∀ m,(kc t ns m).sum=(t:Int)*sq m (nf ns)+2*ro m (nf ns)
 | 0=>by simp [kc,sq,ro]
 | m+1=>by
   have e1:sq (m+1) (nf ns)=sq m (nf ns)+nf ns m*nf ns m:=by unfold sq;rw [List.range_succ,List.map_append,List.sum_append];simp
   have e2:ro (m+1) (nf ns)=ro m (nf ns)+(m:Int)*nf ns m:=by unfold ro;rw [List.range_succ,List.map_append,List.sum_append];simp
   rw [gx,List.sum_append,i7 t ns m,e1,e2]
   simp only [List.sum_cons,List.sum_nil]
   grind
theorem il:∀ {l:List Int} {i:Nat} (v:Int) (h:i<l.length),(l.set i v).sum=l.sum - l[i]+v
 | [],_,_,h=>by simp at h
 | x::l,0,v,_=>by simp;lia
 | x::l,i+1,v,h=>by
   have:=il (l:=l) v (by simpa using h)
   simp only [List.set_cons_succ,List.sum_cons,List.getElem_cons_succ]
   rw [this]
   lia
theorem dS (k:Nat) (d:Addr):(List.replicate k [V.ref d]).flatten=(List.replicate k d).map V.ref:=by
 induction k with
 | zero=>rfl
 | succ k ih=>rw [List.replicate_succ,List.flatten_cons,ih,List.replicate_succ,List.map_cons];rfl
theorem gk {H:Hp} {d:Addr} (k:Nat) (h:H d=some (.tup [])):Tl H (List.replicate k d) (List.replicate k []):=⟨by simp,fun i h1 h2=>by rw [List.getElem_replicate,List.getElem_replicate];exact h⟩
theorem io (k r:Nat):(List.replicate k ([]:List Int)).getD r []=[]:=by
 rw [List.getD_eq_getElem?_getD,List.getElem?_replicate]
 split <;> rfl
theorem qZ (t:Nat):(t:Int)*sq t (nf (List.replicate t 0))+2*ro t (nf (List.replicate t 0))=0:=by
 have z:∀ r,nf (List.replicate t 0) r=0:=fun r=>by
  unfold nf
  rw [List.getD_eq_getElem?_getD,List.getElem?_replicate]
  split <;> rfl
 have s0:∀ m,((List.range m).map fun (_:Nat)=>(0:Int)).sum=0:=fun m=>fG _
 have e1:sq t (nf (List.replicate t 0))=0:=by
  unfold sq
  refine Eq.trans ?_ (s0 t)
  congr 1
  exact List.map_congr_left fun r _=>by rw [z r];rfl
 have e2:ro t (nf (List.replicate t 0))=0:=by
  unfold ro
  refine Eq.trans ?_ (s0 t)
  congr 1
  exact List.map_congr_left fun r _=>by rw [z r];lia
 rw [e1,e2]
 lia
theorem far_ok {t L:Nat} {ns:List Int} (t0:0<t) (hl:ns.length=t) (h0:ns.sum=0) (hc:∀ i,i<t->0<=nf ns i+(L:Int)) (hs:(t:Int)*sq t (nf ns)+2*ro t (nf ns)<=401) :
 M81.Prt (pt (aE t fun r=>(nf ns r+(L:Int)).toNat))/\cor (pt (aE t fun r=>(nf ns r+(L:Int)).toNat)) t=pt (aE t fun r=>(nf ns r+(L:Int)).toNat)/\(pt (aE t fun r=>(nf ns r+(L:Int)).toNat)).sum<=200:=by
 have hsum:=qx hl h0 hc
 refine ⟨lF (bb t0 _),js t0 hsum,?_⟩
 have e:=jE (R:=L) (n:=nf ns) t0 (c:=fun r=>(nf ns r+(L:Int)).toNat) (fun r hr=>by have:=hc r hr;lia) (by rw [← hl,ma];exact h0)
 lia
section
variable {P:Program} {w:World} {K:PySem.W.Frag} {mg:Str->Option Value} {base:Heap} {f:Addr} {fd:FuncData}
theorem sc_fc:FnScope ["_law_state","_law_t","_law_numbers","_law_turn","_law_one","_law_other","_law_trial","_law_size"] ["_law_state","_law_t"] (ah (top 31)):=⟨rfl,rfl,rfl,by decide +kernel,rfl,by decide +kernel,by decide +kernel⟩
def oB:Sp:=fun vs H Q _=>∃ (a:Addr) (t n:Nat),vs=[.ref a,.int t]/\Hand H a n/\n<800000000/\0<t/\t<=12/\∀ r H' cs,Step a (n+100) H H'->H' r=some (.tup (cs.map V.int))->M81.Prt cs->cor cs t=cs->cs.sum<=200->Q (.ref r) H'
theorem ok_fc (F:Fun K "_law_far_core" "_law_far_core" (top 31) f fd) (m_enumerate:mg "enumerate" = none) (m_list:mg "list" = none) (m_range:mg "range" = none) (m_sum:mg "sum" = none) (F_law_pushed:FnA P w K mg base "_law_pushed" 2 ["_law_numbers","_law_threads"] rh) (F_law_take:FnA P w K mg base "_law_take" 1 ["_law_state","_law_many"] dg):FnOk P w K mg base CX0 3 f fd ["_law_state","_law_t"] oB:=by
 refine F.okz sc_fc (fun vs H Q E h=>?_) (fun cdv A outer s H vs Q E hr h=>?_)
 · obtain ⟨a,t,n,rfl,_⟩:=h;rfl
 obtain ⟨p,t,n,rfl,hh,hn,t0,t1,q⟩:=h
 have nd:=sc_fc.nd
 have hu:=hr.units
 refine ⟨_,(af (aq (i:=2) nd rfl (Or.inl rfl) (ai aF (bn (aa ag ae)) (zn 1)))
  (af (bW PassesOwn.never rfl (bK rfl m_range (aa (aJ F_law_take hr (by decide) rfl (aa (zn 0) (aa ag ae))) ae)) (ak (i:=3) nd rfl (Or.inl rfl)) (af (kh (i:=4) (j:=5) rfl nd rfl rfl (by decide) rfl rfl (aa (aJ F_law_take hr (by decide) rfl (aa (zn 0) (aa (zn 1) ae))) (aa (aJ F_law_take hr (by decide) rfl (aa (zn 0) (aa (zn 1) ae))) ae)) rfl)
  (af (aq (i:=6) nd rfl (Or.inl rfl) (dC rfl m_list (aa (zn 2) ae) rfl rfl))
  (af (cH (ai au (br dy (zn 6) (zn 4) (fun _ _=>rfl)) ag) (eY (zn 6) (zn 4) cn))
  (af (cH (ai aN (br dy (zn 6) (zn 5) (fun _ _=>rfl)) ag) (eY (zn 6) (zn 5) cn))
  (af (aq (i:=7) nd rfl (Or.inl rfl) (ai bv (de rfl rfl m_sum (aa (ba ["_law_k","_law_number"] [("_law_t",1)] rfl ⟨rfl,by decide +kernel,by decide +kernel,rfl,rfl⟩ (bq rfl m_enumerate (aa (zn 6) ae)) cf (fun _ _ _ _=>bB rfl (av (ak (i:=0) (show List.Nodup (["_law_k","_law_number","_law_t"]:List Str) by decide +kernel) rfl (Or.inl rfl)) (av (ak (i:=1) (show List.Nodup (["_law_k","_law_number","_law_t"]:List Str) by decide +kernel) rfl (Or.inl rfl)) aZ))) (fun _ _ _ _=>aS) (fun _ _ _ _=>(ai au (ai aF (ai aF (zn 2) (zn 1)) (zn 1)) (ai aF (ai aF ag (zn 0)) (zn 1))))) ae) rfl rfl) ag))
  (aj (bV (ZW.zt (gb (aG (bS hu) (zn 4) (zn 5) (aI _)) (dM (aG qG (zn 7) ag (aI _))))) (aj (aq (i:=2) nd rfl (Or.inl rfl) (zn 6))) aT))))))))
  (aj (aK (aJ F_law_pushed hr (by decide) rfl (aa (zn 2) (aa (ai aF (aL (aa (aL ae) ae)) (zn 1)) ae))))))),?_⟩
 refine ⟨by show 1<=sizeLine;decide,fun d0 hd0=>?_⟩
 have y0:=Same.new hd0 (.lst [V.int 0])
 refine ⟨⟨by lia,by lia⟩,.inl ⟨_,ad,aW (by show 1*(t:Int).toNat<=1000;lia),fun N0 hN0=>?_⟩⟩
 rw [cp,Int.toNat_natCast]
 have y1:=y0.trans (Same.new hN0 (.lst ((List.replicate t (0:Int)).map V.int)))
 have N0H:H N0=none:=cq y0 hN0
 have gN0:upd (upd H d0 (.lst [V.int 0])) N0 (.lst ((List.replicate t (0:Int)).map V.int)) N0=some (.lst ((List.replicate t (0:Int)).map V.int)):=ad
 generalize upd (upd H d0 (.lst [V.int 0])) N0 (.lst ((List.replicate t (0:Int)).map V.int))=H1 at y1 gN0
 refine ⟨p,40,n,rfl,hh.same y1,by lia,by decide,by decide,fun m H2 m0 m1 st2=>?_⟩
 have N0p:N0≠p:=hh.ne N0H
 have stA:Step p (n+1) H H2:=(Step.of_same hh y1).trans st2
 refine ⟨m,rfl,by lia,by lia,eh (fun i σ H'=>i<=40/\Step p (n+1+2*i) H H'/\∃ (N:Addr) (ns:List Int) (x3 x4 x5 x6 x7:Option V),σ=[some (.ref p),some (.int t),some (.ref N),x3,x4,x5,x6,x7]/\H' N=some (.lst (ns.map V.int))/\N≠p/\ns.length=t/\ns.sum=0/\(∀ x∈ns,-(i:Int)<=x/\x<=i)/\(t:Int)*sq t (nf ns)+2*ro t (nf ns)<=401) ⟨by decide,stA,N0,List.replicate t 0,_,_,_,_,_,rfl,st2.1 _ _ N0p gN0,N0p,by simp,by simp,fun x hx=>by rw [List.eq_of_mem_replicate hx];decide,by rw [qZ];decide⟩ ?_ ?_⟩
 · rintro i σ H' hi ⟨_,st,N,ns,x3,x4,x5,x6,x7,rfl,hN,Np,nl,h0,hb,hs⟩
   have hi40:i+1<=40:=by lia
   refine ⟨p,(t:Int),_,rfl,st.2,by lia,by lia,by lia,fun o1 H3 o10 o11 st3=>?_⟩
   refine ⟨p,(t:Int),_,rfl,st3.2,by lia,by lia,by lia,fun o2 H4 o20 o21 st4=>?_⟩
   refine ⟨_,_,rfl,?_⟩
   have st34:=st3.trans st4
   have hN4:=st34.1 _ _ Np hN
   have stB:=st.trans st34
   obtain ⟨k1,rfl⟩:∃ k:Nat,o1=(k:Int):=⟨o1.toNat,by lia⟩
   obtain ⟨k2,rfl⟩:∃ k:Nat,o2=(k:Int):=⟨o2.toNat,by lia⟩
   have l1:k1<ns.length:=by lia
   refine ⟨_,.inl (SqL.of hN4),fun T hT=>?_⟩
   have Tp:T≠p:=st4.2.ne hT
   have TH:H T=none:=stB.none Tp hT
   have NT:N≠T:=fun z=>by rw [z,hT] at hN4;cases hN4
   refine ⟨_,.inl (SqL.of ad),.int ns[k1],fw (j:=k1) rfl (jh l1),?_⟩
   refine ⟨T,_,_,k1,rfl,rfl,ad,by unfold ixN;rw [if_pos (by lia),if_pos (by rw [List.length_map];lia),Int.toNat_natCast],?_⟩
   rw [← List.map_set]
   have l2:k2<(ns.set k1 (ns[k1]+1)).length:=by rw [List.length_set];lia
   refine ⟨_,.inl (SqL.of ad),.int (ns.set k1 (ns[k1]+1))[k2],fw (j:=k2) rfl (jh l2),?_⟩
   refine ⟨T,_,_,k2,rfl,rfl,ad,by unfold ixN;rw [if_pos (by lia),if_pos (by rw [List.length_map];lia),Int.toNat_natCast],?_⟩
   rw [← List.map_set]
   generalize hms:(ns.set k1 (ns[k1]+1)).set k2 ((ns.set k1 (ns[k1]+1))[k2] - 1)=ms
   have ml:ms.length=t:=by rw [← hms,List.length_set,List.length_set];exact nl
   have msum:ms.sum=0:=by rw [← hms,il _ l2,il _ l1];lia
   have hbk:∀ x∈ns.set k1 (ns[k1]+1),-(i:Int)<=x/\x<=i+1:=fun x hx=>by
    rcases List.mem_or_eq_of_mem_set hx with z | z
    · have:=hb x z;lia
    · have:=hb _ (List.getElem_mem l1);lia
   have mb:∀ x∈ms,-((i+1:Nat):Int)<=x/\x<=((i+1:Nat):Int):=fun x hx=>by
    rw [← hms] at hx
    rcases List.mem_or_eq_of_mem_set hx with z | z
    · have:=hbk x z;lia
    · have:=hbk _ (List.getElem_mem l2);lia
   have stC:Step p (n+1+2*(i+1)) H (upd (upd (upd H4 T (.lst (ns.map V.int))) T (.lst ((ns.set k1 (ns[k1]+1)).map V.int))) T (.lst (ms.map V.int))):=(((stB.updN Tp TH).updN Tp TH).updN Tp TH).mono (by lia)
   have hT5:upd (upd (upd H4 T (.lst (ns.map V.int))) T (.lst ((ns.set k1 (ns[k1]+1)).map V.int))) T (.lst (ms.map V.int)) T=some (.lst (ms.map V.int)):=ad
   have hN5:upd (upd (upd H4 T (.lst (ns.map V.int))) T (.lst ((ns.set k1 (ns[k1]+1)).map V.int))) T (.lst (ms.map V.int)) N=some (.lst (ns.map V.int)):=by rw [am NT,am NT,am NT];exact hN4
   generalize upd (upd (upd H4 T (.lst (ns.map V.int))) T (.lst ((ns.set k1 (ns[k1]+1)).map V.int))) T (.lst (ms.map V.int))=H5 at stC hT5 hN5
   refine ⟨false,_,SqK.lst hT5,bO (xs:=ms.map V.int) (fun j zs H'=>Same H5 H'/\zs=(kc t ms j).map V.int) ⟨Same.refl _,rfl⟩ ?_ ?_ ?_ ?_⟩
   · rintro j zs H' _ ⟨y,_⟩
     exact SqK.lst (y _ _ hT5)
   · rintro j zs H' hj ⟨_,rfl⟩
     rw [List.length_map] at hj ⊢
     rw [pL]
     exact aA (by lia)
   · rintro j x zs H' p8 hx ⟨y,rfl⟩ hp8
     have hj:j<ms.length:=by
      have:=(List.getElem?_eq_some_iff.mp hx).1
      rwa [List.length_map] at this
     have ex:x=.int ms[j]:=by rw [jh hj] at hx;exact (Option.some.inj hx).symm
     subst ex
     have hbj:=mb _ (List.getElem_mem hj)
     refine ⟨p8,_,rfl,SqT.of ad,rfl,_,_,rfl,_,_,rfl,rfl,?_⟩
     refine ⟨pI (by lia) (by lia),mulR (by lia) (by lia),pI (by decide) (by decide),pI (by lia) (by lia),?_⟩
     refine ⟨y.trans (Same.new hp8 _),?_⟩
     rw [gx,List.map_append,eS hj]
     rfl
   · rintro zs H6 ⟨y6,rfl⟩ D6 hD6
     rw [List.length_map,ml]
     have y7:=y6.trans (Same.new hD6 (.lst ((kc t ms t).map V.int)))
     refine ⟨_,.inl (SqL.of ad),⟨by decide,by decide⟩,?_⟩
     generalize upd H6 D6 (.lst ((kc t ms t).map V.int))=H7 at y7
     have stD:=stC.same y7
     have hT7:=y7 _ _ hT5
     have hN7:=y7 _ _ hN5
     have stay:i+1<=40/\Step p (n+1+2*(i+1)) H H7/\∃ (N':Addr) (ns':List Int) (x3 x4 x5 x6 x7:Option V),[some (V.ref p),some (.int t),some (.ref N),some (V.int (0+(i:Int))),some (.int (k1:Int)),some (.int (k2:Int)),some (.ref T),some (.int ((kc t ms t).sum / 2))]=[some (.ref p),some (.int t),some (.ref N'),x3,x4,x5,x6,x7]/\H7 N'=some (.lst (ns'.map V.int))/\N'≠p/\ns'.length=t/\ns'.sum=0/\(∀ x∈ns',-((i+1:Nat):Int)<=x/\x<=((i+1:Nat):Int))/\(t:Int)*sq t (nf ns')+2*ro t (nf ns')<=401:=
      ⟨hi40,stD,N,ns,_,_,_,_,_,rfl,hN7,Np,nl,h0,fun x hx=>by have:=hb x hx;lia,hs⟩
     refine mK (fun _=>?_) (fun _=>stay)
     refine mJ (fun c=>?_) (fun _=>stay)
     refine ⟨hi40,stD,T,ms,_,_,_,_,_,rfl,hT7,Tp,ml,msum,mb,?_⟩
     have c:(kc t ms t).sum / 2<=200:=c
     rw [i7] at c
     lia
 · rintro σ H' ⟨_,st,N,ns,x3,x4,x5,x6,x7,rfl,hN,Np,nl,h0,hb,hs⟩
   have hmN:m.toNat<=39:=by lia
   refine ⟨Nat.zero_le _,fun d1 hd1=>?_⟩
   have y1':=Same.new hd1 (.tup [])
   refine ⟨by show 1<=sizeLine;decide,fun d2 hd2=>?_⟩
   have y2':=Same.new hd2 (.tup [V.ref d1])
   refine ⟨⟨by lia,by lia⟩,.inr ⟨_,ad,aW (by show 1*(t:Int).toNat<=1000;lia),fun r3 H3 y3 hr3=>?_⟩⟩
   rw [dS,Int.toNat_natCast] at hr3
   have z3:=(y1'.trans y2').trans y3
   have e1:H3 d1=some (.tup []):=y3 _ _ (y2' _ _ ad)
   refine ⟨false,true,N,r3,ns,List.replicate t d1,List.replicate t [],t,40,rfl,SqK.lst (z3 _ _ hN),SqK.tup hr3,gk t e1,nl,by simp,t0,by lia,h0,fun i hi=>?_,by lia,fun r H4 L y4 _ hL hr4=>?_⟩
   · rw [io]
     have:=hb (nf ns i) (by rw [eS (by lia)];exact List.getElem_mem _)
     show -((40:Nat):Int)<=nf ns i/\((0:Nat):Int) - nf ns i<=((40:Nat):Int)
     lia
   · have en:(fun r=>(List.replicate t ([]:List Int)).getD r [])=fun _=>[]:=funext fun r=>io t r
     rw [en,jH (mG t _)] at hr4
     obtain ⟨f1,f2,f3⟩:=far_ok (L:=L) t0 nl h0 (fun i hi=>(hL i hi).1) hs
     exact q r H4 _ ((((st.mono (by lia)).same z3).same y4)) hr4 f1 f2 f3
end
def tW (ns:List Int):PyData:=.tuple (ns.map PyData.int)
theorem Tl.dat {H:Hp}:∀ {qs:List Addr} {lss:List (List Int)},Tl H qs lss->DatAll H (qs.map V.ref) (lss.map tW)
 | [],[],_=>.nil
 | [],_::_,x=>by cases x.len
 | _::_,[],x=>by cases x.len
 | q::qs,l::lss,x=>by
   refine .cons (.ints (x.at_ 0 (by simp) (by simp))) (Tl.dat ⟨Nat.succ.inj x.len,fun i h1 h2=>?_⟩)
   have:=x.at_ (i+1) (by simpa using h1) (by simpa using h2)
   simpa using this
theorem qT:∀ lss:List (List Int),PyData.canLayAll0 (lss.map tW)=true/\PyData.depthAll (lss.map tW)<=2
 | []=>⟨by simp [PyData.canLayAll0],by simp [PyData.depthAll]⟩
 | n::r=>by
   obtain ⟨h1,h2⟩:=qT r
   obtain ⟨h3,h4⟩:=fZ n
   refine ⟨by simp only [List.map_cons,PyData.canLayAll0,tW,PyData.canLay0,h1,h3,Bool.and_self],?_⟩
   simp only [List.map_cons,PyData.depthAll,tW,PyData.depth]
   lia
theorem bx (lss:List (List Int)):SeqAt.shaped (.tuple (lss.map tW))=true:=by
 obtain ⟨h1,h2⟩:=qT lss
 unfold SeqAt.shaped
 rw [Bool.and_eq_true]
 exact ⟨by simp only [PyData.canLay0];exact h1,decide_eq_true (by simp only [PyData.depth];lia)⟩
theorem Nice.up:∀ {n:Nat} {d:PyData},Nice n d->Nice (n+1) d
 | 0,_,h=>.inl h
 | n+1,_,h=>by
   rcases h with h | ⟨c,ds,e,hl,g⟩
   · exact .inl h
   · exact .inr ⟨c,ds,e,hl,fun e' he=>(g e' he).up⟩
theorem pF {ns:List Int} (h:ns.length<=1000):Nice 3 (.tuple (ns.map PyData.int)):=(Nice.ints h).up.up
theorem qr {H:Hp} {r:Addr} {xs:List V} (h:H r=some (.tup xs)):bR H (.ref r)=some "tuple":=by
 show (match H r with | some (HO.lst xs)=>some "list" | some (HO.tup xs)=>some "tuple" | some (HO.dK kvs)=>some "dict" | x=>none)=_
 rw [h]
theorem tQ (n:Nat):(List.replicate n true).all id=true:=by
 rw [List.all_eq_true]
 intro x hx
 rw [List.eq_of_mem_replicate hx]
 rfl
theorem sS {ns:List Int} (h:∀ n∈ns,(1:Int)<=n):inV (.int 0) (ns.map V.int)=false:=by
 unfold inV
 rw [List.any_eq_false]
 intro x hx
 obtain ⟨n,hn,rfl⟩:=List.mem_map.mp hx
 have:=h n hn
 have e:eqV (V.int n) (.int 0)=decide (n=0):=by with_unfolding_all rfl
 rw [e]
 simp
 lia
theorem kZ {ns ms:List Int} (p:ms.Perm ns) (h1:PyProof.Rows.Ordered true ms) (h2:ns.Pairwise (·>=·)):ms=ns:=
 p.eq_of_pairwise (le:=(·>=·)) (fun a b _ _ h3 h4=>Int.le_antisymm h4 h3) h1 h2
theorem mU (ns:List Int):(ns.map V.int).all fV=true:=by
 rw [List.all_eq_true]
 intro x hx
 obtain ⟨n,_,rfl⟩:=List.mem_map.mp hx
 rfl
def Th (H:Hp) (d:Addr) (t B:Nat):Prop:=∃ (qs:List Addr) (lss:List (List Int)),H d=some (.tup (qs.map V.ref))/\Tl H qs lss/\lss.length=t/\∀ ls∈lss,ls.length<=B
theorem Th.same {H H':Hp} {d:Addr} {t B:Nat} (h:Th H d t B) (y:Same H H'):Th H' d t B:=by
 obtain ⟨qs,lss,a,b,c,e⟩:=h
 exact ⟨qs,lss,y _ _ a,b.same y,c,e⟩
theorem ref_at {rs:List Addr} {j:Nat} {x:V} (h:(rs.map V.ref)[j]? = some x):∃ r∈rs,x=.ref r:=by
 rw [List.getElem?_map] at h
 cases e:rs[j]? with
 | none=>rw [e] at h;cases h
 | some r=>rw [e] at h;exact ⟨r,List.mem_of_getElem? e,(Option.some.inj h).symm⟩
theorem du:∀ {ns:List Int},(∀ n∈ns,(0:Int)<=n)->0<=ns.sum
 | [],_=>Int.le_refl _
 | n::ns,h=>by
   have h1:=h n List.mem_cons_self
   have h2:=du fun m hm=>h m (List.mem_cons_of_mem n hm)
   rw [List.sum_cons]
   lia
theorem cor_le {ns:List Int} {t:Nat} (ht:0<t) (h:M81.Prt ns):(cor ns t).sum<=ns.sum:=by
 have e:=gX ht h
 have q0:0<=((List.range t).map fun (r:Nat)=>(quo ns t r).sum).sum:=du fun n hn=>by
  obtain ⟨r,_,rfl⟩:=List.mem_map.mp hn
  exact du (rN ht h).nn
 have:=Int.mul_nonneg (Int.natCast_nonneg t) q0
 lia
theorem tG {ns:List Int} {t:Nat} (ht:0<t):M81.Prt (cor ns t):=lF (bb ht _)
theorem qd {ns:List Int} {t:Nat} (ht:0<t):cor (cor ns t) t=cor ns t:=js ht (qR (ns:=ns) (k:=t*rd ns t) ht)
theorem im {cs:List Int} {t B:Nat} (t0:0<t) (t1:t<=20) (hl:cs.length<=300) (hB:t*B<=300):t*(rd cs t+B)<=900:=by
 have:=lA cs t0
 rw [Nat.mul_add]
 lia
theorem mS {lss:List (List Int)} {r:Nat} (h:r<lss.length):lss.getD r []∈lss:=by
 rw [List.getD_eq_getElem?_getD,List.getElem?_eq_getElem h]
 exact List.getElem_mem h
theorem jk {lss:List (List Int)}:(List.range lss.length).map (fun r=>lss.getD r [])=lss:=by
 refine List.ext_getElem (by simp) fun i h1 h2=>?_
 rw [List.getElem_map,List.getElem_range,List.getD_eq_getElem?_getD,List.getElem?_eq_getElem h2]
 rfl
theorem hZ {cs:List Int} {t M:Nat} {lss:List (List Int)} (t0:0<t) (ll:lss.length=t) (hq:∀ ls∈lss,M81.Prt ls) (hM:∀ ls∈lss,ls.length<=M) (co:cor cs t=cs) :
 M81.Prt (jn cs t M fun r=>lss.getD r [])/\core (jn cs t M fun r=>lss.getD r []) t=cs/\t4 (jn cs t M fun r=>lss.getD r []) t=lss/\(jn cs t M fun r=>lss.getD r []).sum=cs.sum+(t:Int)*(lss.map List.sum).sum:=by
 have h1:∀ r,r<t->M81.Prt (lss.getD r []):=fun r hr=>hq _ (mS (by lia))
 have h2:∀ r,r<t->(lss.getD r []).length<=M:=fun r hr=>hM _ (mS (by lia))
 obtain ⟨a,b,c,d⟩:=jg (cs:=cs) (q:=fun r=>lss.getD r []) t0 h1 h2
 have e:=jn_sum (cs:=cs) (q:=fun r=>lss.getD r []) t0 h1 h2
 refine ⟨a,c.trans co,?_,?_⟩
 · have:t4 (jn cs t M fun r=>lss.getD r []) t=(List.range t).map fun r=>lss.getD r []:=List.map_congr_left fun r hr=>d r (List.mem_range.mp hr)
   rw [this,← ll,jk]
 · rw [e,co]
   congr 2
   have g:=congrArg (fun l=>(l.map List.sum).sum) (jk (lss:=lss))
   rw [ll] at g
   rw [← g,List.map_map]
   rfl
theorem iA {cs:List Int} {t M:Nat} (t0:0<t) (co:cor cs t=cs):(jn cs t M fun r=>(List.replicate t ([]:List Int)).getD r [])=cs:=by
 have en:(fun r=>(List.replicate t ([]:List Int)).getD r [])=fun _=>[]:=funext fun r=>io t r
 rw [en,tj t0,co]
theorem fF {lss:List (List Int)} (hq:∀ ls∈lss,M81.Prt ls):0<=(lss.map List.sum).sum:=du fun n hn=>by
 obtain ⟨l,hl,rfl⟩:=List.mem_map.mp hn
 exact du (hq l hl).nn
theorem sum_one:∀ {lss:List (List Int)},(∀ ls∈lss,M81.Prt ls)->∀ ls∈lss,(ls.length:Int)<=(lss.map List.sum).sum
 | l::lss,hq,ls,h=>by
   have h0:=du (hq l List.mem_cons_self).nn
   have h1:=fF fun x hx=>hq x (List.mem_cons_of_mem l hx)
   rw [List.map_cons,List.sum_cons]
   rcases List.mem_cons.mp h with rfl | h
   · have:=cb (hq ls List.mem_cons_self).1
     lia
   · have:=sum_one (fun x hx=>hq x (List.mem_cons_of_mem l hx)) ls h
     lia
theorem sW {cs:List Int} {t:Nat} {lss:List (List Int)} (hc:M81.Prt cs) (hq:∀ ls∈lss,M81.Prt ls) (hs:cs.sum+(t:Int)*(lss.map List.sum).sum<=300):∃ B:Nat,(∀ ls∈lss,ls.length<=B)/\t*B<=300:=by
 have h0:=fF hq
 have h1:=du hc.nn
 obtain ⟨B,eB⟩:∃ B:Nat,(lss.map List.sum).sum=(B:Int):=⟨_,(Int.toNat_of_nonneg h0).symm⟩
 refine ⟨B,fun ls hl=>?_,?_⟩
 · have:=sum_one hq ls hl
   lia
 · rw [eB] at hs
   have:((t*B:Nat):Int)<=300:=by rw [Int.natCast_mul];lia
   lia
section
variable {P:Program} {w:World} {K:PySem.W.Frag} {mg:Str->Option Value} {base:Heap} {f:Addr} {fd:FuncData} {c0 c1 c2 c3 c4 c5 c6 c7 c8 c9:Addr}
theorem law_c {cdv:Value} {A:Around} {outer:List Env} {s:Shared} {H:Hp} {E:XK} (hr:Room 6 (A.deeper (PyProof.Rows.envOfC "law" (ah (top 33)) s.heap.objs.size f cdv))) (nd:(["_law_script","_law_state","_law_turn","_law_way","_law_t","_law_most","_law_loose","_law_inner","_law_core","_law_left","_law_threads","_law_k","_law_told","_law_caught","_law_light","_law_some","_law_one","_law_stairs"]:List Str).Nodup) (N9:Nine K c2 c1 c2 c3 c4 c5 c6 c7 c8 c9) (me:PySem.W.kitOne K (.ref c2) (.ref c2)=some true) (g_NoCore:mg "NoCore" = some (.ref c2)) (m_all:mg "all" = none) (m_int:mg "int" = none) (m_isinstance:mg "isinstance" = none) (m_list:mg "list" = none) (m_min:mg "min" = none) (m_range:mg "range" = none) (m_sorted:mg "sorted" = none) (m_sum:mg "sum" = none) (m_tuple:mg "tuple" = none) (F_law_joined:FnA P w K mg base "_law_joined" 6 ["_law_core","_law_threads"] (kY c2)) (F_law_others:FnA P w K mg base "_law_others" 1 ["_law_error"] (oy K c1 c2 c3 c4 c5 c6 c7 c8 c9)) (F_law_slid:FnA P w K mg base "_law_slid" 2 ["_law_parting_here","_law_t"] dR) (F_law_quotients:FnA P w K mg base "_law_quotients" 2 ["_law_parting_here","_law_t","_law_more"] gn) (F_law_same:FnA P w K mg base "_law_same" 4 ["_law_found","_law_due"] (ii 4)) :
 ∃ tr,ZSs (cE CX0 P w K mg base ["_law_script","_law_state","_law_turn","_law_way","_law_t","_law_most","_law_loose","_law_inner","_law_core","_law_left","_law_threads","_law_k","_law_told","_law_caught","_law_light","_law_some","_law_one","_law_stairs"] "law" (ah (top 33)) f cdv A outer s H E).nox ((dj ((az (top 33)).getD 1 (.Pass ⟨0,0,0,0⟩))).drop 7) tr /\
   ∀ (De:Ends) (H5:Hp) (x0 x1 x2 x3 x5 x9 x11 x12 x13 x14 x15 x16 x17:Option V) (l i c d:Addr) (bs cs:List Int) (qs:List Addr) (lss:List (List Int)) (t:Nat),0<t->t<=12->H5 l=some (.tup (bs.map V.int))->H5 i=some (.tup ((cor bs t).map V.int))->H5 c=some (.tup (cs.map V.int))->H5 d=some (.tup (qs.map V.ref))->Tl H5 qs lss->lss.length=t->M81.Prt bs->bs.sum<=150->M81.Prt cs->cor cs t=cs->(∀ ls∈lss,M81.Prt ls)->cs.sum+(t:Int)*(lss.map List.sum).sum<=300 ->
     (∀ H' x12 x13 x14 x15,Same H5 H'->De.nx [x0,x1,x2,x3,some (.int t),x5,some (.ref l),some (.ref i),some (.ref c),x9,some (.ref d),x11,x12,x13,x14,x15,x16,x17] H') ->
     tr De [x0,x1,x2,x3,some (.int t),x5,some (.ref l),some (.ref i),some (.ref c),x9,some (.ref d),x11,x12,x13,x14,x15,x16,x17] H5:=by
 have hu:=hr.units
 refine ⟨_,(af (cH (aJ F_law_joined hr (by decide) rfl (aa (zn 8) (aa (zn 10) ae))) (bB rfl (av (ak (i:=12) nd rfl (Or.inl rfl)) (av (ak (i:=13) nd rfl (Or.inl rfl)) aZ))))
  (af (bV (ZW.zt (eJ (aG pA (zn 13) gc (aI _)) (eJ (cG (bH (aB rfl m_isinstance (aa (zn 12) (aa (bU rfl m_tuple) ae)) rfl rfl))) (dt (cG (bH (kD rfl rfl m_all (aa (ba ["_law_part"] [] rfl ⟨rfl,by decide +kernel,by decide +kernel,rfl,rfl⟩ (kl (zn 12)) bj (fun _ _ _ _=>ak (i:=0) (show List.Nodup (["_law_part"]:List Str) by decide +kernel) rfl (Or.inl rfl)) (fun _ _ _ _=>aS) (fun _ _ _ _=>(aB rfl m_isinstance (aa (zn 0) (aa (ke rfl m_int) ae)) rfl rfl))) ae) rfl rfl))))))) (aj (aK dA)) aT)
  (af (bV (ZW.zt (eJ (aG (bS hu) (aJ F_law_slid hr (by decide) rfl (aa (zn 12) (aa (zn 4) ae))) (zn 8) (aI _)) (dt (aG (bS hu) (aJ F_law_quotients hr (by decide) rfl (aa (zn 12) (aa (zn 4) (aa ag ae)))) (zn 10) (aI _))))) (aj (aK dA)) aT)
  (af (bV (ZW.zt (eJ (aG (bS hu) (dC rfl m_list (aa (zn 12) ae) rfl rfl) (dN rfl m_sorted (aa (zn 12) ae) rfl) (aI _)) (dt (aG lX ag (zn 12) (by with_unfolding_all rfl))))) (aj (aK dA)) aT)
  (af (bV (cG (bH (aJ F_law_same hr (by decide) rfl (aa (br dy (aJ F_law_joined hr (by decide) rfl (aa (zn 8) (aa (ai aF (aL (aa (aL ae) ae)) (zn 4)) ae))) ag (fun _ _=>rfl)) (aa (zn 8) ae))))) (aj (aK dA)) aT)
  (af (aq (i:=14) nd rfl (Or.inl rfl) (bX qG (ai au (de rfl rfl m_sum (aa (zn 6) ae) rfl rfl) (ai aF (zn 4) (de rfl rfl m_sum (aa (ba ["_law_one"] [] rfl ⟨rfl,by decide +kernel,by decide +kernel,rfl,rfl⟩ (kl (zn 10)) bj (fun _ _ _ _=>ak (i:=0) (show List.Nodup (["_law_one"]:List Str) by decide +kernel) rfl (Or.inl rfl)) (fun _ _ _ _=>aS) (fun _ _ _ _=>(oj rfl rfl m_sum (aa (zn 0) ae) rfl rfl rfl))) ae) rfl rfl))) ag (aI _)))
  (aj (bW PassesOwn.never rfl (bP (fB sl_P (bn (aa (ai aF (aL (aa (aL ae) ae)) (zn 4)) (aa (zn 10) ae))) hJ (gZ (ai au ag (hV rfl m_int (aa (zn 14) ae) rfl rfl))))) (ak (i:=15) nd rfl (Or.inl rfl)) (af (cH (aJ F_law_joined hr (by decide) rfl (aa (zn 6) (aa (zn 15) ae))) (bB rfl (av (ak (i:=12) nd rfl (Or.inl rfl)) (av (ak (i:=13) nd rfl (Or.inl rfl)) aZ))))
  (aj (bV (ZW.zt (gb (aG (bS hu) (zn 6) (zn 7) (aI _)) (dM (ZW.zt (eJ (cG (bH (bg rfl m_isinstance (aa (zn 13) (aa (cv rfl g_NoCore) ae)) rfl rfl))) (dt (cG (bH (aJ F_law_others hr (by decide) rfl (aa (zn 13) ae)))))))))) (aj (aK dA)) aT))))))))))),?_⟩
 intro De H5 x0 x1 x2 x3 x5 x9 x11 x12 x13 x14 x15 x16 x17 l i c d bs cs qs lss t t0 t1 hl hi hc hd tl ll pb sb pc co pq sm nx
 have t1':t<=20:=by lia
 have csl:cs.length<=300:=by
  have h1:=cb pc.1
  have h2:=Int.mul_nonneg (Int.natCast_nonneg t) (fF pq)
  lia
 have bsl:bs.length<=300:=by have:=cb pb.1;lia
 obtain ⟨B,lB,tB⟩:=sW pc pq sm
 refine ⟨c,d,cs,qs,lss,t,B,rfl,hc,hd,tl,ll,t0,t1',by lia,lB,im t0 t1' csl tB,fun _ e6 r H6 M y6 hM he6 hr6=>?_,fun z=>absurd co z⟩
 obtain ⟨p1,p2,p3,p4⟩:=hZ (M:=M) t0 ll pq hM co
 generalize (jn cs t M fun r=>lss.getD r [])=ts at hr6 p1 p2 p3 p4
 have tsl:ts.length<=300:=by have:=cb p1.1;lia
 refine ⟨e6,_,rfl,SqT.of he6,rfl,_,_,rfl,_,_,rfl,rfl,?_⟩
 -- told is a tuple of ints
 refine ⟨"tuple",qr hr6,by decide,?_⟩
 refine ⟨r,rfl,⟨_,SqT.of hr6⟩,iL (xs:=ts.map V.int) (fun i zs H'=>H'=H6/\zs=(List.replicate i true).map V.bl) ⟨rfl,rfl⟩ ?_ ?_ ?_⟩
 · rintro i zs H' _ ⟨rfl,_⟩
   exact SqT.of hr6
 · rintro i x zs H' hx ⟨rfl,rfl⟩
   have hi:i<ts.length:=by
    have:=(List.getElem?_eq_some_iff.mp hx).1
    rwa [List.length_map] at this
   have ex:x=.int ts[i]:=by rw [jh hi] at hx;exact (Option.some.inj hx).symm
   subst ex
   refine ⟨by rw [List.length_map,List.length_replicate];exact aA (by lia),?_⟩
   refine ⟨_,rfl,by decide,?_⟩
   refine ⟨rfl,?_⟩
   rw [List.replicate_succ',List.map_append]
   rfl
 rintro zs H' ⟨rfl,rfl⟩ D7 hD7
 have y7:=y6.trans (Same.new hD7 (.lst ((List.replicate (ts.map V.int).length true).map V.bl)))
 have hr7:=(Same.new hD7 (.lst ((List.replicate (ts.map V.int).length true).map V.bl))) _ _ hr6
 refine ⟨_,SqL.of ad,?_⟩
 rw [tQ]
 generalize upd H' D7 (.lst ((List.replicate (ts.map V.int).length true).map V.bl))=H7 at y7 hr7
 clear hD7
 -- its core and its quotients
 refine ⟨r,ts,t,rfl,hr7,by lia,p1.nn,p1.2,t0,t1',fun c8 H8 y8 hc8=>?_⟩
 rw [p2] at hc8
 refine ⟨_,_,.ints hc8,.ints (y8 _ _ (y7 _ _ hc)),aP _,aP _,?_⟩
 rw [if_pos rfl,dL (aP _)]
 refine ⟨r,ts,t,0,rfl,y8 _ _ hr7,by lia,p1.nn,t0,t1',by decide,fun d9 qs9 H9 y9 hd9 tl9=>?_⟩
 rw [p3] at tl9
 have z9:=(y7.trans y8).trans y9
 have hr9:=y9 _ _ (y8 _ _ hr7)
 refine ⟨_,_,.tup hd9 tl9.dat,.tup (z9 _ _ hd) (tl.same z9).dat,bx _,bx _,?_⟩
 rw [if_pos rfl,dL (bx _)]
 clear hc8 hd9 tl9 hr7 hr6 he6
 -- in order,and no nought
 refine ⟨_,.inr hr9,fun l10 hl10=>?_⟩
 have y10:=Same.new hl10 (.lst (ts.map V.int))
 refine ⟨ts,.inr (SqT.of (y10 _ _ hr9)),fun l11 ns' hl11 pm od=>?_⟩
 have y11:=Same.new hl11 (.lst (ns'.map V.int))
 obtain rfl:=kZ pm od p1.2
 refine ⟨_,_,.listInts (y11 _ _ ad),.listInts ad,aR _,aR _,?_⟩
 rw [if_pos rfl,dL (aR _)]
 have z11:=z9.trans (y10.trans y11)
 have hr11:=y11 _ _ (y10 _ _ hr9)
 generalize upd (upd H9 l10 (.lst (ns'.map V.int))) l11 (.lst (ns'.map V.int))=H11 at z11 hr11
 refine ⟨r,_,rfl,.inr (SqT.of hr11),rfl,mU _,?_⟩
 rw [if_neg (by decide),sS p1.1]
 clear hr9 hl10 hl11 y10 y11 hr11
 -- the core alone
 refine ⟨Nat.zero_le _,fun d1 hd1=>?_⟩
 have w1:=Same.new hd1 (.tup [])
 refine ⟨by show 1<=sizeLine;decide,fun d2 hd2=>?_⟩
 have w2:=Same.new hd2 (.tup [V.ref d1])
 refine ⟨⟨by lia,by lia⟩,.inr ⟨_,ad,aW (by show 1*(t:Int).toNat<=1000;lia),fun r3 H12 w3 hr3=>?_⟩⟩
 rw [dS,Int.toNat_natCast] at hr3
 have tl3:Tl H12 (List.replicate t d1) (List.replicate t []):=gk t (w3 _ _ (w2 _ _ ad))
 have z12:=z11.trans ((w1.trans w2).trans w3)
 clear w1 w2 w3 hd1 hd2
 refine ⟨c,r3,cs,_,_,t,0,rfl,z12 _ _ hc,hr3,tl3,by simp,t0,t1',by lia,fun ls hl=>by rw [List.eq_of_mem_replicate hl];exact Nat.le_refl _,im t0 t1' csl (by lia),fun _ e13 r13 H13 M13 y13 _ he13 hr13=>?_,fun z=>absurd co z⟩
 rw [iA t0 co] at hr13
 have z13:=z12.trans y13
 refine ⟨_,.inr he13,.ref r13,rfl,?_⟩
 refine ⟨.ref r13,.ref c,_,rfl,.ints hr13,.ints (z13 _ _ hc),pF (by lia),fun H14 y14=>?_⟩
 have z14:=z13.trans y14
 -- what it weighs
 refine ⟨bs,.inr (z14 _ _ hl),?_⟩
 have hd14:=z14 _ _ hd
 have tl14:=tl.same z14
 have ql:=tl14.len
 refine ⟨d,rfl,⟨_,SqT.of hd14⟩,iL (xs:=qs.map V.ref) (fun j zs H'=>H'=H14/\zs=((lss.take j).map List.sum).map V.int) ⟨rfl,by rw [List.take_zero];rfl⟩ ?_ ?_ ?_⟩
 · rintro j zs H' _ ⟨rfl,_⟩
   exact SqT.of hd14
 · rintro j x zs H' hx ⟨rfl,rfl⟩
   have hj:j<qs.length:=by
    have:=(List.getElem?_eq_some_iff.mp hx).1
    rw [List.length_map] at this
    exact this
   have hj2:j<lss.length:=by lia
   rw [List.getElem?_map,List.getElem?_eq_getElem hj] at hx
   have ex:=(Option.some.inj hx).symm
   subst ex
   refine ⟨by rw [List.length_map,List.length_map,List.length_take];exact aA (by lia),?_⟩
   refine ⟨_,.inr (tl14.at_ j hj hj2),?_⟩
   refine ⟨rfl,?_⟩
   rw [List.take_succ,List.getElem?_eq_getElem hj2,List.map_append,List.map_append]
   rfl
 rintro zs H' ⟨rfl,rfl⟩ D15 hD15
 have z15:=z14.trans (Same.new hD15 (.lst (((lss.take (qs.map V.ref).length).map List.sum).map V.int)))
 refine ⟨_,.inl (SqL.of ad),?_⟩
 refine ⟨mulS (by lia) (by lia),?_⟩
 generalize upd H' D15 (.lst (((lss.take (qs.map V.ref).length).map List.sum).map V.int))=H15 at z15
 clear hD15 z14 hd14 tl14 hr13 he13 y14
 -- what is none
 refine ⟨Nat.zero_le _,fun d1 hd1=>?_⟩
 have w1:=Same.new hd1 (.tup [])
 refine ⟨by show 1<=sizeLine;decide,fun d2 hd2=>?_⟩
 have w2:=Same.new hd2 (.tup [V.ref d1])
 refine ⟨⟨by lia,by lia⟩,.inr ⟨_,ad,aW (by show 1*(t:Int).toNat<=1000;lia),fun r16 H16 w3 hr16=>?_⟩⟩
 rw [dS,Int.toNat_natCast] at hr16
 have tl16:Tl H16 (List.replicate t d1) (List.replicate t []):=gk t (w3 _ _ (w2 _ _ ad))
 have z16:=z15.trans ((w1.trans w2).trans w3)
 have th16:Th H16 r16 t B:=⟨_,_,hr16,tl16,by simp,fun ls hl=>by rw [List.eq_of_mem_replicate hl];exact Nat.zero_le _⟩
 clear w1 w2 w3 hd1 hd2 tl16 hr16
 refine ⟨by show 2<=sizeLine;decide,fun S hS=>?_⟩
 have y17:=Same.new hS (.lst [V.ref r16,.ref d])
 have z17:=z16.trans y17
 have hS17:upd H16 S (.lst [V.ref r16,.ref d]) S=some (.lst ([r16,d].map V.ref)):=ad
 have th17:=th16.same y17
 have thd:Th (upd H16 S (.lst [V.ref r16,.ref d])) d t B:=⟨qs,lss,z17 _ _ hd,tl.same z17,ll,lB⟩
 generalize upd H16 S (.lst [V.ref r16,.ref d])=H17 at z17 hS17 th17 thd
 refine ⟨_,rfl,?_⟩
 refine ⟨S,rfl,.inr ⟨_,SqL.of hS17,fun S2 hS2=>?_⟩⟩
 obtain ⟨rs,ers,hrs⟩:∃ rs:List Addr,kd ([r16,d].map V.ref) none (some (1+(if decide (bs.sum+(t:Int)*((lss.take (qs.map V.ref).length).map List.sum).sum<=300)=true then 1 else 0)))=rs.map V.ref/\∀ x∈rs,x=r16\/x=d:=by
  cases decide (bs.sum+(t:Int)*((lss.take (qs.map V.ref).length).map List.sum).sum<=300) with
  | true=>exact ⟨[r16,d],rfl,fun x hx=>by simpa using hx⟩
  | false=>exact ⟨[r16],rfl,fun x hx=>by simp at hx;exact .inl hx⟩
 rw [ers]
 have y18:=Same.new hS2 (.lst (rs.map V.ref))
 have z18:=z17.trans y18
 have th18:∀ x∈rs,Th (upd H17 S2 (.lst (rs.map V.ref))) x t B:=fun x hx=>by
  rcases hrs x hx with rfl | rfl
  · exact th17.same y18
  · exact thd.same y18
 have hS18:upd H17 S2 (.lst (rs.map V.ref)) S2=some (.lst (rs.map V.ref)):=ad
 generalize upd H17 S2 (.lst (rs.map V.ref))=H18 at z18 th18 hS18
 clear th17 thd hS17 hS2 y18 y17 ers hrs th16
 refine ⟨S2,rfl,⟨_,SqL.of hS18⟩,cW (xs:=rs.map V.ref) (fun j σ H'=>Same H18 H'/\∃ x12 x13 x14 x15,σ=[x0,x1,x2,x3,some (.int t),x5,some (.ref l),some (.ref i),some (.ref c),x9,some (.ref d),x11,x12,x13,x14,x15,x16,x17]) ⟨Same.refl _,_,_,_,_,rfl⟩ ?_ ?_ ?_⟩
 · rintro j σ H' _ ⟨y,_⟩
   exact SqL.of (y _ _ hS18)
 · rintro j x σ H' hx ⟨y,x12,x13,x14,x15,rfl⟩
   obtain ⟨o,ho,rfl⟩:=ref_at hx
   obtain ⟨qs',lss',ho1,tl',ll',lB'⟩:=(th18 o ho).same y
   have hl19:=y _ _ (z18 _ _ hl)
   have hi19:=y _ _ (z18 _ _ hi)
   refine ⟨l,o,bs,qs',lss',t,B,rfl,hl19,ho1,tl',ll',t0,t1',by lia,lB',im t0 t1' bsl tB,fun cob e20 r20 H20 M20 y20 _ he20 hr20=>?_,fun ncb e20 x20 H20 y20 he20 hx20=>?_⟩
   · refine ⟨e20,_,rfl,SqT.of he20,rfl,_,_,rfl,_,_,rfl,rfl,?_⟩
     refine ⟨_,_,.ints (y20 _ _ hl19),.ints (y20 _ _ hi19),aP _,aP _,?_⟩
     rw [if_pos rfl,iH,decide_eq_true cob.symm]
     exact ⟨y.trans y20,_,_,_,_,rfl⟩
   · refine ⟨e20,_,rfl,SqT.of he20,rfl,_,_,rfl,_,_,rfl,rfl,?_⟩
     refine ⟨_,_,.ints (y20 _ _ hl19),.ints (y20 _ _ hi19),aP _,aP _,?_⟩
     rw [if_pos rfl,iH,decide_eq_false fun z=>ncb z.symm]
     refine ⟨c2,true,_,hx20,N9.cls,rfl,me,?_⟩
     refine ⟨x20,c2,rfl,hx20,N9,fun H21 y21=>?_⟩
     exact ⟨(y.trans y20).trans y21,_,_,_,_,rfl⟩
 · rintro σ H' ⟨y,x12,x13,x14,x15,rfl⟩
   exact nx _ _ _ _ _ (z18.trans y)
end
theorem Tl.keep {H H':Hp} {qs:List Addr} {lss:List (List Int)} (x:Tl H qs lss) (y:∀ b xs,H b=some (.tup xs)->H' b=some (.tup xs)):Tl H' qs lss:=⟨x.len,fun i h1 h2=>y _ _ (x.at_ i h1 h2)⟩
theorem Tl.add {H:Hp} {qs rs:List Addr} {lss mss:List (List Int)} (x:Tl H qs lss) (y:Tl H rs mss):Tl H (qs++rs) (lss++mss):=⟨by rw [List.length_append,List.length_append,x.len,y.len],fun i h1 h2=>by
 have xl:=x.len
 by_cases c:i<qs.length
 · rw [List.getElem_append_left c,List.getElem_append_left (by lia)]
   exact x.at_ i c (by lia)
 · rw [List.getElem_append_right (by lia),List.getElem_append_right (by lia)]
   have h1':=h1
   have h2':=h2
   rw [List.length_append] at h1' h2'
   have:=y.at_ (i - qs.length) (by lia) (by lia)
   simpa only [xl] using this⟩
theorem Tl.one {H:Hp} {r:Addr} {ns:List Int} (h:H r=some (.tup (ns.map V.int))):Tl H [r] [ns]:=⟨rfl,fun i h1 h2=>by
 have:i=0:=by simp at h1;exact h1
 subst this
 exact h⟩
theorem pick3 {k:Int} (h0:0<=k) (h1:k<3):∃ m:Int,atI [V.int 3,.int 8,.int 40] k=some (.int m)/\0<=m/\m<=40:=by
 have:k=0\/k=1\/k=2:=by lia
 rcases this with rfl | rfl | rfl
 · exact ⟨3,rfl,by decide,by decide⟩
 · exact ⟨8,rfl,by decide,by decide⟩
 · exact ⟨40,rfl,by decide,by decide⟩
theorem sX {s S:Int} {t:Nat} (t0:0<t) (h:S<=(300 - s) / (t:Int)):s+(t:Int)*S<=300:=by
 have h1:=Int.mul_ediv_self_le (x:=300 - s) (k:=(t:Int)) (by lia)
 have h2:(t:Int)*S<=(t:Int)*((300 - s) / (t:Int)):=Int.mul_le_mul_of_nonneg_left h (by lia)
 lia
theorem sY {s:Int} {t:Nat} (t0:0<t) (h:s<=300):0<=(300 - s) / (t:Int):=Int.ediv_nonneg (by lia) (by lia)
theorem sZ {s:Int} {t:Nat} (t0:0<t) (h:0<=s) (h1:s<=300):(300 - s) / (t:Int)<=300:=by
 have:=Int.ediv_le_self (t:Int) (show 0<=300 - s by lia)
 lia
section
variable {P:Program} {w:World} {K:PySem.W.Frag} {mg:Str->Option Value} {base:Heap} {f:Addr} {fd:FuncData} {c0 c1 c2 c3 c4 c5 c6 c7 c8 c9:Addr}
def AskC (tr:TS):Prop:=∀ (De:Ends) (H5:Hp) (x0 x1 x2 x3 x5 x9 x11 x12 x13 x14 x15 x16 x17:Option V) (l i c d:Addr) (bs cs:List Int) (qs:List Addr) (lss:List (List Int)) (t:Nat),0<t->t<=12->H5 l=some (.tup (bs.map V.int))->H5 i=some (.tup ((cor bs t).map V.int))->H5 c=some (.tup (cs.map V.int))->H5 d=some (.tup (qs.map V.ref))->Tl H5 qs lss->lss.length=t->M81.Prt bs->bs.sum<=150->M81.Prt cs->cor cs t=cs->(∀ ls∈lss,M81.Prt ls)->cs.sum+(t:Int)*(lss.map List.sum).sum<=300 ->
 (∀ H' x12 x13 x14 x15,Same H5 H'->De.nx [x0,x1,x2,x3,some (.int t),x5,some (.ref l),some (.ref i),some (.ref c),x9,some (.ref d),x11,x12,x13,x14,x15,x16,x17] H') ->
 tr De [x0,x1,x2,x3,some (.int t),x5,some (.ref l),some (.ref i),some (.ref c),x9,some (.ref d),x11,x12,x13,x14,x15,x16,x17] H5
def AskB (tr:TS):Prop:=∀ (p:Addr) (De:Ends) (H5:Hp) (x0 x2 x3 x5 x9 x10 x11 x12 x13 x14 x15 x16 x17:Option V) (l i c:Addr) (bs cs:List Int) (t n:Nat),0<t->t<=12->Hand H5 p n->n<600000000->H5 l=some (.tup (bs.map V.int))->H5 i=some (.tup ((cor bs t).map V.int))->H5 c=some (.tup (cs.map V.int))->M81.Prt bs->bs.sum<=150->M81.Prt cs->cor cs t=cs->cs.sum<=200 ->
 (∀ H' x9 x10 x11 x12 x13 x14 x15,Hand H' p (n+5000)->De.nx [x0,some (.ref p),x2,x3,some (.int t),x5,some (.ref l),some (.ref i),some (.ref c),x9,x10,x11,x12,x13,x14,x15,x16,x17] H') ->
 tr De [x0,some (.ref p),x2,x3,some (.int t),x5,some (.ref l),some (.ref i),some (.ref c),x9,x10,x11,x12,x13,x14,x15,x16,x17] H5
def AskA (tr:TS):Prop:=∀ (p:Addr) (De:Ends) (H5:Hp) (x0 x2 x6 x7 x8 x9 x10 x11 x12 x13 x14 x15 x16 x17:Option V) (wy mo:Int) (t n:Nat),0<t->t<=12->Hand H5 p n->n<500000000->0<=mo->mo<=150 ->
 (∀ H' x6 x7 x8 x9 x10 x11 x12 x13 x14 x15,Hand H' p (n+6000)->De.nx [x0,some (.ref p),x2,some (.int wy),some (.int t),some (.int mo),x6,x7,x8,x9,x10,x11,x12,x13,x14,x15,x16,x17] H') ->
 tr De [x0,some (.ref p),x2,some (.int wy),some (.int t),some (.int mo),x6,x7,x8,x9,x10,x11,x12,x13,x14,x15,x16,x17] H5
theorem law_b {cdv:Value} {A:Around} {outer:List Env} {s:Shared} {H:Hp} {E:XK} (hr:Room 6 (A.deeper (PyProof.Rows.envOfC "law" (ah (top 33)) s.heap.objs.size f cdv))) (nd:(["_law_script","_law_state","_law_turn","_law_way","_law_t","_law_most","_law_loose","_law_inner","_law_core","_law_left","_law_threads","_law_k","_law_told","_law_caught","_law_light","_law_some","_law_one","_law_stairs"]:List Str).Nodup) (m_all:mg "all" = none) (m_int:mg "int" = none) (m_isinstance:mg "isinstance" = none) (m_list:mg "list" = none) (m_min:mg "min" = none) (m_range:mg "range" = none) (m_sorted:mg "sorted" = none) (m_sum:mg "sum" = none) (m_tuple:mg "tuple" = none) (F_law_parting:FnA P w K mg base "_law_parting" 2 ["_law_state","_law_most"] bM) (F_law_take:FnA P w K mg base "_law_take" 1 ["_law_state","_law_many"] dg) {trC:TS}
 (hC:ZSs (cE CX0 P w K mg base ["_law_script","_law_state","_law_turn","_law_way","_law_t","_law_most","_law_loose","_law_inner","_law_core","_law_left","_law_threads","_law_k","_law_told","_law_caught","_law_light","_law_some","_law_one","_law_stairs"] "law" (ah (top 33)) f cdv A outer s H E).nox ((dj ((az (top 33)).getD 1 (.Pass ⟨0,0,0,0⟩))).drop 7) trC) (kC:AskC trC) :
 ∃ tr,ZSs (cE CX0 P w K mg base ["_law_script","_law_state","_law_turn","_law_way","_law_t","_law_most","_law_loose","_law_inner","_law_core","_law_left","_law_threads","_law_k","_law_told","_law_caught","_law_light","_law_some","_law_one","_law_stairs"] "law" (ah (top 33)) f cdv A outer s H E).nox ((dj ((az (top 33)).getD 1 (.Pass ⟨0,0,0,0⟩))).drop 4) tr/\AskB tr:=by
 have hu:=hr.units
 refine ⟨_,(af (kh (i:=9) (j:=10) rfl nd rfl rfl (by decide) rfl rfl (aa (ai bv (ai aN ag (de rfl rfl m_sum (aa (zn 8) ae) rfl rfl)) (zn 4)) (aa (bn ae) ae)) rfl)
  (af (bW PassesOwn.never rfl (bK rfl m_range (aa (zn 4) ae)) (ak (i:=11) nd rfl (Or.inl rfl)) (af (dc (cI (zn 10) (aa (aJ F_law_parting hr (by decide) rfl (aa (zn 1) (aa (kr rfl rfl m_min (aa (zn 9) (aa (br dy (bn (aa ag (aa ag (aa ag ae)))) (aJ F_law_take hr (by decide) rfl (aa (zn 1) (aa ag ae))) (fun _ _=>rfl)) ae)) rfl rfl) ae))) ae)))
  (aj (aq (i:=9) nd rfl (Or.inl rfl) (ai aN (zn 9) (de rfl rfl m_sum (aa (br dy (zn 10) (q4 kI ag) (fun _ _=>rfl)) ae) rfl rfl))))))
  (af (aq (i:=10) nd rfl (Or.inl rfl) (bL rfl m_tuple (aa (zn 10) ae) rfl rfl))
  hC))),?_⟩
 intro p De H5 x0 x2 x3 x5 x9 x10 x11 x12 x13 x14 x15 x16 x17 l i c bs cs t n t0 t1 hh hn hl hi hc pb sb pc co cs2 nx
 have s0:=du pc.nn
 refine ⟨cs,.inr hc,?_⟩
 refine ⟨⟨by lia,by lia⟩,?_⟩
 have l0:=sY t0 (show cs.sum<=300 by lia)
 have l1:=sZ t0 s0 (show cs.sum<=300 by lia)
 refine ⟨Nat.zero_le _,fun L hL=>?_⟩
 have Lp:L≠p:=hh.ne hL
 have y6:=Same.new hL (.lst [])
 have hL6:upd H5 L (.lst []) L=some (.lst (([]:List Addr).map V.ref)):=ad
 have st6:Step p n H5 (upd H5 L (.lst [])):=Step.of_same hh y6
 generalize upd H5 L (.lst [])=H6 at hL6 st6
 refine ⟨_,_,rfl,?_⟩
 refine ⟨(t:Int),rfl,by lia,by lia,eh (fun k σ H'=>k<=t/\Step p (n+401*k) H5 H'/\∃ (qs:List Addr) (lss:List (List Int)) (lf:Int) (x11:Option V),σ=[x0,some (.ref p),x2,x3,some (.int t),x5,some (.ref l),some (.ref i),some (.ref c),some (.int lf),some (.ref L),x11,x12,x13,x14,x15,x16,x17]/\H' L=some (.lst (qs.map V.ref))/\Tl H' qs lss/\lss.length=k/\(∀ ls∈lss,M81.Prt ls)/\lf=(300 - cs.sum) / (t:Int) - (lss.map List.sum).sum/\0<=lf) ⟨Nat.zero_le _,st6,[],[],_,_,rfl,hL6,⟨rfl,fun i h1=>(nomatch h1)⟩,rfl,fun ls h=>(nomatch h),by simp,l0⟩ ?_ ?_⟩
 · rintro k σ H' hk ⟨_,st,qs,lss,lf,x11,rfl,hL',tl,ll,pq,elf,lf0⟩
   have lsn:=fF pq
   have ql:=tl.len
   refine ⟨tyL hL',?_⟩
   refine ⟨by show 3<=sizeLine;decide,fun d7 hd7=>?_⟩
   have y7:=Same.new hd7 (.lst [V.int 3,.int 8,.int 40])
   have d7p:d7≠p:=st.2.ne hd7
   have hd7':upd H' d7 (.lst [V.int 3,.int 8,.int 40]) d7=some (.lst [V.int 3,.int 8,.int 40]):=ad
   have stA:=st.same y7
   have hLA:=y7 _ _ hL'
   have tlA:=tl.same y7
   generalize upd H' d7 (.lst [V.int 3,.int 8,.int 40])=H7 at hd7' stA hLA tlA
   refine ⟨p,3,n+401*k,rfl,stA.2,by lia,by decide,by decide,fun z H8 z0 z1 st8=>?_⟩
   obtain ⟨mo,emo,mo0,mo1⟩:=pick3 z0 z1
   refine ⟨_,.inl (SqL.of (st8.1 _ _ d7p hd7')),.int mo,emo,?_⟩
   have m0:0<=(if mo<lf then mo else lf):=by split <;> lia
   have m1:(if mo<lf then mo else lf)<=300:=by split <;> lia
   have m2:(if mo<lf then mo else lf)<=lf:=by split <;> lia
   refine ⟨p,(if mo<lf then mo else lf),_,rfl,st8.2,by lia,m0,m1,fun r H9 ns st9 hr9 pn sn=>?_⟩
   have st89:=st8.trans st9
   have hL9:=st89.1 _ _ Lp hLA
   refine ⟨_,hL9,by rw [List.length_map];exact aA (by lia),?_⟩
   have rL:r≠L:=fun z=>by rw [z,hL9] at hr9;cases hr9
   have tl9:Tl H9 qs lss:=tlA.keep fun b xs hb=>Step.tup stA.2 st89 hb
   have tl10:Tl (upd H9 L (.lst (qs.map V.ref++[V.ref r]))) (qs++[r]) (lss++[ns]):=(tl9.add (Tl.one hr9)).keep fun b xs hb=>by
    have:b≠L:=fun z=>by rw [z,hL9] at hb;cases hb
    rw [am this]
    exact hb
   have hr10:upd H9 L (.lst (qs.map V.ref++[V.ref r])) r=some (.tup (ns.map V.int)):=by rw [am rL];exact hr9
   have hL10:upd H9 L (.lst (qs.map V.ref++[V.ref r])) L=some (.lst (qs.map V.ref++[V.ref r])):=ad
   have st10:Step p (n+401*(k+1)) H5 (upd H9 L (.lst (qs.map V.ref++[V.ref r]))):=((stA.trans st89).updN Lp hL).mono (by lia)
   generalize upd H9 L (.lst (qs.map V.ref++[V.ref r]))=H10 at tl10 hr10 hL10 st10
   refine ⟨_,rfl,?_⟩
   refine ⟨_,.inl (SqL.of hL10),.ref r,qk _ _,?_⟩
   refine ⟨ns,.inr hr10,?_⟩
   refine ⟨by lia,st10,qs++[r],lss++[ns],_,_,rfl,by rw [hL10,List.map_append];rfl,tl10,by rw [List.length_append,ll];rfl,fun ls h=>?_,?_,?_⟩
   · rcases List.mem_append.mp h with h | h
     · exact pq ls h
     · have:ls=ns:=by simpa using h
       rw [this]
       exact pn
   · rw [List.map_append,List.sum_append,elf]
     simp
     lia
   · show 0<=lf - ns.sum
     lia
 · rintro σ H' ⟨_,st,qs,lss,lf,x11,rfl,hL',tl,ll,pq,elf,lf0⟩
   rw [Int.toNat_natCast] at ll
   refine ⟨_,.inl (SqL.of hL'),fun d H7 y7 hd7=>?_⟩
   refine kC De H7 x0 (some (.ref p)) x2 x3 x5 _ x11 x12 x13 x14 x15 x16 x17 l i c d bs cs qs lss t t0 t1 (y7 _ _ (Step.tup hh st hl)) (y7 _ _ (Step.tup hh st hi)) (y7 _ _ (Step.tup hh st hc)) hd7 (tl.same y7) ll pb sb pc co pq (sX t0 (by lia)) fun H8 x12 x13 x14 x15 y8=>?_
   exact nx _ _ _ _ _ _ _ _ (((st.2.same y7).same y8).mono (by rw [Int.toNat_natCast];lia))
theorem law_a {cdv:Value} {A:Around} {outer:List Env} {s:Shared} {H:Hp} {E:XK} (hr:Room 6 (A.deeper (PyProof.Rows.envOfC "law" (ah (top 33)) s.heap.objs.size f cdv))) (nd:(["_law_script","_law_state","_law_turn","_law_way","_law_t","_law_most","_law_loose","_law_inner","_law_core","_law_left","_law_threads","_law_k","_law_told","_law_caught","_law_light","_law_some","_law_one","_law_stairs"]:List Str).Nodup) (m_all:mg "all" = none) (m_int:mg "int" = none) (m_isinstance:mg "isinstance" = none) (m_list:mg "list" = none) (m_min:mg "min" = none) (m_range:mg "range" = none) (m_sorted:mg "sorted" = none) (m_sum:mg "sum" = none) (m_tuple:mg "tuple" = none) (F_law_parting:FnA P w K mg base "_law_parting" 2 ["_law_state","_law_most"] bM) (F_law_slid:FnA P w K mg base "_law_slid" 2 ["_law_parting_here","_law_t"] dR) (F_law_far_core:FnA P w K mg base "_law_far_core" 3 ["_law_state","_law_t"] oB) {trB:TS}
 (hB:ZSs (cE CX0 P w K mg base ["_law_script","_law_state","_law_turn","_law_way","_law_t","_law_most","_law_loose","_law_inner","_law_core","_law_left","_law_threads","_law_k","_law_told","_law_caught","_law_light","_law_some","_law_one","_law_stairs"] "law" (ah (top 33)) f cdv A outer s H E).nox ((dj ((az (top 33)).getD 1 (.Pass ⟨0,0,0,0⟩))).drop 4) trB) (kB:AskB trB) :
 ∃ tr,ZSs (cE CX0 P w K mg base ["_law_script","_law_state","_law_turn","_law_way","_law_t","_law_most","_law_loose","_law_inner","_law_core","_law_left","_law_threads","_law_k","_law_told","_law_caught","_law_light","_law_some","_law_one","_law_stairs"] "law" (ah (top 33)) f cdv A outer s H E).nox ((dj ((az (top 33)).getD 1 (.Pass ⟨0,0,0,0⟩))).drop 1) tr/\AskA tr:=by
 have hu:=hr.units
 refine ⟨_,(af (aq (i:=6) nd rfl (Or.inl rfl) (aJ F_law_parting hr (by decide) rfl (aa (zn 1) (aa (zn 5) ae))))
  (af (aq (i:=7) nd rfl (Or.inl rfl) (aJ F_law_slid hr (by decide) rfl (aa (zn 6) (aa (zn 4) ae))))
  (af (aq (i:=8) nd rfl (Or.inl rfl) (oa (aG (cO hu) (zn 3) ag (aI _)) (zn 7) (aJ F_law_far_core hr (by decide) rfl (aa (zn 1) (aa (zn 4) ae)))))
  hB))),?_⟩
 intro p De H5 x0 x2 x6 x7 x8 x9 x10 x11 x12 x13 x14 x15 x16 x17 wy mo t n t0 t1 hh hn mo0 mo1 nx
 refine ⟨p,mo,n,rfl,hh,by lia,mo0,by lia,fun l H6 bs st6 hl pb sb=>?_⟩
 have bl:=cb pb.1
 refine ⟨l,bs,t,rfl,hl,by lia,M81.Prt.nn pb,pb.2,t0,by lia,fun i H7 y7 hi=>?_⟩
 have hl7:=y7 _ _ hl
 have hh7:=st6.2.same y7
 refine mK (fun _=>?_) (fun _=>?_)
 · refine kB p De H7 x0 x2 _ _ x9 x10 x11 x12 x13 x14 x15 x16 x17 l i i bs (cor bs t) t (n+400) t0 t1 hh7 (by lia) hl7 hi hi pb (by lia) (tG t0) (qd t0) (by have:=cor_le t0 pb;lia) fun H' x9 x10 x11 x12 x13 x14 x15 h=>?_
   exact nx _ _ _ _ _ _ _ _ _ _ _ (h.mono (by lia))
 · refine ⟨p,t,n+400,rfl,hh7,by lia,t0,t1,fun c H8 cs st8 hc pc co cs2=>?_⟩
   refine kB p De H8 x0 x2 _ _ x9 x10 x11 x12 x13 x14 x15 x16 x17 l i c bs cs t (n+500) t0 t1 st8.2 (by lia) (Step.tup hh7 st8 hl7) (Step.tup hh7 st8 hi) hc pb (by lia) pc co cs2 fun H' x9 x10 x11 x12 x13 x14 x15 h=>?_
   exact nx _ _ _ _ _ _ _ _ _ _ _ (h.mono (by lia))
end
theorem rO {ns:List Int} (h:M81.Prt ns):quo ns 1 0=ns:=by
 have e:∀ l:List Int,rq l 1 0=l:=fun l=>by
  unfold rq
  rw [List.filter_eq_self.mpr fun b _=>decide_eq_true (by show b % 1=0;lia)]
  refine Eq.trans (List.map_congr_left fun b _=>(show b / 1=b by lia)) ?_
  exact List.map_id' l
 unfold quo
 rw [e]
 exact rY h (fL ns (by decide))
theorem iJ {ns:List Int} {t:Nat} (ht:0<t) (h:M81.Prt ns) (e:clB ns t=true):cor ns t=ns:=of_decide_eq_true ((clB_is ht h).trans e)
def stL:List Int:=[24,23,22,21,20,19,18,17,16,15,14,13,12,11,10,9,8,7,6,5,4,3,2,1]
theorem re:M81.Prt stL:=⟨by decide,by decide⟩
theorem kW:cor stL 2=stL:=iJ (by decide) re (by decide +kernel)
theorem iB:M81.Prt []:=⟨fun n h=>(nomatch h),.nil⟩
theorem fQ (t:Nat) (ht:0<t):cor [] t=[]:=iJ ht iB rfl
theorem sM:M81.Prt [1]:=⟨by decide,by decide⟩
theorem lY:cor [1] 2=[1]:=iJ (by decide) sM (by decide)
theorem ft_prt:M81.Prt [4,2]:=⟨by decide,by decide⟩
theorem ft_all:∀ ls∈[([4,2]:List Int)],M81.Prt ls:=fun ls h=>by
 have:ls=[4,2]:=by simpa using h
 rw [this];exact ft_prt
theorem tf_prt:M81.Prt [25]:=⟨by decide,by decide⟩
def lss12:List (List Int):=List.replicate 4 []++[[25]]++List.replicate 7 []
theorem mi:∀ ls∈lss12,M81.Prt ls:=fun ls h=>by
 rcases List.mem_append.mp h with h | h
 · rcases List.mem_append.mp h with h | h
   · rw [List.eq_of_mem_replicate h];exact iB
   · have:ls=[25]:=by simpa using h
     rw [this];exact tf_prt
 · rw [List.eq_of_mem_replicate h];exact iB
theorem mj:∀ ls∈lss12,ls.length<=1:=by decide
section
variable {P:Program} {w:World} {K:PySem.W.Frag} {mg:Str->Option Value} {base:Heap} {f:Addr} {fd:FuncData} {c0 c1 c2 c3 c4 c5 c6 c7 c8 c9:Addr}
theorem law_t {cdv:Value} {A:Around} {outer:List Env} {s:Shared} {H:Hp} {E:XK} (hr:Room 6 (A.deeper (PyProof.Rows.envOfC "law" (ah (top 33)) s.heap.objs.size f cdv))) (nd:(["_law_script","_law_state","_law_turn","_law_way","_law_t","_law_most","_law_loose","_law_inner","_law_core","_law_left","_law_threads","_law_k","_law_told","_law_caught","_law_light","_law_some","_law_one","_law_stairs"]:List Str).Nodup) (m_all:mg "all" = none) (m_int:mg "int" = none) (m_isinstance:mg "isinstance" = none) (m_list:mg "list" = none) (m_min:mg "min" = none) (m_range:mg "range" = none) (m_sorted:mg "sorted" = none) (m_sum:mg "sum" = none) (m_tuple:mg "tuple" = none) (F_law_joined:FnA P w K mg base "_law_joined" 6 ["_law_core","_law_threads"] (kY c2)) (F_law_quotients:FnA P w K mg base "_law_quotients" 2 ["_law_parting_here","_law_t","_law_more"] gn) (F_law_same:FnA P w K mg base "_law_same" 4 ["_law_found","_law_due"] (ii 4)) :
 ∃ tr,ZSs (cE CX0 P w K mg base ["_law_script","_law_state","_law_turn","_law_way","_law_t","_law_most","_law_loose","_law_inner","_law_core","_law_left","_law_threads","_law_k","_law_told","_law_caught","_law_light","_law_some","_law_one","_law_stairs"] "law" (ah (top 33)) f cdv A outer s H E).nox ((az (top 33)).drop 2) tr /\
   ∀ (De:Ends) (H1:Hp) (x0 x1 x2 x3 x4 x5 x6 x7 x8 x9 x10 x11 x12 x13 x14 x15 x16 x17:Option V),(∀ H',De.rt (.bl true) H')->tr De [x0,x1,x2,x3,x4,x5,x6,x7,x8,x9,x10,x11,x12,x13,x14,x15,x16,x17] H1:=by
 have hu:=hr.units
 refine ⟨_,(af (aq (i:=16) nd rfl (Or.inl rfl) (ai au (ai au (ai aF (aL (aa (aL ae) ae)) ag) (aL (aa (aL (aa ag ae)) ae))) (ai aF (aL (aa (aL ae) ae)) ag)))
  (af (aq (i:=12) nd rfl (Or.inl rfl) (br dy (aJ F_law_joined hr (by decide) rfl (aa (aL ae) (aa (zn 16) ae))) ag (fun _ _=>rfl)))
  (af (bV (ZW.zt (eJ (cG (bH (aB rfl m_isinstance (aa (zn 12) (aa (bU rfl m_tuple) ae)) rfl rfl))) (eJ (aG (bS hu) (de rfl rfl m_sum (aa (zn 12) ae) rfl rfl) ag (aI _)) (dt (aG (bS hu) (aJ F_law_quotients hr (by decide) rfl (aa (zn 12) (aa ag (aa ag ae)))) (zn 16) (aI _)))))) (aj (aK dA)) aT)
  (af (aq (i:=17) nd rfl (Or.inl rfl) (jz rfl rfl m_tuple (aa (kq rfl m_range (aa ag (aa ag (aa (q4 kI ag) ae))) rfl rfl) ae) rfl rfl))
  (af (bV (cG (bH (aJ F_law_same hr (by decide) rfl (aa (br dy (aJ F_law_joined hr (by decide) rfl (aa (zn 17) (aa (aL (aa (aL ae) (aa (aL ae) ae))) ae))) ag (fun _ _=>rfl)) (aa (zn 17) ae))))) (aj (aK dA)) aT)
  (aj (aK (fC (aJ F_law_same hr (by decide) rfl (aa (br dy (aJ F_law_joined hr (by decide) rfl (aa (aL ae) (aa (aL (aa (aL (aa ag (aa ag ae))) ae)) ae))) ag (fun _ _=>rfl)) (aa (aL (aa ag (aa ag ae))) ae))) (iQ (aJ F_law_same hr (by decide) rfl (aa (br dy (aJ F_law_joined hr (by decide) rfl (aa (aL (aa ag ae)) (aa (aL (aa (aL ae) (aa (aL ae) ae))) ae))) ag (fun _ _=>rfl)) (aa (aL (aa ag ae)) ae)))))))))))),?_⟩
 intro De H1 x0 x1 x2 x3 x4 x5 x6 x7 x8 x9 x10 x11 x12 x13 x14 x15 x16 x17 rt
 refine ⟨Nat.zero_le _,fun d1 hd1=>?_⟩
 have w1:=Same.new hd1 (.tup [])
 refine ⟨by show 1<=sizeLine;decide,fun d2 hd2=>?_⟩
 have w2:=Same.new hd2 (.tup [V.ref d1])
 refine ⟨⟨by decide,by decide⟩,.inr ⟨_,ad,aW (show 4<=1000 by decide),fun r3 H3 w3 hr3=>?_⟩⟩
 rw [dS] at hr3
 have e1:H3 d1=some (.tup []):=w3 _ _ (w2 _ _ ad)
 refine ⟨by show 1<=sizeLine;decide,fun d4 hd4=>?_⟩
 have w4:=Same.new hd4 (.tup [V.int 25])
 refine ⟨by show 1<=sizeLine;decide,fun d5 hd5=>?_⟩
 have w5:=Same.new hd5 (.tup [V.ref d4])
 refine .inr ⟨_,_,w5 _ _ (w4 _ _ hr3),ad,aW (show 5<=1000 by decide),fun r6 H6 w6 hr6=>?_⟩
 have e6:H6 d1=some (.tup []):=w6 _ _ (w5 _ _ (w4 _ _ e1))
 have e64:H6 d4=some (.tup ([25].map V.int)):=w6 _ _ (w5 _ _ ad)
 clear w1 w2 w3 w4 w5 w6 hd1 hd2 hd4 hd5 hr3 e1
 refine ⟨Nat.zero_le _,fun d7 hd7=>?_⟩
 have w7:=Same.new hd7 (.tup [])
 refine ⟨by show 1<=sizeLine;decide,fun d8 hd8=>?_⟩
 have w8:=Same.new hd8 (.tup [V.ref d7])
 refine ⟨⟨by decide,by decide⟩,.inr ⟨_,ad,aW (show 7<=1000 by decide),fun r9 H9 w9 hr9=>?_⟩⟩
 rw [dS] at hr9
 have e9:H9 d7=some (.tup []):=w9 _ _ (w8 _ _ ad)
 have z9:=(w7.trans w8).trans w9
 refine .inr ⟨_,_,z9 _ _ hr6,hr9,aW (show 12<=1000 by decide),fun r10 H10 w10 hr10=>?_⟩
 have tl10:Tl H10 (List.replicate 4 d1++[d4]++List.replicate 7 d7) lss12:=((gk 4 (w10 _ _ (z9 _ _ e6))).add (Tl.one (w10 _ _ (z9 _ _ e64)))).add (gk 7 (w10 _ _ e9))
 have h10:H10 r10=some (.tup ((List.replicate 4 d1++[d4]++List.replicate 7 d7).map V.ref)):=hr10
 clear w7 w8 w9 w10 hd7 hd8 hr9 z9 e9 e6 e64 hr6 hr10
 -- the heaviest
 refine ⟨Nat.zero_le _,fun d11 hd11=>?_⟩
 have w11:=Same.new hd11 (.tup [])
 refine ⟨d11,r10,[],_,lss12,12,1,rfl,ad,w11 _ _ h10,tl10.same w11,rfl,by decide,by decide,by decide,mj,by decide,fun _ e12 r12 H12 M12 y12 hM12 he12 hr12=>?_,fun z=>absurd (fQ 12 (by decide)) z⟩
 obtain ⟨p1,p2,p3,p4⟩:=hZ (M:=M12) (t:=12) (by decide) rfl mi hM12 (fQ 12 (by decide))
 generalize (jn [] 12 M12 fun r=>lss12.getD r [])=ts at hr12 p1 p2 p3 p4
 have p5:ts.sum=300:=p4.trans (by decide)
 have tsl:ts.length<=300:=by have:=cb p1.1;lia
 have z12:=w11.trans y12
 refine ⟨_,.inr he12,.ref r12,rfl,?_⟩
 refine ⟨"tuple",qr hr12,by decide,?_⟩
 refine ⟨ts,.inr hr12,?_⟩
 rw [p5]
 refine ⟨r12,ts,12,0,rfl,hr12,by lia,p1.nn,by decide,by decide,by decide,fun d13 qs13 H13 y13 hd13 tl13=>?_⟩
 rw [p3] at tl13
 have z13:=z12.trans y13
 refine ⟨_,_,.tup hd13 tl13.dat,.tup (z13 _ _ h10) (tl10.same z13).dat,bx _,bx _,?_⟩
 rw [if_pos rfl,dL (bx _)]
 clear hd13 tl13 z12 z13 hr12 he12 h10 tl10 hd11 w11 y12 y13 p1 p2 p3 p4 p5 tsl
 -- the stairs
 refine ⟨_,rfl,?_⟩
 refine ⟨⟨by decide,by decide,by decide⟩,fun g14 hg14=>?_⟩
 refine ⟨24,0,-1,ad,by decide,by decide,by decide,fun S hS=>?_⟩
 have hSS:upd (upd H13 g14 (tZ g14 24 0 (-1))) S (.tup (((List.range (Builtin.Range.rangeSize 24 0 (-1)).toNat).map fun (k:Nat)=>(24:Int)+(k:Int)*(-1)).map V.int)) S=some (.tup (stL.map V.int)):=ad
 generalize upd (upd H13 g14 (tZ g14 24 0 (-1))) S (.tup (((List.range (Builtin.Range.rangeSize 24 0 (-1)).toNat).map fun (k:Nat)=>(24:Int)+(k:Int)*(-1)).map V.int))=H15 at hSS
 refine ⟨Nat.zero_le _,fun d16 hd16=>?_⟩
 have w16:=Same.new hd16 (.tup [])
 refine ⟨Nat.zero_le _,fun d17 hd17=>?_⟩
 have w17:=Same.new hd17 (.tup [])
 refine ⟨by show 2<=sizeLine;decide,fun d18 hd18=>?_⟩
 have w18:=Same.new hd18 (.tup [V.ref d16,.ref d17])
 have tl18:Tl (upd (upd (upd H15 d16 (.tup [])) d17 (.tup [])) d18 (.tup [V.ref d16,.ref d17])) [d16,d17] (List.replicate 2 []):=(Tl.one (ns:=[]) (w18 _ _ (w17 _ _ ad))).add (Tl.one (ns:=[]) (w18 _ _ ad))
 have z18:=(w16.trans w17).trans w18
 have h18:upd (upd (upd H15 d16 (.tup [])) d17 (.tup [])) d18 (.tup [V.ref d16,.ref d17]) d18=some (.tup ([d16,d17].map V.ref)):=ad
 generalize upd (upd (upd H15 d16 (.tup [])) d17 (.tup [])) d18 (.tup [V.ref d16,.ref d17])=H18 at tl18 z18 h18
 refine ⟨S,d18,stL,_,_,2,0,rfl,z18 _ _ hSS,h18,tl18,rfl,by decide,by decide,by decide,by decide,by decide,fun _ e19 r19 H19 M19 y19 _ he19 hr19=>?_,fun z=>absurd kW z⟩
 rw [iA (by decide) kW] at hr19
 refine ⟨_,.inr he19,.ref r19,rfl,?_⟩
 refine ⟨.ref r19,.ref S,_,rfl,.ints hr19,.ints (y19 _ _ (z18 _ _ hSS)),pF (by decide),fun H20 y20=>?_⟩
 clear y20 hr19 he19 y19 tl18 z18 h18 w16 w17 w18 hd16 hd17 hd18 hSS hS hg14
 -- by 1,and one part
 refine ⟨Nat.zero_le _,fun d21 hd21=>?_⟩
 have w21:=Same.new hd21 (.tup [])
 refine ⟨by show 2<=sizeLine;decide,fun d22 hd22=>?_⟩
 have w22:=Same.new hd22 (.tup [V.int 4,.int 2])
 refine ⟨by show 1<=sizeLine;decide,fun d23 hd23=>?_⟩
 have w23:=Same.new hd23 (.tup [V.ref d22])
 have h21:upd (upd (upd H20 d21 (.tup [])) d22 (.tup [V.int 4,.int 2])) d23 (.tup [V.ref d22]) d21=some (.tup (([]:List Int).map V.int)):=w23 _ _ (w22 _ _ ad)
 have h22:upd (upd (upd H20 d21 (.tup [])) d22 (.tup [V.int 4,.int 2])) d23 (.tup [V.ref d22]) d22=some (.tup (([4,2]:List Int).map V.int)):=w23 _ _ ad
 have h23:upd (upd (upd H20 d21 (.tup [])) d22 (.tup [V.int 4,.int 2])) d23 (.tup [V.ref d22]) d23=some (.tup ([d22].map V.ref)):=ad
 generalize upd (upd (upd H20 d21 (.tup [])) d22 (.tup [V.int 4,.int 2])) d23 (.tup [V.ref d22])=H23 at h21 h22 h23
 refine ⟨d21,d23,[],[d22],[[4,2]],1,2,rfl,h21,h23,Tl.one h22,rfl,by decide,by decide,by decide,by decide,by decide,fun _ e24 r24 H24 M24 y24 hM24 he24 hr24=>?_,fun z=>absurd (fQ 1 (by decide)) z⟩
 obtain ⟨p1,p2,p3,p4⟩:=hZ (M:=M24) (t:=1) (by decide) rfl ft_all hM24 (fQ 1 (by decide))
 have p5:(jn [] 1 M24 fun r=>[[4,2]].getD r [])=[4,2]:=by
  have e:[quo (jn [] 1 M24 fun r=>[[4,2]].getD r []) 1 0]=[[4,2]]:=p3
  rw [rO p1] at e
  exact List.head_eq_of_cons_eq e
 rw [p5] at hr24
 refine ⟨_,.inr he24,.ref r24,rfl,?_⟩
 refine ⟨by show 2<=sizeLine;decide,fun d25 hd25=>?_⟩
 have w25:=Same.new hd25 (.tup [V.int 4,.int 2])
 refine ⟨.ref r24,.ref d25,.tuple ([4,2].map PyData.int),rfl,.ints (w25 _ _ hr24),.ints ad,pF (by decide),fun H26 y26=>?_⟩
 clear y26 w25 hd25 hr24 he24 y24 h21 h22 h23 w21 w22 w23 hd21 hd22 hd23 p1 p2 p3 p4 p5
 refine ⟨by show 1<=sizeLine;decide,fun d27 hd27=>?_⟩
 have w27:=Same.new hd27 (.tup [V.int 1])
 refine ⟨Nat.zero_le _,fun d28 hd28=>?_⟩
 have w28:=Same.new hd28 (.tup [])
 refine ⟨Nat.zero_le _,fun d29 hd29=>?_⟩
 have w29:=Same.new hd29 (.tup [])
 refine ⟨by show 2<=sizeLine;decide,fun d30 hd30=>?_⟩
 have w30:=Same.new hd30 (.tup [V.ref d28,.ref d29])
 have tl30:Tl (upd (upd (upd (upd H26 d27 (.tup [V.int 1])) d28 (.tup [])) d29 (.tup [])) d30 (.tup [V.ref d28,.ref d29])) [d28,d29] (List.replicate 2 []):=(Tl.one (ns:=[]) (w30 _ _ (w29 _ _ ad))).add (Tl.one (ns:=[]) (w30 _ _ ad))
 have h27:upd (upd (upd (upd H26 d27 (.tup [V.int 1])) d28 (.tup [])) d29 (.tup [])) d30 (.tup [V.ref d28,.ref d29]) d27=some (.tup (([1]:List Int).map V.int)):=w30 _ _ (w29 _ _ (w28 _ _ ad))
 have h30:upd (upd (upd (upd H26 d27 (.tup [V.int 1])) d28 (.tup [])) d29 (.tup [])) d30 (.tup [V.ref d28,.ref d29]) d30=some (.tup ([d28,d29].map V.ref)):=ad
 generalize upd (upd (upd (upd H26 d27 (.tup [V.int 1])) d28 (.tup [])) d29 (.tup [])) d30 (.tup [V.ref d28,.ref d29])=H30 at tl30 h27 h30
 refine ⟨d27,d30,[1],_,_,2,0,rfl,h27,h30,tl30,rfl,by decide,by decide,by decide,by decide,by decide,fun _ e31 r31 H31 M31 y31 _ he31 hr31=>?_,fun z=>absurd lY z⟩
 rw [iA (by decide) lY] at hr31
 refine ⟨_,.inr he31,.ref r31,rfl,?_⟩
 refine ⟨by show 1<=sizeLine;decide,fun d32 hd32=>?_⟩
 have w32:=Same.new hd32 (.tup [V.int 1])
 refine ⟨.ref r31,.ref d32,.tuple ([1].map PyData.int),rfl,.ints (w32 _ _ hr31),.ints ad,pF (by decide),fun H33 y33=>?_⟩
 exact rt _
end
theorem pick2 {r:Int}:∃ mo:Int,atI [V.int 40,.int 150] (if decide (V.int r=V.int 0)=true then 1 else 0)=some (.int mo)/\0<=mo/\mo<=150:=by
 by_cases h:r=0
 · rw [if_pos (by rw [h];rfl)];exact ⟨150,rfl,by decide,by decide⟩
 · rw [if_neg (by simpa using h)];exact ⟨40,rfl,by decide,by decide⟩
section
variable {P:Program} {w:World} {K:PySem.W.Frag} {mg:Str->Option Value} {base:Heap} {f:Addr} {fd:FuncData} {c0 c1 c2 c3 c4 c5 c6 c7 c8 c9:Addr}
theorem sc_law:FnScope ["_law_script","_law_state","_law_turn","_law_way","_law_t","_law_most","_law_loose","_law_inner","_law_core","_law_left","_law_threads","_law_k","_law_told","_law_caught","_law_light","_law_some","_law_one","_law_stairs"] ["_law_script"] (ah (top 33)):=⟨rfl,rfl,rfl,by decide +kernel,rfl,by decide +kernel,by decide +kernel⟩
def iU (K:PySem.W.Frag):Sp:=fun vs H Q _=>∃ (a:Addr) (ns:List Int),vs=[.ref a]/\SqL K H a (ns.map V.int)/\ns.length<=63/\∀ H',Q (.bl true) H'
theorem ok_law (N9:Nine K c2 c1 c2 c3 c4 c5 c6 c7 c8 c9) (me:PySem.W.kitOne K (.ref c2) (.ref c2)=some true) (G:Errs mg c0 c1 c2 c3 c4 c5 c6 c7 c8 c9) (F:Fun K "law" "law" (top 33) f fd) (m_all:mg "all" = none) (m_int:mg "int" = none) (m_isinstance:mg "isinstance" = none) (m_list:mg "list" = none) (m_min:mg "min" = none) (m_range:mg "range" = none) (m_sorted:mg "sorted" = none) (m_sum:mg "sum" = none) (m_tuple:mg "tuple" = none) (F_law_far_core:FnA P w K mg base "_law_far_core" 3 ["_law_state","_law_t"] oB) (F_law_hand:FnA P w K mg base "_law_hand" 1 ["_law_script"] (ij K)) (F_law_joined:FnA P w K mg base "_law_joined" 6 ["_law_core","_law_threads"] (kY c2)) (F_law_others:FnA P w K mg base "_law_others" 1 ["_law_error"] (oy K c1 c2 c3 c4 c5 c6 c7 c8 c9)) (F_law_parting:FnA P w K mg base "_law_parting" 2 ["_law_state","_law_most"] bM) (F_law_quotients:FnA P w K mg base "_law_quotients" 2 ["_law_parting_here","_law_t","_law_more"] gn) (F_law_same:FnA P w K mg base "_law_same" 4 ["_law_found","_law_due"] (ii 4)) (F_law_slid:FnA P w K mg base "_law_slid" 2 ["_law_parting_here","_law_t"] dR) (F_law_take:FnA P w K mg base "_law_take" 1 ["_law_state","_law_many"] dg):FnOk P w K mg base CX0 7 f fd ["_law_script"] (iU K):=by
 refine F.okz sc_law (fun vs H Q E h=>?_) (fun cdv A outer s H vs Q E hr h=>?_)
 · obtain ⟨a,ns,rfl,_⟩:=h;rfl
 obtain ⟨a,ns,rfl,hS,hl,q⟩:=h
 have nd:=sc_law.nd
 have hu:=hr.units
 obtain ⟨trT,hT,kT⟩:=law_t (outer:=outer) (H:=H) (E:=E) hr nd m_all m_int m_isinstance m_list m_min m_range m_sorted m_sum m_tuple F_law_joined F_law_quotients F_law_same
 obtain ⟨trC,hC,kC⟩:=law_c (outer:=outer) (H:=H) (E:=E) hr nd N9 me G.g2 m_all m_int m_isinstance m_list m_min m_range m_sorted m_sum m_tuple F_law_joined F_law_others F_law_slid F_law_quotients F_law_same
 obtain ⟨trB,hB,kB⟩:=law_b (outer:=outer) (H:=H) (E:=E) hr nd m_all m_int m_isinstance m_list m_min m_range m_sorted m_sum m_tuple F_law_parting F_law_take hC kC
 obtain ⟨trA,hA,kA⟩:=law_a (outer:=outer) (H:=H) (E:=E) hr nd m_all m_int m_isinstance m_list m_min m_range m_sorted m_sum m_tuple F_law_parting F_law_slid F_law_far_core hB kB
 refine ⟨_,(af (aq (i:=1) nd rfl (Or.inl rfl) (aJ F_law_hand hr (by decide) rfl (aa (zn 0) ae)))
  (af (bW PassesOwn.never rfl (bK rfl m_range (aa (ai au ag (aJ F_law_take hr (by decide) rfl (aa (zn 1) (aa ag ae)))) ae)) (ak (i:=2) nd rfl (Or.inl rfl)) (af (qW (i:=3) (j:=4) (k:=5) rfl nd rfl rfl rfl (by decide) (by decide) (by decide) rfl rfl rfl (aa (aJ F_law_take hr (by decide) rfl (aa (zn 1) (aa ag ae))) (aa (ai au ag (aJ F_law_take hr (by decide) rfl (aa (zn 1) (aa ag ae)))) (aa (br dy (bn (aa ag (aa ag ae))) (hV rfl m_int (aa (bX (cO hu) (aJ F_law_take hr (by decide) rfl (aa (zn 1) (aa ag ae))) ag (aI _)) ae) rfl rfl) (fun _ _=>rfl)) ae))) rfl)
  hA))
  hT)),?_⟩
 refine ⟨a,ns,rfl,hS,hl,fun p H1 hp y1 hh=>?_⟩
 refine ⟨p,5,0,rfl,hh,by decide,by decide,by decide,fun m H2 m0 m1 st2=>?_⟩
 refine ⟨1+m,rfl,by lia,by lia,eh (fun i σ H'=>i<=5/\Hand H' p (1+7000*i)/\∃ x2 x3 x4 x5 x6 x7 x8 x9 x10 x11 x12 x13 x14 x15 x16 x17,σ=[some (.ref a),some (.ref p),x2,x3,x4,x5,x6,x7,x8,x9,x10,x11,x12,x13,x14,x15,x16,x17]) ⟨by decide,st2.2.mono (by lia),_,_,_,_,_,_,_,_,_,_,_,_,_,_,_,_,rfl⟩ ?_ ?_⟩
 · rintro i σ H' hi ⟨_,hh,x2,x3,x4,x5,x6,x7,x8,x9,x10,x11,x12,x13,x14,x15,x16,x17,rfl⟩
   have hi5:i+1<=5:=by lia
   refine ⟨p,2,1+7000*i,rfl,hh,by lia,by decide,by decide,fun wy H3 wy0 wy1 st3=>?_⟩
   refine ⟨p,12,_,rfl,st3.2,by lia,by decide,by decide,fun tm H4 tm0 tm1 st4=>?_⟩
   refine ⟨by show 2<=sizeLine;decide,fun d hd=>?_⟩
   have dp:d≠p:=st4.2.ne hd
   have y5:=Same.new hd (.lst [V.int 40,.int 150])
   have hd5:upd H4 d (.lst [V.int 40,.int 150]) d=some (.lst [V.int 40,.int 150]):=ad
   have hh5:=st4.2.same y5
   generalize upd H4 d (.lst [V.int 40,.int 150])=H5 at hd5 hh5
   refine ⟨p,8,_,rfl,hh5,by lia,by decide,by decide,fun e H6 e0 e1 st6=>?_⟩
   obtain ⟨mo,emo,mo0,mo1⟩:=pick2 (r:=e)
   refine ⟨_,.inl (SqL.of (st6.1 _ _ dp hd5)),.int mo,emo,?_⟩
   obtain ⟨t,et⟩:∃ t:Nat,(t:Int)=1+tm:=⟨(1+tm).toNat,by lia⟩
   have g:=fun De=>kA p De H6 (some (.ref a)) (some (V.int (0+(i:Int)))) x6 x7 x8 x9 x10 x11 x12 x13 x14 x15 x16 x17 wy mo t (1+7000*i+3) (by lia) (by lia) (st6.2.mono (by lia)) (by lia) mo0 mo1
   simp only [et] at g
   exact g _ fun H' y6 y7 y8 y9 y10 y11 y12 y13 y14 y15 h=>⟨hi5,h.mono (by lia),_,_,_,_,_,_,_,_,_,_,_,_,_,_,_,_,rfl⟩
 · rintro σ H' ⟨_,_,x2,x3,x4,x5,x6,x7,x8,x9,x10,x11,x12,x13,x14,x15,x16,x17,rfl⟩
   exact kT _ H' _ _ _ _ _ _ _ _ _ _ _ _ _ _ _ _ _ _ fun H''=>q _
end
end K41
namespace K41
open PySem L2
theorem fnA {P:Program} {w:World} {K:PySem.W.Frag} {mg:Str->Option Value} {base:Heap} {x:Str} {k:Nat} {ps:List Str} {sp:Sp} {f:Addr} {fd:FuncData} (F:FnOk P w K mg base CX0 k f fd ps sp) (b:Binds K fd ps []) (kp:PySem.W.keepIn K (.ref f)=true) (m:mg x=some (.ref f)):FnA P w K mg base x k ps sp:=⟨⟨f,fd,F,b,kp,m⟩⟩
theorem us1 {α:Type} {p:List α->Prop} (h:∀ a,p [a]):∀ us:List α,us.length=1->p us
 | [a],_=>h a
theorem us2 {α:Type} {p:List α->Prop} (h:∀ a b,p [a,b]):∀ us:List α,us.length=2->p us
 | [a,b],_=>h a b
theorem us3 {α:Type} {p:List α->Prop} (h:∀ a b c,p [a,b,c]):∀ us:List α,us.length=3->p us
 | [a,b,c],_=>h a b c
theorem all_mk {l:PySem.W.OpenLaw} {w:World} {K:PySem.W.Frag} {h:Heap} {mg:Str->Option Value} {fa f1 f2 f3 f4 f5 f6 f7 f8 f9 f10 f11 f12 f13 f14 f15 f16 f17 f18 f19 f20 f21:Addr} (X:K.In h) (G:h.Ns mainGlobals mg) (hfa:mg "law" = some (.ref fa))
 {od1 an1 od2 an2 od3 an3 od4 an4 od5 an5 od6 an6 od7 an7 od8 an8 od9 an9 od10 an10 od11 an11 od12 an12 od13 an13 od14 an14 od15 an15 od16 an16 od17 an17 od18 an18 od19 an19 od20 an20 od21 an21:Option Addr} {sl1 sl2 sl3 sl4 sl5 sl6 sl7 sl8 sl9 sl10 sl11 sl12 sl13 sl14 sl15 sl16 sl17 sl18 sl19 sl20 sl21:Array (Option Value)} {oc1 kV1 dc1 pm1 cd1 ct1 oc2 kV2 dc2 pm2 cd2 ct2 oc3 kV3 dc3 pm3 cd3 ct3 oc4 kV4 dc4 pm4 cd4 ct4 oc5 kV5 dc5 pm5 cd5 ct5 oc6 kV6 dc6 pm6 cd6 ct6 oc7 kV7 dc7 pm7 cd7 ct7 oc8 kV8 dc8 pm8 cd8 ct8 oc9 kV9 dc9 pm9 cd9 ct9 oc10 kV10 dc10 pm10 cd10 ct10 oc11 kV11 dc11 pm11 cd11 ct11 oc12 kV12 dc12 pm12 cd12 ct12 oc13 kV13 dc13 pm13 cd13 ct13 oc14 kV14 dc14 pm14 cd14 ct14 oc15 kV15 dc15 pm15 cd15 ct15 oc16 kV16 dc16 pm16 cd16 ct16 oc17 kV17 dc17 pm17 cd17 ct17 oc18 kV18 dc18 pm18 cd18 ct18 oc19 kV19 dc19 pm19 cd19 ct19 oc20 kV20 dc20 pm20 cd20 ct20 oc21 kV21 dc21 pm21 cd21 ct21:Value}
 (a1:PySem.W.nsIn K mainGlobals "beads_of" = some (some (.ref f1))) (l1:K.lookup f1=some ⟨oc1,od1,.func (PySem.W.fnOf "beads_of" "beads_of" (aH (top 12)) (az (top 12)) (ah (top 12)) .none kV1 dc1 pm1 an1 cd1 ct1),sl1⟩) (c1:PySem.W.codeIn K cd1 "beads_of" = true) (k1:PySem.W.keepIn K (.ref f1)=true)
 (a2:PySem.W.nsIn K mainGlobals "parting_of" = some (some (.ref f2))) (l2:K.lookup f2=some ⟨oc2,od2,.func (PySem.W.fnOf "parting_of" "parting_of" (aH (top 13)) (az (top 13)) (ah (top 13)) .none kV2 dc2 pm2 an2 cd2 ct2),sl2⟩) (c2:PySem.W.codeIn K cd2 "parting_of" = true) (k2:PySem.W.keepIn K (.ref f2)=true)
 (a3:PySem.W.nsIn K mainGlobals "rounds_of" = some (some (.ref f3))) (l3:K.lookup f3=some ⟨oc3,od3,.func (PySem.W.fnOf "rounds_of" "rounds_of" (aH (top 14)) (az (top 14)) (ah (top 14)) .none kV3 dc3 pm3 an3 cd3 ct3),sl3⟩) (c3:PySem.W.codeIn K cd3 "rounds_of" = true) (k3:PySem.W.keepIn K (.ref f3)=true)
 (a4:PySem.W.nsIn K mainGlobals "runs_of" = some (some (.ref f4))) (l4:K.lookup f4=some ⟨oc4,od4,.func (PySem.W.fnOf "runs_of" "runs_of" (aH (top 15)) (az (top 15)) (ah (top 15)) .none kV4 dc4 pm4 an4 cd4 ct4),sl4⟩) (c4:PySem.W.codeIn K cd4 "runs_of" = true) (k4:PySem.W.keepIn K (.ref f4)=true)
 (a5:PySem.W.nsIn K mainGlobals "with_least_beads" = some (some (.ref f5))) (l5:K.lookup f5=some ⟨oc5,od5,.func (PySem.W.fnOf "with_least_beads" "with_least_beads" (aH (top 16)) (az (top 16)) (ah (top 16)) .none kV5 dc5 pm5 an5 cd5 ct5),sl5⟩) (c5:PySem.W.codeIn K cd5 "with_least_beads" = true) (k5:PySem.W.keepIn K (.ref f5)=true)
 (a6:PySem.W.nsIn K mainGlobals "apart" = some (some (.ref f6))) (l6:K.lookup f6=some ⟨oc6,od6,.func (PySem.W.fnOf "apart" "apart" (aH (top 17)) (az (top 17)) (ah (top 17)) .none kV6 dc6 pm6 an6 cd6 ct6),sl6⟩) (c6:PySem.W.codeIn K cd6 "apart" = true) (k6:PySem.W.keepIn K (.ref f6)=true)
 (a7:PySem.W.nsIn K mainGlobals "is_core" = some (some (.ref f7))) (l7:K.lookup f7=some ⟨oc7,od7,.func (PySem.W.fnOf "is_core" "is_core" (aH (top 18)) (az (top 18)) (ah (top 18)) .none kV7 dc7 pm7 an7 cd7 ct7),sl7⟩) (c7:PySem.W.codeIn K cd7 "is_core" = true) (k7:PySem.W.keepIn K (.ref f7)=true)
 (a8:PySem.W.nsIn K mainGlobals "joined" = some (some (.ref f8))) (l8:K.lookup f8=some ⟨oc8,od8,.func (PySem.W.fnOf "joined" "joined" (aH (top 19)) (az (top 19)) (ah (top 19)) .none kV8 dc8 pm8 an8 cd8 ct8),sl8⟩) (c8:PySem.W.codeIn K cd8 "joined" = true) (k8:PySem.W.keepIn K (.ref f8)=true)
 (a9:PySem.W.nsIn K mainGlobals "_law_hand" = some (some (.ref f9))) (l9:K.lookup f9=some ⟨oc9,od9,.func (PySem.W.fnOf "_law_hand" "_law_hand" (aH (top 21)) (az (top 21)) (ah (top 21)) .none kV9 dc9 pm9 an9 cd9 ct9),sl9⟩) (c9:PySem.W.codeIn K cd9 "_law_hand" = true) (k9:PySem.W.keepIn K (.ref f9)=true)
 (a10:PySem.W.nsIn K mainGlobals "_law_take" = some (some (.ref f10))) (l10:K.lookup f10=some ⟨oc10,od10,.func (PySem.W.fnOf "_law_take" "_law_take" (aH (top 22)) (az (top 22)) (ah (top 22)) .none kV10 dc10 pm10 an10 cd10 ct10),sl10⟩) (c10:PySem.W.codeIn K cd10 "_law_take" = true) (k10:PySem.W.keepIn K (.ref f10)=true)
 (a11:PySem.W.nsIn K mainGlobals "_law_parting" = some (some (.ref f11))) (l11:K.lookup f11=some ⟨oc11,od11,.func (PySem.W.fnOf "_law_parting" "_law_parting" (aH (top 23)) (az (top 23)) (ah (top 23)) .none kV11 dc11 pm11 an11 cd11 ct11),sl11⟩) (c11:PySem.W.codeIn K cd11 "_law_parting" = true) (k11:PySem.W.keepIn K (.ref f11)=true)
 (a12:PySem.W.nsIn K mainGlobals "_law_beads" = some (some (.ref f12))) (l12:K.lookup f12=some ⟨oc12,od12,.func (PySem.W.fnOf "_law_beads" "_law_beads" (aH (top 24)) (az (top 24)) (ah (top 24)) .none kV12 dc12 pm12 an12 cd12 ct12),sl12⟩) (c12:PySem.W.codeIn K cd12 "_law_beads" = true) (k12:PySem.W.keepIn K (.ref f12)=true)
 (a13:PySem.W.nsIn K mainGlobals "_law_by" = some (some (.ref f13))) (l13:K.lookup f13=some ⟨oc13,od13,.func (PySem.W.fnOf "_law_by" "_law_by" (aH (top 25)) (az (top 25)) (ah (top 25)) .none kV13 dc13 pm13 an13 cd13 ct13),sl13⟩) (c13:PySem.W.codeIn K cd13 "_law_by" = true) (k13:PySem.W.keepIn K (.ref f13)=true)
 (a14:PySem.W.nsIn K mainGlobals "_law_slid" = some (some (.ref f14))) (l14:K.lookup f14=some ⟨oc14,od14,.func (PySem.W.fnOf "_law_slid" "_law_slid" (aH (top 26)) (az (top 26)) (ah (top 26)) .none kV14 dc14 pm14 an14 cd14 ct14),sl14⟩) (c14:PySem.W.codeIn K cd14 "_law_slid" = true) (k14:PySem.W.keepIn K (.ref f14)=true)
 (a15:PySem.W.nsIn K mainGlobals "_law_quotients" = some (some (.ref f15))) (l15:K.lookup f15=some ⟨oc15,od15,.func (PySem.W.fnOf "_law_quotients" "_law_quotients" (aH (top 27)) (az (top 27)) (ah (top 27)) .none kV15 dc15 pm15 an15 cd15 ct15),sl15⟩) (c15:PySem.W.codeIn K cd15 "_law_quotients" = true) (k15:PySem.W.keepIn K (.ref f15)=true)
 (a16:PySem.W.nsIn K mainGlobals "_law_same" = some (some (.ref f16))) (l16:K.lookup f16=some ⟨oc16,od16,.func (PySem.W.fnOf "_law_same" "_law_same" (aH (top 28)) (az (top 28)) (ah (top 28)) .none kV16 dc16 pm16 an16 cd16 ct16),sl16⟩) (c16:PySem.W.codeIn K cd16 "_law_same" = true) (k16:PySem.W.keepIn K (.ref f16)=true)
 (a17:PySem.W.nsIn K mainGlobals "_law_others" = some (some (.ref f17))) (l17:K.lookup f17=some ⟨oc17,od17,.func (PySem.W.fnOf "_law_others" "_law_others" (aH (top 29)) (az (top 29)) (ah (top 29)) .none kV17 dc17 pm17 an17 cd17 ct17),sl17⟩) (c17:PySem.W.codeIn K cd17 "_law_others" = true) (k17:PySem.W.keepIn K (.ref f17)=true)
 (a18:PySem.W.nsIn K mainGlobals "_law_pushed" = some (some (.ref f18))) (l18:K.lookup f18=some ⟨oc18,od18,.func (PySem.W.fnOf "_law_pushed" "_law_pushed" (aH (top 30)) (az (top 30)) (ah (top 30)) .none kV18 dc18 pm18 an18 cd18 ct18),sl18⟩) (c18:PySem.W.codeIn K cd18 "_law_pushed" = true) (k18:PySem.W.keepIn K (.ref f18)=true)
 (a19:PySem.W.nsIn K mainGlobals "_law_far_core" = some (some (.ref f19))) (l19:K.lookup f19=some ⟨oc19,od19,.func (PySem.W.fnOf "_law_far_core" "_law_far_core" (aH (top 31)) (az (top 31)) (ah (top 31)) .none kV19 dc19 pm19 an19 cd19 ct19),sl19⟩) (c19:PySem.W.codeIn K cd19 "_law_far_core" = true) (k19:PySem.W.keepIn K (.ref f19)=true)
 (a20:PySem.W.nsIn K mainGlobals "_law_joined" = some (some (.ref f20))) (l20:K.lookup f20=some ⟨oc20,od20,.func (PySem.W.fnOf "_law_joined" "_law_joined" (aH (top 32)) (az (top 32)) (ah (top 32)) .none kV20 dc20 pm20 an20 cd20 ct20),sl20⟩) (c20:PySem.W.codeIn K cd20 "_law_joined" = true) (k20:PySem.W.keepIn K (.ref f20)=true)
 (a21:PySem.W.nsIn K mainGlobals "law" = some (some (.ref f21))) (l21:K.lookup f21=some ⟨oc21,od21,.func (PySem.W.fnOf "law" "law" (aH (top 33)) (az (top 33)) (ah (top 33)) .none kV21 dc21 pm21 an21 cd21 ct21),sl21⟩) (c21:PySem.W.codeIn K cd21 "law" = true) (k21:PySem.W.keepIn K (.ref f21)=true)
 {e0 e1 e2 e3 e4 e5 e6 e7 e8 e9:Addr} (ye0:PySem.W.nsIn K mainGlobals "PartError" = some (some (.ref e0))) (ye1:PySem.W.nsIn K mainGlobals "NoRow" = some (some (.ref e1))) (ye2:PySem.W.nsIn K mainGlobals "NoCore" = some (some (.ref e2))) (ye3:PySem.W.nsIn K mainGlobals "NoTurn" = some (some (.ref e3))) (ye4:PySem.W.nsIn K mainGlobals "NoPair" = some (some (.ref e4))) (ye5:PySem.W.nsIn K mainGlobals "NoList" = some (some (.ref e5))) (ye6:PySem.W.nsIn K mainGlobals "NoPlace" = some (some (.ref e6))) (ye7:PySem.W.nsIn K mainGlobals "NoText" = some (some (.ref e7))) (ye8:PySem.W.nsIn K mainGlobals "NoLine" = some (some (.ref e8))) (ye9:PySem.W.nsIn K mainGlobals "NotSo" = some (some (.ref e9))) (yE2:errB K e0 e2 [e1,e3,e4,e5,e6,e7,e8,e9]=true)
 (z1:PySem.W.nsIn K mainGlobals "enumerate" = some none) (z2:PySem.W.nsIn K mainGlobals "len" = some none) (z3:PySem.W.nsIn K mainGlobals "reversed" = some none) (z4:PySem.W.nsIn K mainGlobals "sorted" = some none) (z5:PySem.W.nsIn K mainGlobals "tuple" = some none) (z6:PySem.W.nsIn K mainGlobals "range" = some none) (z7:PySem.W.nsIn K mainGlobals "max" = some none) (z8:PySem.W.nsIn K mainGlobals "abs" = some none) (z9:PySem.W.nsIn K mainGlobals "int" = some none) (z10:PySem.W.nsIn K mainGlobals "min" = some none) (z11:PySem.W.nsIn K mainGlobals "list" = some none) (z12:PySem.W.nsIn K mainGlobals "dict" = some none) (z13:PySem.W.nsIn K mainGlobals "all" = some none) (z14:PySem.W.nsIn K mainGlobals "bool" = some none) (z15:PySem.W.nsIn K mainGlobals "isinstance" = some none) (z16:PySem.W.nsIn K mainGlobals "str" = some none) (z17:PySem.W.nsIn K mainGlobals "zip" = some none) (z18:PySem.W.nsIn K mainGlobals "ValueError" = some none) (z19:PySem.W.nsIn K mainGlobals "sum" = some none) :
 ∃ fd:FuncData,(∀ (s:Shared) (v:Value),BindsTo s fd ⟨[v],[]⟩ [("_law_script",v)])/\∀ base:Heap,K.In base->base.Ns mainGlobals mg->FnOk l.prog w K mg base CX0 7 fa fd ["_law_script"] (iU K):=by
 have e:=hfa.symm.trans (PySem.W.mg_of X G a21)
 cases e
 have F1:=aX (st:=top 12) l1 c1 k1
 have b1:=F1.binds (ps:=["parting","many"]) fun _ _ _ _ _ _=>us2 fun _ _=>rfl
 have F2:=aX (st:=top 13) l2 c2 k2
 have b2:=F2.binds (ps:=["beads"]) fun _ _ _ _ _ _=>us1 fun _=>rfl
 have F3:=aX (st:=top 14) l3 c3 k3
 have b3:=F3.binds (ps:=["parting","t"]) fun _ _ _ _ _ _=>us2 fun _ _=>rfl
 have F4:=aX (st:=top 15) l4 c4 k4
 have b4:=F4.binds (ps:=["parting","t","rounds"]) fun _ _ _ _ _ _=>us3 fun _ _ _=>rfl
 have F5:=aX (st:=top 16) l5 c5 k5
 have b5:=F5.binds (ps:=["numbers"]) fun _ _ _ _ _ _=>us1 fun _=>rfl
 have F6:=aX (st:=top 17) l6 c6 k6
 have b6:=F6.binds (ps:=["parting","t"]) fun _ _ _ _ _ _=>us2 fun _ _=>rfl
 have F7:=aX (st:=top 18) l7 c7 k7
 have b7:=F7.binds (ps:=["parting","t"]) fun _ _ _ _ _ _=>us2 fun _ _=>rfl
 have F8:=aX (st:=top 19) l8 c8 k8
 have b8:=F8.binds (ps:=["core","quotients"]) fun _ _ _ _ _ _=>us2 fun _ _=>rfl
 have F9:=aX (st:=top 21) l9 c9 k9
 have b9:=F9.binds (ps:=["_law_script"]) fun _ _ _ _ _ _=>us1 fun _=>rfl
 have F10:=aX (st:=top 22) l10 c10 k10
 have b10:=F10.binds (ps:=["_law_state","_law_many"]) fun _ _ _ _ _ _=>us2 fun _ _=>rfl
 have F11:=aX (st:=top 23) l11 c11 k11
 have b11:=F11.binds (ps:=["_law_state","_law_most"]) fun _ _ _ _ _ _=>us2 fun _ _=>rfl
 have F12:=aX (st:=top 24) l12 c12 k12
 have b12:=F12.binds (ps:=["_law_parting_here","_law_t","_law_more"]) fun _ _ _ _ _ _=>us3 fun _ _ _=>rfl
 have F13:=aX (st:=top 25) l13 c13 k13
 have b13:=F13.binds (ps:=["_law_numbers"]) fun _ _ _ _ _ _=>us1 fun _=>rfl
 have F14:=aX (st:=top 26) l14 c14 k14
 have b14:=F14.binds (ps:=["_law_parting_here","_law_t"]) fun _ _ _ _ _ _=>us2 fun _ _=>rfl
 have F15:=aX (st:=top 27) l15 c15 k15
 have b15:=F15.binds (ps:=["_law_parting_here","_law_t","_law_more"]) fun _ _ _ _ _ _=>us3 fun _ _ _=>rfl
 have F16:=aX (st:=top 28) l16 c16 k16
 have b16:=F16.binds (ps:=["_law_found","_law_due"]) fun _ _ _ _ _ _=>us2 fun _ _=>rfl
 have F17:=aX (st:=top 29) l17 c17 k17
 have b17:=F17.binds (ps:=["_law_error"]) fun _ _ _ _ _ _=>us1 fun _=>rfl
 have F18:=aX (st:=top 30) l18 c18 k18
 have b18:=F18.binds (ps:=["_law_numbers","_law_threads"]) fun _ _ _ _ _ _=>us2 fun _ _=>rfl
 have F19:=aX (st:=top 31) l19 c19 k19
 have b19:=F19.binds (ps:=["_law_state","_law_t"]) fun _ _ _ _ _ _=>us2 fun _ _=>rfl
 have F20:=aX (st:=top 32) l20 c20 k20
 have b20:=F20.binds (ps:=["_law_core","_law_threads"]) fun _ _ _ _ _ _=>us2 fun _ _=>rfl
 have F21:=aX (st:=top 33) l21 c21 k21
 have m_enumerate:=PySem.W.mg_none_of X G z1
 have m_len:=PySem.W.mg_none_of X G z2
 have m_reversed:=PySem.W.mg_none_of X G z3
 have m_sorted:=PySem.W.mg_none_of X G z4
 have m_tuple:=PySem.W.mg_none_of X G z5
 have m_range:=PySem.W.mg_none_of X G z6
 have m_max:=PySem.W.mg_none_of X G z7
 have m_abs:=PySem.W.mg_none_of X G z8
 have m_int:=PySem.W.mg_none_of X G z9
 have m_min:=PySem.W.mg_none_of X G z10
 have m_list:=PySem.W.mg_none_of X G z11
 have m_dict:=PySem.W.mg_none_of X G z12
 have m_all:=PySem.W.mg_none_of X G z13
 have m_bool:=PySem.W.mg_none_of X G z14
 have m_isinstance:=PySem.W.mg_none_of X G z15
 have m_str:=PySem.W.mg_none_of X G z16
 have m_zip:=PySem.W.mg_none_of X G z17
 have m_ValueError:=PySem.W.mg_none_of X G z18
 have m_sum:=PySem.W.mg_none_of X G z19
 have G_E:Errs mg e0 e1 e2 e3 e4 e5 e6 e7 e8 e9:=⟨PySem.W.mg_of X G ye0,PySem.W.mg_of X G ye1,PySem.W.mg_of X G ye2,PySem.W.mg_of X G ye3,PySem.W.mg_of X G ye4,PySem.W.mg_of X G ye5,PySem.W.mg_of X G ye6,PySem.W.mg_of X G ye7,PySem.W.mg_of X G ye8,PySem.W.mg_of X G ye9⟩
 have KE2:=ErrK.of yE2
 have N9_2:Nine K e2 e1 e2 e3 e4 e5 e6 e7 e8 e9:=⟨KE2.cls,KE2.vE,false,true,false,false,false,false,false,false,false,KE2.ot _ (by simp),KE2.me,KE2.ot _ (by simp),KE2.ot _ (by simp),KE2.ot _ (by simp),KE2.ot _ (by simp),KE2.ot _ (by simp),KE2.ot _ (by simp),KE2.ot _ (by simp),by decide⟩
 refine ⟨PySem.W.fnOf "law" "law" (aH (top 33)) (az (top 33)) (ah (top 33)) .none kV21 dc21 pm21 an21 cd21 ct21,fun s v=>.of_eq rfl,fun base _ _=>?_⟩
 have A1:FnA l.prog w K mg base "beads_of" 1 ["parting","many"] bQ:=fnA (iz F1 m_enumerate m_len) b1 k1 (PySem.W.mg_of X G a1)
 have A2:FnA l.prog w K mg base "parting_of" 1 ["beads"] eP:=fnA (ok_po F2 m_enumerate m_reversed m_sorted m_tuple) b2 k2 (PySem.W.mg_of X G a2)
 have A3:FnA l.prog w K mg base "rounds_of" 1 ["parting","t"] bG:=fnA (gv F3 m_len) b3 k3 (PySem.W.mg_of X G a3)
 have A4:FnA l.prog w K mg base "runs_of" 2 ["parting","t","rounds"] cm:=fnA (jO F4 m_range A1) b4 k4 (PySem.W.mg_of X G a4)
 have A5:FnA l.prog w K mg base "with_least_beads" 2 ["numbers"] rf:=fnA (ok_wl F5 m_enumerate m_len m_range A2) b5 k5 (PySem.W.mg_of X G a5)
 have A6:FnA l.prog w K mg base "apart" 3 ["parting","t"] fI:=fnA (pE F6 m_len m_tuple A3 A4 A2 A5) b6 k6 (PySem.W.mg_of X G a6)
 have A7:FnA l.prog w K mg base "is_core" 4 ["parting","t"] oA:=fnA (ok_ic F7 A6) b7 k7 (PySem.W.mg_of X G a7)
 have B8:FnR l.prog w K mg base "joined" 5 ["core","quotients"] (fun vs H Q E=>oz vs H Q E\/rj e2 vs H Q E):=⟨⟨_,_,(FnOk.toX (ok_jn F8 m_enumerate m_len m_max A1 A7 A2 A3 A4)).both (ok_jx KE2.ra (PySem.W.mg_of X G ye2) m_len F8 A7),b8,k8,(PySem.W.mg_of X G a8)⟩⟩
 have A8:FnA l.prog w K mg base "joined" 5 ["core","quotients"] oz:=fnA (ok_jn F8 m_enumerate m_len m_max A1 A7 A2 A3 A4) b8 k8 (PySem.W.mg_of X G a8)
 have A9:FnA l.prog w K mg base "_law_hand" 1 ["_law_script"] (ij K):=fnA (sQ F9 m_abs m_enumerate m_len) b9 k9 (PySem.W.mg_of X G a9)
 have A10:FnA l.prog w K mg base "_law_take" 1 ["_law_state","_law_many"] dg:=fnA (sN F10) b10 k10 (PySem.W.mg_of X G a10)
 have A11:FnA l.prog w K mg base "_law_parting" 2 ["_law_state","_law_most"] bM:=fnA (jP F11 m_int m_min m_sorted m_tuple A10) b11 k11 (PySem.W.mg_of X G a11)
 have A12:FnA l.prog w K mg base "_law_beads" 1 ["_law_parting_here","_law_t","_law_more"] cL:=fnA (lZ F12 m_enumerate m_len m_list) b12 k12 (PySem.W.mg_of X G a12)
 have A13:FnA l.prog w K mg base "_law_by" 1 ["_law_numbers"] eP:=fnA (ok_by F13 m_enumerate m_len m_sorted m_tuple) b13 k13 (PySem.W.mg_of X G a13)
 have A14:FnA l.prog w K mg base "_law_slid" 2 ["_law_parting_here","_law_t"] dR:=fnA (sO F14 m_dict m_list m_sorted A12 A13) b14 k14 (PySem.W.mg_of X G a14)
 have A15:FnA l.prog w K mg base "_law_quotients" 2 ["_law_parting_here","_law_t","_law_more"] gn:=fnA (ok_quo F15 m_range m_tuple A12 A13) b15 k15 (PySem.W.mg_of X G a15)
 have A16:FnA l.prog w K mg base "_law_same" 4 ["_law_found","_law_due"] (ii 4):=fnA (sP 4 F16 m_all m_bool m_int m_isinstance m_len m_list m_str m_tuple m_zip b16 k16 (PySem.W.mg_of X G a16)) b16 k16 (PySem.W.mg_of X G a16)
 have A17:FnA l.prog w K mg base "_law_others" 1 ["_law_error"] (oy K e1 e2 e3 e4 e5 e6 e7 e8 e9):=fnA (ok_ot G_E F17 m_ValueError m_isinstance) b17 k17 (PySem.W.mg_of X G a17)
 have A18:FnA l.prog w K mg base "_law_pushed" 2 ["_law_numbers","_law_threads"] rh:=fnA (ok_pu F18 m_enumerate m_len m_list m_max m_min m_zip A13) b18 k18 (PySem.W.mg_of X G a18)
 have A19:FnA l.prog w K mg base "_law_far_core" 3 ["_law_state","_law_t"] oB:=fnA (ok_fc F19 m_enumerate m_list m_range m_sum A18 A10) b19 k19 (PySem.W.mg_of X G a19)
 have A20:FnA l.prog w K mg base "_law_joined" 6 ["_law_core","_law_threads"] (kY e2):=fnA (ok_lj KE2.mt G_E F20 B8) b20 k20 (PySem.W.mg_of X G a20)
 exact ok_law N9_2 KE2.me G_E F21 m_all m_int m_isinstance m_list m_min m_range m_sorted m_sum m_tuple A19 A9 A20 A17 A11 A15 A16 A14 A10
theorem walk {l:PySem.W.OpenLaw} {q:Program} {loose:List Str} {XP:(Str->Option Value)->Heap->Prop} {YP:World->Heap->Prop} {d:DefRec} {K:Params->PySem.W.Frag} (hn:l.most=some 63) (hdf:d.params.defaults=[])
 (hY:∀ (w:World) (h:Heap),YP w h->(K w.params).In h)
 (F:∀ (w:World) (mg:Str->Option Value) (fa:Addr) (h:Heap),(K w.params).In h->h.Ns mainGlobals mg->mg d.name=some (.ref fa) ->
   ∃ fd:FuncData,(∀ (s:Shared) (u:Value),BindsTo s fd ⟨[u],[]⟩ [("_law_script",u)])/\∀ base:Heap,(K w.params).In base->base.Ns mainGlobals mg->FnOk l.prog w (K w.params) mg base CX0 7 fa fd ["_law_script"] (iU (K w.params))) :
 PySem.W.WalkO q loose XP YP l.row.toRowW d [] (fun f vs=>PySem.call f vs):=
 L2.walk_of (n:=63) (k:=7) (x:="_law_script") (CX:=fun _=>CX0) (sp:=fun w=>iU (K w.params)) hn (by decide) hdf ⟨rfl,by decide,by decide,rfl⟩ hY F (fun _ _ a ns hl _ hS=>⟨a,ns,rfl,hS,hl,fun _=>rfl⟩) fun _ _ _ _ _ z=>z
end K41
namespace PySem.W.Fast
theorem tw6563985509705473164:True:=⟨⟩
theorem tw4568741836943179404:True:=⟨⟩
theorem tw16396684007273165192:True:=⟨⟩
theorem tw2699033607259668469:True:=⟨⟩
theorem tw1997514500417148412:True:=⟨⟩
theorem tw11349922838550073083:True:=⟨⟩
theorem tw15253339494667238706:True:=⟨⟩
theorem tw18155245207743464202:True:=⟨⟩
theorem tw5372793197770107524:True:=⟨⟩
theorem tw16903279181992566447:True:=⟨⟩
theorem tw1046734930524083082:True:=⟨⟩
theorem tw9982163566871319806:True:=⟨⟩
theorem tw251400831194622348:True:=⟨⟩
theorem tw14233113664024331941:True:=⟨⟩
theorem tw4209462376809191271:True:=⟨⟩
theorem tw9585896788653317365:True:=⟨⟩
theorem tw11232466903250735438:True:=⟨⟩
theorem tw16389259378579036237:True:=⟨⟩
theorem tw14288942417380835680:True:=⟨⟩
theorem tw3007692921676089745:True:=⟨⟩
theorem tw17389728648922471290:True:=⟨⟩
theorem tw14883071959449499172:True:=⟨⟩
theorem tw14762185619895607355:True:=⟨⟩
theorem tw14891169247162882340:True:=⟨⟩
end PySem.W.Fast
open PySem PySem.W PyProof.Rows
set_option maxRecDepth 100000 in
set_option maxHeartbeats 0 in
theorem PySem.Challenge.cw_partrests_k41_joined_holds : PySem.Challenge.rw_partrests_k41_joined.Holds := by
 w_on;o_law;k_head;(case hw=>w_witness2)
 k_fill
 refine K41.walk (l:=PySem.Challenge.rw_partrests_k41_joined) rfl rfl (fun w h Y=>PySem.W.kIn_of Y) ?F
 case F=>
  intro w mg fa h KX G hmg
  refine' K41.all_mk KX G hmg ?a1 ?l1 ?c1 ?k1 ?a2 ?l2 ?c2 ?k2 ?a3 ?l3 ?c3 ?k3 ?a4 ?l4 ?c4 ?k4 ?a5 ?l5 ?c5 ?k5 ?a6 ?l6 ?c6 ?k6 ?a7 ?l7 ?c7 ?k7 ?a8 ?l8 ?c8 ?k8 ?a9 ?l9 ?c9 ?k9 ?a10 ?l10 ?c10 ?k10 ?a11 ?l11 ?c11 ?k11 ?a12 ?l12 ?c12 ?k12 ?a13 ?l13 ?c13 ?k13 ?a14 ?l14 ?c14 ?k14 ?a15 ?l15 ?c15 ?k15 ?a16 ?l16 ?c16 ?k16 ?a17 ?l17 ?c17 ?k17 ?a18 ?l18 ?c18 ?k18 ?a19 ?l19 ?c19 ?k19 ?a20 ?l20 ?c20 ?k20 ?a21 ?l21 ?c21 ?k21  ?ye0 ?ye1 ?ye2 ?ye3 ?ye4 ?ye5 ?ye6 ?ye7 ?ye8 ?ye9 ?yE2 ?z1 ?z2 ?z3 ?z4 ?z5 ?z6 ?z7 ?z8 ?z9 ?z10 ?z11 ?z12 ?z13 ?z14 ?z15 ?z16 ?z17 ?z18 ?z19
  (case a1=>k_is);(case l1=>k_is);(case c1=>k_is);(case k1=>k_is)
  (case a2=>k_is);(case l2=>k_is);(case c2=>k_is);(case k2=>k_is)
  (case a3=>k_is);(case l3=>k_is);(case c3=>k_is);(case k3=>k_is)
  (case a4=>k_is);(case l4=>k_is);(case c4=>k_is);(case k4=>k_is)
  (case a5=>k_is);(case l5=>k_is);(case c5=>k_is);(case k5=>k_is)
  (case a6=>k_is);(case l6=>k_is);(case c6=>k_is);(case k6=>k_is)
  (case a7=>k_is);(case l7=>k_is);(case c7=>k_is);(case k7=>k_is)
  (case a8=>k_is);(case l8=>k_is);(case c8=>k_is);(case k8=>k_is)
  (case a9=>k_is);(case l9=>k_is);(case c9=>k_is);(case k9=>k_is)
  (case a10=>k_is);(case l10=>k_is);(case c10=>k_is);(case k10=>k_is)
  (case a11=>k_is);(case l11=>k_is);(case c11=>k_is);(case k11=>k_is)
  (case a12=>k_is);(case l12=>k_is);(case c12=>k_is);(case k12=>k_is)
  (case a13=>k_is);(case l13=>k_is);(case c13=>k_is);(case k13=>k_is)
  (case a14=>k_is);(case l14=>k_is);(case c14=>k_is);(case k14=>k_is)
  (case a15=>k_is);(case l15=>k_is);(case c15=>k_is);(case k15=>k_is)
  (case a16=>k_is);(case l16=>k_is);(case c16=>k_is);(case k16=>k_is)
  (case a17=>k_is);(case l17=>k_is);(case c17=>k_is);(case k17=>k_is)
  (case a18=>k_is);(case l18=>k_is);(case c18=>k_is);(case k18=>k_is)
  (case a19=>k_is);(case l19=>k_is);(case c19=>k_is);(case k19=>k_is)
  (case a20=>k_is);(case l20=>k_is);(case c20=>k_is);(case k20=>k_is)
  (case a21=>k_is);(case l21=>k_is);(case c21=>k_is);(case k21=>k_is)
  (case ye0=>k_is)
  (case ye1=>k_is)
  (case ye2=>k_is)
  (case ye3=>k_is)
  (case ye4=>k_is)
  (case ye5=>k_is)
  (case ye6=>k_is)
  (case ye7=>k_is)
  (case ye8=>k_is)
  (case ye9=>k_is)
  (case yE2=>with_unfolding_all rfl)
  (case z1=>k_is)
  (case z2=>k_is)
  (case z3=>k_is)
  (case z4=>k_is)
  (case z5=>k_is)
  (case z6=>k_is)
  (case z7=>k_is)
  (case z8=>k_is)
  (case z9=>k_is)
  (case z10=>k_is)
  (case z11=>k_is)
  (case z12=>k_is)
  (case z13=>k_is)
  (case z14=>k_is)
  (case z15=>k_is)
  (case z16=>k_is)
  (case z17=>k_is)
  (case z18=>k_is)
  (case z19=>k_is)
end
