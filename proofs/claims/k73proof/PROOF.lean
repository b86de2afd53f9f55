import PyProof.Rows.All
import OpenK.KLine
import KE.KIntText
import KE.KIsAll
import KE.KSortTup
import Wide.FinOn
import Lean
import PyProof.EqAt
import PyProof.EqKinds
import PyProof.TupleCall
import PySem.Challenge.RW_partrests_k73_ranks_and_claims_answered
set_option Elab.async false
set_option linter.all false
set_option maxRecDepth 100000
set_option hygiene false
local macro_rules
|`(.($n:num))=>do
 let s<-`(f
  ⟨rfl,rfl,rfl,by decide +kernel,rfl,by decide +kernel,by decide +kernel⟩
  (starEach (e::es) X.env=(false,eval e X.env)::starEach es X.env)
  (fun cdv A outer s H vs Q E hr h=>?_)
  ((backTo pos (starEach es X.env)).any (·.1)=false)
  (aC (aj (av hu) (zn 2) am (ao _)) ax ak)
  ⟨rfl,by decide +kernel,by decide +kernel,rfl,rfl⟩
  (aD aS (zn 0) ah (fun _ _=>rfl))
  ((e::es).length+([]:List Keyword).length+(if ([]:List Keyword).isEmpty then 0 else 1)<30)
  (Or.inl rfl)
  (false,eval e X.env)
  (fun vs H Q E h=>?_)
  (fun _ _=>rfl)
  (au F_law_take hr (by decide) rfl (aa (zn 0) (aa ah ab)))
  (starEach es X.env)
  (Inv X pins σ H s)
  (model X.prog X.w)
  (s.heap.objs.size+1)
  (HO.tup [V.str "few",.str "box"])
  (model prog w)
  (Str.ofString " ")
  (.ListComp elt [⟨tg,iter,ifs,0⟩] scope pos)
  (Value->Shared->Prop)
  (backToKw cpos (keywordEach [] X.env))
  (backTo cpos (starEach (e::es) X.env))
  (SortSt.mk' (kindOf st3) (arrOf st3) (pendingOf st3) g (failedOf st3))
  (x == ("__debug__" : Str))
  (HO.tup [V.str "most",.str "box"])
  (cW X nv ix scope C s₀ H₀ fp)
  (aI rfl m_len (aa (zn 0) ab) rfl rfl)
  (aa (zn 1) ab)
  (if (n:Int)<(k:Int) then (n:Int) else (k:Int))
  (List (Addr×Obj))
  (Str->Option Value))
 return s.raw[1][n.getNat]
local macro_rules
|`(tactic|sleep $n:num)=>do
 let s<-`(tactic|(
  intro pins s σ H x y v u Q I rx ry h
  intro pins s σ H xs us Q I r h
  (refine ⟨by rw [zA0,zA0,zB3];exact aE (by lia),?_⟩)
  obtain ⟨f0,f1,f2,f3,f4,f5⟩:=hf it (by simp)
  intro X hP hw hK hc i pins s σ H E I hf st hg))
 return s.raw[1][0][0][2*n.getNat]
noncomputable section
abbrev zA0:=@List.length_map
abbrev zA1:=@Nat.le_refl
abbrev zA2:=@List.size_toArray
abbrev zA3:=@List.mem_cons_self
abbrev zA4:=@List.length_append
abbrev zA5:=@List.mem_cons_of_mem
abbrev zA6:=@List.take_of_length_le
abbrev zA7:=@List.map_append
abbrev zA8:=@List.mem_cons
abbrev zA9:=@List.getD_eq_getElem?_getD
abbrev zB0:=@Nat.zero_le
abbrev zB1:=@Bool.false_ne_true
abbrev zB2:=@List.mem_append_right
abbrev zB3:=@List.length_take
abbrev zB4:=@List.getElem_mem
abbrev zB5:=@List.length_cons
abbrev zB6:=@Array.length_toList
abbrev zB7:=@List.mem_append
abbrev zB8:=@List.all_eq_true
abbrev zB9:=@Nat.lt_of_lt_of_le
abbrev zC0:=@Bool.false_eq_true
abbrev zC1:=@List.append_assoc
abbrev zC2:=@Nat.ne_of_lt
abbrev zC3:=@List.take_succ
abbrev zC4:=@List.pairwise_append
abbrev zC5:=@List.map_cons
abbrev zC6:=@List.mem_singleton
abbrev zC7:=@List.flatten_cons
abbrev zC8:=@List.length_replicate
abbrev zC9:=@List.append_nil
abbrev zD0:=@List.drop_eq_getElem_cons
abbrev zD1:=@List.take_append_drop
abbrev zD2:=@List.mem_map
abbrev zD3:=@List.mem_of_getElem?
abbrev zD4:=@Int.le_trans
abbrev zD5:=@List.mem_iff_getElem
abbrev zD6:=@Bool.and_eq_true
abbrev zD7:=@Int.le_of_lt
abbrev zD8:=@Nat.lt_irrefl
abbrev zD9:=@List.lookup_cons
abbrev zE0:=@List.sum_cons
abbrev zE1:=@List.pairwise_iff_getElem
abbrev zE2:=@List.cons_ne_nil
abbrev zE3:=@Int.natCast_add
abbrev zE4:=@List.take_zero
abbrev zE5:=@Int.le_refl
abbrev zE6:=@Nat.le_trans
abbrev zE7:=@List.mem_range
abbrev zE8:=@List.length_drop
abbrev zE9:=@Nat.add_sub_cancel_left
abbrev zF0:=@Nat.lt_succ_self
abbrev zF1:=@List.length_pos_iff
abbrev zF2:=@List.replicate_succ
abbrev zF3:=@List.getElem_take
abbrev zF4:=@List.Perm.append_left
abbrev zF5:=@Int.natCast_mul
abbrev zF6:=@List.filter_append
abbrev zF7:=@Nat.le_succ
abbrev zF8:=@Bool.and_eq_true_iff
abbrev zF9:=@List.pairwise_singleton
abbrev zG0:=@List.filter_cons_of_neg
abbrev zG1:=@List.filter_cons_of_pos
abbrev zG2:=@Nat.lt_succ_of_lt
abbrev zG3:=@Array.perm_iff_toList_perm
abbrev zG4:=@Array.toList_append
abbrev zG5:=@List.flatten_append
abbrev zG6:=@List.extract_eq_drop_take
abbrev zG7:=@List.length_singleton
abbrev zG8:=@List.length_filter_le
abbrev zG9:=@List.ext_getElem
abbrev zH0:=@Nat.le_of_lt
abbrev zH1:=@Nat.zero_add
abbrev zH2:=@Nat.add_assoc
abbrev zH3:=@Bool.true_and
abbrev zH4:=@List.mem_append_left
abbrev zH5:=@List.take_sublist
abbrev zH6:=@List.drop_sublist
abbrev zH7:=@Array.toList_push
abbrev zH8:=@Bool.eq_iff_iff
abbrev zH9:=@List.foldl_cons
abbrev zI0:=@Nat.min_eq_left
abbrev zI1:=@List.map_map
abbrev zI2:=@List.not_mem_nil
abbrev zI3:=@Nat.min_eq_right
namespace L2
open PySem PySem.Spec PyProof.Rows
abbrev Key:=Sum Int Str
def keyIs:Key->Value->Bool
 | .inl k,v=>Value.isInt k v
 | .inr x,v=>Value.isStrOf x v
def keyH (w:World):Key->Int
 | .inl k=>hashInt k
 | .inr x=>hashStr w x
theorem aX:∀ {k:Key} {v:Value},keyIs k v=true->(∃ i t,k=Sum.inl i/\v=Value.int i t)\/(∃ x t,k=Sum.inr x/\v=Value.str x t)
 | .inl i,v,h=>by
   obtain ⟨t,e⟩:=Value.isInt_shape (k:=i) (v:=v) h;exact .inl ⟨i,t,rfl,e⟩
 | .inr x,v,h=>by
   obtain ⟨t,e⟩:=Value.isStrOf_shape (x:=x) (v:=v) h;exact .inr ⟨x,t,rfl,e⟩
theorem key_ll (a b:Int):decide ((Sum.inl a:Key)=Sum.inl b)=(a == b):=by
 by_cases e:a=b
 · subst e;simp
 · have h:¬ (Sum.inl a:Key)=Sum.inl b:=fun q=>e (Sum.inl.inj q);rw [decide_eq_false h];exact (beq_eq_false_iff_ne.mpr e).symm
theorem key_rr (a b:Str):decide ((Sum.inr a:Key)=Sum.inr b)=decide (a=b):=by
 by_cases e:a=b
 · subst e;simp
 · have h:¬ (Sum.inr a:Key)=Sum.inr b:=fun q=>e (Sum.inr.inj q);rw [decide_eq_false h,decide_eq_false e]
theorem key_lr (a:Int) (b:Str):decide ((Sum.inl a:Key)=Sum.inr b)=false:=decide_eq_false (fun q=>nomatch q)
theorem key_rl (a:Str) (b:Int):decide ((Sum.inr a:Key)=Sum.inl b)=false:=decide_eq_false (fun q=>nomatch q)
def mx (prog:Program) (w:World):PySem.KeyKind prog w Key where
 is:=keyIs
 hash:=keyH w
 inj:=fun v a b ha hb=>by
  rcases aX ha with ⟨i,t,rfl,rfl⟩ | ⟨x,t,rfl,rfl⟩
  · rcases aX hb with ⟨j,u,rfl,e⟩ | ⟨y,u,rfl,e⟩
    · injection e with e1 _;rw [e1]
    · exact nomatch e
  · rcases aX hb with ⟨j,u,rfl,e⟩ | ⟨y,u,rfl,e⟩
    · exact nomatch e
    · injection e with e1 _;rw [e1]
 byValue:=fun k v h=>by
  rcases aX h with ⟨i,t,rfl,rfl⟩ | ⟨x,t,rfl,rfl⟩ <;> rfl
 pyHash:=fun hv h=>by
  rcases aX hv with ⟨i,t,rfl,rfl⟩ | ⟨x,t,rfl,rfl⟩
  · exact wpAny_pyHash_int h
  · exact wpAny_pyHash_str h
 eqBool:=fun hu hv h=>by
  rcases aX hu with ⟨i,t,rfl,rfl⟩ | ⟨x,t,rfl,rfl⟩
  · rcases aX hv with ⟨j,u,rfl,rfl⟩ | ⟨y,u,rfl,rfl⟩
    · rw [key_ll] at h;exact wpAny_eqBool_int h
    · rw [key_lr] at h;exact SeqAt.EqAt.int_str i t y u _ _ _ _ h
  · rcases aX hv with ⟨j,u,rfl,rfl⟩ | ⟨y,u,rfl,rfl⟩
    · rw [key_rl] at h;exact SeqAt.EqAt.str_int x t j u _ _ _ _ h
    · rw [key_rr] at h;exact wpAny_eqBool_str h
 «strs»:=fun k x t v h=>by
  rcases aX h with ⟨i,u,rfl,e⟩ | ⟨y,u,rfl,e⟩
  · exact nomatch e
  · injection e with e1 _
    subst e1
    cases v <;> rfl
inductive V where
 | non | bl (b:Bool) | int (i:Int) | str (x:Str) | byt (b:Array UInt8) | flt (b:UInt64) | ref (a:Addr) | ty (n:String)
 deriving DecidableEq
def RelV:V->Value->Prop
 | .non,u=>u=Value.none
 | .bl b,u=>u=Value.bool b
 | .int i,u=>∃ t,u=Value.int i t
 | .str x,u=>∃ t,u=Value.str x t
 | .byt b,u=>∃ t,u=Value.bytes b t
 | .flt b,u=>∃ t,u=Value.float b t
 | .ref a,u=>u=Value.ref a
 | .ty n,u=>u=Value.type n
abbrev Vals:List V->List Value->Prop:=Paired RelV
theorem Vals.length {xs:List V} {us:List Value} (r:Vals xs us):xs.length=us.length:=Paired.length r
theorem Vals.get:∀ {xs:List V} {us:List Value} {i:Nat} {x:V},Vals xs us->xs[i]? = some x->∃ u,us[i]? = some u/\RelV x u
 | _,_,_,_,.nil,e=>by simp at e
 | _,_,0,_,.cons r _,e=>by simp at e;subst e;exact ⟨_,rfl,r⟩
 | _,_,i+1,x,.cons _ t,e=>by
   obtain ⟨u,h1,h2⟩:=Vals.get (i:=i) (x:=x) t (by simpa using e);exact ⟨u,by simpa using h1,h2⟩
theorem Vals.set {x:V} {u:Value} (r:RelV x u):∀ {xs:List V} {us:List Value} (i:Nat),Vals xs us->Vals (xs.set i x) (us.set i u)
 | _,_,_,.nil=>.nil
 | _,_,0,.cons _ t=>.cons r t
 | _,_,i+1,.cons q t=>.cons q (Vals.set r i t)
theorem Vals.append:∀ {xs ys:List V} {us ws:List Value},Vals xs us->Vals ys ws->Vals (xs++ys) (us++ws)
 | _,_,_,_,.nil,s=>s
 | _,_,_,_,.cons r t,s=>.cons r (Vals.append t s)
theorem Vals.take:∀ {xs:List V} {us:List Value} (n:Nat),Vals xs us->Vals (xs.take n) (us.take n)
 | _,_,0,_=>.nil
 | _,_,_+1,.nil=>.nil
 | _,_,n+1,.cons r t=>.cons r (Vals.take n t)
theorem Vals.drop:∀ {xs:List V} {us:List Value} (n:Nat),Vals xs us->Vals (xs.drop n) (us.drop n)
 | _,_,0,r=>r
 | _,_,_+1,.nil=>.nil
 | _,_,n+1,.cons _ t=>Vals.drop n t
def TupD (h:Heap) (a:Addr) (items:Array Value):Prop:=∃ n,h.get? a=some { cls:=.type "tuple",data:=.seq items n }
theorem TupD.tup {h:Heap} {a:Addr} {items:Array Value} (p:TupD h a items):IsTup h a items:=let ⟨n,e⟩:=p;⟨_,e,rfl,n,rfl⟩
theorem TupD.new (h:Heap) (items:Array Value):TupD (h.push { cls:=.type "tuple",data:=.seq items }) h.objs.size items:=⟨_,Heap.get?_push_size _ rfl⟩
def RelO:Option V->Option Value->Prop
 | some v,some u=>RelV v u
 | none,none=>True
 | _,_=>False
def KV {κ:Type}:List (κ×V)->List (κ×Value)->Prop:=Paired fun (p:κ×V) (q:κ×Value)=>p.1=q.1/\RelV p.2 q.2
def kV:Key->V
 | .inl i=>.int i
 | .inr x=>.str x
inductive HO where
 /-- a list -/
 | lst (xs:List V)
 /-- a tuple (never changes) -/
 | tup (xs:List V)
 /-- a dict whose keys are ints and texts;one whose keys are tuples of ints and texts (the empty one is both) -/
 | dK (kvs:List (Key×V)) | dT (kvs:List (List Key×V))
 /-- a set of ints: its members,its size -/
 | set (S:Int->Bool) (n:Nat)
 /-- an instance of the class at C,its dict at dx,its attributes -/
 | ins (C dx:Addr) (fs:List (Str×V))
 /-- the dict of the instance at x -/
 | own (x:Addr)
 /-- the dict of an exception -/
 | xd (fs:List (Str×V))
 /-- a bound method,f of x -/
 | met (f x:Addr)
 /-- a range object lo,lo+1,.. below hi -/
 | rng (lo hi:Int)
 /-- a thing that is known to the object (the script;a dict while a loop walks it): read,never written while it is so -/
 | frz (o:Obj) (u:HO)
 /-- a code object's table -/
 | tbl (ps:Array Value)
 /-- any other thing,by what is true of its one object (a def of one's own: SetO a S n:=HO.ext fun h=>..) -/
 | ext (φ:Heap->Prop)
abbrev Hp:=Addr->Option HO
def upd (H:Hp) (a:Addr) (o:HO):Hp:=fun b=>if b=a then some o else H b
theorem af {H:Hp} {a:Addr} {o:HO}:upd H a o a=some o:=by unfold upd;rw [if_pos rfl]
theorem aH {H:Hp} {a b:Addr} {o:HO} (h:b≠a):upd H a o b=H b:=by unfold upd;rw [if_neg h]
theorem ne_of {H:Hp} {a b:Addr} {o u:HO} (h:H a=some o) (h':H b=some u) (d:o≠u):a≠b:=by
 intro e;subst e;rw [h] at h';exact d (Option.some.inj h')
theorem bo {H:Hp} {a b:Addr} {o:HO} (h:H a=some o) (h':H b=none):a≠b:=by
 intro e;subst e;rw [h] at h';cases h'
section
variable (P:Program) (w:World)
def ObjOk (H:Hp) (h:Heap) (a:Addr):HO->Prop
 | .lst xs=>xs.length<=sizeLine/\∃ (its:List Value) (n:Nat),Vals xs its/\h.get? a=some { cls:=.type "list",data:=.seq its.toArray n }
 | .tup xs=>xs.length<=sizeLine/\∃ its:List Value,Vals xs its/\TupD h a its.toArray
 | .dK kvs=>kvs.length<=sizeLine/\(a == sysModules)=false/\∃ vs,KV kvs vs/\h.DictOf (mx P w) a vs
 | .dT kvs=>kvs.length<=sizeLine/\(a == sysModules)=false/\∃ xs:List (List Key×Addr×Value),
  Paired (fun (p:List Key×V) (q:List Key×Addr×Value)=>p.1=q.1/\H q.2.1=some (.tup (p.1.map kV))/\RelV p.2 q.2.2) kvs xs /\
  ∃ o es ep,h.get? a=some o/\o.ExactDict/\o.data=.dict es ep/\es.toList=xs.map (entryOfKey (tupleKind (mx P w)))/\(xs.map (·.1)).Nodup
 | .set S n=>h.SetOf (intKind P w) a S n
 | .ins C dx fs=>H dx=some (.own a)/\fs.length<=1000/\dx≠a/\h.get? a=some (PySem.W.instObj C dx) /\
  ∃ mA,h.Ns1 dx mA/\(∀ f,RelO (fs.lookup f) (mA f))/\PySem.Within mA (fs.map (·.1))
 | .own _=>∃ o,h.get? a=some o
 | .xd fs=>∃ mA,h.Ns1 a mA/\∀ f,RelO (fs.lookup f) (mA f)
 | .rng lo hi=>∃ t u v,h.get? a=some { cls:=.type "range",data:=.fields #[.int lo t,.int hi u,.int 1 v] }
 | .frz o u=>h.get? a=some o/\ObjOk H h a u
 | .tbl ps=>h.get? a=some { cls:=.none,data:=.fields ps }
 | .met f x=>h.get? a=some (PySem.W.methodObj (.ref f) (.ref x))
 | .ext φ=>φ h/\(∃ o,h.get? a=some o)/\∀ h1 h2:Heap,φ h1->(∀ o,h1.get? a=some o->h2.get? a=some o)->φ h2
def HOk (H:Hp) (h:Heap):Prop:=∀ a o,H a=some o->ObjOk P w H h a o
end
section
variable {P:Program} {w:World} {H H':Hp} {h h':Heap} {a:Addr} {o:HO}
theorem ObjOk.lt (x:ObjOk P w H h a o):a<h.objs.size:=by
 cases o with
 | lst xs=>obtain ⟨_,_,_,_,e⟩:=x;exact Heap.lt_size e
 | tup xs=>obtain ⟨_,_,_,p⟩:=x;exact p.tup.lt
 | dK kvs=>obtain ⟨_,_,_,_,o,_,_,e,_⟩:=x;exact Heap.lt_size e
 | dT kvs=>obtain ⟨_,_,_,_,o,_,_,e,_⟩:=x;exact Heap.lt_size e
 | set S n=>obtain ⟨o,_,_,_,e,_⟩:=x;exact Heap.lt_size e
 | ins C dx fs=>obtain ⟨_,_,_,e,_⟩:=x;exact Heap.lt_size e
 | own y=>obtain ⟨_,e⟩:=x;exact Heap.lt_size e
 | xd fs=>obtain ⟨_,⟨_,_,_,e,_⟩,_⟩:=x;exact Heap.lt_size e
 | rng lo hi=>obtain ⟨_,_,_,e⟩:=x;exact Heap.lt_size e
 | frz ob u=>obtain ⟨e,_⟩:=x;exact Heap.lt_size e
 | tbl ps=>exact Heap.lt_size (show h.get? a=some _ from x)
 | met f y=>exact Heap.lt_size (show h.get? a=some _ from x)
 | ext φ=>obtain ⟨_,⟨_,e⟩,_⟩:=x;exact Heap.lt_size e
theorem Paired.mapP {α β:Type} {F G:α->β->Prop}:∀ {l₁:List α} {l₂:List β},Paired F l₁ l₂->(∀ a b,F a b->G a b)->Paired G l₁ l₂
 | _,_,.nil,_=>.nil
 | _,_,.cons r t,f=>.cons (f _ _ r) (Paired.mapP t f)
theorem ObjOk.stay (x:ObjOk P w H h a o) (k:∀ b u,(b=a\/H b=some (.own a))->h.get? b=some u->h'.get? b=some u)
 (ho:∀ b,H b=some (.own a)->H' b=some (.own a)) (ht:∀ b xs,H b=some (.tup xs)->H' b=some (.tup xs)):ObjOk P w H' h' a o:=by
 induction o with
 | lst xs=>obtain ⟨z,its,n,r,e⟩:=x;exact ⟨z,its,n,r,k _ _ (.inl rfl) e⟩
 | tup xs=>obtain ⟨z,its,r,ob,e⟩:=x;exact ⟨z,its,r,ob,k _ _ (.inl rfl) e⟩
 | dK kvs=>obtain ⟨z,y,vs,r,ob,es,ep,e,c⟩:=x;exact ⟨z,y,vs,r,ob,es,ep,k _ _ (.inl rfl) e,c⟩
 | dT kvs=>
   obtain ⟨z,y,xs,r,ob,es,ep,e,c⟩:=x
   exact ⟨z,y,xs,Paired.mapP r fun p q z=>⟨z.1,ht _ _ z.2.1,z.2.2⟩,ob,es,ep,k _ _ (.inl rfl) e,c⟩
 | set S n=>obtain ⟨ob,es,ep,t,e,c⟩:=x;exact ⟨ob,es,ep,t,k _ _ (.inl rfl) e,c⟩
 | ins C dx fs=>
   obtain ⟨d,z,ne,e,mA,⟨od,es,ep,e2,c⟩,r⟩:=x
   exact ⟨ho _ d,z,ne,k _ _ (.inl rfl) e,mA,⟨od,es,ep,k _ _ (.inr d) e2,c⟩,r⟩
 | own y=>obtain ⟨ob,e⟩:=x;exact ⟨ob,k _ _ (.inl rfl) e⟩
 | xd fs=>obtain ⟨mA,⟨od,es,ep,e,c⟩,r⟩:=x;exact ⟨mA,⟨od,es,ep,k _ _ (.inl rfl) e,c⟩,r⟩
 | rng lo hi=>obtain ⟨t,u,v,e⟩:=x;exact ⟨t,u,v,k _ _ (.inl rfl) e⟩
 | frz ob u ih=>obtain ⟨e,q⟩:=x;exact ⟨k _ _ (.inl rfl) e,ih q⟩
 | tbl ps=>
   have e:h.get? a=some { cls:=.none,data:=.fields ps }:=x
   show h'.get? a=some { cls:=.none,data:=.fields ps }
   exact k a _ (.inl rfl) e
 | met f y=>
   have e:h.get? a=some (PySem.W.methodObj (.ref f) (.ref y)):=x
   show h'.get? a=some (PySem.W.methodObj (.ref f) (.ref y))
   exact k a _ (.inl rfl) e
 | ext φ=>obtain ⟨p,⟨o,e⟩,st⟩:=x;exact ⟨st _ _ p fun o q=>k _ _ (.inl rfl) q,⟨o,k _ _ (.inl rfl) e⟩,st⟩
theorem HOk.lt (x:HOk P w H h) (e:H a=some o):a<h.objs.size:=(x a o e).lt
theorem HOk.fresh (x:HOk P w H h) (e:h.objs.size<=a):H a=none:=by
 cases q:H a with
 | none=>rfl
 | some u=>exact absurd (zB9 (x.lt q) e) (zD8 _)
theorem HOk.kept (x:HOk P w H h) (k:∀ b u,h.get? b=some u->h'.get? b=some u):HOk P w H h':=fun a o e=>
 (x a o e).stay (fun b u _ q=>k b u q) (fun _ q=>q) fun _ _ q=>q
theorem HOk.laid (x:HOk P w H h) (k:∀ b u,h.get? b=some u->h'.get? b=some u) (hp:h.objs.size<=a) (new:ObjOk P w (upd H a o) h' a o):HOk P w (upd H a o) h':=fun b u e=>by
 have hn:=x.fresh hp;by_cases hb:b=a
 · subst hb;rw [af] at e;cases e;exact new
 · rw [aH hb] at e;exact (x b u e).stay (fun c v _ q=>k c v q) (fun c q=>by rw [aH (bo q hn)];exact q) fun c xs q=>by rw [aH (bo q hn)];exact q
end
def Rd (H:Hp) (a:Addr) (u:HO):Prop:=H a=some u\/∃ o,H a=some (.frz o u)
theorem Rd.ok {P:Program} {w:World} {H:Hp} {h:Heap} {a:Addr} {u:HO} (r:Rd H a u) (x:HOk P w H h):ObjOk P w H h a u:=by
 rcases r with r | ⟨o,r⟩
 · exact x a u r
 · obtain ⟨_,q⟩:=x a _ r;exact q
def Mut:Option HO->Prop
 | some (.lst _)=>True
 | some (.dK _)=>True
 | some (.dT _)=>True
 | some (.set _ _)=>True
 | some (.ins _ _ _)=>True
 | some (.ext _)=>True
 | _=>False
section
variable {P:Program} {w:World} {H:Hp} {h h':Heap} {x e:Addr} {o':HO}
theorem HOk.write (ok:HOk P w H h) (mu:Mut (H x)) (he:e=x\/H e=some (.own x)) (k:∀ b u,b≠e->h.get? b=some u->h'.get? b=some u) (heo:∃ u,h'.get? e=some u)
 (new:ObjOk P w (upd H x o') h' x o'):HOk P w (upd H x o') h':=fun b u q=>by
 have nown:∀ c y,H c=some (.own y)->c≠x:=fun c y r z=>by subst z;rw [r] at mu;exact mu
 have ntup:∀ c xs,H c=some (.tup xs)->c≠x:=fun c xs r z=>by subst z;rw [r] at mu;exact mu
 by_cases hb:b=x
 · subst hb;rw [af] at q;cases q;exact new
 · rw [aH hb] at q;by_cases hbe:b=e
   · have q':H b=some (.own x):=by
      rcases he with z | z
      · exact absurd (hbe.trans z) hb
      · rw [hbe];exact z
     rw [q] at q';cases q';obtain ⟨v,hv⟩:=heo;exact ⟨v,by rw [hbe];exact hv⟩
   · refine (ok b u q).stay (fun c v hc r=>k c v ?_ r) (fun c r=>by rw [aH (nown c b r)];exact r) fun c xs r=>by rw [aH (ntup c xs r)];exact r
     rcases hc with rfl | hc
     · exact hbe
     · rintro rfl;rcases he with z | z
       · exact nown c b hc z
       · rw [hc] at z;cases z;exact hb rfl
end
structure Un (fs ex:List Addr) (H H':Hp) (h h':Heap):Prop where
 keep:∀ b o,h.get? b=some o->H b=none->b∉fs->b∉ex->h'.get? b=some o
 slot:∀ b o,h.get? b=some o->H b=none->b∈fs->b∉ex->∃ sl,h'.get? b=some { o with slots:=sl }
 free:∀ b o,h.get? b=some o->H b=none->b∉ex->H' b=none
 there:∀ b o,h.get? b=some o->b∉ex->∃ o',h'.get? b=some o'
 tups:∀ b xs,H b=some (.tup xs)->H' b=some (.tup xs)
 frzs:∀ b o u,H b=some (.frz o u)->H' b=some (.frz o u)
 tbls:∀ b ps,H b=some (.tbl ps)->∃ more,H' b=some (.tbl (ps++more))
section
variable {fs fs' ex ex':List Addr} {H H1 H2:Hp} {h h1 h2 h':Heap} {a x e:Addr} {o:HO}
theorem Un.any (u:Un fs ex H H1 h h1) {b:Addr} {ob:Obj} (q:h.get? b=some ob) (n:H b=none) (hx:b∉ex):∃ sl,h1.get? b=some { ob with slots:=sl }:=by
 by_cases hb:b∈fs
 · exact u.slot b ob q n hb hx
 · exact ⟨ob.slots,u.keep b ob q n hb hx⟩
theorem Un.kept (k:∀ b u,h.get? b=some u->h'.get? b=some u):Un fs ex H H h h':=
 ⟨fun b ob q _ _ _=>k b ob q,fun b ob q _ _ _=>⟨ob.slots,k b ob q⟩,fun _ _ _ n _=>n,fun b ob q _=>⟨ob,k b ob q⟩,fun _ _ q=>q,fun _ _ _ q=>q,fun _ ps q=>⟨#[],by rw [q];simp⟩⟩
theorem Un.refl:Un fs ex H H h h:=Un.kept fun _ _ q=>q
theorem Un.laid (k:∀ b u,h.get? b=some u->h'.get? b=some u) (hp:h.objs.size<=a) (hn:H a=none):Un fs ex H (upd H a o) h h' where
 keep:=fun b u q _ _ _=>k b u q
 slot:=fun b u q _ _ _=>⟨u.slots,k b u q⟩
 free:=fun b u q n _=>by rw [aH (zC2 (zB9 (Heap.lt_size q) hp))];exact n
 there:=fun b u q _=>⟨u,k b u q⟩
 tups:=fun b xs q=>by rw [aH (bo q hn)];exact q
 frzs:=fun b u xs q=>by rw [aH (bo q hn)];exact q
 tbls:=fun b ps q=>⟨#[],by rw [aH (bo q hn),q];simp⟩
theorem Un.write (mu:Mut (H x)) (he:e=x\/H e=some (.own x)) (k:∀ b u,b≠e->h.get? b=some u->h'.get? b=some u) (heo:∃ u,h'.get? e=some u):Un fs ex H (upd H x o) h h':=by
 have hx:∀ b,H b=none->b≠x:=fun b n z=>by subst z;rw [n] at mu;exact mu
 have hb:∀ b,H b=none->b≠e:=fun b n z=>by
  subst z;rcases he with r | r
  · exact hx b n r
  · rw [n] at r;cases r
 have hm:∀ b u,H b=some u->¬ Mut (some u)->b≠x:=fun b u q nm z=>by subst z;rw [q] at mu;exact nm mu
 refine ⟨fun b u q n _ _=>k b u (hb b n) q,fun b u q n _ _=>⟨u.slots,k b u (hb b n) q⟩,fun b u q n _=>by rw [aH (hx b n)];exact n,fun b u q _=>?_,
  fun b xs q=>by rw [aH (hm b _ q fun z=>z)];exact q,fun b u xs q=>by rw [aH (hm b _ q fun z=>z)];exact q,fun b ps q=>⟨#[],by rw [aH (hm b _ q fun z=>z),q];simp⟩⟩
 by_cases hbe:b=e
 · subst hbe;exact heo
 · exact ⟨u,k b u hbe q⟩
end
def trk (h:Heap) (H:Hp):List Addr:=(List.range h.objs.size).filter fun a=>(H a).isSome
def pZ (h:Heap) (H:Hp):Heap:=PySem.W.hideAll h (trk h H)
theorem mM (h:Heap) (H:Hp):(pZ h H).objs.size=h.objs.size:=PySem.W.hideAll_size _ _
theorem pY {h:Heap} {H:Hp} {b:Addr} {o:Obj} (e:h.get? b=some o) (n:H b=none):(pZ h H).get? b=some o:=
 PySem.W.hideAll_get _ e fun hm=>by
  have q:(H b).isSome=true:=(List.mem_filter.mp hm).2;rw [n] at q;simp at q
theorem ui {h:Heap} {H:Hp} {b:Addr} {o:Obj} (e:(pZ h H).get? b=some o):h.get? b=some o/\H b=none:=by
 have e':h.get? b=some o:=PySem.W.of_hideAll (trk h H) e;refine ⟨e',?_⟩
 cases q:H b with
 | none=>rfl
 | some x=>
   have hm:b∈trk h H:=List.mem_filter.mpr ⟨zE7.mpr (Heap.lt_size e'),by simp [q]⟩
   have z:(pZ h H).get? b=none:=PySem.W.hideAll_none (trk h H) hm
   rw [z] at e;cases e
structure Mod (K:PySem.W.Frag) (mg:Str->Option Value) (base:Heap):Prop where
 kin:K.In base
 glob:base.Ns mainGlobals mg
 blt:∃ mb,base.Ns builtinsNs mb/\∀ x:Str,x≠"__name__"->mb x=bootBuiltins x
 nolimit:base.NoLimit
structure Cx where
 prog:Program
 w:World
 K:PySem.W.Frag
 mg:Str->Option Value
 base:Heap
 A:Around
 N:List Str
 s₀:Shared
 H₀:Hp
 env:Env
 outer:List Env
 stack:List Env
 ex:List Addr
 fn:Str->Bool
 calm:Bool
 pn:List (Addr×Obj)
 xe:Value->Shared->Prop
def frs (l:List Env):List Addr:=l.filterMap (·.frame)
abbrev Cx.fs (X:Cx):List Addr:=frs X.outer
def Vis (sc:Scope) (x:Str):Prop:=sc.names.lookup x=some .local\/sc.names.lookup x=some .cell\/sc.names.lookup x=some .free
def Loc (sc:Scope) (x:Str):Prop:=sc.names.lookup x=some .local\/sc.names.lookup x=some .cell
def Look (env:Env) (h:Heap) (m:.(32)) (x:Str) (u:Value):Prop:=
 (env.kindOf x=some .local/\m x=some u)\/((env.kindOf x=some .cell\/env.kindOf x=some .free)/\∃ c,env.cells.lookup x=some c/\h.IsCell c (some u))
structure Cx.Ok (X:Cx):Prop where
 mod:Mod X.K X.mg X.base
 kind:X.env.scope.kind=.function
 glob:X.env.globals=mainGlobals
 blt:X.env.builtins=builtinsNs
 above:X.s₀.heap.objs.size<=X.env.locals
 inj:∀ x y c,X.env.cells.lookup x=some c->X.env.cells.lookup y=some c->x=y
 has:∀ x,(X.env.kindOf x=some .cell\/X.env.kindOf x=some .free)->∃ c,X.env.cells.lookup x=some c
 cab:∀ x c,X.fn x=true->X.env.cells.lookup x=some c->X.s₀.heap.objs.size<=c
 hd:X.calm=true->X.A.handled=none
 frames:X.A.frames=some X.stack
 stk:X.stack=X.outer\/(X.stack=X.env::X.outer/\X.env.frame=some X.env.locals)
 exf:∀ b∈X.ex,b≠X.env.locals/\∀ x c,X.env.cells.lookup x=some c->c≠b
 bs:∀ b o,X.base.get? b=some o->X.s₀.heap.get? b=some o/\X.H₀ b=none
 bsz:X.base.objs.size<=X.s₀.heap.objs.size
 noex:∀ b o,X.base.get? b=some o->b∉X.ex
 exfs:∀ b∈X.ex,b∉X.fs
 funs:X.s₀.heap.FunFrames X.base X.outer
 frf:∀ b∈X.fs,X.H₀ b=none
structure Inv (X:Cx) (pins:List (Addr×Obj)) (σ:List (Option V)) (H:Hp) (s:Shared):Prop where
 ok:X.Ok
 os:s.os=X.s₀.os
 bare:AllBare s.gens
 base:Un X.fs X.ex X.H₀ H X.s₀.heap s.heap
 loc:∃ m,s.heap.Ns X.env.locals m/\∀ (i:Nat) (x:Str) (v:V),X.N[i]? = some x->σ[i]? = some (some v)->Vis X.env.scope x->∃ u,RelV v u/\Look X.env s.heap m x u
 cell:∀ x c,X.env.cells.lookup x=some c->∃ v,s.heap.IsCell c v
 free:H X.env.locals=none
 freeC:∀ x c,X.env.cells.lookup x=some c->H c=none
 pin:∀ p∈X.pn++pins,s.heap.get? p.1=some p.2/\H p.1=none/\p.1≠X.env.locals/\p.1∉X.fs/\∀ v,p.2.data≠.cell v
 hok:HOk X.prog X.w H s.heap
 len:σ.length=X.N.length
section
variable {X:Cx} {pins:List (Addr×Obj)} {σ:List (Option V)} {H H':Hp} {s:Shared} {h':Heap}
theorem Cx.Ok.nofr (ok:X.Ok) {b:Addr} {o:Obj} (e:X.base.get? b=some o):b∉X.fs:=fun hb=>by
 have:=(ok.funs.mem hb).1;rw [e] at this;cases this
theorem Inv.bs (I:.(14)):∀ b o,X.base.get? b=some o->s.heap.get? b=some o/\H b=none:=fun b o e=>
 ⟨I.base.keep b o (I.ok.bs b o e).1 (I.ok.bs b o e).2 (I.ok.nofr e) (I.ok.noex b o e),I.base.free b o (I.ok.bs b o e).1 (I.ok.bs b o e).2 (I.ok.noex b o e)⟩
theorem Inv.bk (I:.(14)):∀ b o,X.base.get? b=some o->s.heap.get? b=some o:=fun b o e=>(I.bs b o e).1
theorem Inv.mod (I:.(14)):Mod X.K X.mg X.base:=I.ok.mod
theorem Inv.kIn (I:.(14)):X.K.In s.heap:=I.ok.mod.kin.keeps I.bk
theorem Inv.lt (I:.(14)):X.env.locals<s.heap.objs.size:=let ⟨_,hn,_⟩:=I.loc;hn.lt
theorem Inv.sz (I:.(14)):X.s₀.heap.objs.size<=s.heap.objs.size:=zE6 I.ok.above (zH0 I.lt)
theorem Inv.nofs (I:.(14)) {a:Addr} (h:s.heap.objs.size<=a):a∉X.fs:=fun hb=>by
 obtain ⟨_,o,ho,_⟩:=I.ok.funs.mem hb;exact absurd (zB9 (Heap.lt_size ho) (zE6 I.sz h)) (zD8 _)
theorem Inv.cne (I:.(14)):∀ x c,X.env.cells.lookup x=some c->c≠X.env.locals:=fun x c e z=>by
 obtain ⟨v,o,ho,hd⟩:=I.cell x c e;obtain ⟨m,⟨o',es,ep,ho',hd',_⟩,_⟩:=I.loc;rw [z,ho'] at ho;cases ho;rw [hd'] at hd;cases hd
theorem Inv.funs (I:.(14)):s.heap.FunFrames X.base X.outer:=by
 have all:∀ (l:List Env),(∀ b∈frs l,b∈X.fs)->X.s₀.heap.FunFrames X.base l->s.heap.FunFrames X.base l:=by
  intro l;induction l with
  | nil=>intro _ _;trivial
  | cons env r ih=>
    intro hs hl
    obtain ⟨hk,⟨L,o,hf,hn,ho,hd⟩,hr⟩:=hl
    have hL:L∈X.fs:=hs L (by unfold frs;rw [List.filterMap_cons,hf];exact zA3)
    obtain ⟨sl,e⟩:=I.base.slot L o ho (I.ok.frf L hL) hL fun z=>I.ok.exfs L z hL
    exact ⟨hk,⟨L,_,hf,hn,e,hd⟩,ih (fun b hb=>hs b (by unfold frs;rw [List.filterMap_cons,hf];exact zA5 _ hb)) hr⟩
 exact all X.outer (fun _ hb=>hb) I.ok.funs
theorem Inv.stack (I:.(14)):s.heap.FunFrames X.base X.stack:=by
 rcases I.ok.stk with e | ⟨e,hf⟩
 · rw [e];exact I.funs
 · rw [e];obtain ⟨m,hn,_⟩:=I.loc;refine .cons (by rw [I.ok.kind];decide) hf hn ?_ I.funs;exact Heap.get?_none_of_le (zE6 I.ok.bsz I.ok.above)
theorem Inv.stkSub (I:.(14)):∀ b∈frs X.stack,b∈X.env.locals::X.fs:=fun b hb=>by
 rcases I.ok.stk with e | ⟨e,hf⟩
 · rw [e] at hb;exact zA5 _ hb
 · rw [e] at hb;unfold frs at hb;rw [List.filterMap_cons,hf] at hb;exact hb
theorem Inv.stkFree (I:.(14)):∀ b∈frs X.stack,H b=none:=fun b hb=>by
 rcases zA8.mp (I.stkSub b hb) with e | hb
 · rw [e];exact I.free
 · obtain ⟨_,o,ho,_⟩:=I.ok.funs.mem hb;exact I.base.free b o ho (I.ok.frf b hb) fun z=>I.ok.exfs b z hb
theorem Inv.step {g':Array GenState} {t':Nat} {d':Drawn} {ch:List Addr} (I:.(14))
 (hch:∀ b∈ch,(b∈X.ex\/X.s₀.heap.objs.size<=b)/\b≠X.env.locals/\(∀ x c,X.env.cells.lookup x=some c->c≠b)/\∀ p∈X.pn++pins,p.1≠b)
 (keep:∀ b o,b≠X.env.locals->b∉X.fs->b∉ch->s.heap.get? b=some o->H b=none->h'.get? b=some o)
 (slot:∀ b o,b≠X.env.locals->b∈X.fs->b∉ch->s.heap.get? b=some o->H b=none->∃ sl,h'.get? b=some { o with slots:=sl }) (free:∀ b o,b∉ch->s.heap.get? b=some o->H b=none->H' b=none)
 (there:∀ b o,b∉ch->s.heap.get? b=some o->∃ o',h'.get? b=some o')
 (tups:∀ b xs,H b=some (.tup xs)->H' b=some (.tup xs)) (frzs:∀ b o u,H b=some (.frz o u)->H' b=some (.frz o u)) (tbls:∀ b ps,H b=some (.tbl ps)->∃ more,H' b=some (.tbl (ps++more)))
 (ns:∀ m,s.heap.Ns X.env.locals m->h'.Ns X.env.locals m) (hok:HOk X.prog X.w H' h') (hg:AllBare g') :
 Inv X pins σ H' { s with heap:=h',gens:=g',drawn:=d',toks:=t' }:=by
 have neL:∀ b o,X.s₀.heap.get? b=some o->b≠X.env.locals:=fun b o e=>zC2 (zB9 (Heap.lt_size e) I.ok.above);have neC:∀ b o,X.s₀.heap.get? b=some o->b∉X.ex->b∉ch:=fun b o e hx hb=>by
  rcases (hch b hb).1 with z | z
  · exact hx z
  · exact absurd (zB9 (Heap.lt_size e) z) (zD8 _)
 have cellK:∀ x c,X.env.cells.lookup x=some c->∀ v,s.heap.IsCell c v->h'.IsCell c v:=fun x c e v ⟨o,ho,hd⟩=>by
  have nch:c∉ch:=fun z=>(hch c z).2.2.1 x c e rfl;by_cases hc:c∈X.fs
  · obtain ⟨sl,q⟩:=slot c o (I.cne x c e) hc nch ho (I.freeC x c e);exact ⟨_,q,hd⟩
  · exact ⟨o,keep c o (I.cne x c e) hc nch ho (I.freeC x c e),hd⟩
 refine ⟨I.ok,I.os,hg,⟨fun b o e n hb hx=>?_,fun b o e n hb hx=>?_,fun b o e n hx=>?_,fun b o e hx=>?_,fun b xs e=>tups b xs (I.base.tups b xs e),fun b o xs e=>frzs b o xs (I.base.frzs b o xs e),fun b ps e=>?_⟩,?_,fun x c e=>?_,?_,fun x c e=>?_,fun p hp=>?_,hok,I.len⟩
 · exact keep b o (neL b o e) hb (neC b o e hx) (I.base.keep b o e n hb hx) (I.base.free b o e n hx)
 · obtain ⟨sl,e1⟩:=I.base.slot b o e n hb hx;obtain ⟨sl',e2⟩:=slot b _ (neL b o e) hb (neC b o e hx) e1 (I.base.free b o e n hx);exact ⟨sl',e2⟩
 · obtain ⟨o',e1⟩:=I.base.there b o e hx;exact free b o' (neC b o e hx) e1 (I.base.free b o e n hx)
 · obtain ⟨o',e1⟩:=I.base.there b o e hx;exact there b o' (neC b o e hx) e1
 · obtain ⟨m1,e1⟩:=I.base.tbls b ps e;obtain ⟨m2,e2⟩:=tbls b _ e1;exact ⟨m1++m2,by rw [e2,Array.append_assoc]⟩
 · obtain ⟨m,hn,hl⟩:=I.loc;refine ⟨m,ns m hn,fun i x v e1 e2 e3=>?_⟩;obtain ⟨u,r,l⟩:=hl i x v e1 e2 e3;refine ⟨u,r,?_⟩;rcases l with l | ⟨k,c,e,z⟩
   · exact .inl l
   · exact .inr ⟨k,c,e,cellK x c e _ z⟩
 · obtain ⟨v,z⟩:=I.cell x c e;exact ⟨v,cellK x c e v z⟩
 · obtain ⟨m,⟨o,_,_,ho,_⟩,_⟩:=I.loc;exact free _ o (fun z=>(hch _ z).2.1 rfl) ho I.free
 · obtain ⟨v,o,ho,hd⟩:=I.cell x c e;exact free c o (fun z=>(hch c z).2.2.1 x c e rfl) ho (I.freeC x c e)
 · obtain ⟨e,n,ne,nf,d⟩:=I.pin p hp;have nch:p.1∉ch:=fun z=>(hch p.1 z).2.2.2 p hp rfl;exact ⟨keep p.1 p.2 ne nf nch e n,free p.1 p.2 nch e n,ne,nf,d⟩
theorem Inv.un {t':Nat} (I:.(14)) (u:Un X.fs [] H H' s.heap h') (hok:HOk X.prog X.w H' h'):Inv X pins σ H' { s with heap:=h',toks:=t' }:=by
 obtain ⟨m,⟨o,es,ep,ho,r⟩,_⟩:=id I.loc;obtain ⟨sl,hL⟩:=u.any ho I.free (by simp);exact I.step (g':=s.gens) (d':=s.drawn) (ch:=[]) (fun _ z=>nomatch z) (fun b o _ hb _ e n=>u.keep b o e n hb (by simp)) (fun b o _ hb _ e n=>u.slot b o e n hb (by simp)) (fun b o _ e n=>u.free b o e n (by simp)) (fun b o _ e=>u.there b o e (by simp)) u.tups u.frzs u.tbls (fun m' hm=>by
  obtain ⟨o',es',ep',ho',r'⟩:=hm;rw [ho] at ho';cases ho';exact ⟨_,es',ep',hL,r'⟩) hok I.bare
theorem Inv.call {g':Array GenState} {t':Nat} {d':Drawn} {ch:List Addr} (I:.(14)) (u:Un (frs X.stack) ch H H' s.heap h') (hok:HOk X.prog X.w H' h') (hg:AllBare g')
 (hch:∀ b∈ch,(b∈X.ex\/X.s₀.heap.objs.size<=b)/\b≠X.env.locals/\(∀ x c,X.env.cells.lookup x=some c->c≠b)/\∀ p∈X.pn++pins,p.1≠b) :
 Inv X pins σ H' { s with heap:=h',gens:=g',drawn:=d',toks:=t' }:=by
 obtain ⟨m,⟨o,es,ep,ho,r⟩,_⟩:=id I.loc;obtain ⟨sl,hL⟩:=u.any ho I.free fun z=>(hch _ z).2.1 rfl;exact I.step (ch:=ch) hch (fun b o hL hb hc e n=>u.keep b o e n (fun z=>(zA8.mp (I.stkSub b z)).elim hL hb) hc) (fun b o _ _ hc e n=>u.any e n hc) (fun b o hc e n=>u.free b o e n hc) (fun b o hc e=>u.there b o e hc) u.tups u.frzs u.tbls (fun m' hm=>by
  obtain ⟨o',es',ep',ho',r'⟩:=hm;rw [ho] at ho';cases ho';exact ⟨_,es',ep',hL,r'⟩) hok hg
theorem Inv.turned {t':Nat} {it:Addr} (I:.(14)) (k:∀ b o,b≠it->s.heap.get? b=some o->h'.get? b=some o) (hn:H it=none) (hL:it≠X.env.locals)
 (h1:it∈X.ex\/X.s₀.heap.objs.size<=it) (h2:∀ x c,X.env.cells.lookup x=some c->c≠it) (h3:∀ p∈X.pn++pins,p.1≠it):Inv X pins σ H { s with heap:=h',toks:=t' }:=by
 have nit:∀ b u,H b=some u->b≠it:=fun b u e z=>by rw [z,hn] at e;cases e
 refine I.step (g':=s.gens) (d':=s.drawn) (ch:=[it]) (fun b hb=>?_) (fun b o _ _ hc e _=>k b o (fun z=>hc (by simp [z])) e) (fun b o _ _ hc e _=>⟨o.slots,k b o (fun z=>hc (by simp [z])) e⟩) (fun _ _ _ _ n=>n)
  (fun b o hc e=>⟨o,k b o (fun z=>hc (by simp [z])) e⟩) (fun _ _ e=>e) (fun _ _ _ e=>e) (fun b ps e=>⟨#[],by rw [e];simp⟩) (fun m hm=>?_) (fun b u e=>?_) I.bare
 · have e:b=it:=by simpa using hb
   subst e;exact ⟨h1,hL,h2,h3⟩
 · obtain ⟨o,es,ep,ho,r⟩:=hm;exact ⟨o,es,ep,k _ o (Ne.symm hL) ho,r⟩
 · refine (I.hok b u e).stay (fun c v hc q=>k c v ?_ q) (fun _ q=>q) fun _ _ q=>q;rcases hc with z | z
   · rw [z];exact nit b u e
   · exact nit c _ z
theorem Inv.tok (I:.(14)) (t:Nat):Inv X pins σ H { s with toks:=t }:=I.un (h':=s.heap) (t':=t) Un.refl I.hok
theorem Inv.kept {t':Nat} (I:.(14)) (k:∀ b u,s.heap.get? b=some u->h'.get? b=some u):Inv X pins σ H { s with heap:=h',toks:=t' }:=I.un (Un.kept k) (I.hok.kept k)
theorem Inv.laid {a:Addr} {o:HO} {t':Nat} (I:.(14)) (k:∀ b u,s.heap.get? b=some u->h'.get? b=some u) (hp:s.heap.objs.size<=a) (new:ObjOk X.prog X.w (upd H a o) h' a o) :
 Inv X pins σ (upd H a o) { s with heap:=h',toks:=t' }:=I.un (Un.laid k hp (I.hok.fresh hp)) (I.hok.laid k hp new)
theorem Inv.write {x e:Addr} {o:HO} {t':Nat} (I:.(14)) (mu:Mut (H x)) (he:e=x\/H e=some (.own x)) (k:∀ b u,b≠e->s.heap.get? b=some u->h'.get? b=some u) (heo:∃ u,h'.get? e=some u)
 (new:ObjOk X.prog X.w (upd H x o) h' x o):Inv X pins σ (upd H x o) { s with heap:=h',toks:=t' }:=I.un (Un.write mu he k heo) (I.hok.write mu he k heo new)
theorem Inv.weak {σ':List (Option V)} (I:.(14)) (hl:σ'.length=σ.length) (w:∀ (i:Nat) v,σ'[i]? = some (some v)->σ[i]? = some (some v)):Inv X pins σ' H s:=
 ⟨I.ok,I.os,I.bare,I.base,let ⟨m,hn,hl'⟩:=I.loc;⟨m,hn,fun i x v e1 e2 e3=>hl' i x v e1 (w i v e2) e3⟩,I.cell,I.free,I.freeC,I.pin,I.hok,hl.trans I.len⟩
theorem Inv.pins_of {pins':.(31)} (I:.(14)) (h:∀ p∈pins',s.heap.get? p.1=some p.2/\H p.1=none/\p.1≠X.env.locals/\p.1∉X.fs/\∀ v,p.2.data≠.cell v):Inv X pins' σ H s:=
 ⟨I.ok,I.os,I.bare,I.base,I.loc,I.cell,I.free,I.freeC,fun p hp=>(zB7.mp hp).elim (fun z=>I.pin p (zH4 _ z)) (h p),I.hok,I.len⟩
theorem jB {N:List Str} (hN:N.Nodup) {i j:Nat} {x:Str} (a:N[i]? = some x) (b:N[j]? = some x):i=j:=by
 obtain ⟨h1,e1⟩:=List.getElem?_eq_some_iff.mp a;obtain ⟨h2,e2⟩:=List.getElem?_eq_some_iff.mp b;exact (List.getElem_inj hN).mp (e1.trans e2.symm)
theorem g6 {M:Model} {A:Around} {E:.(21)} {i:Nat} {x:Str} {v:V} {u:Value} {Q:Unit->Shared->Prop} (I:.(14)) (hN:X.N.Nodup) (hi:X.N[i]? = some x) (hx:Loc X.env.scope x) (r:RelV v u)
 (h:∀ s',Inv X pins (σ.set i (some v)) H s'->(∃ a,Heap.SameBut a s.heap s'.heap/\(a=X.env.locals\/X.env.cells.lookup x=some a))->Q () s') (hf:X.fn x=true\/X.env.scope.names.lookup x=some .local:=by first | exact .inl rfl | exact .inr rfl | assumption):wpAny M A (storeName X.env x u) Q E s:=by
 obtain ⟨m,hn,hl⟩:=id I.loc;have hcls:(X.env.scope.kind == .class||(X.env.scope.kind == .module&&X.env.locals != X.env.globals))=false:=by rw [I.ok.kind];rfl
 have hiσ:i<σ.length:=by rw [I.len];exact (List.getElem?_eq_some_iff.mp hi).1
 have cne:=I.cne;have tracked:∀ {a:Addr} {h':Heap},(∃ o,s.heap.get? a=some o/\H a=none)->Heap.SameBut a s.heap h'->HOk X.prog X.w H h':=fun {a h'} ha hs b ob e=>by
  obtain ⟨_,_,hfree⟩:=ha;refine (I.hok b ob e).stay (fun c w' hc q=>(hs.2 c ?_).trans q) (fun _ q=>q) fun _ _ q=>q;rintro rfl;rcases hc with rfl | hc
  · rw [hfree] at e;cases e
  · rw [hfree] at hc;cases hc
 rcases hx with hk | hk
 · refine wpAny_storeName_local hk hn (fun h' hn' hs=>?_) hcls;obtain ⟨oL,_,_,hoL,_⟩:=id hn;refine h _ ⟨I.ok,I.os,I.bare,⟨fun b o e n hb hx=>?_,fun b o e n hb hx=>?_,I.base.free,fun b o e hx=>?_,I.base.tups,I.base.frzs,I.base.tbls⟩,⟨_,hn',fun j y v' e1 e2 e3=>?_⟩,fun y c e=>?_,I.free,I.freeC,fun p hp=>?_,tracked ⟨oL,hoL,I.free⟩ hs,by simpa using I.len⟩ ⟨_,hs,.inl rfl⟩
   · exact (hs.2 b (zC2 (zB9 (Heap.lt_size e) I.ok.above))).trans (I.base.keep b o e n hb hx)
   · obtain ⟨sl,e1⟩:=I.base.slot b o e n hb hx;exact ⟨sl,(hs.2 b (zC2 (zB9 (Heap.lt_size e) I.ok.above))).trans e1⟩
   · obtain ⟨o',e1⟩:=I.base.there b o e hx;exact ⟨o',(hs.2 b (zC2 (zB9 (Heap.lt_size e) I.ok.above))).trans e1⟩
   · by_cases hj:j=i
     · subst hj;rw [hi] at e1;cases e1;rw [List.getElem?_set_self hiσ] at e2
       cases e2
       exact ⟨u,r,.inl ⟨hk,by simp⟩⟩
     · rw [List.getElem?_set_ne (Ne.symm hj)] at e2;obtain ⟨u',r',q⟩:=hl j y v' e1 e2 e3;refine ⟨u',r',?_⟩;rcases q with ⟨k,e⟩ | ⟨k,c,e,z⟩
       · refine .inl ⟨k,?_⟩;have:y≠x:=fun e=>hj (jB hN e1 (e▸hi));simp [this,e]
       · exact .inr ⟨k,c,e,z.sameBut hs (cne y c e)⟩
   · obtain ⟨w',z⟩:=I.cell y c e;exact ⟨w',z.sameBut hs (cne y c e)⟩
   · obtain ⟨e,n,ne,nf,d⟩:=I.pin p hp;exact ⟨(hs.2 p.1 ne).trans e,n,ne,nf,d⟩
 · have hfn:X.fn x=true:=by
    rcases hf with z | z
    · exact z
    · rw [z] at hk;cases hk
   obtain ⟨c,hc⟩:=I.ok.has x (.inl hk);obtain ⟨w',z⟩:=I.cell x c hc;refine wpAny_storeName_cell I.ok.kind hk hc z (fun h' hc' hs=>?_);obtain ⟨oc,hoc,hocd⟩:=id z;refine h { s with heap:=h' } ⟨I.ok,I.os,I.bare,⟨fun b o e n hb hx=>?_,fun b o e n hb hx=>?_,I.base.free,fun b o e hx=>?_,I.base.tups,I.base.frzs,I.base.tbls⟩,⟨m,hn.sameBut hs (Ne.symm (cne x c hc)),fun j y v' e1 e2 e3=>?_⟩,fun y c' e=>?_,I.free,I.freeC,fun p hp=>?_,tracked ⟨oc,hoc,I.freeC x c hc⟩ hs,by simpa using I.len⟩ ⟨c,hs,.inr hc⟩
   · exact (hs.2 b (zC2 (zB9 (Heap.lt_size e) (I.ok.cab x c hfn hc)))).trans (I.base.keep b o e n hb hx)
   · obtain ⟨sl,e1⟩:=I.base.slot b o e n hb hx;exact ⟨sl,(hs.2 b (zC2 (zB9 (Heap.lt_size e) (I.ok.cab x c hfn hc)))).trans e1⟩
   · obtain ⟨o',e1⟩:=I.base.there b o e hx;exact ⟨o',(hs.2 b (zC2 (zB9 (Heap.lt_size e) (I.ok.cab x c hfn hc)))).trans e1⟩
   · by_cases hj:j=i
     · subst hj;rw [hi] at e1;cases e1;rw [List.getElem?_set_self hiσ] at e2
       cases e2
       exact ⟨u,r,.inr ⟨.inl hk,c,hc,hc'⟩⟩
     · rw [List.getElem?_set_ne (Ne.symm hj)] at e2;obtain ⟨u',r',q⟩:=hl j y v' e1 e2 e3;refine ⟨u',r',?_⟩;rcases q with q | ⟨k,c',e,z'⟩
       · exact .inl q
       · refine .inr ⟨k,c',e,z'.sameBut hs ?_⟩;rintro rfl;exact hj (jB hN e1 (I.ok.inj _ _ _ e hc▸hi))
   · by_cases hcc:c'=c
     · subst hcc;exact ⟨_,hc'⟩
     · obtain ⟨w2,z2⟩:=I.cell y c' e;exact ⟨w2,z2.sameBut hs hcc⟩
   · obtain ⟨e,n,ne,nf,d⟩:=I.pin p hp;refine ⟨(hs.2 p.1 ?_).trans e,n,ne,nf,d⟩;intro q;rw [q,hoc] at e;have q':oc=p.2:=Option.some.inj e;exact d w' (by rw [← q'];exact hocd)
theorem bS {M:Model} {A:Around} {E:.(21)} {i:Nat} {x:Str} {v:V} {u:Value} {Q:Unit->Shared->Prop} (I:.(14)) (hN:X.N.Nodup) (hi:X.N[i]? = some x) (hx:Loc X.env.scope x) (r:RelV v u)
 (h:∀ s',Inv X pins (σ.set i (some v)) H s'->Q () s') (hf:X.fn x=true\/X.env.scope.names.lookup x=some .local:=by first | exact .inl rfl | exact .inr rfl | assumption):wpAny M A (storeName X.env x u) Q E s:=
 g6 I hN hi hx r (fun s' I' _=>h s' I') hf
theorem Inv.call' {s':Shared} {ch:List Addr} (I:.(14)) (ho:s'.os=s.os) (u:Un (frs X.stack) ch H H' s.heap s'.heap) (hok:HOk X.prog X.w H' s'.heap) (hg:AllBare s'.gens)
 (hch:∀ b∈ch,(b∈X.ex\/X.s₀.heap.objs.size<=b)/\b≠X.env.locals/\(∀ x c,X.env.cells.lookup x=some c->c≠b)/\∀ p∈X.pn++pins,p.1≠b):Inv X pins σ H' s':=by
 obtain ⟨h',g',d',t',o'⟩:=s';have e:o'=s.os:=ho;subst e;exact I.call (g':=g') (t':=t') (d':=d') u hok hg hch
end
abbrev XK:=Value->Option Addr->Hp->Prop
abbrev St:=List (Option V)
abbrev VK:=V->Hp->Prop
abbrev TE:=St->Hp->VK->Prop
abbrev TT:=St->Hp->(Bool->Hp->Prop)->Prop
abbrev TA:=St->Hp->(List V->Hp->Prop)->Prop
structure Ends where
 nx:St->Hp->Prop
 rt:VK
 bk:St->Hp->Prop:=fun _ _=>False
 ct:St->Hp->Prop:=fun _ _=>False
abbrev TS:=Ends->St->Hp->Prop
def EP (X:Cx) (pins:.(31)) (σ:St) (Q:VK) (u:Value) (s':Shared):Prop:=∃ v H',Inv X pins σ H' s'/\RelV v u/\Q v H'
def TP (X:Cx) (pins:.(31)) (σ:St) (Q:Bool->Hp->Prop) (b:Bool) (s':Shared):Prop:=∃ H',Inv X pins σ H' s'/\Q b H'
def AP (X:Cx) (pins:.(31)) (σ:St) (Q:List V->Hp->Prop) (us:List Value) (s':Shared):Prop:=∃ vs H',Inv X pins σ H' s'/\Vals vs us/\Q vs H'
def SP (X:Cx) (pins:.(31)) (D:Ends) (f:Flow) (s':Shared):Prop:=
 match f with
 | .next=>∃ σ' H',Inv X pins σ' H' s'/\D.nx σ' H'
 | .brk=>∃ σ' H',Inv X pins σ' H' s'/\D.bk σ' H'
 | .cont=>∃ σ' H',Inv X pins σ' H' s'/\D.ct σ' H'
 | .ret u=>∃ v σ' H',Inv X pins σ' H' s'/\RelV v u/\D.rt v H'
def PE (X:Cx) (e:Expr) (t:TE):Prop:=
 ∀ (pins:List (Addr×Obj)) (s:Shared) (σ:St) (H:Hp) (Q:VK),Inv X pins σ H s->t σ H Q->wpAny .(15) X.A (eval e X.env) (EP X pins σ Q) X.xe s
@[irreducible] def ZE (X:Cx) (e:Expr) (t:TE):Prop:=PE X e t
theorem ZE.p {X:Cx} {e:Expr} {t:TE}  (h:ZE X e t):PE X e t:=by unfold ZE at h;exact h
def PT (X:Cx) (e:Expr) (t:TT):Prop:=
 ∀ (pins:List (Addr×Obj)) (s:Shared) (σ:St) (H:Hp) (Q:Bool->Hp->Prop),Inv X pins σ H s->t σ H Q->wpAny .(15) X.A (isTrue e X.env (eval e X.env)) (TP X pins σ Q) X.xe s
@[irreducible] def ZT (X:Cx) (e:Expr) (t:TT):Prop:=PT X e t
def PW (X:Cx) (e:Expr) (t:TT):Prop:=
 ∀ (whole:Sem Value) (pins:.(31)) (s:Shared) (σ:St) (H:Hp) (Q:Bool->Hp->Prop),Inv X pins σ H s->t σ H Q->wpAny .(15) X.A (isTrue e X.env whole) (TP X pins σ Q) X.xe s
@[irreducible] def ZW (X:Cx) (e:Expr) (t:TT):Prop:=PW X e t
theorem PW.pt {X:Cx} {e:Expr} {t:TT} (h:PW X e t):PT X e t:=h _
theorem ZW.zt {X:Cx} {e:Expr} {t:TT} (h:ZW X e t):ZT X e t:=by with_unfolding_all exact PW.pt h
def PA (X:Cx) (es:List Expr) (t:TA):Prop:=
 ∀ (pos:Pos) (pins:.(31)) (s:Shared) (σ:St) (H:Hp) (Q:List V->Hp->Prop),Inv X pins σ H s->t σ H Q->wpAny .(15) X.A (spliced (backTo pos .(13))) (AP X pins σ Q) X.xe s
@[irreducible] def ZA (X:Cx) (es:List Expr) (t:TA):Prop:=PA X es t
def PS (X:Cx) (st:Stmt) (t:TS):Prop:=
 ∀ (pins:List (Addr×Obj)) (s:Shared) (σ:St) (H:Hp) (D:Ends),Inv X pins σ H s->t D σ H->wpAny .(15) X.A (exec st X.env) (SP X pins D) X.xe s
@[irreducible] def ZS (X:Cx) (st:Stmt) (t:TS):Prop:=PS X st t
def PSs (X:Cx) (st:List Stmt) (t:TS):Prop:=
 ∀ (pins:List (Addr×Obj)) (s:Shared) (σ:St) (H:Hp) (D:Ends),Inv X pins σ H s->t D σ H->wpAny .(15) X.A (execs st X.env) (SP X pins D) X.xe s
@[irreducible] def ZSs (X:Cx) (st:List Stmt) (t:TS):Prop:=PSs X st t
theorem ZSs.p {X:Cx} {st:List Stmt} {t:TS}  (h:ZSs X st t):PSs X st t:=by unfold ZSs at h;exact h
theorem thn {α:Type} {t:Sem α} {Q Q':α->Shared->Prop} {M:Model} {A:Around} {E:.(21)} {s:Shared} (h:wpAny M A t Q E s) (hQ:∀ a s,Q a s->Q' a s):wpAny M A t Q' E s:=wpAny_mono h hQ fun _ _ x=>x
section
variable {X:Cx}
def tVar (i:Nat):TE:=fun σ H Q=>∃ v,σ[i]? = some (some v)/\Q v H
def tC (v:V):TE:=fun _ H Q=>Q v H
theorem pe_var {i:Nat} {x:Str} {pos:Pos} (hN:X.N[i]? = some x) (hv:Vis X.env.scope x) (hd:.(25)=false:=by decide) (hcd:(x == ("__classdict__" : Str))=false:=by decide):PE X (.Name x pos) (tVar i):=by
 intro pins s σ H Q I h;obtain ⟨v,e,h⟩:=h;obtain ⟨m,hn,hl⟩:=I.loc;obtain ⟨u,r,l⟩:=hl i x v hN e hv;have fin:EP X pins σ Q u s:=⟨v,H,I,r,h⟩
 rcases l with ⟨hk,hm⟩ | ⟨hk,c,hc,hcell⟩
 · exact wpAny_Name (wpAny_loadName_local I.ok.kind hk hn hm fin) hd
 · rcases hk with hk | hk
   · exact wpAny_Name (wpAny_loadName_cell I.ok.kind hk hc hcell fin) hd
   · exact wpAny_Name (wpAny_loadName_free I.ok.kind hk hc hcell fin hcd) hd
theorem pe_int {i j pos}:PE X (.Constant (.int i) j pos) (tC (.int i)):=fun _ _ _ H _ I h=>wpAny_Constant_int ⟨.int i,H,I.tok _,⟨_,rfl⟩,h⟩
theorem ah {i j pos}:ZE X (.Constant (.int i) j pos) (tC (.int i)):=by with_unfolding_all exact pe_int
theorem pe_bl {b j pos}:PE X (.Constant (.bool b) j pos) (tC (.bl b)):=fun _ _ _ H _ I h=>Constant_bool ⟨.bl b,H,I,rfl,h⟩
theorem bR {b j pos}:ZE X (.Constant (.bool b) j pos) (tC (.bl b)):=by with_unfolding_all exact pe_bl
theorem pe_non {j pos}:PE X (.Constant .none j pos) (tC .non):=fun _ _ _ H _ I h=>Constant_none ⟨.non,H,I,rfl,h⟩
theorem eG {j pos}:ZE X (.Constant .none j pos) (tC .non):=by with_unfolding_all exact pe_non
theorem pe_str {x j pos}:PE X (.Constant (.str x) j pos) (tC (.str x)):=fun _ _ _ H _ I h=>Calls.Constant_str ⟨.str x,H,I.tok _,⟨_,rfl⟩,h⟩
theorem am {x j pos}:ZE X (.Constant (.str x) j pos) (tC (.str x)):=by with_unfolding_all exact pe_str
def Gl (X:Cx) (x:Str):Prop:=X.env.kindOf x=some .globalImplicit
theorem mG {E:.(21)} {pins:.(31)} {s:Shared} {σ:St} {H:Hp} {x:Str} {u:Value} {pos:Pos} {Q:.(21)} (I:.(14)) (hg:Gl X x) (hm:X.mg x=some u) (h:Q u s)
 (hd:.(25)=false:=by decide):wpAny .(15) X.A (eval (.Name x pos) X.env) Q E s:=
 Calls.Name_function_global I.ok.kind hg (Calls.loadGlobal_global (by rw [I.ok.glob];exact I.mod.glob.keeps I.bk) hm h) hd
theorem fe {E:.(21)} {pins:.(31)} {s:Shared} {σ:St} {H:Hp} {x:Str} {u:Value} {pos:Pos} {Q:.(21)} (I:.(14)) (hg:Gl X x) (hm:X.mg x=none) (hv:bootBuiltins x=some u) (h:Q u s)
 (hn:x≠"__name__":=by decide) (hd:.(25)=false:=by decide):wpAny .(15) X.A (eval (.Name x pos) X.env) Q E s:=by
 obtain ⟨mb,h1,h2⟩:=I.mod.blt;exact Calls.Name_function_global I.ok.kind hg (Calls.loadGlobal_builtin (by rw [I.ok.glob];exact I.mod.glob.keeps I.bk) hm (by rw [I.ok.blt];exact h1.keeps I.bk) ((h2 x hn).trans hv) h) hd
theorem gA {x:Str} {v:V} {u:Value} {pos:Pos} (hg:Gl X x) (hm:X.mg x=some u) (r:RelV v u) (hd:.(25)=false:=by decide):PE X (.Name x pos) (tC v):=
 fun _ _ _ H _ I h=>mG I hg hm ⟨v,H,I,r,h⟩ hd
theorem tP {x:Str} {v:V} {u:Value} {pos:Pos} (hg:Gl X x) (hm:X.mg x=none) (hv:bootBuiltins x=some u) (r:RelV v u) (hn:x≠"__name__":=by decide) (hd:.(25)=false:=by decide):PE X (.Name x pos) (tC v):=
 fun _ _ _ H _ I h=>fe I hg hm hv ⟨v,H,I,r,h⟩ hn hd
variable {a b:Expr} {ta tb:TE} {pos:Pos}
variable {tA tB':TT} {rest:List Expr}
def tAnd (t u:TT):TT:=fun σ H Q=>t σ H fun c H1=>if c=true then u σ H1 Q else Q false H1
def tOr (t u:TT):TT:=fun σ H Q=>t σ H fun c H1=>if c=true then Q true H1 else u σ H1 Q
def tNot (t:TT):TT:=fun σ H Q=>t σ H fun c H1=>Q (!c) H1
theorem sU (ha:PT X a tA):PW X (.BoolOp .And [a] pos) tA:=by
 intro wh pins s σ H Q I h;refine isTrue_and (thn (ha pins s σ H Q I h) fun c s1 e=>?_)
 cases c with
 | true=>exact isTrue_and_nil e
 | false=>exact e
theorem dB (ha:ZT X a tA):ZW X (.BoolOp .And [a] pos) tA:=by with_unfolding_all exact sU ha
theorem pw_or1 (ha:PT X a tA):PW X (.BoolOp .Or [a] pos) tA:=by
 intro wh pins s σ H Q I h;refine isTrue_or (thn (ha pins s σ H Q I h) fun c s1 e=>?_)
 cases c with
 | false=>exact isTrue_or_nil e
 | true=>exact e
theorem dN (ha:ZT X a tA):ZW X (.BoolOp .Or [a] pos) tA:=by with_unfolding_all exact pw_or1 ha
theorem pw_and (ha:PT X a tA) (hb:PW X (.BoolOp .And (b::rest) pos) tB'):PW X (.BoolOp .And (a::b::rest) pos) (tAnd tA tB'):=by
 intro wh pins s σ H Q I h;refine isTrue_and (thn (ha pins s σ H _ I h) fun c s1 ⟨H1,I1,q1⟩=>?_)
 cases c with
 | true=>exact hb wh pins s1 σ H1 Q I1 q1
 | false=>exact ⟨H1,I1,q1⟩
theorem eE (ha:ZT X a tA) (hb:ZW X (.BoolOp .And (b::rest) pos) tB'):ZW X (.BoolOp .And (a::b::rest) pos) (tAnd tA tB'):=by with_unfolding_all exact pw_and ha hb
theorem pw_or (ha:PT X a tA) (hb:PW X (.BoolOp .Or (b::rest) pos) tB'):PW X (.BoolOp .Or (a::b::rest) pos) (tOr tA tB'):=by
 intro wh pins s σ H Q I h;refine isTrue_or (thn (ha pins s σ H _ I h) fun c s1 ⟨H1,I1,q1⟩=>?_)
 cases c with
 | true=>exact ⟨H1,I1,q1⟩
 | false=>exact hb wh pins s1 σ H1 Q I1 q1
theorem ge (ha:ZT X a tA) (hb:ZW X (.BoolOp .Or (b::rest) pos) tB'):ZW X (.BoolOp .Or (a::b::rest) pos) (tOr tA tB'):=by with_unfolding_all exact pw_or ha hb
theorem pt_not (ha:PT X a tA):PT X (.UnaryOp .Not a pos) (tNot tA):=by
 intro pins s σ H Q I h;exact isTrue_not (ha pins s σ H (fun c H1=>Q (!c) H1) I h)
theorem bI (ha:ZT X a tA):ZT X (.UnaryOp .Not a pos) (tNot tA):=by with_unfolding_all exact pt_not ha
theorem pe_one {op} {t:TE} (h:PE X a t):PE X (.BoolOp op [a] pos) t:=fun pins s σ H Q I hw=>BoolOp_one (h pins s σ H Q I hw)
theorem cB {op} {t:TE} (h:ZE X a t):ZE X (.BoolOp op [a] pos) t:=by with_unfolding_all exact pe_one h
def tIf (t:TT) (ta tb:TE):TE:=fun σ H Q=>t σ H fun c H1=>if c=true then ta σ H1 Q else tb σ H1 Q
theorem pf {c:Expr} (hc:PT X c tA) (ha:PE X a ta) (hb:PE X b tb):PE X (.IfExp c a b pos) (tIf tA ta tb):=by
 intro pins s σ H Q I h;refine wpAny_IfExp (thn (hc pins s σ H _ I h) fun d s1 ⟨H1,I1,q1⟩=>?_)
 cases d with
 | true=>exact ha pins s1 σ H1 Q I1 q1
 | false=>exact hb pins s1 σ H1 Q I1 q1
theorem aW {c:Expr} (hc:ZT X c tA) (ha:ZE X a ta) (hb:ZE X b tb):ZE X (.IfExp c a b pos) (tIf tA ta tb):=by with_unfolding_all exact pf hc ha hb
end
def SqL (K:PySem.W.Frag) (H:Hp) (a:Addr) (xs:List V):Prop:=
 Rd H a (.lst xs) \/
  ∃ (o:Obj) (its:Array Value) (n:Nat),K.lookup a=some o/\o.cls=.type "list"/\o.dict=none/\o.data=.seq its n/\its.size<=sizeLine/\Vals xs its.toList
def SqT (K:PySem.W.Frag) (H:Hp) (a:Addr) (xs:List V):Prop:=
 Rd H a (.tup xs) \/
  ∃ (o:Obj) (its:Array Value) (n:Nat),K.lookup a=some o/\o.cls=.type "tuple"/\o.data=.seq its n/\its.size<=sizeLine/\Vals xs its.toList
def absV:Value->Option V
 | .none=>some .non
 | .bool b=>some (.bl b)
 | .int i _=>some (.int i)
 | .str x _=>some (.str x)
 | .bytes b _=>some (.byt b)
 | .float b _=>some (.flt b)
 | .ref a=>some (.ref a)
 | .type n=>some (.ty n)
 | _=>none
theorem RelV.abs {x:V} {u:Value} (r:RelV x u):absV u=some x:=by
 cases x with
 | non=>cases r;rfl
 | bl _=>cases r;rfl
 | int _=>obtain ⟨t,rfl⟩:=r;rfl
 | str _=>obtain ⟨t,rfl⟩:=r;rfl
 | byt _=>obtain ⟨t,rfl⟩:=r;rfl
 | flt _=>obtain ⟨t,rfl⟩:=r;rfl
 | ref _=>cases r;rfl
 | ty _=>cases r;rfl
theorem RelV.inj {x y:V} {u:Value} (r:RelV x u) (q:RelV y u):x=y:=Option.some.inj (r.abs.symm.trans q.abs)
theorem Vals.inj:∀ {xs ys:List V} {us:List Value},Vals xs us->Vals ys us->xs=ys
 | _,_,_,.nil,.nil=>rfl
 | _,_,_,.cons r t,.cons r' t'=>by rw [r.inj r',Vals.inj t t']
section
variable {X:Cx} {pins:List (Addr×Obj)} {σ:St} {H:Hp} {s:Shared} {a:Addr} {xs ys:List V}
theorem SqL.of {K:PySem.W.Frag} (h:H a=some (.lst xs)):SqL K H a xs:=.inl (.inl h)
theorem SqT.of {K:PySem.W.Frag} (h:H a=some (.tup xs)):SqT K H a xs:=.inl (.inl h)
theorem Inv.list (I:.(14)) (h:SqL X.K H a xs):∃ its:List Value,Vals xs its/\PlainL s.heap a its.toArray/\xs.length<=sizeLine:=by
 rcases h with h | ⟨o,its,n,hk,hc,hd,hs,hz,r⟩
 · obtain ⟨z,its,n,r,e⟩:=h.ok I.hok;exact ⟨its,r,⟨_,n,e,rfl,rfl,rfl⟩,z⟩
 · refine ⟨its.toList,r,⟨o,n,I.kIn a o hk,hc,hd,by simpa using hs⟩,?_⟩;have e:=r.length;simp only [zB6] at e;lia
theorem Inv.tuple (I:.(14)) (h:SqT X.K H a xs):∃ its:List Value,Vals xs its/\IsTup s.heap a its.toArray/\xs.length<=sizeLine:=by
 rcases h with h | ⟨o,its,n,hk,hc,hs,hz,r⟩
 · obtain ⟨z,its,r,p⟩:=h.ok I.hok;exact ⟨its,r,p.tup,z⟩
 · refine ⟨its.toList,r,⟨o,I.kIn a o hk,hc,n,by simpa using hs⟩,?_⟩;have e:=r.length;simp only [zB6] at e;lia
theorem Inv.list_inj (I:.(14)) (h:SqL X.K H a xs) (h':SqL X.K H a ys):xs=ys:=by
 obtain ⟨its,r,⟨o,n,e,_,_,d⟩,_⟩:=I.list h;obtain ⟨its',r',⟨o',n',e',_,_,d'⟩,_⟩:=I.list h';rw [e] at e';cases e';rw [d] at d';injection d' with d1 _
 have:its=its':=by simpa using congrArg Array.toList d1
 subst this;exact r.inj r'
theorem Inv.tuple_inj (I:.(14)) (h:SqT X.K H a xs) (h':SqT X.K H a ys):xs=ys:=by
 obtain ⟨its,r,⟨o,e,_,n,d⟩,_⟩:=I.tuple h;obtain ⟨its',r',⟨o',e',_,n',d'⟩,_⟩:=I.tuple h';rw [e] at e';cases e';rw [d] at d';injection d' with d1 _
 have:its=its':=by simpa using congrArg Array.toList d1
 subst this;exact r.inj r'
end
abbrev Cx.wish (X:Cx) (E:.(21)):Cx:={ X with xe:=E }
abbrev Cx.nox (X:Cx):Cx:=X.wish fun _ _=>False
theorem Cx.Ok.wish {X:Cx} (ok:X.Ok) (E:.(21)):(X.wish E).Ok:=
 ⟨ok.mod,ok.kind,ok.glob,ok.blt,ok.above,ok.inj,ok.has,ok.cab,ok.hd,ok.frames,ok.stk,ok.exf,ok.bs,ok.bsz,ok.noex,ok.exfs,ok.funs,ok.frf⟩
theorem Cx.Ok.unwish {X:Cx} {E:.(21)} (ok:(X.wish E).Ok):X.Ok:=
 ⟨ok.mod,ok.kind,ok.glob,ok.blt,ok.above,ok.inj,ok.has,ok.cab,ok.hd,ok.frames,ok.stk,ok.exf,ok.bs,ok.bsz,ok.noex,ok.exfs,ok.funs,ok.frf⟩
section
variable {X:Cx} {pins:List (Addr×Obj)} {σ:St} {H:Hp} {s:Shared} {E:Value->Shared->Prop}
theorem Inv.wish (I:.(14)) (E:.(21)):Inv (X.wish E) pins σ H s:=⟨I.ok.wish E,I.os,I.bare,I.base,I.loc,I.cell,I.free,I.freeC,I.pin,I.hok,I.len⟩
theorem Inv.unwish (I:Inv (X.wish E) pins σ H s):Inv X pins σ H s:=⟨I.ok.unwish,I.os,I.bare,I.base,I.loc,I.cell,I.free,I.freeC,I.pin,I.hok,I.len⟩
theorem SP.unwish {D:Ends} {f:Flow} {s':Shared} (h:SP (X.wish E) pins D f s'):SP X pins D f s':=by
 cases f with
 | next=>obtain ⟨σ',H',I,q⟩:=h;exact ⟨σ',H',I.unwish,q⟩
 | brk=>obtain ⟨σ',H',I,q⟩:=h;exact ⟨σ',H',I.unwish,q⟩
 | cont=>obtain ⟨σ',H',I,q⟩:=h;exact ⟨σ',H',I.unwish,q⟩
 | ret u=>obtain ⟨v,σ',H',I,r,q⟩:=h;exact ⟨v,σ',H',I.unwish,r,q⟩
theorem PSs.nox {st:List Stmt} {t:TS} (h:PSs X.nox st t):PSs X st t:=fun pins s σ H D I hw=>
 wpAny_mono (h pins s σ H D (I.wish _) hw) (fun _ _ q=>q.unwish) fun _ _ z=>False.elim z
end
section
variable {X:Cx} {st:Stmt} {rest:List Stmt} {t u:TS} {e:Expr} {te:TE} {pos:Pos}
def tNext:TS:=fun D σ H=>D.nx σ H
def tSeq (t u:TS):TS:=fun D σ H=>t { D with nx:=u D } σ H
theorem tj:PSs X [] tNext:=fun _ _ σ H _ I h=>wpAny_execs_nil ⟨σ,H,I,h⟩
theorem ak:ZSs X [] tNext:=by with_unfolding_all exact tj
theorem o3 (h1:PS X st t) (h2:PSs X rest u):PSs X (st::rest) (tSeq t u):=by
 intro pins s σ H D I h;refine wpAny_execs_cons (thn (h1 pins s σ H { D with nx:=u D } I h) fun f s1 q=>?_)
 cases f with
 | next=>
   obtain ⟨σ',H',I',q⟩:=q
   exact h2 pins s1 σ' H' D I' q
 | ret v=>exact q
 | brk=>exact q
 | cont=>exact q
theorem ae (h1:ZS X st t) (h2:ZSs X rest u):ZSs X (st::rest) (tSeq t u):=by with_unfolding_all exact o3 h1 h2
theorem tf (h1:PS X st t):PSs X [st] t:=by
 intro pins s σ H D I h;refine wpAny_execs_cons (thn (h1 pins s σ H D I h) fun f s1 q=>?_)
 cases f with
 | next=>exact wpAny_execs_nil q
 | ret v=>exact q
 | brk=>exact q
 | cont=>exact q
theorem ai (h1:ZS X st t):ZSs X [st] t:=by with_unfolding_all exact tf h1
def qA:TS:=fun D σ H=>D.bk σ H
theorem o7:PS X (.Break pos) qA:=fun _ _ σ H _ I h=>wpAny_Break ⟨σ,H,I,h⟩
theorem Inv.quiet {pins:.(31)} {σ:St} {H:Hp} {s:Shared} (I:.(14)):interactive X.env=false:=by simp [interactive,I.ok.kind]
def tDrop (te:TE):TS:=fun D σ H=>te σ H fun _ H1=>D.nx σ H1
theorem tq (he:PE X e te) (hs:swapsWith e none pos.line X.env=pure false:=by rfl):PS X (.Expr e pos) (tDrop te):=by
 intro pins s σ H D I h;exact wpAny_Expr_any (thn (he pins s σ H _ I h) fun v s1 ⟨x,H1,I1,r1,q1⟩=>⟨σ,H1,I1,q1⟩) I.quiet hs
theorem cy (he:ZE X e te) (hs:swapsWith e none pos.line X.env=pure false:=by rfl):ZS X (.Expr e pos) (tDrop te):=by with_unfolding_all exact tq he hs
def tRet (te:TE):TS:=fun D σ H=>te σ H D.rt
theorem ps_ret (he:PE X e te):PS X (.Return (some e) pos) (tRet te):=by
 intro pins s σ H D I h;exact wpAny_Return_some (thn (he pins s σ H _ I h) fun v s1 ⟨x,H1,I1,r1,q1⟩=>⟨x,σ,H1,I1,r1,q1⟩)
theorem aq (he:ZE X e te):ZS X (.Return (some e) pos) (tRet te):=by with_unfolding_all exact ps_ret he
def tIfS (c:TT) (t u:TS):TS:=fun D σ H=>c σ H fun b H1=>if b=true then t D σ H1 else u D σ H1
theorem ps_if {c:Expr} {a b:List Stmt} {tc:TT} (hc:PT X c tc) (ha:PSs X a t) (hb:PSs X b u):PS X (.If c a b pos) (tIfS tc t u):=by
 intro pins s σ H D I h;refine wpAny_If (thn (hc pins s σ H _ I h) fun d s1 ⟨H1,I1,q1⟩=>?_)
 cases d with
 | true=>exact ha pins s1 σ H1 D I1 q1
 | false=>exact hb pins s1 σ H1 D I1 q1
theorem aC {c:Expr} {a b:List Stmt} {tc:TT} (hc:ZT X c tc) (ha:ZSs X a t) (hb:ZSs X b u):ZS X (.If c a b pos) (tIfS tc t u):=by with_unfolding_all exact ps_if hc ha hb
def qx:TS:=fun _ _ _=>False
theorem lG {sts:List Stmt}:PSs X sts qx:=fun _ _ _ _ _ _ h=>h.elim
end
abbrev TG:=V->St->Hp->(St->Hp->Prop)->Prop
abbrev TGs:=List V->St->Hp->(St->Hp->Prop)->Prop
def PG (X:Cx) (target:Expr) (t:TG):Prop:=
 ∀ (pins:List (Addr×Obj)) (s:Shared) (σ:St) (H:Hp) (v:V) (u:Value) (Q:St->Hp->Prop),Inv X pins σ H s->RelV v u->t v σ H Q ->
   wpAny .(15) X.A (assign target X.env u) (fun _ s'=>∃ σ' H',Inv X pins σ' H' s'/\Q σ' H') X.xe s
@[irreducible] def ZG (X:Cx) (target:Expr) (t:TG):Prop:=PG X target t
def PGs (X:Cx) (ts:List Expr) (t:TGs):Prop:=
 ∀ (pins:List (Addr×Obj)) (s:Shared) (σ:St) (H:Hp) (vs:List V) (us:List Value) (Q:St->Hp->Prop),Inv X pins σ H s->Vals vs us->t vs σ H Q ->
   wpAny .(15) X.A (assignInOrder ((assignEach ts X.env).map (·.2)) us) (fun _ s'=>∃ σ' H',Inv X pins σ' H' s'/\Q σ' H') X.xe s
@[irreducible] def ZGs (X:Cx) (ts:List Expr) (t:TGs):Prop:=PGs X ts t
abbrev u9:=V->V->V->Hp->(Hp->Prop)->Prop
def vh (X:Cx) (t:u9):Prop:=
 ∀ (pins:List (Addr×Obj)) (s:Shared) (σ:St) (H:Hp) (o i v:V) (ov iv u:Value) (Q:Hp->Prop),Inv X pins σ H s->RelV o ov->RelV i iv->RelV v u->t o i v H Q ->
   wpAny .(15) X.A (setItem ov iv u) (fun _ s'=>∃ H',Inv X pins σ H' s'/\Q H') X.xe s
abbrev TIp:=V->V->Hp->VK->Prop
def PIp (X:Cx) (op:Operator) (t:TIp):Prop:=
 ∀ (pins:List (Addr×Obj)) (s:Shared) (σ:St) (H:Hp) (x y:V) (v u:Value) (Q:VK),Inv X pins σ H s->RelV x v->RelV y u->t x y H Q ->
   wpAny .(15) X.A (inplaceOp op v u) (EP X pins σ Q) X.xe s
section
variable {X:Cx} {pos:Pos}
def fJ (i:Nat):TG:=fun v σ H Q=>Q (σ.set i (some v)) H
theorem tJ {i:Nat} {x:Str} (hN:X.N.Nodup) (hi:X.N[i]? = some x) (hx:Loc X.env.scope x) (hf:X.fn x=true\/X.env.scope.names.lookup x=some .local:=by first | exact .inl rfl | exact .inr rfl | assumption):PG X (.Name x pos) (fJ i):=by
 intro pins s σ H v u Q I r h;exact wpAny_assign_Name (bS I hN hi hx r (fun s' I'=>⟨_,H,I',h⟩) hf)
theorem az {i:Nat} {x:Str} (hN:X.N.Nodup) (hi:X.N[i]? = some x) (hx:Loc X.env.scope x) (hf:X.fn x=true\/X.env.scope.names.lookup x=some .local:=by first | exact .inl rfl | exact .inr rfl | assumption):ZG X (.Name x pos) (fJ i):=by with_unfolding_all exact tJ hN hi hx hf
def gNil:TGs:=fun vs σ H Q=>vs=[]/\Q σ H
def p9 (t:TG) (u:TGs):TGs:=fun vs σ H Q=>∃ v r,vs=v::r/\t v σ H fun σ' H'=>u r σ' H' Q
theorem tI:PGs X [] gNil:=by
 intro pins s σ H vs us Q I r h;obtain ⟨e,h⟩:=h;subst e
 cases r
 exact assignInOrder_nil ⟨σ,H,I,h⟩
theorem cP:ZGs X [] gNil:=by with_unfolding_all exact tI
theorem pb {e:Expr} {es:List Expr} {t:TG} {u:TGs} (h1:PG X e t) (h2:PGs X es u)
 (hs:(assignEach (e::es) X.env).map (·.2)=assign e X.env::(assignEach es X.env).map (·.2):=by rfl):PGs X (e::es) (p9 t u):=by
 intro pins s σ H vs us Q I r h;obtain ⟨v,vr,e1,h⟩:=h;subst e1
 cases r with
 | cons r rr=>
   rw [hs]
   refine assignInOrder_cons (thn (h1 pins s σ H _ _ _ I r h) fun _ s1 ⟨σ1,H1,I1,q1⟩=>?_)
   exact h2 pins s1 σ1 H1 _ _ Q I1 rr q1
theorem aV {e:Expr} {es:List Expr} {t:TG} {u:TGs} (h1:ZG X e t) (h2:ZGs X es u)
 (hs:(assignEach (e::es) X.env).map (·.2)=assign e X.env::(assignEach es X.env).map (·.2):=by rfl):ZGs X (e::es) (p9 t u):=by with_unfolding_all exact pb h1 h2 hs
def gTup (K:PySem.W.Frag) (n:Nat) (t:TGs):TG:=fun v σ H Q=>∃ a xs,v=.ref a/\SqT K H a xs/\xs.length=n/\t xs σ H Q
theorem pg_tup {es:List Expr} {k:Nat} {t:TGs} {n:Nat} (hc:X.calm=true) (h:PGs X es t)
 (hn:(assignEach es X.env).length=n:=by rfl) (hst:(assignEach es X.env).findIdx? (·.1)=none:=by rfl):PG X (.Tuple es k pos) (gTup X.K n t):=by
 intro pins s σ H v u Q I r hw;obtain ⟨a,xs,e1,hq,hl,hw⟩:=hw;subst e1
 cases r
 obtain ⟨its,rv,ht,hz⟩:=I.tuple hq;refine assign_Tuple_tuple (I.ok.hd hc) ht (by simp [hn,← hl,rv.length]) hst fun h' hx=>?_;have I1:Inv X pins σ H { s with heap:=h' }:=I.kept (t':=s.toks) fun b o e=>hx b o (zC2 (Heap.lt_size e)) e;exact h pins _ σ H xs _ Q I1 (by simpa using rv) hw
theorem eF {es:List Expr} {k:Nat} {t:TGs} {n:Nat} (hc:X.calm=true) (h:ZGs X es t)
 (hn:(assignEach es X.env).length=n:=by rfl) (hst:(assignEach es X.env).findIdx? (·.1)=none:=by rfl):ZG X (.Tuple es k pos) (gTup X.K n t):=by with_unfolding_all exact pg_tup hc h hn hst
def gSub (to ti:TE) (t:u9):TG:=fun v σ H Q=>to σ H fun o H1=>ti σ H1 fun i H2=>t o i v H2 fun H3=>Q σ H3
theorem pg_sub {o i:Expr} {to ti:TE} {t:u9} (ho:PE X o to) (hi:PE X i ti) (hs:vh X t)
 (ha:∀ v,assign (.Subscript o i pos) X.env v=(do
   let ov ← holding [v] (eval o X.env)
   let iv ← holding [v,ov] (eval i X.env)
   standAt pos
   holding [v,ov,iv] (setItem ov iv v)
   release [v,ov,iv] []):=by intro _;rfl):PG X (.Subscript o i pos) (gSub to ti t):=by
 intro pins s σ H v u Q I r h;rw [ha];refine wpAny_bind (wpAny_holding (thn (ho pins s σ H _ I h) fun ov s1 ⟨x,H1,I1,r1,q1⟩=>?_));refine wpAny_bind (wpAny_holding (thn (hi pins s1 σ H1 _ I1 q1) fun iv s2 ⟨y,H2,I2,r2,q2⟩=>?_));refine wpAny_bind (wpAny_standAt (wpAny_bind (wpAny_holding (thn (hs pins s2 σ H2 x y v ov iv u _ I2 r1 r2 r q2) fun _ s3 ⟨H3,I3,q3⟩=>?_))));exact wpAny_release ⟨σ,H3,I3,q3⟩
theorem kw {o i:Expr} {to ti:TE} {t:u9} (ho:ZE X o to) (hi:ZE X i ti) (hs:vh X t)
 (ha:∀ v,assign (.Subscript o i pos) X.env v=(do
   let ov ← holding [v] (eval o X.env)
   let iv ← holding [v,ov] (eval i X.env)
   standAt pos
   holding [v,ov,iv] (setItem ov iv v)
   release [v,ov,iv] []):=by intro _;rfl):ZG X (.Subscript o i pos) (gSub to ti t):=by with_unfolding_all exact pg_sub ho hi hs ha
def vf (te:TE) (g:TG):TS:=fun D σ H=>te σ H fun x H1=>g x σ H1 D.nx
theorem ps_asg {tg e:Expr} {te:TE} {g:TG} (he:PE X e te) (hg:PG X tg g) (hs:swapsWithSole [tg] e pos.line X.env=pure false:=by rfl) (hw:swappedStores [tg] e X.env=pure none:=by rfl)
 (h1:(assignEach [tg] X.env).map (·.2)=[assign tg X.env]:=by rfl):PS X (.Assign [tg] e pos) (vf te g):=by
 intro pins s σ H D I h;refine wpAny_Assign_stores (thn (he pins s σ H _ I h) fun v s1 ⟨x,H1,I1,r1,q1⟩=>?_) hs hw;rw [h1];exact thn (hg pins s1 σ H1 x v _ I1 r1 q1) fun _ s2 q=>q
theorem dO {tg e:Expr} {te:TE} {g:TG} (he:ZE X e te) (hg:ZG X tg g) (hs:swapsWithSole [tg] e pos.line X.env=pure false:=by rfl) (hw:swappedStores [tg] e X.env=pure none:=by rfl)
 (h1:(assignEach [tg] X.env).map (·.2)=[assign tg X.env]:=by rfl):ZS X (.Assign [tg] e pos) (vf te g):=by with_unfolding_all exact ps_asg he hg hs hw h1
theorem ps_set {i:Nat} {x:Str} {e:Expr} {te:TE} {pos':Pos} (hN:X.N.Nodup) (hi:X.N[i]? = some x) (hx:Loc X.env.scope x) (he:PE X e te) (hs:swapsWith e (some (.Name x pos')) pos.line X.env=pure false:=by rfl) (hf:X.fn x=true\/X.env.scope.names.lookup x=some .local:=by first | exact .inl rfl | exact .inr rfl | assumption) :
 PS X (.Assign [.Name x pos'] e pos) (vf te (fJ i)):=by
 intro pins s σ H D I h;refine wpAny_Assign_Name (thn (he pins s σ H _ I h) fun v s1 ⟨y,H1,I1,r1,q1⟩=>?_) hs;exact bS I1 hN hi hx r1 (fun s2 I2=>⟨_,H1,I2,q1⟩) hf
theorem ay {i:Nat} {x:Str} {e:Expr} {te:TE} {pos':Pos} (hN:X.N.Nodup) (hi:X.N[i]? = some x) (hx:Loc X.env.scope x) (he:ZE X e te) (hs:swapsWith e (some (.Name x pos')) pos.line X.env=pure false:=by rfl) (hf:X.fn x=true\/X.env.scope.names.lookup x=some .local:=by first | exact .inl rfl | exact .inr rfl | assumption) :
 ZS X (.Assign [.Name x pos'] e pos) (vf te (fJ i)):=by with_unfolding_all exact ps_set hN hi hx he hs hf
def tPar (i j:Nat) (ta:TA):TS:=fun D σ H=>ta σ H fun vs H1=>∃ v w,vs=[v,w]/\D.nx ((σ.set i (some v)).set j (some w)) H1
theorem ps_par {i j:Nat} {x y:Str} {a b:Expr} {ta:TA} {px py pt:Pos} {kt k2 pt2} (hc:X.calm=true) (hN:X.N.Nodup) (hi:X.N[i]? = some x) (hj:X.N[j]? = some y) (hij:i≠j)
 (hx:X.env.scope.names.lookup x=some .local) (hy:X.env.scope.names.lookup y=some .local) (ha:PA X [a,b] ta)
 (hw:swappedStores [.Tuple [.Name x px,.Name y py] kt pt] (.Tuple [a,b] k2 pt2) X.env=pure (some [x,y]))
 (hs:swapsWithSole [.Tuple [.Name x px,.Name y py] kt pt] (.Tuple [a,b] k2 pt2) pos.line X.env=pure false:=by rfl) :
 PS X (.Assign [.Tuple [.Name x px,.Name y py] kt pt] (.Tuple [a,b] k2 pt2) pos) (tPar i j ta):=by
 intro pins s σ H D I h;rw [exec_Assign_arm];refine wpAny_bind (wpAny_standAt ?_);rw [hs];refine wpAny_bind (wpAny_pure ?_);rw [if_neg (by decide)];refine wpAny_bind (Tuple_ (thn (ha _ pins s σ H _ I h) fun us s1 ⟨vs,H1,I1,r1,q1⟩=>?_));obtain ⟨v,w,e1,q1⟩:=q1;subst e1;obtain ⟨u1,u2,rfl,rv,rw'⟩:∃ u1 u2,us=[u1,u2]/\RelV v u1/\RelV w u2:=by
  cases r1 with
  | cons p q=>
    cases q with
    | cons p' q'=>
      cases q'
      exact ⟨_,_,rfl,p,p'⟩
 refine wpAny_newObj_type ?_ (by show 2<=sizeLine;decide);have I2:Inv X pins σ H1 { s1 with heap:=s1.heap.push { cls:=.type "tuple",data:=.seq [u1,u2].toArray } }:=I1.kept (t':=s1.toks) fun b o e=>Heap.get?_push_of_some _ e;rw [hw];refine wpAny_bind (wpAny_pure ?_);show wpAny .(15) X.A (do rule "assign.swapped-stores";let items ← unpackItems (.ref s1.heap.objs.size) 2 none;assignInOrder [fun v=>bindName X.env y v,fun v=>bindName X.env x v] items.reverse;pure Flow.next) _ _ _;refine wpAny_bind (wpAny_rule (wpAny_bind (unpackItems_tuple (items:=#[u1,u2]) (I.ok.hd hc) (IsTup.new s1.heap _) fun h' hx'=>?_)));have I3:=I2.kept (h':=h') (t':=s1.toks) fun b o e=>hx' b o (zC2 (Heap.lt_size e)) e;show wpAny _ _ (assignInOrder [fun v=>bindName X.env y v,fun v=>bindName X.env x v] [u2,u1] >>= fun _=>pure Flow.next) _ _ _;refine wpAny_bind (assignInOrder_cons (wpAny_bindName (bS I3 hN hj (.inl hy) rw' (fun s2 I4=>?_) (.inr hy))));refine assignInOrder_cons (wpAny_bindName (bS I4 hN hi (.inl hx) rv (fun s3 I5=>assignInOrder_nil (wpAny_pure ?_)) (.inr hx)));rw [List.set_comm _ _ (Ne.symm hij)] at I5;exact ⟨_,H1,I5,q1⟩
theorem fL {i j:Nat} {x y:Str} {a b:Expr} {ta:TA} {px py pt:Pos} {kt k2 pt2} (hc:X.calm=true) (hN:X.N.Nodup) (hi:X.N[i]? = some x) (hj:X.N[j]? = some y) (hij:i≠j)
 (hx:X.env.scope.names.lookup x=some .local) (hy:X.env.scope.names.lookup y=some .local) (ha:ZA X [a,b] ta)
 (hw:swappedStores [.Tuple [.Name x px,.Name y py] kt pt] (.Tuple [a,b] k2 pt2) X.env=pure (some [x,y]))
 (hs:swapsWithSole [.Tuple [.Name x px,.Name y py] kt pt] (.Tuple [a,b] k2 pt2) pos.line X.env=pure false:=by rfl) :
 ZS X (.Assign [.Tuple [.Name x px,.Name y py] kt pt] (.Tuple [a,b] k2 pt2) pos) (tPar i j ta):=by with_unfolding_all exact ps_par hc hN hi hj hij hx hy ha hw hs
def tAug (i:Nat) (te:TE) (ti:TIp):TS:=fun D σ H=>∃ x,σ[i]? = some (some x)/\te σ H fun y H1=>ti x y H1 fun z H2=>D.nx (σ.set i (some z)) H2
theorem ps_aug {i:Nat} {x:Str} {e:Expr} {te:TE} {op:Operator} {ti:TIp} {pos':Pos} (hN:X.N.Nodup) (hi:X.N[i]? = some x) (hx:Loc X.env.scope x) (he:PE X e te) (ho:PIp X op ti) (hf:X.fn x=true\/X.env.scope.names.lookup x=some .local:=by first | exact .inl rfl | exact .inr rfl | assumption) :
 PS X (.AugAssign (.Name x pos') op e pos) (tAug i te ti):=by
 intro pins s σ H D I h;obtain ⟨v,e1,h⟩:=h;obtain ⟨m,hn,hl⟩:=I.loc;have vis:Vis X.env.scope x:=by rcases hx with k | k;exact .inl k;exact .inr (.inl k)
 obtain ⟨u,r,l⟩:=hl i x v hi e1 vis;refine wpAny_AugAssign_Name ?_;have go:wpAny .(15) X.A (eval e X.env) (fun w s₂=>wpAny .(15) X.A (inplaceOp op u w) (fun r s₃=>wpAny .(15) X.A (storeName X.env x r) (fun _=>SP X pins D .next) X.xe s₃) X.xe s₂) X.xe s:=by
  refine thn (he pins s σ H _ I h) fun w s1 ⟨y,H1,I1,r1,q1⟩=>?_;refine thn (ho pins s1 σ H1 v y u w _ I1 r r1 q1) fun z s2 ⟨zv,H2,I2,r2,q2⟩=>?_;exact bS I2 hN hi hx r2 (fun s3 I3=>⟨_,H2,I3,q2⟩) hf
 rcases l with ⟨hk,hm⟩ | ⟨hk,c,hc,hcell⟩
 · exact wpAny_loadName_local I.ok.kind hk hn hm go
 · rcases hk with hk | hk
   · exact wpAny_loadName_cell I.ok.kind hk hc hcell go
   · rcases hx with k | k
     · have:X.env.scope.names.lookup x=some .free:=hk;rw [k] at this;cases this
     · have:X.env.scope.names.lookup x=some .free:=hk;rw [k] at this;cases this
theorem i6 {i:Nat} {x:Str} {e:Expr} {te:TE} {op:Operator} {ti:TIp} {pos':Pos} (hN:X.N.Nodup) (hi:X.N[i]? = some x) (hx:Loc X.env.scope x) (he:ZE X e te) (ho:PIp X op ti) (hf:X.fn x=true\/X.env.scope.names.lookup x=some .local:=by first | exact .inl rfl | exact .inr rfl | assumption) :
 ZS X (.AugAssign (.Name x pos') op e pos) (tAug i te ti):=by with_unfolding_all exact ps_aug hN hi hx he ho hf
def tAugS (to ti te:TE) (tget:V->V->Hp->VK->Prop) (tip:TIp) (tset:u9):TS:=fun D σ H=>to σ H fun o H1=>ti σ H1 fun i H2=>tget o i H2 fun x H3=>te σ H3 fun y H4=>tip x y H4 fun z H5=>tset o i z H5 fun H6=>D.nx σ H6
def PGet (X:Cx) (t:V->V->Hp->VK->Prop):Prop:=
 ∀ (pins:List (Addr×Obj)) (s:Shared) (σ:St) (H:Hp) (o i:V) (ov iv:Value) (Q:VK),Inv X pins σ H s->RelV o ov->RelV i iv->t o i H Q ->
   wpAny .(15) X.A (getItem ov iv) (EP X pins σ Q) X.xe s
theorem tu {o i e:Expr} {to ti te:TE} {tget:V->V->Hp->VK->Prop} {tip:TIp} {tset:u9} {op:Operator} {tpos:Pos} (ho:PE X o to) (hi:PE X i ti) (hg:PGet X tget) (he:PE X e te) (hp:PIp X op tip) (hs:vh X tset)
 (ha:∀ ov iv new,augStore i ov iv new=(do holding [new,ov,iv] (setItem ov iv new);release [new,ov,iv] [];pure .next):=by intros;rfl):PS X (.AugAssign (.Subscript o i tpos) op e pos) (tAugS to ti te tget tip tset):=by
 intro pins s σ H D I h;refine wpAny_AugAssign_SubscriptAny (thn (ho pins s σ H _ I h) fun ov s1 ⟨x1,H1,I1,r1,q1⟩=>?_) ha;refine thn (hi pins s1 σ H1 _ I1 q1) fun iv s2 ⟨x2,H2,I2,r2,q2⟩=>?_;refine thn (hg pins s2 σ H2 x1 x2 ov iv _ I2 r1 r2 q2) fun old s3 ⟨x3,H3,I3,r3,q3⟩=>?_;refine thn (he pins s3 σ H3 _ I3 q3) fun v s4 ⟨x4,H4,I4,r4,q4⟩=>?_;refine thn (hp pins s4 σ H4 x3 x4 old v _ I4 r3 r4 q4) fun new s5 ⟨x5,H5,I5,r5,q5⟩=>?_;exact thn (hs pins s5 σ H5 x1 x2 x5 ov iv new _ I5 r1 r2 r5 q5) fun _ s6 ⟨H6,I6,q6⟩=>⟨σ,H6,I6,q6⟩
theorem gg {o i e:Expr} {to ti te:TE} {tget:V->V->Hp->VK->Prop} {tip:TIp} {tset:u9} {op:Operator} {tpos:Pos} (ho:ZE X o to) (hi:ZE X i ti) (hg:PGet X tget) (he:ZE X e te) (hp:PIp X op tip) (hs:vh X tset)
 (ha:∀ ov iv new,augStore i ov iv new=(do holding [new,ov,iv] (setItem ov iv new);release [new,ov,iv] [];pure .next):=by intros;rfl):ZS X (.AugAssign (.Subscript o i tpos) op e pos) (tAugS to ti te tget tip tset):=by with_unfolding_all exact tu ho hi hg he hp hs ha
def ipI (f:Int->Int->Int):TIp:=fun x y H Q=>∃ i j,x=.int i/\y=.int j/\Q (.int (f i j)) H
theorem ip_add:PIp X .Add (ipI fun i j=>i+j):=by
 intro pins s σ H x y v u Q I r1 r2 h;obtain ⟨i,j,e1,e2,q⟩:=h;subst e1;subst e2;obtain ⟨t,rfl⟩:=r1;obtain ⟨t',rfl⟩:=r2;exact iadd_int ⟨.int _,H,I.tok _,⟨_,rfl⟩,q⟩
theorem ip_sub:PIp X .Sub (ipI fun i j=>i - j):=by
 intro pins s σ H x y v u Q I r1 r2 h;obtain ⟨i,j,e1,e2,q⟩:=h;subst e1;subst e2;obtain ⟨t,rfl⟩:=r1;obtain ⟨t',rfl⟩:=r2;exact isub_int ⟨.int _,H,I.tok _,⟨_,rfl⟩,q⟩
end
section
variable {X:Cx} {pos:Pos}
def kL (c:TT) (tb:TS):TS:=fun D σ H=>∃ W:Nat->St->Hp->Prop,(∃ m,W m σ H)/\∀ m σ H,W m σ H ->
 c σ H fun b H1=>if b=true then ∃ N:St->Hp->Prop,(∀ σ' H',N σ' H'->∃ m',m' < m/\W m' σ' H')/\tb { D with nx:=N,ct:=N,bk:=D.nx } σ H1 else D.nx σ H1
theorem o4 {c:Expr} {body:List Stmt} {tc:TT} {tb:TS} (hp:PassesOwn .(15) X.A X.env X.xe) (hc:PT X c tc) (hb:PSs X body tb):PS X (.While c body [] pos) (kL tc tb):=by
 intro pins s σ H D I h;obtain ⟨W,⟨m0,w0⟩,turn⟩:=h;refine wpAny_While (codeAny_whileLoop (fun n s'=>∃ σ' H',Inv X pins σ' H' s'/\W n σ' H') ?_ m0 ⟨σ,H,I,w0⟩);rintro n s1 ⟨σ1,H1,I1,w1⟩;refine wpAny_passesOwn hp (thn (hc pins s1 σ1 H1 _ I1 (turn n σ1 H1 w1)) fun b s2 ⟨H2,I2,q2⟩=>?_)
 cases b with
 | true=>
   obtain ⟨N,hN,q2⟩:=q2
   rw [if_pos rfl]
   refine wpAny_passesOwn hp (thn (hb pins s2 σ1 H2 _ I2 q2) fun f s3 q3=>?_)
   cases f with
   | next=>
     obtain ⟨σ3,H3,I3,n3⟩:=q3
     obtain ⟨m',hm,w3⟩:=hN σ3 H3 n3
     exact ⟨m',hm,σ3,H3,I3,w3⟩
   | cont=>
     obtain ⟨σ3,H3,I3,n3⟩:=q3
     obtain ⟨m',hm,w3⟩:=hN σ3 H3 n3
     exact ⟨m',hm,σ3,H3,I3,w3⟩
   | brk=>exact q3
   | ret v=>exact q3
 | false=>
   rw [if_neg zB1]
   exact wpAny_execs_nil ⟨σ1,H2,I2,q2⟩
theorem gf {c:Expr} {body:List Stmt} {tc:TT} {tb:TS} (hp:PassesOwn .(15) X.A X.env X.xe) (hc:ZT X c tc) (hb:ZSs X body tb):ZS X (.While c body [] pos) (kL tc tb):=by with_unfolding_all exact o4 hp hc hb
end
structure It where
 go:Nat->Hp->Prop
 yld:Nat->Hp->V->Hp->Prop
 stop:Nat->Hp->Prop
def fD (X:Cx) (pins:.(31)) (H:Hp) (b:Addr):Prop:=
 H b=none/\b≠X.env.locals/\b∉X.fs/\(b∈X.ex\/X.s₀.heap.objs.size<=b)/\(∀ x c,X.env.cells.lookup x=some c->c≠b)/\∀ p∈X.pn++pins,p.1≠b
theorem Inv.fpOk {X:Cx} {pins:.(31)} {σ:St} {H H':Hp} {s:Shared} {b:Addr} (I:.(14)) (hb:s.heap.objs.size<=b) (hn:H' b=none):fD X pins H' b:=by
 refine ⟨hn,Nat.ne_of_gt (zB9 I.lt hb),I.nofs hb,.inr (zE6 I.sz hb),fun x c e z=>?_,fun p hp z=>?_⟩
 · obtain ⟨v,q⟩:=I.cell x c e;exact absurd (zB9 q.lt (by rw [z];exact hb)) (zD8 _)
 · exact absurd (zB9 (Heap.lt_size (I.pin p hp).1) (by rw [z];exact hb)) (zD8 _)
structure Turn (P:Program) (w:World) (K:PySem.W.Frag) (tg:Expr) (J:It) (fp:List Addr) (it:Addr) (tn:Nat->Heap->Prop):Prop where
 mem:it∈fp
 obj:∀ i h,tn i h->∀ b∈fp,∃ o,h.get? b=some o/\∀ v,o.data≠.cell v
 keep:∀ i h h',tn i h->(∀ b∈fp,∀ o,h.get? b=some o->h'.get? b=some o)->tn i h'
 item:∀ (X:Cx),X.prog=P->X.w=w->X.K=K->X.calm=true->∀ (i:Nat) (pins:.(31)) (s:Shared) (σ:St) (H:Hp) (E:.(21)),Inv X pins σ H s->(∀ b∈fp,fD X pins H b)->tn i s.heap->J.go i H ->
  wpAny (model P w) X.A (pyNext (.ref it)) (fun r s1=>∃ u,r=some u /\
   wpAny (model P w) X.A (letOwnedTupleGo tg (.ref it) u) (fun _ s2=>∃ x H',Inv X pins σ H' s2/\RelV x u/\J.yld i H x H'/\tn (i+1) s2.heap/\∀ b∈fp,H' b=none) E s1) E s
 done:∀ (X:Cx),X.prog=P->X.w=w->X.K=K->X.calm=true->∀ (i:Nat) (pins:.(31)) (s:Shared) (σ:St) (H:Hp) (E:.(21)),Inv X pins σ H s->(∀ b∈fp,fD X pins H b)->tn i s.heap->J.stop i H ->
  wpAny (model P w) X.A (pyNext (.ref it)) (fun r s1=>r=none/\Inv X pins σ H s1) E s
 self:∀ (A:Around) (i:Nat) (s:Shared) (Q:.(21)) (E:.(21)),tn i s.heap->Q (.ref it) s->wpAny (model P w) A (pyIter (.ref it)) Q E s
abbrev TI:=St->Hp->(It->Hp->Prop)->Prop
def PIE (X:Cx) (pins:.(31)) (σ:St) (tg:Expr) (R:It->Hp->Prop) (itv:Value) (s2:Shared):Prop:=
 ∃ (it:Addr) (fp:List Addr) (tn:Nat->Heap->Prop) (J:It) (H':Hp),itv=.ref it/\Inv X pins σ H' s2/\Turn X.prog X.w X.K tg J fp it tn/\tn 0 s2.heap/\(∀ b∈fp,fD X pins H' b)/\R J H'
def PI (X:Cx) (tg iter:Expr) (wi:TI):Prop:=
 ∀ (pins:List (Addr×Obj)) (s:Shared) (σ:St) (H:Hp) (R:It->Hp->Prop),Inv X pins σ H s->wi σ H R ->
   wpAny .(15) X.A (eval iter X.env) (fun v s1=>wpAny .(15) X.A (pyIter v) (PIE X pins σ tg R) X.xe s1) X.xe s
@[irreducible] def ZI (X:Cx) (tg iter:Expr) (wi:TI):Prop:=PI X tg iter wi
theorem j9 {M:Model} {A:Around} {E:.(21)} {s:Shared} {tg:Expr} {it:Addr} {u:Value} {o:Obj} {n:String} {vs:Array Value} {Q:Unit->Shared->Prop} (ho:s.heap.get? it=some o) (hc:o.cls=.type n) (hd:o.data=.fields vs)
 (hn:["enumerate","zip","dict_itemiterator","dict_reverseitemiterator","odict_iterator","itertools.zip_longest","itertools.pairwise"].contains n=false) (hQ:Q () s):wpAny M A (letOwnedTupleGo tg (.ref it) u) Q E s:=by
 unfold letOwnedTupleGo
 cases tg <;> first
  | exact wpAny_pure hQ
  | (cases u <;> first
      | exact wpAny_pure hQ
      | (refine wpAny_bind (wpAny_load ho ?_)
         rw [hc,hd]
         show wpAny M A (if (["enumerate","zip","dict_itemiterator","dict_reverseitemiterator","odict_iterator","itertools.zip_longest","itertools.pairwise"].contains n&&vs[0]? == some (rawInt _))=true then _ else _) Q E s
         rw [if_neg (by intro h;rw [hn,Bool.false_and] at h;cases h)]
         exact wpAny_pure hQ))
def Itl (K:PySem.W.Frag) (a:Addr):It:=
 ⟨fun i H=>∃ xs x,SqL K H a xs/\xs[i]? = some x,fun i H x H'=>H'=H/\∀ xs,SqL K H a xs->xs[i]? = some x,fun i H=>∃ xs,SqL K H a xs/\xs.length<=i⟩
def Itt (K:PySem.W.Frag) (a:Addr):It:=
 ⟨fun i H=>∃ xs x,SqT K H a xs/\xs[i]? = some x,fun i H x H'=>H'=H/\∀ xs,SqT K H a xs->xs[i]? = some x,fun i H=>∃ xs,SqT K H a xs/\xs.length<=i⟩
def Itr (lo:Int) (n:Nat):It:=⟨fun i _=>i<n,fun i H x H'=>H'=H/\x=.int (lo+i),fun i _=>n<=i⟩
theorem kG {P:Program} {w:World} {K:PySem.W.Frag} {tg:Expr} (a it:Addr):Turn P w K tg (Itl K a) [it] it (fun i h=>h.IsListIter it a i) where
 mem:=by simp
 obj:=fun i h st b hb=>by
  have e:b=it:=by simpa using hb
  subst e;obtain ⟨o,e,c,d⟩:=st;exact ⟨o,e,fun v z=>by rw [d] at z;cases z⟩
 keep:=fun i h h' st k=>st.at fun o e=>k it (by simp) o e
 item:=by
  sleep 4;subst hP hw hK;obtain ⟨xs,x,hq,hx⟩:=hg;obtain ⟨its,rv,p,hz⟩:=I.list hq;obtain ⟨u,hu,ru⟩:=rv.get hx;sleep 3;refine wpAny_pyNext_list_item st p.isList (x:=u) (by simpa using hu) fun h' st' sb=>?_;have I1:Inv X pins σ H { s with heap:=h' }:=I.turned (t':=s.toks) (fun b o hb e=>(sb.2 b hb).trans e) f0 f1 f3 f4 f5;obtain ⟨o,e,c,d⟩:=id st';exact ⟨u,rfl,j9 (s:={ s with heap:=h' }) e c d (by decide) ⟨x,H,I1,ru,⟨rfl,fun ys hy=>by rw [I.list_inj hy hq];exact hx⟩,st',fun b hb=>(hf b hb).1⟩⟩
 done:=by
  sleep 4;subst hP hw hK;obtain ⟨xs,hq,hx⟩:=hg;obtain ⟨its,rv,p,hz⟩:=I.list hq;sleep 3;have hl:=rv.length;exact wpAny_pyNext_list_end (I.ok.hd hc) st p.isList (by simp;lia) fun h' eb=>⟨rfl,I.turned (t':=s.toks) (fun b o hb e=>eb b o hb e) f0 f1 f3 f4 f5⟩
 self:=fun _ _ _ _ _ st h=>wpAny_pyIter_listiter st h
theorem jS {P:Program} {w:World} {K:PySem.W.Frag} {tg:Expr} (a it:Addr):Turn P w K tg (Itt K a) [it] it (fun i h=>h.IsTupleIter it a i) where
 mem:=by simp
 obj:=fun i h st b hb=>by
  have e:b=it:=by simpa using hb
  subst e;obtain ⟨o,e,c,d⟩:=st;exact ⟨o,e,fun v z=>by rw [d] at z;cases z⟩
 keep:=fun i h h' st k=>st.at fun o e=>k it (by simp) o e
 item:=by
  sleep 4;subst hP hw hK;obtain ⟨xs,x,hq,hx⟩:=hg;obtain ⟨its,rv,p,hz⟩:=I.tuple hq;obtain ⟨u,hu,ru⟩:=rv.get hx;sleep 3;refine wpAny_pyNext_tuple_item st (show s.heap.IsTuple a its.toArray from p) (x:=u) (by simpa using hu) fun h' st' sb=>?_;have I1:Inv X pins σ H { s with heap:=h' }:=I.turned (t':=s.toks) (fun b o hb e=>(sb.2 b hb).trans e) f0 f1 f3 f4 f5;obtain ⟨o,e,c,d⟩:=id st';exact ⟨u,rfl,j9 (s:={ s with heap:=h' }) e c d (by decide) ⟨x,H,I1,ru,⟨rfl,fun ys hy=>by rw [I.tuple_inj hy hq];exact hx⟩,st',fun b hb=>(hf b hb).1⟩⟩
 done:=by
  sleep 4;subst hP hw hK;obtain ⟨xs,hq,hx⟩:=hg;obtain ⟨its,rv,p,hz⟩:=I.tuple hq;sleep 3;have hl:=rv.length;exact wpAny_pyNext_tuple_end (I.ok.hd hc) st (show s.heap.IsTuple a its.toArray from p) (by simp;lia) fun h' eb=>⟨rfl,I.turned (t':=s.toks) (fun b o hb e=>eb b o hb e) f0 f1 f3 f4 f5⟩
 self:=fun _ _ _ _ _ st h=>wpAny_pyIter_tupleiter st h
theorem jT {P:Program} {w:World} {K:PySem.W.Frag} {tg:Expr} (it:Addr) (lo:Int) (n:Nat):Turn P w K tg (Itr lo n) [it] it (fun i h=>IsRangeIter h it (lo+(i:Nat)*1) ((n:Int) - (i:Nat)) 1) where
 mem:=by simp
 obj:=fun i h st b hb=>by
  have e:b=it:=by simpa using hb
  subst e;exact ⟨_,st,fun v z=>by
   have z':Data.fields _=Data.cell v:=z
   cases z'⟩
 keep:=fun i h h' st k=>k it (by simp) _ st
 item:=by
  sleep 4;subst hP hw hK;sleep 3;have W:=Walks.range (prog:=X.prog) (w:=X.w) (I.ok.hd hc) it lo 1 n;refine W.item i s _ _ hg st fun v h' tk hv st' kk=>?_;obtain ⟨t,rfl⟩:=hv;have I1:Inv X pins σ H { s with heap:=h',toks:=tk }:=I.turned (fun b o hb e=>kk b o (by simpa using hb) e) f0 f1 f3 f4 f5;refine ⟨_,rfl,j9 (s:={ s with heap:=h',toks:=tk }) (n:="range_iterator") st' rfl rfl (by decide) ⟨.int (lo+i),H,I1,⟨t,?_⟩,⟨rfl,rfl⟩,st',fun b hb=>(hf b hb).1⟩⟩;rw [Int.mul_one]
 done:=by
  sleep 4;subst hP hw hK;sleep 3;exact wpAny_pyNext_range_end (I.ok.hd hc) st (by have:n<=i:=hg;lia) fun h' eb=>⟨rfl,I.turned (t':=s.toks) (fun b o hb e=>eb b o hb e) f0 f1 f3 f4 f5⟩
 self:=fun _ _ _ _ _ st h=>wpAny_pyIter_rangeiter st h
section
variable {X:Cx} {tg:Expr}
def iList (K:PySem.W.Frag) (tl:TE):TI:=fun σ H R=>tl σ H fun x H1=>∃ a,x=.ref a/\(∃ xs,SqL K H1 a xs)/\R (Itl K a) H1
def iTup (K:PySem.W.Frag) (tl:TE):TI:=fun σ H R=>tl σ H fun x H1=>∃ a,x=.ref a/\(∃ xs,SqT K H1 a xs)/\R (Itt K a) H1
theorem tH {l:Expr} {tl:TE} (hl:PE X l tl):PI X tg l (iList X.K tl):=by
 intro pins s σ H R I h;refine thn (hl pins s σ H _ I h) fun v s1 ⟨x,H1,I1,r1,q1⟩=>?_;obtain ⟨a,e,⟨xs,hq⟩,q⟩:=q1;subst e
 cases r1
 obtain ⟨its,rv,p,hz⟩:=I1.list hq;refine wpAny_pyIter_list p.isList ?_;refine ⟨s1.heap.objs.size,[s1.heap.objs.size],_,_,H1,rfl,I1.kept (t':=s1.toks) fun b o e=>Heap.get?_push_of_some _ e,kG a _,⟨_,Heap.get?_push_size _ rfl,rfl,rfl⟩,fun b hb=>?_,q⟩;have e:b=s1.heap.objs.size:=by simpa using hb
 subst e;exact I1.fpOk (zA1 _) (I1.hok.fresh (zA1 _))
theorem bG {l:Expr} {tl:TE} (hl:ZE X l tl):ZI X tg l (iList X.K tl):=by with_unfolding_all exact tH hl
theorem qS {l:Expr} {tl:TE} (hl:PE X l tl):PI X tg l (iTup X.K tl):=by
 intro pins s σ H R I h;refine thn (hl pins s σ H _ I h) fun v s1 ⟨x,H1,I1,r1,q1⟩=>?_;obtain ⟨a,e,⟨xs,hq⟩,q⟩:=q1;subst e
 cases r1
 obtain ⟨its,rv,p,hz⟩:=I1.tuple hq;refine wpAny_pyIter_tuple (show s1.heap.IsTuple a its.toArray from p) ?_;refine ⟨s1.heap.objs.size,[s1.heap.objs.size],_,_,H1,rfl,I1.kept (t':=s1.toks) fun b o e=>Heap.get?_push_of_some _ e,jS a _,⟨_,Heap.get?_push_size _ rfl,rfl,rfl⟩,fun b hb=>?_,q⟩;have e:b=s1.heap.objs.size:=by simpa using hb
 subst e;exact I1.fpOk (zA1 _) (I1.hok.fresh (zA1 _))
theorem bJ {l:Expr} {tl:TE} (hl:ZE X l tl):ZI X tg l (iTup X.K tl):=by with_unfolding_all exact qS hl
theorem js {pins:.(31)} {σ:St} {H:Hp} {s:Shared} {R:It->Hp->Prop} {E:.(21)} {lo hi:Int} {t u v:Tok} {tk:Nat} (I:.(14)) (h1:-(2 ^ 62)<=lo) (h2:lo<2 ^ 62) (h3:-(2 ^ 62)<=hi) (h4:hi<2 ^ 62)
 (q:R (Itr lo (hi - lo).toNat) H):wpAny .(15) X.A (pyIter (.ref s.heap.objs.size)) (PIE X pins σ tg R) E { s with heap:=s.heap.push { cls:=.type "range",data:=.fields #[.int lo t,.int hi u,.int 1 v] },toks:=tk }:=by
 refine wpAny_pyIter_range (IsRange.new ..) (small_one h1 h2 h3 h4) ?_;have I1:Inv X pins σ H { s with heap:=s.heap.push { cls:=.type "range",data:=.fields #[.int lo t,.int hi u,.int 1 v] },toks:=tk }:=I.kept fun b o e=>Heap.get?_push_of_some _ e;refine ⟨(s.heap.push { cls:=.type "range",data:=.fields #[.int lo t,.int hi u,.int 1 v] }).objs.size,[(s.heap.push { cls:=.type "range",data:=.fields #[.int lo t,.int hi u,.int 1 v] }).objs.size],_,_,H,rfl,
  I1.kept (t':=tk) fun b o e=>Heap.get?_push_of_some _ e,jT _ lo (hi - lo).toNat,?_,fun b hb=>?_,q⟩
 · have e1:lo+((0:Nat):Int)*1=lo:=by simp
   have e2:(((hi - lo).toNat:Nat):Int) - ((0:Nat):Int)=Builtin.Range.rangeSize lo hi 1:=by rw [rangeSize_one];split <;> lia
   show IsRangeIter _ _ (lo+((0:Nat):Int)*1) ((((hi - lo).toNat:Nat):Int) - ((0:Nat):Int)) 1;rw [e1,e2];exact Heap.get?_push_size _ rfl
 · have e:b=(s.heap.push { cls:=.type "range",data:=.fields #[.int lo t,.int hi u,.int 1 v] }).objs.size:=by simpa using hb
   subst e;exact I1.fpOk (zA1 _) (I1.hok.fresh (zA1 _))
def iRng1 (ta:TA):TI:=fun σ H R=>ta σ H fun vs H1=>∃ j:Int,vs=[.int j]/\-(2 ^ 62)<=j/\j<2 ^ 62/\R (Itr 0 j.toNat) H1
def iRng2 (ta:TA):TI:=fun σ H R=>ta σ H fun vs H1=>∃ i j:Int,vs=[.int i,.int j]/\(-(2 ^ 62)<=i/\i<2 ^ 62/\-(2 ^ 62)<=j/\j<2 ^ 62)/\R (Itr i (j - i).toNat) H1
theorem lO {a:Expr} {ta:TA} {p pos:Pos} (hg:Gl X "range") (hm:X.mg "range" = none) (ha:PA X [a] ta) (hs:starEach [a] X.env=[(false,eval a X.env)]:=by rfl):PI X tg (.Call (.Name "range" p) [a] [] pos) (iRng1 ta):=by
 intro pins s σ H R I h;refine Call_ (fe I hg hm boot_range (PyProof.Rows.callWith_type1 (thn (ha pos pins s σ H _ I h) fun us s1 ⟨vs,H1,I1,r1,q1⟩=>?_) hs rfl));obtain ⟨j,e,q1,q2,q⟩:=q1;subst e
 cases r1 with
 | cons r rr=>
   cases rr
   obtain ⟨t,rfl⟩:=r
   exact call_range_1 (js I1 (by lia) (by lia) q1 q2 (by simpa using q))
theorem c6 {a:Expr} {ta:TA} {p pos:Pos} (hg:Gl X "range") (hm:X.mg "range" = none) (ha:ZA X [a] ta) (hs:starEach [a] X.env=[(false,eval a X.env)]:=by rfl):ZI X tg (.Call (.Name "range" p) [a] [] pos) (iRng1 ta):=by with_unfolding_all exact lO hg hm ha hs
theorem lN {a b:Expr} {ta:TA} {p pos:Pos} (hg:Gl X "range") (hm:X.mg "range" = none) (ha:PA X [a,b] ta) (hs:starEach [a,b] X.env=[(false,eval a X.env),(false,eval b X.env)]:=by rfl) (hs2:starEach [b] X.env=[(false,eval b X.env)]:=by rfl) :
 PI X tg (.Call (.Name "range" p) [a,b] [] pos) (iRng2 ta):=by
 intro pins s σ H R I h;refine Call_ (fe I hg hm boot_range (PyProof.Rows.callWith_type1 (thn (ha pos pins s σ H _ I h) fun us s1 ⟨vs,H1,I1,r1,q1⟩=>?_) (by rw [hs,hs2]) (by rw [hs2];rfl)));obtain ⟨i,j,e,⟨q1,q2,q3,q4⟩,q⟩:=q1;subst e
 cases r1 with
 | cons r rr=>
   cases rr with
   | cons r' rr=>
     cases rr
     obtain ⟨t,rfl⟩:=r
     obtain ⟨t',rfl⟩:=r'
     exact call_range_2 (js I1 q1 q2 q3 q4 q)
theorem bj {a b:Expr} {ta:TA} {p pos:Pos} (hg:Gl X "range") (hm:X.mg "range" = none) (ha:ZA X [a,b] ta) (hs:starEach [a,b] X.env=[(false,eval a X.env),(false,eval b X.env)]:=by rfl) (hs2:starEach [b] X.env=[(false,eval b X.env)]:=by rfl) :
 ZI X tg (.Call (.Name "range" p) [a,b] [] pos) (iRng2 ta):=by with_unfolding_all exact lN hg hm ha hs hs2
def tFor (wi:TI) (g:TG) (tb:TS):TS:=fun D σ H=>wi σ H fun J H1=>∃ W:Nat->Nat->St->Hp->Prop,(∃ m,W 0 m σ H1)/\∀ i m σ H,W i m σ H ->
 (J.stop i H/\D.nx σ H)\/(J.go i H/\∃ N:St->Hp->Prop,(∀ σ' H',N σ' H'->∃ m',m' < m/\W (i+1) m' σ' H')/\∀ x H',J.yld i H x H'->g x σ H' fun σ2 H2=>tb { D with nx:=N,ct:=N,bk:=D.nx } σ2 H2)
def bU (fp:List Addr) (h:Heap):List (Addr×Obj):=fp.filterMap fun b=>(h.get? b).map fun o=>(b,o)
theorem cL {fp:List Addr} {h:Heap} {b:Addr} {o:Obj} (hb:b∈fp) (e:h.get? b=some o):(b,o)∈bU fp h:=List.mem_filterMap.mpr ⟨b,hb,by rw [e];rfl⟩
theorem eX {fp:List Addr} {h:Heap} {p:Addr×Obj} (hp:p∈bU fp h):p.1∈fp/\h.get? p.1=some p.2:=by
 obtain ⟨b,hb,e⟩:=List.mem_filterMap.mp hp
 cases q:h.get? b with
 | none=>rw [q] at e;cases e
 | some o=>
   rw [q] at e
   have e':(b,o)=p:=Option.some.inj e
   subst e'
   exact ⟨hb,q⟩
theorem Inv.pinned {pins:.(31)} {σ:St} {H:Hp} {s:Shared} {fp:List Addr} (I:.(14)) (hf:∀ b∈fp,fD X pins H b) (ho:∀ b∈fp,∃ o,s.heap.get? b=some o/\∀ v,o.data≠.cell v):Inv X (pins++bU fp s.heap) σ H s:=
 I.pins_of fun p hp=>(zB7.mp hp).elim (fun z=>I.pin p (zB2 _ z)) fun z=>by
  obtain ⟨hb,e⟩:=eX z;obtain ⟨f0,f1,f2,_⟩:=hf p.1 hb;obtain ⟨o,e',d⟩:=ho p.1 hb;rw [e] at e';cases e';exact ⟨e,f0,f1,f2,d⟩
theorem Inv.unpinned {pins pl:.(31)} {σ:St} {H:Hp} {s:Shared} (I:Inv X (pins++pl) σ H s):Inv X pins σ H s:=I.pins_of fun p hp=>I.pin p (zB2 _ (zH4 _ hp))
theorem ps_for {iter:Expr} {body:List Stmt} {wi:TI} {g:TG} {tb:TS} {pos:Pos} (hp:PassesOwn .(15) X.A X.env X.xe) (hc:X.calm=true) (hi:PI X tg iter wi) (hg:PG X tg g) (hb:PSs X body tb)
 (hs:∀ x,foldedSetIterable iter X.env x=pure x:=by intro _;rfl):PS X (.For tg iter body [] pos) (tFor wi g tb):=by
 intro pins s σ H D I h;refine wpAny_For (thn (hi pins s σ H _ I h) fun v s1 h1=>thn h1 fun itv s2 h2=>?_) hs;obtain ⟨it,fp,tn,J,H2,e,I2,T,st2,f2,W,⟨m0,w0⟩,turn⟩:=h2;subst e;-- what stays true of the iterator's objects through the loop
 have stat:∀ {H':Hp},(∀ b∈fp,H' b=none)->∀ b∈fp,fD X pins H' b:=fun hn b hb=>⟨hn b hb,(f2 b hb).2⟩
 refine codeAny_forLoop_any (fun n s'=>∃ i σ' H',Inv X pins σ' H' s'/\tn i s'.heap/\(∀ b∈fp,H' b=none)/\W i n σ' H') ?_ m0 ⟨0,σ,H2,I2,st2,fun b hb=>(f2 b hb).1,w0⟩;rintro n s3 ⟨i,σ3,H3,I3,st3,fr3,w3⟩;rcases turn i n σ3 H3 w3 with ⟨stop,qn⟩ | ⟨go,N,hN,step⟩
 · refine wpAny_passesOwn hp (thn (T.done X rfl rfl rfl hc i pins s3 σ3 H3 X.xe I3 (stat fr3) st3 stop) fun r s4 ⟨hr,I4⟩=>?_);subst hr;exact wpAny_execs_nil ⟨σ3,H3,I4,qn⟩
 · refine wpAny_passesOwn hp (thn (T.item X rfl rfl rfl hc i pins s3 σ3 H3 X.xe I3 (stat fr3) st3 go) fun r s4 ⟨u,hr,h4⟩=>?_);subst hr;refine wpAny_passesOwn hp (thn h4 fun _ s5 ⟨x,H5,I5,r5,y5,st5,fr5⟩=>?_);have I5':=I5.pinned (stat fr5) (T.obj _ _ st5);refine wpAny_passesOwn hp (thn (hg _ s5 σ3 H5 x u _ I5' r5 (step x H5 y5)) fun _ s6 ⟨σ6,H6,I6,q6⟩=>?_);refine wpAny_passesOwn hp (thn (hb _ s6 σ6 H6 _ I6 q6) fun f s7 q7=>?_);have again:∀ {σ7:St} {H7:Hp},Inv X (pins++bU fp s5.heap) σ7 H7 s7->N σ7 H7->∃ m,m<n/\∃ i σ' H',Inv X pins σ' H' s7/\tn i s7.heap/\(∀ b∈fp,H' b=none)/\W i m σ' H':=fun {σ7 H7} I7 n7=>by
    obtain ⟨m',hm,w7⟩:=hN σ7 H7 n7;refine ⟨m',hm,i+1,σ7,H7,I7.unpinned,T.keep _ _ _ st5 fun b hb o e=>(I7.pin (b,o) (zB2 _ (zB2 _ (cL hb e)))).1,fun b hb=>?_,w7⟩;obtain ⟨o,e,d⟩:=T.obj _ _ st5 b hb;exact (I7.pin (b,o) (zB2 _ (zB2 _ (cL hb e)))).2.1
   cases f with
   | next=>obtain ⟨σ7,H7,I7,n7⟩:=q7;exact again I7 n7
   | cont=>obtain ⟨σ7,H7,I7,n7⟩:=q7;exact again I7 n7
   | brk=>obtain ⟨σ7,H7,I7,q7⟩:=q7;exact ⟨σ7,H7,I7.unpinned,q7⟩
   | ret v=>obtain ⟨x7,σ7,H7,I7,r7,q7⟩:=q7;exact ⟨x7,σ7,H7,I7.unpinned,r7,q7⟩
theorem bi {iter:Expr} {body:List Stmt} {wi:TI} {g:TG} {tb:TS} {pos:Pos} (hp:PassesOwn .(15) X.A X.env X.xe) (hc:X.calm=true) (hi:ZI X tg iter wi) (hg:ZG X tg g) (hb:ZSs X body tb)
 (hs:∀ x,foldedSetIterable iter X.env x=pure x:=by intro _;rfl):ZS X (.For tg iter body [] pos) (tFor wi g tb):=by with_unfolding_all exact ps_for hp hc hi hg hb hs
end
theorem eD {K:PySem.W.Frag} {a:Addr} {xs:List V} {g:TG} {tb:TS} {D:Ends} {σ:St} {H:Hp} (Pv:Nat->St->Hp->Prop) (h0:Pv 0 σ H) (hl:∀ i σ H,i<=xs.length->Pv i σ H->SqL K H a xs)
 (hs:∀ i x σ H,xs[i]? = some x->Pv i σ H->g x σ H fun σ2 H2=>tb { D with nx:=Pv (i+1),ct:=Pv (i+1),bk:=D.nx } σ2 H2) (hd:∀ σ H,Pv xs.length σ H->D.nx σ H) :
 ∃ W:Nat->Nat->St->Hp->Prop,(∃ m,W 0 m σ H)/\∀ i m σ H,W i m σ H ->
   ((Itl K a).stop i H/\D.nx σ H)\/((Itl K a).go i H/\∃ N:St->Hp->Prop,(∀ σ' H',N σ' H'->∃ m',m' < m/\W (i+1) m' σ' H')/\∀ x H',(Itl K a).yld i H x H'->g x σ H' fun σ2 H2=>tb { D with nx:=N,ct:=N,bk:=D.nx } σ2 H2):=by
 refine ⟨fun i m σ H=>m=xs.length - i/\i<=xs.length/\Pv i σ H,⟨xs.length,by simp,zB0 _,h0⟩,?_⟩;rintro i m σ H ⟨rfl,hi,p⟩;have q:=hl i σ H hi p;by_cases hlt:i<xs.length
 · refine .inr ⟨⟨xs,xs[i],q,by simp [hlt]⟩,Pv (i+1),fun σ' H' p'=>⟨xs.length - (i+1),by lia,rfl,hlt,p'⟩,fun x H' y=>?_⟩;obtain ⟨e,y⟩:=y;subst e;exact hs i x σ _ (y xs q) p
 · have e:i=xs.length:=by lia
   subst e;exact .inl ⟨⟨xs,q,zA1 _⟩,hd σ H p⟩
theorem gK {K:PySem.W.Frag} {a:Addr} {xs:List V} {g:TG} {tb:TS} {D:Ends} {σ:St} {H:Hp} (Pv:Nat->St->Hp->Prop) (h0:Pv 0 σ H) (hl:∀ i σ H,i<=xs.length->Pv i σ H->SqT K H a xs)
 (hs:∀ i x σ H,xs[i]? = some x->Pv i σ H->g x σ H fun σ2 H2=>tb { D with nx:=Pv (i+1),ct:=Pv (i+1),bk:=D.nx } σ2 H2) (hd:∀ σ H,Pv xs.length σ H->D.nx σ H) :
 ∃ W:Nat->Nat->St->Hp->Prop,(∃ m,W 0 m σ H)/\∀ i m σ H,W i m σ H ->
   ((Itt K a).stop i H/\D.nx σ H)\/((Itt K a).go i H/\∃ N:St->Hp->Prop,(∀ σ' H',N σ' H'->∃ m',m' < m/\W (i+1) m' σ' H')/\∀ x H',(Itt K a).yld i H x H'->g x σ H' fun σ2 H2=>tb { D with nx:=N,ct:=N,bk:=D.nx } σ2 H2):=by
 refine ⟨fun i m σ H=>m=xs.length - i/\i<=xs.length/\Pv i σ H,⟨xs.length,by simp,zB0 _,h0⟩,?_⟩;rintro i m σ H ⟨rfl,hi,p⟩;have q:=hl i σ H hi p;by_cases hlt:i<xs.length
 · refine .inr ⟨⟨xs,xs[i],q,by simp [hlt]⟩,Pv (i+1),fun σ' H' p'=>⟨xs.length - (i+1),by lia,rfl,hlt,p'⟩,fun x H' y=>?_⟩;obtain ⟨e,y⟩:=y;subst e;exact hs i x σ _ (y xs q) p
 · have e:i=xs.length:=by lia
   subst e;exact .inl ⟨⟨xs,q,zA1 _⟩,hd σ H p⟩
theorem bE {lo:Int} {n:Nat} {g:TG} {tb:TS} {D:Ends} {σ:St} {H:Hp} (Pv:Nat->St->Hp->Prop) (h0:Pv 0 σ H)
 (hs:∀ i σ H,i<n->Pv i σ H->g (.int (lo+i)) σ H fun σ2 H2=>tb { D with nx:=Pv (i+1),ct:=Pv (i+1),bk:=D.nx } σ2 H2) (hd:∀ σ H,Pv n σ H->D.nx σ H) :
 ∃ W:Nat->Nat->St->Hp->Prop,(∃ m,W 0 m σ H)/\∀ i m σ H,W i m σ H ->
   ((Itr lo n).stop i H/\D.nx σ H)\/((Itr lo n).go i H/\∃ N:St->Hp->Prop,(∀ σ' H',N σ' H'->∃ m',m' < m/\W (i+1) m' σ' H')/\∀ x H',(Itr lo n).yld i H x H'->g x σ H' fun σ2 H2=>tb { D with nx:=N,ct:=N,bk:=D.nx } σ2 H2):=by
 refine ⟨fun i m σ H=>m=n - i/\i<=n/\Pv i σ H,⟨n,by simp,zB0 _,h0⟩,?_⟩;rintro i m σ H ⟨rfl,hi,p⟩;by_cases hlt:i<n
 · refine .inr ⟨hlt,Pv (i+1),fun σ' H' p'=>⟨n - (i+1),by lia,rfl,hlt,p'⟩,fun x H' y=>?_⟩;obtain ⟨e,y⟩:=y;subst e y;exact hs i σ _ hlt p
 · have e:i=n:=by lia
   subst e;exact .inl ⟨zA1 _,hd σ H p⟩
abbrev R2:=V->V->Hp->VK->Prop
def OpR (X:Cx) (f:Value->Value->Sem Value) (r:R2):Prop:=
 ∀ (pins:List (Addr×Obj)) (s:Shared) (σ:St) (H:Hp) (x y:V) (v u:Value) (Q:VK),Inv X pins σ H s->RelV x v->RelV y u->r x y H Q ->
   wpAny .(15) X.A (f v u) (EP X pins σ Q) X.xe s
def UnR (X:Cx) (f:Value->Sem Value) (r:V->Hp->VK->Prop):Prop:=
 ∀ (pins:List (Addr×Obj)) (s:Shared) (σ:St) (H:Hp) (x:V) (v:Value) (Q:VK),Inv X pins σ H s->RelV x v->r x H Q ->
   wpAny .(15) X.A (f v) (EP X pins σ Q) X.xe s
def CallR (X:Cx) (f:Value) (r:List V->Hp->VK->Prop):Prop:=
 ∀ (pins:List (Addr×Obj)) (s:Shared) (σ:St) (H:Hp) (xs:List V) (us:List Value) (Q:VK),Inv X pins σ H s->Vals xs us->r xs H Q ->
   wpAny .(15) X.A (call f us) (EP X pins σ Q) X.xe s
def tOp (r:R2) (ta tb:TE):TE:=fun σ H Q=>ta σ H fun x H1=>tb σ H1 fun y H2=>r x y H2 Q
def tUn (r:V->Hp->VK->Prop) (ta:TE):TE:=fun σ H Q=>ta σ H fun x H1=>r x H1 Q
def rI (C:Int->Int->Prop) (g:Int->Int->V):R2:=fun x y H Q=>∃ i j,x=.int i/\y=.int j/\C i j/\Q (g i j) H
def rI0 (g:Int->Int->V):R2:=fun x y H Q=>∃ i j,x=.int i/\y=.int j/\Q (g i j) H
def rU (g:Int->V):V->Hp->VK->Prop:=fun x H Q=>∃ i,x=.int i/\Q (g i) H
section
variable {X:Cx} {a b c:Expr} {ta tb tc:TE} {pos:Pos}
theorem binT (ha:PE X a ta) (hb:PE X b tb) {pins:.(31)} {s:Shared} {σ:St} {H:Hp} {R:V->V->Hp->Prop} (I:.(14))
 (h:ta σ H fun x H1=>tb σ H1 fun y H2=>R x y H2) {Q:.(21)} {f:Value->Value->Sem Value}
 (hf:∀ v u s2 x y H2,Inv X pins σ H2 s2->RelV x v->RelV y u->R x y H2->wpAny .(15) X.A (f v u) Q X.xe s2) :
 wpAny .(15) X.A (eval a X.env) (fun v s₁=>wpAny .(15) X.A (eval b X.env) (fun u s₂=>wpAny .(15) X.A (f v u) Q X.xe s₂) X.xe s₁) X.xe s:=by
 refine thn (ha pins s σ H _ I h) fun v s1 ⟨x,H1,I1,r1,q1⟩=>?_;refine thn (hb pins s1 σ H1 _ I1 q1) fun u s2 ⟨y,H2,I2,r2,q2⟩=>?_;exact hf v u s2 x y H2 I2 r1 r2 q2
theorem pe_op {op:Operator} {r:R2} (ho:OpR X (binaryOp op) r) (ha:PE X a ta) (hb:PE X b tb):PE X (.BinOp a op b pos) (tOp r ta tb):=by
 intro pins s σ H Q I h;exact wpAny_BinOp (binT ha hb I h fun v u s2 x y H2 I2 rx ry q=>ho pins s2 σ H2 x y v u Q I2 rx ry q)
theorem aA {op:Operator} {r:R2} (ho:OpR X (binaryOp op) r) (ha:ZE X a ta) (hb:ZE X b tb):ZE X (.BinOp a op b pos) (tOp r ta tb):=by with_unfolding_all exact pe_op ho ha hb
theorem pe_un {op:UnaryOp} {r:V->Hp->VK->Prop} (ho:UnR X (unaryOp op) r) (ha:PE X a ta):PE X (.UnaryOp op a pos) (tUn r ta):=by
 intro pins s σ H Q I h;exact UnaryOp_ (thn (ha pins s σ H _ I h) fun v s1 ⟨x,H1,I1,r1,q1⟩=>ho pins s1 σ H1 x v Q I1 r1 q1)
theorem dX {op:UnaryOp} {r:V->Hp->VK->Prop} (ho:UnR X (unaryOp op) r) (ha:ZE X a ta):ZE X (.UnaryOp op a pos) (tUn r ta):=by with_unfolding_all exact pe_un ho ha
theorem opI {f:Value->Value->Sem Value} {C:Int->Int->Prop} {g:Int->Int->Int}
 (rule:∀ (i j:Int) (t u:Tok) (s:Shared) (Q:.(21)) (E:.(21)),C i j->Q (.int (g i j) s.toks) { s with toks:=s.toks+1 }->wpAny .(15) X.A (f (.int i t) (.int j u)) Q E s) :
 OpR X f (rI C fun i j=>.int (g i j)):=by
 sleep 0;obtain ⟨i,j,rfl,rfl,hc,q⟩:=h;obtain ⟨t,rfl⟩:=rx;obtain ⟨t',rfl⟩:=ry;exact rule i j t t' s _ _ hc ⟨.int (g i j),H,I.tok _,⟨_,rfl⟩,q⟩
theorem opI0 {f:Value->Value->Sem Value} {g:Int->Int->Int}
 (rule:∀ (i j:Int) (t u:Tok) (s:Shared) (Q:.(21)) (E:.(21)),Q (.int (g i j) s.toks) { s with toks:=s.toks+1 }->wpAny .(15) X.A (f (.int i t) (.int j u)) Q E s) :
 OpR X f (rI0 fun i j=>.int (g i j)):=by
 sleep 0;obtain ⟨i,j,rfl,rfl,q⟩:=h;obtain ⟨t,rfl⟩:=rx;obtain ⟨t',rfl⟩:=ry;exact rule i j t t' s _ _ ⟨.int (g i j),H,I.tok _,⟨_,rfl⟩,q⟩
theorem opB0 {f:Value->Value->Sem Value} {g:Int->Int->Bool}
 (rule:∀ (i j:Int) (t u:Tok) (s:Shared) (Q:.(21)) (E:.(21)),Q (.bool (g i j)) s->wpAny .(15) X.A (f (.int i t) (.int j u)) Q E s) :
 OpR X f (rI0 fun i j=>.bl (g i j)):=by
 sleep 0;obtain ⟨i,j,rfl,rfl,q⟩:=h;obtain ⟨t,rfl⟩:=rx;obtain ⟨t',rfl⟩:=ry;exact rule i j t t' s _ _ ⟨.bl (g i j),H,I,rfl,q⟩
def CDiv (i j:Int):Prop:=0<j/\j<1073741824
def CPow (i j:Int):Prop:=0<=j/\j<=1000000/\i.natAbs<2 ^ 64
theorem op_add:OpR X (binaryOp .Add) (rI0 fun i j=>.int (i+j)):=opI0 fun _ _ _ _ _ _ _ q=>add_int q
theorem op_sub:OpR X (binaryOp .Sub) (rI0 fun i j=>.int (i - j)):=opI0 fun _ _ _ _ _ _ _ q=>sub_int q
theorem op_fdiv:OpR X (binaryOp .FloorDiv) (rI CDiv fun i j=>.int (i / j)):=opI fun i j _ _ _ _ _ hc q=>by
 have h1:(0:Int)<j:=hc.1;have h2:j<1073741824:=hc.2;exact floordiv_int (by lia) (by rw [Int.fdiv_eq_ediv_of_nonneg i (by lia)];exact q) (.inl (PyProof.noPylong_small (by lia)))
theorem op_mod:OpR X (binaryOp .Mod) (rI (fun _ j=>0<j) fun i j=>.int (i % j)):=opI fun i j _ _ _ _ _ hc q=>by
 have h1:(0:Int)<j:=hc;exact mod_int' (by lia) (by rw [Int.fmod_eq_emod_of_nonneg i (by lia)];exact q)
theorem op_pow:OpR X (binaryOp .Pow) (rI CPow fun i j=>.int (i ^ j.toNat)):=opI fun _ _ _ _ _ _ _ hc q=>pow_int_small hc.1 hc.2.1 hc.2.2 q
theorem unI {f:Value->Sem Value} {g:Int->Int}
 (rule:∀ (i:Int) (t:Tok) (s:Shared) (Q:.(21)) (E:.(21)),Q (.int (g i) s.toks) { s with toks:=s.toks+1 }->wpAny .(15) X.A (f (.int i t)) Q E s) :
 UnR X f (rU fun i=>.int (g i)):=by
 intro pins s σ H x v Q I rx h;obtain ⟨i,rfl,q⟩:=h;obtain ⟨t,rfl⟩:=rx;exact rule i t s _ _ ⟨.int (g i),H,I.tok _,⟨_,rfl⟩,q⟩
theorem cu:UnR X (unaryOp .USub) (rU fun i=>.int (-i)):=unI fun _ _ _ _ _ q=>neg_int q
end
def scal:V->V->Bool
 | .non,.non=>true | .non,.int _=>true | .int _,.non=>true | .non,.bl _=>true | .bl _,.non=>true | .non,.str _=>true | .str _,.non=>true
 | .int _,.int _=>true | .bl _,.bl _=>true | .str _,.str _=>true | .byt _,.byt _=>true
 | .int _,.str _=>true | .str _,.int _=>true | .bl _,.str _=>true | .str _,.bl _=>true
 | _,_=>false
def rEq:R2:=fun x y H Q=>scal x y=true/\Q (.bl (decide (x=y))) H
def rNe:R2:=fun x y H Q=>scal x y=true/\Q (.bl (!decide (x=y))) H
theorem mW {i j:Int}:decide (V.int i=V.int j)=(i == j):=by
 rw [zH8];simp
theorem rq {i j:Bool}:decide (V.bl i=V.bl j)=(i == j):=by
 rw [zH8];simp
theorem mV {i j:Str}:decide (V.str i=V.str j)=(i == j):=by
 rw [zH8];simp
theorem mX {i j:Array UInt8}:decide (V.byt i=V.byt j)=(i.toList == j.toList):=by
 rw [zH8]
 cases i
 cases j
 simp
section
variable {X:Cx} {a b c:Expr} {ta tb tc:TE} {pos:Pos}
theorem aM {pins:.(31)} {σ:St} {H:Hp} {s:Shared} {Q:VK} {k k':Bool} (I:.(14)) (q:Q (.bl k) H) (e:k=k'):EP X pins σ Q (.bool k') s:=by
 subst e;exact ⟨.bl k,H,I,rfl,q⟩
theorem op_eq:OpR X (compareOp .Eq) rEq:=by
 sleep 0;obtain ⟨hs,q⟩:=h
 cases x with
 | non=>
   cases rx
   cases y with
   | non=>cases ry;exact PySem.EqNone.eq_none_none (aM I q (by simp))
   | bl j=>cases ry;exact PySem.EqNone.eq_none_bool (aM I q (by simp))
   | int j=>obtain ⟨t',rfl⟩:=ry;exact PySem.EqNone.eq_none_int (aM I q (by simp))
   | str j=>obtain ⟨t',rfl⟩:=ry;exact PySem.EqNone.eq_none_str (aM I q (by simp))
   | _=>exact absurd (show false=true from hs) zB1
 | bl i=>
   cases rx
   cases y with
   | non=>cases ry;exact PySem.EqNone.eq_bool_none (aM I q (by simp))
   | bl j=>cases ry;exact eq_bool (aM I q rq)
   | str j=>obtain ⟨t',rfl⟩:=ry;exact PySem.EqMixed.eq_bool_str (aM I q (by simp))
   | _=>exact absurd (show false=true from hs) zB1
 | int i=>
   obtain ⟨t,rfl⟩:=rx
   cases y with
   | non=>cases ry;exact PySem.EqNone.eq_int_none (aM I q (by simp))
   | int j=>obtain ⟨t',rfl⟩:=ry;exact eq_int (aM I q mW)
   | str j=>obtain ⟨t',rfl⟩:=ry;exact PySem.EqMixed.eq_int_str (aM I q (by simp))
   | _=>exact absurd (show false=true from hs) zB1
 | str i=>
   obtain ⟨t,rfl⟩:=rx
   cases y with
   | non=>cases ry;exact PySem.EqNone.eq_str_none (aM I q (by simp))
   | bl j=>cases ry;exact PySem.EqMixed.eq_str_bool (aM I q (by simp))
   | int j=>obtain ⟨t',rfl⟩:=ry;exact PySem.EqMixed.eq_str_int (aM I q (by simp))
   | str j=>obtain ⟨t',rfl⟩:=ry;exact eq_str (aM I q mV)
   | _=>exact absurd (show false=true from hs) zB1
 | byt i=>
   obtain ⟨t,rfl⟩:=rx
   cases y with
   | byt j=>obtain ⟨t',rfl⟩:=ry;exact PySem.W.eq_bytes (aM I q mX)
   | _=>exact absurd (show false=true from hs) zB1
 | _=>cases y <;> exact absurd (show false=true from hs) zB1
theorem op_ne:OpR X (compareOp .NotEq) rNe:=by
 sleep 0;obtain ⟨hs,q⟩:=h
 cases x with
 | non=>
   cases rx
   cases y with
   | non=>cases ry;exact PySem.EqNone.ne_none_none (aM I q (by simp))
   | bl j=>cases ry;exact PySem.EqNone.ne_none_bool (aM I q (by simp))
   | int j=>obtain ⟨t',rfl⟩:=ry;exact PySem.EqNone.ne_none_int (aM I q (by simp))
   | str j=>obtain ⟨t',rfl⟩:=ry;exact PySem.EqNone.ne_none_str (aM I q (by simp))
   | _=>exact absurd (show false=true from hs) zB1
 | bl i=>
   cases rx
   cases y with
   | non=>cases ry;exact PySem.EqNone.ne_bool_none (aM I q (by simp))
   | bl j=>cases ry;exact ne_bool (aM I q (congrArg not rq))
   | str j=>obtain ⟨t',rfl⟩:=ry;exact PySem.EqMixed.ne_bool_str (aM I q (by simp))
   | _=>exact absurd (show false=true from hs) zB1
 | int i=>
   obtain ⟨t,rfl⟩:=rx
   cases y with
   | non=>cases ry;exact PySem.EqNone.ne_int_none (aM I q (by simp))
   | int j=>obtain ⟨t',rfl⟩:=ry;exact ne_int (aM I q (congrArg not mW))
   | str j=>obtain ⟨t',rfl⟩:=ry;exact PySem.EqMixed.ne_int_str (aM I q (by simp))
   | _=>exact absurd (show false=true from hs) zB1
 | str i=>
   obtain ⟨t,rfl⟩:=rx
   cases y with
   | non=>cases ry;exact PySem.EqNone.ne_str_none (aM I q (by simp))
   | bl j=>cases ry;exact PySem.EqMixed.ne_str_bool (aM I q (by simp))
   | int j=>obtain ⟨t',rfl⟩:=ry;exact PySem.EqMixed.ne_str_int (aM I q (by simp))
   | str j=>obtain ⟨t',rfl⟩:=ry;exact ne_str (aM I q (congrArg not mV))
   | _=>exact absurd (show false=true from hs) zB1
 | byt i=>
   obtain ⟨t,rfl⟩:=rx
   cases y with
   | byt j=>obtain ⟨t',rfl⟩:=ry;exact PySem.W.ne_bytes (aM I q (congrArg not mX))
   | _=>exact absurd (show false=true from hs) zB1
 | _=>cases y <;> exact absurd (show false=true from hs) zB1
theorem op_lt:OpR X (compareOp .Lt) (rI0 fun i j=>.bl (decide (i<j))):=opB0 fun _ _ _ _ _ _ _ q=>lt_int q
theorem op_le:OpR X (compareOp .LtE) (rI0 fun i j=>.bl (decide (i<=j))):=opB0 fun _ _ _ _ _ _ _ q=>le_int q
theorem op_gt:OpR X (compareOp .Gt) (rI0 fun i j=>.bl (decide (j<i))):=opB0 fun _ _ _ _ _ _ _ q=>gt_int q
theorem op_ge:OpR X (compareOp .GtE) (rI0 fun i j=>.bl (decide (j<=i))):=opB0 fun _ _ _ _ _ _ _ q=>ge_int q
theorem op_in_str:OpR X (compareOp .In) (fun x y H Q=>∃ i j,x=.str i/\y=.str j/\Q (.bl (!(Builtin.Str.occurrences j i 0 j.length 1).isEmpty)) H):=by
 sleep 0;obtain ⟨i,j,rfl,rfl,q⟩:=h;obtain ⟨t,rfl⟩:=rx;obtain ⟨t',rfl⟩:=ry;exact in_str (aM I q rfl)
theorem op_isN:OpR X (compareOp .Is) (fun x y H Q=>y=.non/\Q (.bl (decide (x=.non))) H):=by
 sleep 0;obtain ⟨rfl,q⟩:=h
 cases ry
 refine is_none_gen (aM I q ?_)
 cases x <;> first
  | (cases rx;rfl)
  | (obtain ⟨t,rfl⟩:=rx;rfl)
theorem ao (b:Expr) {op:CmpOp} (h:op≠.In:=by decide) (h2:op≠.NotIn:=by decide):behindInMarks op b=false:=by
 have e1:(op == CmpOp.In)=false:=by cases op <;> first | rfl | exact absurd rfl h
 have e2:(op == CmpOp.NotIn)=false:=by cases op <;> first | rfl | exact absurd rfl h2
 cases b <;> simp [behindInMarks,e1,e2]
theorem tN {op:CmpOp} {r:R2} (ho:OpR X (compareOp op) r) (ha:PE X a ta) (hb:PE X b tb) (hm:behindInMarks op b=false):PE X (.Compare a [op] [b] pos) (tOp r ta tb):=by
 intro pins s σ H Q I h;exact wpAny_Compare1 (binT ha hb I h fun v u s2 x y H2 I2 rx ry q=>ho pins s2 σ H2 x y v u Q I2 rx ry q) hm
theorem aZ {op:CmpOp} {r:R2} (ho:OpR X (compareOp op) r) (ha:ZE X a ta) (hb:ZE X b tb) (hm:behindInMarks op b=false):ZE X (.Compare a [op] [b] pos) (tOp r ta tb):=by with_unfolding_all exact tN ho ha hb hm
def qy (r r':R2) (ta tb tc:TE):TE:=fun σ H Q=>ta σ H fun x H1=>tb σ H1 fun y H2=>r x y H2 fun z H3=>∃ k,z=.bl k /\
 (if k=true then tc σ H3 fun w' H4=>r' y w' H4 Q else Q (.bl false) H3)
theorem pi {op op':CmpOp} {r r':R2} (ho:OpR X (compareOp op) r) (ho':OpR X (compareOp op') r') (ha:PE X a ta) (hb:PE X b tb) (hc:PE X c tc)
 (hm:lastMarks [op,op'] [b,c]=false:=by with_unfolding_all rfl):PE X (.Compare a [op,op'] [b,c] pos) (qy r r' ta tb tc):=by
 intro pins s σ H Q I h;refine Compare_chain (thn (ha pins s σ H _ I h) fun v s1 ⟨x,H1,I1,r1,q1⟩=>chain_link (thn (hb pins s1 σ H1 _ I1 q1) fun u s2 ⟨y,H2,I2,r2,q2⟩=>
  thn (ho pins s2 σ H2 x y v u _ I2 r1 r2 q2) fun d s3 ⟨z,H3,I3,r3,k,e,q3⟩=>?_)) hm
 subst e
 cases r3
 refine wpAny_truthy_bool ?_
 cases k with
 | false=>exact ite_ff ⟨.bl false,H3,I3,rfl,q3⟩
 | true=>exact ite_tt (chain_last (thn (hc pins s3 σ H3 _ I3 q3) fun w' s4 ⟨z',H4,I4,r4,q4⟩=>ho' pins s4 σ H4 y z' u w' Q I4 r2 r4 q4))
theorem oa {op op':CmpOp} {r r':R2} (ho:OpR X (compareOp op) r) (ho':OpR X (compareOp op') r') (ha:ZE X a ta) (hb:ZE X b tb) (hc:ZE X c tc)
 (hm:lastMarks [op,op'] [b,c]=false:=by with_unfolding_all rfl):ZE X (.Compare a [op,op'] [b,c] pos) (qy r r' ta tb tc):=by with_unfolding_all exact pi ho ho' ha hb hc hm
theorem fc:(sizeLine:Nat)<2 ^ 63:=by rw [sizeLine_eq];decide
theorem j3:OpR X (binaryOp .Add) (fun x y H Q=>∃ i j,x=.str i/\y=.str j/\i.length+j.length<=sizeLine/\Q (.str (i++j)) H):=by
 sleep 0;obtain ⟨i,j,rfl,rfl,hz,q⟩:=h;obtain ⟨t,rfl⟩:=rx;obtain ⟨t',rfl⟩:=ry;exact add_str (fun t' tk=>⟨.str (i++j),H,I.tok _,⟨_,rfl⟩,q⟩) hz
theorem cx {x:V} {us:List Value} (r:Vals [x] us):∃ u,us=[u]/\RelV x u:=by
 cases r with
 | cons r1 r2=>cases r2;exact ⟨_,rfl,r1⟩
theorem on {x y:V} {us:List Value} (r:Vals [x,y] us):∃ u w',us=[u,w']/\RelV x u/\RelV y w':=by
 cases r with
 | cons r1 r2=>
   cases r2 with
   | cons r3 r4=>cases r4;exact ⟨_,_,rfl,r1,r3⟩
theorem call_abs:CallR X (.builtin "abs") (fun xs H Q=>∃ i,xs=[.int i]/\Q (.int (if i<0 then -i else i)) H):=by
 sleep 1;obtain ⟨i,rfl,q⟩:=h;obtain ⟨u,rfl,t,rfl⟩:=cx r;exact call_abs_int fun u tk=>⟨.int (if i<0 then -i else i),H,I.tok _,⟨_,rfl⟩,q⟩
theorem nq (hc:X.calm=true):CallR X (.builtin "max") (fun xs H Q=>∃ i j,xs=[.int i,.int j]/\Q (.int (if j > i then j else i)) H):=by
 sleep 1;obtain ⟨i,j,rfl,q⟩:=h;obtain ⟨u,w',rfl,⟨t,rfl⟩,⟨t',rfl⟩⟩:=on r;refine max_two_ints (I.ok.hd hc) fun h' tk k=>⟨_,H,I.kept k,?_,q⟩
 by_cases hj:j > i
 · rw [if_pos hj,if_pos hj];exact ⟨_,rfl⟩
 · rw [if_neg hj,if_neg hj];exact ⟨_,rfl⟩
theorem no (hc:X.calm=true):CallR X (.builtin "min") (fun xs H Q=>∃ i j,xs=[.int i,.int j]/\Q (.int (if j<i then j else i)) H):=by
 sleep 1;obtain ⟨i,j,rfl,q⟩:=h;obtain ⟨u,w',rfl,⟨t,rfl⟩,⟨t',rfl⟩⟩:=on r;refine min_two_ints (I.ok.hd hc) fun h' tk k=>⟨_,H,I.kept k,?_,q⟩
 by_cases hj:j<i
 · rw [if_pos hj,if_pos hj];exact ⟨_,rfl⟩
 · rw [if_neg hj,if_neg hj];exact ⟨_,rfl⟩
theorem call_str_int:CallR X (.type "str") (fun xs H Q=>∃ i,xs=[.int i]/\i.natAbs.log2<1920/\Q (.str (toString i)) H):=by
 sleep 1;obtain ⟨i,rfl,hz,q⟩:=h;obtain ⟨u,rfl,t,rfl⟩:=cx r;exact PySem.P.str_of_int hz ⟨.str _,H,I.tok _,⟨_,rfl⟩,q⟩
end
structure ObjM (h:Heap) (x dx C:Addr) (mA:Str->Option Value):Prop where
 obj:h.get? x=some (PySem.W.instObj C dx)
 ns:h.Ns1 dx mA
 ne:dx≠x
theorem my {h:Heap} {dx:Addr} {mA:.(32)} (n:h.Ns1 dx mA):∃ od,h.get? dx=some od/\∀ name,PySem.W.lookIn name od=some (mA name):=by
 obtain ⟨o,es,ep,ho,hd,hk,_,hm⟩:=n;refine ⟨o,ho,fun name=>?_⟩;have e:=hm name;unfold nsFind findBy at e;rw [← Array.find?_toList] at e;unfold PySem.W.lookIn;rw [hd];dsimp only;split
 · rename_i y q
   rw [q] at e;exact congrArg some e
 · rename_i q
   rw [q] at e;have a:es.toList.any (·.refKey)=false:=by
    rw [List.any_eq_false];intro y hy;obtain ⟨z,t,hkey⟩:=hk y (Array.mem_toList_iff.mp hy);simp [DictEntry.refKey,hkey]
   have a':¬ es.toList.any (·.refKey)=true:=by rw [a];exact zB1
   rw [if_neg a'];exact congrArg some e
theorem ObjM.look {h:Heap} {x dx C:Addr} {mA:.(32)} (I:ObjM h x dx C mA):∃ od,PySem.W.InstAt h x (PySem.W.instObj C dx) C (some od)/\∀ name,PySem.W.lookIn name od=some (mA name):=
 let ⟨od,ho,hl⟩:=my I.ns
 ⟨od,⟨I.obj,rfl,rfl,ho⟩,hl⟩
section
variable {P:Program} {w:World} {H H':Hp} {h h':Heap} {a C dx:Addr} {fs fs':List (Str×V)}
theorem uG (hok:HOk P w H h) (e:H a=some (.ins C dx fs)):∃ mA,ObjM h a dx C mA/\(∀ f,RelO (fs.lookup f) (mA f))/\PySem.Within mA (fs.map (·.1))/\fs.length<=1000/\H dx=some (.own a):=by
 obtain ⟨d,z,ne,ob,mA,n,r,q⟩:=(show ObjOk P w H h a (.ins C dx fs) from hok a _ e)
 exact ⟨mA,⟨ob,n,ne⟩,r,q,z,d⟩
end
structure Cls (K:PySem.W.Frag) (C:Addr):Prop where
 pg:PySem.W.plainGet K C Str.empty=true
 hd:PySem.W.hasDictIn K C=true
 po:PySem.W.plainOver K C=true
 sa:PySem.W.findIn K (.ref C) "__setattr__" = some (some (.builtin "object.__setattr__"))
theorem Cls.get {K:PySem.W.Frag} {C:Addr} (c:Cls K C) (f:Str):PySem.W.plainGet K C f=true:=c.pg
section
variable {X:Cx} {pins:List (Addr×Obj)} {σ:St} {H:Hp} {s:Shared} {A:Around} {E:Value->Shared->Prop} {Q:Value->Shared->Prop} {c:Value} {b:Bool}
inductive TyOf (K:PySem.W.Frag) (H:Hp):V->Value->Prop where
 | non:TyOf K H .non (.type "NoneType")
 | bl (x:Bool):TyOf K H (.bl x) (.type "bool")
 | int (i:Int):TyOf K H (.int i) (.type "int")
 | str (x:Str):TyOf K H (.str x) (.type "str")
 | flt (x:UInt64):TyOf K H (.flt x) (.type "float")
 | lst {a:Addr} {xs:List V} (e:H a=some (.lst xs)):TyOf K H (.ref a) (.type "list")
 | frz {a:Addr} {o:Obj} {xs:List V} (e:H a=some (.frz o (.lst xs))):TyOf K H (.ref a) (.type "list")
 | tup {a:Addr} {xs:List V} (e:H a=some (.tup xs)):TyOf K H (.ref a) (.type "tuple")
 | dK {a:Addr} {kvs:List (Key×V)} (e:H a=some (.dK kvs)):TyOf K H (.ref a) (.type "dict")
 | dT {a:Addr} {kvs:List (List Key×V)} (e:H a=some (.dT kvs)):TyOf K H (.ref a) (.type "dict")
 | ins {a C dx:Addr} {fs:List (Str×V)} (e:H a=some (.ins C dx fs)) (cl:Cls K C) (ha:PySem.W.findIn K (.ref C) "__class__" = some (some (.builtin "object.__class__")))
  (hn:PySem.W.specialIn K (.builtin "object.__class__") "__get__" = some (some (.builtin "getset_descriptor.__get__"))) (htk:PySem.W.takesIn K (.builtin "object.__class__")=some true)
  (hm:PySem.W.mroIn K C (.type "object")=some true):TyOf K H (.ref a) (.ref C)
theorem mH {x:V} {u t:Value} (I:.(14)) (rx:RelV x u) (ty:TyOf X.K H x t) (e:PySem.W.kitOne X.K t c=some b) (h:∀ tk,Q (.bool b) { s with toks:=tk }) :
 wpAny .(15) A (call (.builtin "isinstance") [u,c]) Q E s:=by
 cases ty with
 | non=>cases (show u=Value.none from rx);exact PySem.W.kia_one PySem.W.kitx_none I.kIn True.intro e (fun z=>nomatch z) h
 | bl y=>cases (show u=Value.bool y from rx);exact PySem.W.kia_one PySem.W.kitx_bool I.kIn True.intro e (fun z=>nomatch z) h
 | int i=>obtain ⟨t,q⟩:=(show ∃ t,u=Value.int i t from rx);cases q;exact PySem.W.kia_one PySem.W.kitx_int I.kIn True.intro e (fun z=>nomatch z) h
 | str y=>obtain ⟨t,q⟩:=(show ∃ t,u=Value.str y t from rx);cases q;exact PySem.W.kia_one PySem.W.kitx_str I.kIn True.intro e (fun z=>nomatch z) h
 | flt y=>obtain ⟨t,q⟩:=(show ∃ t,u=Value.float y t from rx);cases q;exact PySem.W.kia_one PySem.W.kitx_float I.kIn True.intro e (fun z=>nomatch z) h
 | @lst a xs ea=>
   cases (show u=Value.ref a from rx)
   obtain ⟨_,_,n,_,h1⟩:=(show ObjOk X.prog X.w H s.heap a (.lst xs) from I.hok a _ ea)
   exact PySem.W.kia_one PySem.W.kitx_list I.kIn ⟨_,h1,rfl⟩ e (fun z=>nomatch z) h
 | @frz a ob xs ea=>
   cases (show u=Value.ref a from rx)
   obtain ⟨_,_,_,n,_,h1⟩:=(show ObjOk X.prog X.w H s.heap a (.frz ob (.lst xs)) from I.hok a _ ea)
   exact PySem.W.kia_one PySem.W.kitx_list I.kIn ⟨_,h1,rfl⟩ e (fun z=>nomatch z) h
 | @tup a xs ea=>
   cases (show u=Value.ref a from rx)
   obtain ⟨_,_,_,p⟩:=(show ObjOk X.prog X.w H s.heap a (.tup xs) from I.hok a _ ea)
   obtain ⟨o,h1,h2,_⟩:=p.tup
   exact PySem.W.kia_one PySem.W.kitx_tuple I.kIn ⟨o,h1,h2⟩ e (fun z=>nomatch z) h
 | @dK a kvs ea=>
   cases (show u=Value.ref a from rx)
   obtain ⟨_,_,vs,_,p⟩:=(show ObjOk X.prog X.w H s.heap a (.dK kvs) from I.hok a _ ea)
   obtain ⟨o,es,ep,h1,h2,_⟩:=p
   exact PySem.W.kia_one PySem.W.kitx_dict I.kIn ⟨o,h1,h2.1⟩ e (fun z=>nomatch z) h
 | @dT a kvs ea=>
   cases (show u=Value.ref a from rx)
   obtain ⟨_,_,xs,_,o,es,ep,h1,h2,_⟩:=(show ObjOk X.prog X.w H s.heap a (.dT kvs) from I.hok a _ ea)
   exact PySem.W.kia_one PySem.W.kitx_dict I.kIn ⟨o,h1,h2.1⟩ e (fun z=>nomatch z) h
 | @ins a C dx fs ea cl ha hn htk hm=>
   cases (show u=Value.ref a from rx)
   obtain ⟨mA,O,_⟩:=uG I.hok ea
   obtain ⟨od,J,_⟩:=O.look
   exact PySem.W.kia_one (PySem.W.kitx_own (cl.get _) cl.hd ha hn htk hm) I.kIn J e (fun z=>nomatch z) h
end
structure Room (k:Nat) (A:Around):Prop where
 hd:A.handled=none
 dp:A.depth+3*k+5<recursionLimit
 un:A.units+16*k+200<cLine
 gd:A.guards=some []
theorem Room.mono {j k:Nat} {A:Around} (r:Room k A) (h:j<=k):Room j A:=⟨r.hd,by have:=r.dp;lia,by have:=r.un;lia,r.gd⟩
theorem Room.deeper {k:Nat} {A:Around} (r:Room (k+1) A) (env:Env):Room k (A.deeper env):=
 ⟨r.hd,by have:=r.dp;show A.depth+1+3*k+5<_;lia,by have:=r.un;show A.units+3+16*k+200<_;lia,r.gd⟩
theorem Room.depth {k:Nat} {A:Around} (r:Room k A):A.depth<recursionLimit:=by have:=r.dp;lia
theorem Room.units {k:Nat} {A:Around} (r:Room k A):A.units+64<cLine:=by have:=r.un;lia
def tNil:TA:=fun _ H Q=>Q [] H
def sx (ta:TE) (tr:TA):TA:=fun σ H Q=>ta σ H fun x H1=>tr σ H1 fun xs H2=>Q (x::xs) H2
section
variable {X:Cx} {e:Expr} {es:List Expr} {te:TE} {t:TA} {pos:Pos}
theorem pa_nil:PA X [] tNil:=fun _ _ _ _ H Q I h=>Calls.spliced_nil ⟨[],H,I,.nil,h⟩
theorem ab:ZA X [] tNil:=by with_unfolding_all exact pa_nil
theorem tY (ha:PE X e te) (hr:PA X es t) (hs:starEach (e::es) X.env=.(9)::starEach es X.env:=by rfl):PA X (e::es) (sx te t):=by
 intro pos pins s σ H Q I h;rw [hs];show wpAny _ _ (spliced (.(9)::backTo pos .(13))) _ _ s;refine Calls.spliced_cons (thn (ha pins s σ H _ I h) fun u s1 ⟨x,H1,I1,r1,q1⟩=>?_);exact thn (hr pos pins s1 σ H1 _ I1 q1) fun us s2 ⟨xs,H2,I2,r2,q2⟩=>⟨x::xs,H2,I2,.cons r1 r2,q2⟩
theorem aa (ha:ZE X e te) (hr:ZA X es t) (hs:starEach (e::es) X.env=.(9)::starEach es X.env:=by rfl):ZA X (e::es) (sx te t):=by with_unfolding_all exact tY ha hr hs
def tTup (t:TA):TE:=fun σ H Q=>t σ H fun xs H1=>xs.length<=sizeLine/\∀ p,H1 p=none->Q (.ref p) (upd H1 p (.tup xs))
def tLst (t:TA):TE:=fun σ H Q=>t σ H fun xs H1=>xs.length<=sizeLine/\∀ p,H1 p=none->Q (.ref p) (upd H1 p (.lst xs))
theorem pe_tup {x1} (h:PA X es t):PE X (.Tuple es x1 pos) (tTup t):=by
 intro pins s σ H Q I hq;refine wpAny_Tuple_spliced (thn (h pos pins s σ H _ I hq) fun us s1 ⟨xs,H1,I1,r,z,q⟩=>⟨by rw [← r.length];exact z,?_⟩);have hf:H1 s1.heap.objs.size=none:=I1.hok.fresh (zA1 _);refine ⟨.ref s1.heap.objs.size,upd H1 s1.heap.objs.size (.tup xs),I1.laid (t':=s1.toks) (fun b u e=>Heap.get?_push_of_some _ e) (zA1 _) ?_,rfl,q _ hf⟩;exact ⟨z,us,r,⟨_,Heap.get?_push_size _ rfl⟩⟩
theorem aK {x1} (h:ZA X es t):ZE X (.Tuple es x1 pos) (tTup t):=by with_unfolding_all exact pe_tup h
theorem pe_lst (h:PA X es t):PE X (.List es pos) (tLst t):=by
 intro pins s σ H Q I hq;refine wpAny_List_spliced (thn (h pos pins s σ H _ I hq) fun us s1 ⟨xs,H1,I1,r,z,q⟩=>⟨by rw [← r.length];exact z,?_⟩);have hf:H1 s1.heap.objs.size=none:=I1.hok.fresh (zA1 _);refine ⟨.ref s1.heap.objs.size,upd H1 s1.heap.objs.size (.lst xs),I1.laid (t':=s1.toks) (fun b u e=>Heap.get?_push_of_some _ e) (zA1 _) ?_,rfl,q _ hf⟩;exact ⟨z,us,0,r,Heap.get?_push_size _ rfl⟩
theorem aO (h:ZA X es t):ZE X (.List es pos) (tLst t):=by with_unfolding_all exact pe_lst h
end
abbrev Sp:=List V->Hp->VK->XK->Prop
abbrev CXT:=List Env->Hp->Shared->XK->Value->Shared->Prop
structure Env0 (P:Program) (w:World) (K:PySem.W.Frag) (mg:Str->Option Value) (base:Heap) (A:Around) (outer:List Env) (s:Shared) (H:Hp):Prop where
 frames:A.frames=some outer
 mod:Mod K mg base
 bs:∀ b o,base.get? b=some o->s.heap.get? b=some o/\H b=none
 bsz:base.objs.size<=s.heap.objs.size
 funs:s.heap.FunFrames base outer
 frf:∀ b∈frs outer,H b=none
 hok:HOk P w H s.heap
 bare:AllBare s.gens
def CE (outer:List Env) (P:Program) (w:World) (H:Hp) (s:Shared) (Q:VK) (u:Value) (s':Shared):Prop:=
 ∃ v H',s'.os=s.os/\AllBare s'.gens/\Un (frs outer) [] H H' s.heap s'.heap/\HOk P w H' s'.heap/\RelV v u/\Q v H'
def CR (CX:CXT) (outer:List Env) (P:Program) (w:World) (H:Hp) (s:Shared) (Q:VK) (E:XK) (r:Result) (s':Shared):Prop:=
 match r with
 | .ok (.ret u)=>CE outer P w H s Q u s'
 | .ok _=>False
 | .error e=>CX outer H s E e s'
structure FnOk (P:Program) (w:World) (K:PySem.W.Frag) (mg:Str->Option Value) (base:Heap) (CX:CXT) (k:Nat) (f:Addr) (fd:FuncData) (ps:List Str) (sp:Sp):Prop where
 len:∀ vs H Q E,sp vs H Q E->vs.length=ps.length
 run:∀ (A:Around) (outer:List Env) (s:Shared) (H:Hp) (args:Args) (us:List Value) (vs:List V) (Q:VK) (E:XK),Room k A->Env0 P w K mg base A outer s H->BindsTo s fd args (ps.zip us)->Vals vs us->sp vs H Q E ->
  codeAny (model P w) A (.call (.ref f) args) (CR CX outer P w H s Q E) s
theorem FnOk.mono {P:Program} {w:World} {K:PySem.W.Frag} {mg:.(32)} {base:Heap} {CX:CXT} {j k:Nat} {f:Addr} {fd:FuncData} {ps:List Str} {sp:Sp} (F:FnOk P w K mg base CX j f fd ps sp) (h:j<=k) :
 FnOk P w K mg base CX k f fd ps sp:=⟨F.len,fun A outer s H args us vs Q E hr=>F.run A outer s H args us vs Q E (hr.mono h)⟩
theorem FnOk.imp {P:Program} {w:World} {K:PySem.W.Frag} {mg:.(32)} {base:Heap} {CX:CXT} {k:Nat} {f:Addr} {fd:FuncData} {ps:List Str} {sp sp':Sp} (F:FnOk P w K mg base CX k f fd ps sp)
 (h:∀ vs H Q E,sp' vs H Q E->sp vs H Q E):FnOk P w K mg base CX k f fd ps sp':=
 ⟨fun vs H Q E q=>F.len vs H Q E (h _ _ _ _ q),fun A outer s H args us vs Q E hr he hb hv hs=>F.run A outer s H args us vs Q E hr he hb hv (h _ _ _ _ hs)⟩
section
variable {X:Cx} {pins:List (Addr×Obj)} {σ:St} {H:Hp} {s s':Shared}
theorem Inv.env0 (I:.(14)):Env0 X.prog X.w X.K X.mg X.base X.A X.stack s H:=
 ⟨I.ok.frames,I.ok.mod,I.bs,zE6 I.ok.bsz I.sz,I.stack,I.stkFree,I.hok,I.bare⟩
theorem Inv.after {Q:VK} {u:Value} (I:.(14)) (h:CE X.stack X.prog X.w H s Q u s'):EP X pins σ Q u s':=by
 obtain ⟨v,H',os,bare,un,hok,r,q⟩:=h;obtain ⟨hh,g,d,t,os'⟩:=s';obtain rfl:os'=s.os:=os;exact ⟨v,H',I.call (h':=hh) (g':=g) (d':=d) (t':=t) (ch:=[]) un hok bare (fun b z=>absurd z (by simp)),r,q⟩
end
def tCall (sp:Sp) (dvs:List V) (E:XK) (t:TA):TE:=fun σ H Q=>t σ H fun vs H1=>sp (vs++dvs) H1 Q E
def Binds (K:PySem.W.Frag) (fd:FuncData) (ps:List Str) (ds:List Value):Prop:=
 ∀ (s:Shared) (us:List Value),K.In s.heap->(us++ds).length=ps.length->BindsTo s fd ⟨us,[]⟩ (ps.zip (us++ds))
theorem Binds.all {K:PySem.W.Frag} {fd:FuncData} {ps:List Str} (h:∀ us:List Value,us.length=ps.length->bindArgs fd ⟨us,[]⟩=pure (ps.zip us)):Binds K fd ps []:=fun s us _ hl=>by
 rw [zC9] at hl ⊢;exact .of_eq (h us hl)
def nS (CX:CXT) (X:Cx) (E:XK):Prop:=∀ (pins:List (Addr×Obj)) (σ:St) (H:Hp) (s:Shared) (e:Value) (s':Shared),Inv X pins σ H s->CX X.stack H s E e s'->X.xe e s'
section
variable {X:Cx} {CX:CXT} {k:Nat} {f C:Addr} {fd:FuncData} {ps:List Str} {sp:Sp} {dvs:List V} {ds:List Value} {E:XK} {x m:Str} {p pos apos:Pos} {e o:Expr} {es:List Expr} {ta:TE} {t:TA}
theorem qN {pins:.(31)} {σ:St} {H:Hp} {s:Shared} {Q:VK} {us:List Value} {vs:List V} (F:FnOk X.prog X.w X.K X.mg X.base CX k f fd ps sp) (hr:Room k X.A) (hb:Binds X.K fd ps ds) (hd:Vals dvs ds) (hx:nS CX X E)
 (I:.(14)) (r:Vals vs us) (h:sp (vs++dvs) H Q E):wpAny .(15) X.A (call (.ref f) us) (EP X pins σ Q) X.xe s:=by
 have r2:Vals (vs++dvs) (us++ds):=r.append hd;have hl:(us++ds).length=ps.length:=by rw [← r2.length];exact F.len _ _ _ _ h
 refine wpAny_call (codeAny_mono (F.run X.A X.stack s H ⟨us,[]⟩ (us++ds) (vs++dvs) Q E hr I.env0 (hb s us I.kIn hl) r2 h) fun r s' hq=>?_)
 cases r with
 | error e=>exact hx pins σ H s e s' I hq
 | ok fl=>
   cases fl with
   | ret u=>exact I.after hq
   | next=>exact False.elim hq
   | brk=>exact False.elim hq
   | cont=>exact False.elim hq
theorem tO (F:FnOk X.prog X.w X.K X.mg X.base CX k f fd ps sp) (hr:Room k X.A) (hg:Gl X x) (hm:X.mg x=some (.ref f)) (hk:PySem.W.keepIn X.K (.ref f)=true) (hb:Binds X.K fd ps ds) (hd:Vals dvs ds) (hx:nS CX X E)
 (ha:PA X (e::es) t) (hdb:.(25)=false:=by decide) (he:starEach (e::es) X.env=.(9)::starEach es X.env:=by rfl) (hpl:(backTo pos .(13)).any (·.1)=false:=by rfl) :
 PE X (.Call (.Name x p) (e::es) [] pos) (tCall sp dvs E t):=by
 intro pins s σ H Q I h;refine wpAny_Call_Name_kw (mG I hg hm ?_ hdb);refine PySem.W.callWith_K (h₀:=X.base) I.ok.mod.kin hk (thn (ha pos pins s σ H _ I h) fun us s1 ⟨vs,H1,I1,r,q⟩=>⟨I1.kIn,?_⟩) he hpl;exact qN F hr hb hd hx I1 r q
end
structure FnScope (N P:List Str) (sc:Scope):Prop where
 kind:sc.kind=.function
 co:sc.isCoroutine=false
 gen:sc.isGenerator=false
 nd:N.Nodup
 pre:N.take P.length=P
 par:∀ x∈P,sc.names.lookup x=some .local\/sc.names.lookup x=some .cell
 nofree:∀ y∈sc.names,y.2≠.free
theorem iA {kindOf:Str->Option NameKind} {x:Str}:∀ {binds:List (Str×Value)} {m:.(32)},(∀ v,(x,v)∉binds)->bindL kindOf binds m x=m x
 | [],_,_=>rfl
 | (n,v)::r,m,h=>by
   unfold bindL;rw [iA fun w hw=>h w (zA5 _ hw)];split
   · have:x≠n:=by rintro rfl;exact h v zA3
     simp [this]
   · rfl
theorem iC {kindOf:Str->Option NameKind} {x:Str}:∀ {binds:List (Str×Value)} {m:.(32)},(∀ v,(x,v)∉binds)->bindC kindOf binds m x=m x
 | [],_,_=>rfl
 | (n,v)::r,m,h=>by
   unfold bindC;rw [iC fun w hw=>h w (zA5 _ hw)];split
   · rfl
   · have:x≠n:=by rintro rfl;exact h v zA3
     simp [this]
theorem iB {kindOf:Str->Option NameKind} {x:Str} {v:Value}:∀ {P:List Str} {vs:List Value} {i:Nat} {m:.(32)},P.Nodup->P[i]? = some x->vs[i]? = some v->kindOf x=some .local ->
 bindL kindOf (P.zip vs) m x=some v
 | [],_,_,_,_,h,_,_=>by simp at h
 | _::_,[],_,_,_,_,h,_=>by simp at h
 | p::P,w::vs,0,m,nd,h1,h2,hk=>by
   simp at h1 h2;subst h1;subst h2;show bindL kindOf ((p,w)::P.zip vs) m p=_;unfold bindL;rw [iA fun v hv=>(List.nodup_cons.mp nd).1 (List.of_mem_zip hv).1,if_pos hk];simp
 | p::P,w::vs,i+1,m,nd,h1,h2,hk=>by
   show bindL kindOf ((p,w)::P.zip vs) m x=_;unfold bindL;exact iB (i:=i) (List.nodup_cons.mp nd).2 (by simpa using h1) (by simpa using h2) hk
theorem iD {kindOf:Str->Option NameKind} {x:Str} {v:Value}:∀ {P:List Str} {vs:List Value} {i:Nat} {m:.(32)},P.Nodup->P[i]? = some x->vs[i]? = some v->kindOf x≠some .local ->
 bindC kindOf (P.zip vs) m x=some v
 | [],_,_,_,_,h,_,_=>by simp at h
 | _::_,[],_,_,_,_,h,_=>by simp at h
 | p::P,w::vs,0,m,nd,h1,h2,hk=>by
   simp at h1 h2;subst h1;subst h2;show bindC kindOf ((p,w)::P.zip vs) m p=_;unfold bindC;rw [iC fun v hv=>(List.nodup_cons.mp nd).1 (List.of_mem_zip hv).1,if_neg hk];simp
 | p::P,w::vs,i+1,m,nd,h1,h2,hk=>by
   show bindC kindOf ((p,w)::P.zip vs) m x=_;unfold bindC;exact iD (i:=i) (List.nodup_cons.mp nd).2 (by simpa using h1) (by simpa using h2) hk
def start (N:List Str) (vs:List V):St:=vs.map some++List.replicate (N.length - vs.length) none
def qe (CX:CXT) (P:Program) (w:World) (K:PySem.W.Frag) (mg:.(32)) (base:Heap) (N:List Str) (qual:Str) (scope:Scope) (f:Addr) (cd:Value) (A:Around) (outer:List Env) (s:Shared) (H:Hp) (E:XK):Cx where
 prog:=P
 w:=w
 K:=K
 mg:=mg
 base:=base
 A:=A.deeper (envOfC qual scope s.heap.objs.size f cd)
 N:=N
 s₀:=s
 H₀:=H
 env:=envOfC qual scope s.heap.objs.size f cd
 outer:=outer
 stack:=envOfC qual scope s.heap.objs.size f cd::outer
 ex:=[]
 calm:=true
 fn:=fun _=>true
 pn:=[]
 xe:=fun e s'=>wpAny (model P w) (A.deeper (envOfC qual scope s.heap.objs.size f cd)) (leaving (envOfC qual scope s.heap.objs.size f cd) e) (fun _ s''=>CX outer H s E e s'') (fun e' s''=>CX outer H s E e' s'') s'
theorem jN {sc:Scope} {n:Nat} {x:Str} (h:sc.names.lookup x=some .cell):∃ c,(cellsFrom n sc.names []).lookup x=some c:=by
 have q:=PySem.W.cellsFrom_some sc.names n [] (.inl h);exact Option.isSome_iff_exists.mp q
theorem mK {CX:CXT} {P:Program} {w:World} {K:PySem.W.Frag} {mg:.(32)} {base:Heap} {N ps:List Str} {qual:Str} {scope:Scope} {f:Addr} {cd:Value} {A:Around} {outer:List Env} {s s1:Shared} {H:Hp} {E:XK} {us:List Value} {vs:List V}
 (S:FnScope N ps scope) (hd:A.handled=none) (e0:Env0 P w K mg base A outer s H) (hl:vs.length=ps.length) (r:Vals vs us)
 (x:InCallC s s.heap.objs.size (bindL (envOfC qual scope s.heap.objs.size f cd).kindOf (ps.zip us) fun _=>none) (cellsFrom .(16) scope.names []) (bindC (envOfC qual scope s.heap.objs.size f cd).kindOf (ps.zip us) fun _=>none) s1) :
 Inv (qe CX P w K mg base N qual scope f cd A outer s H E) [] (start N vs) H s1:=by
 have hpl:ps.length<=N.length:=by have:=congrArg List.length S.pre;rw [zB3] at this;lia
 obtain ⟨h1,tk,rfl,hk⟩:=x.done;have noA:∀ b:Addr,b∉(qe CX P w K mg base N qual scope f cd A outer s H E).ex:=fun b z=>absurd (show b∈([]:List Addr) from z) (by simp);refine ⟨⟨e0.mod,S.kind,rfl,rfl,zA1 _,fun y z c h1 h2=>?_,fun y hy=>?_,fun y c _ h=>?_,fun _=>hd,Around.frames_deeper e0.frames,.inr ⟨rfl,rfl⟩,fun b z=>absurd z (noA b),e0.bs,e0.bsz,fun b _ _=>noA b,fun b z=>absurd z (noA b),e0.funs,e0.frf⟩,
  rfl,e0.bare,Un.kept hk,⟨_,x.toInCall.ns,fun i y v h1 h2 h3=>?_⟩,fun y c h=>⟨_,x.cell y c h⟩,e0.hok.fresh (zA1 _),fun y c h=>?_,fun p hp=>absurd (show p∈([]:List (Addr×Obj)) from hp) (by simp),e0.hok.kept hk,?_⟩
 · exact name_of_addr x.apart (PySem.mem_of_lookup h1) (PySem.mem_of_lookup h2)
 · have hy:scope.names.lookup y=some .cell\/scope.names.lookup y=some .free:=hy;rcases hy with hy | hy
   · exact jN hy
   · exact absurd rfl (S.nofree _ (PySem.mem_of_lookup hy))
 · exact zH0 (x.above y c (PySem.mem_of_lookup h))
 · have hi:i<vs.length:=by
    unfold start at h2;by_cases hi:i<vs.length
    · exact hi
    · rw [List.getElem?_append_right (by simpa using hi)] at h2;rw [List.getElem?_replicate] at h2;split at h2 <;> cases h2
   have ha:vs[i]? = some v:=by
    unfold start at h2;rw [List.getElem?_append_left (by simpa using hi),List.getElem?_map] at h2
    cases e:vs[i]? with
    | none=>rw [e] at h2;cases h2
    | some a=>rw [e] at h2;cases h2;rfl
   obtain ⟨u,hu,rv⟩:=r.get ha;have hp:ps[i]? = some y:=by
    rw [← S.pre,List.getElem?_take_of_lt (by lia)];exact h1
   have ndP:ps.Nodup:=by rw [← S.pre];exact S.nd.sublist (zH5 _ _)
   refine ⟨u,rv,?_⟩;rcases S.par y (zD3 hp) with k | k
   · exact .inl ⟨k,iB ndP hp hu k⟩
   · obtain ⟨c,e⟩:=jN (n:=s.heap.objs.size+1) k;refine .inr ⟨.inl k,c,e,?_⟩;have q:=x.cell y c e;rw [iD ndP hp hu (by show scope.names.lookup y≠_;rw [k];decide)] at q;exact q
 · exact e0.hok.fresh (zH0 (x.above y c (PySem.mem_of_lookup h)))
 · unfold start;show _=N.length;rw [zA4,zA0,zC8];lia
theorem fn_of {CX:CXT} {P:Program} {w:World} {K:PySem.W.Frag} {mg:.(32)} {base:Heap} {k:Nat} {f:Addr} {name qual:Str} {params:Arguments} {body:List Stmt} {scope:Scope} {dV kV doc pm cdv ct oc:Value} {an od:Option Addr}
 {osl:Array (Option Value)} {N ps:List Str} {sp:Sp} (lk:K.lookup f=some ⟨oc,od,.func (PySem.W.fnOf name qual params body scope dV kV doc pm an cdv ct),osl⟩) (hcd:PySem.W.codeIn K cdv qual=true) (S:FnScope N ps scope)
 (len:∀ vs H Q E,sp vs H Q E->vs.length=ps.length)
 (hbody:∀ (A:Around) (outer:List Env) (s:Shared) (H:Hp) (vs:List V) (Q:VK) (E:XK),Room k (A.deeper (envOfC qual scope s.heap.objs.size f cdv))->sp vs H Q E ->
   ∃ t,PSs (qe CX P w K mg base N qual scope f cdv A outer s H E) body t/\t { nx:=fun _ H'=>Q .non H',rt:=Q } (start N vs) H) :
 FnOk P w K mg base CX (k+1) f (PySem.W.fnOf name qual params body scope dV kV doc pm an cdv ct) ps sp:=by
 refine ⟨len,fun A outer s H args us vs Q E hr e0 hb r hsp=>?_⟩;have hl:=len _ _ _ _ hsp;have KX:K.In s.heap:=e0.mod.kin.keeps fun b o e=>(e0.bs b o e).1;have lim:s.heap.NoLimit:=e0.mod.nolimit.keeps fun b o e=>(e0.bs b o e).1;have hkind:∀ y∈ps.zip us,scope.names.lookup y.1=some .local\/(scope.names.lookup y.1=some .cell/\((cellsFrom .(16) scope.names []).lookup y.1).isSome=true):=fun ⟨n,v⟩ hy=>by
  rcases S.par n (List.of_mem_zip hy).1 with q | q
  · exact .inl q
  · exact .inr ⟨q,PySem.W.cellsFrom_some _ _ _ (.inl q)⟩
 refine codeAny_call_function hr.depth (KX _ _ lk) rfl S.co S.gen rfl (PySem.W.codeRec_of KX hcd) (hb _ _ _ _ ?_);refine wpAny_newFunctionEnv_cells S.kind hkind fun env he s1 x=>?_;subst he;refine ⟨lim.keeps x.toInCall.keep,codeAny_func ?_⟩;obtain ⟨t,ht,hq⟩:=hbody A outer s H vs Q E (hr.deeper _) hsp;have I:Inv (qe CX P w K mg base N qual scope f cdv A outer s H E) [] (start N vs) H s1:=mK S hr.hd e0 hl r x;refine wpAny_mono (ht [] s1 (start N vs) H _ I hq) (fun fl s' hs=>?_) fun e s' hs=>hs;have fin:∀ {σ':St} {H':Hp} {v:V} {u:Value},Inv (qe CX P w K mg base N qual scope f cdv A outer s H E) [] σ' H' s'->RelV v u->Q v H'->CE outer P w H s Q u s':=
  fun {σ' H' v u} J rv q=>⟨v,H',J.os,J.bare,J.base,J.hok,rv,q⟩
 cases fl with
 | ret u=>
   obtain ⟨v,σ',H',J,rv,q⟩:=hs
   exact fin J rv q
 | next=>
   obtain ⟨σ',H',J,q⟩:=hs
   exact fin (v:=V.non) (u:=Value.none) J rfl q
 | brk=>
   obtain ⟨_,_,_,q⟩:=hs
   exact False.elim q
 | cont=>
   obtain ⟨_,_,_,q⟩:=hs
   exact False.elim q
section
variable {X:Cx} {x:Str} {p pos:Pos} {e:Expr} {es:List Expr} {t:TA} {id T:String} {r:List V->Hp->VK->Prop}
def tCB (r:List V->Hp->VK->Prop) (t:TA):TE:=fun σ H Q=>t σ H fun vs H1=>r vs H1 Q
theorem bt (hc:CallR X (.builtin id) r) (hg:Gl X x) (hm:X.mg x=none) (hv:bootBuiltins x=some (.builtin id)) (ha:PA X (e::es) t) (hn:x≠"__name__":=by decide) (hdb:.(25)=false:=by decide)
 (he:starEach (e::es) X.env=.(9)::starEach es X.env:=by rfl) (hpl:(backTo pos .(13)).any (·.1)=false:=by rfl):PE X (.Call (.Name x p) (e::es) [] pos) (tCB r t):=by
 intro pins s σ H Q I h;refine wpAny_Call_Name_kw (fe I hg hm hv ?_ hn hdb);exact PyProof.Rows.callWith_builtin1 (thn (ha pos pins s σ H _ I h) fun us s1 ⟨vs,H1,I1,r1,q1⟩=>hc pins s1 σ H1 vs us Q I1 r1 q1) he hpl
theorem bP (hc:CallR X (.type T) r) (hg:Gl X x) (hm:X.mg x=none) (hv:bootBuiltins x=some (.type T)) (ha:PA X (e::es) t) (hn:x≠"__name__":=by decide) (hdb:.(25)=false:=by decide)
 (he:starEach (e::es) X.env=.(9)::starEach es X.env:=by rfl) (hpl:(backTo pos .(13)).any (·.1)=false:=by rfl):PE X (.Call (.Name x p) (e::es) [] pos) (tCB r t):=by
 intro pins s σ H Q I h;refine wpAny_Call_Name_kw (fe I hg hm hv ?_ hn hdb);exact PyProof.Rows.callWith_type1 (thn (ha pos pins s σ H _ I h) fun us s1 ⟨vs,H1,I1,r1,q1⟩=>hc pins s1 σ H1 vs us Q I1 r1 q1) he hpl
end
end L2
namespace HT
open PySem PyProof.Rows
section
variable {prog:Program} {w:World} {A:Around} {E:Value->Shared->Prop} {s:Shared}
theorem cat_tup {t b:Addr} {vs ws:List Value} {Q:.(21)} (ht:IsTup s.heap t vs.toArray) (hb:IsTup s.heap b ws.toArray) (hv:vs≠[])
 (h1:ws=[]->Q (.ref t) s) (h2:ws≠[]->Q (.ref s.heap.objs.size) { s with heap:=s.heap.push { cls:=.type "tuple",data:=.seq (vs++ws).toArray } })
 (hsz:vs.length+ws.length<=sizeLine):wpAny .(18) A (binaryOp .Add (.ref t) (.ref b)) Q E s:=by
 obtain ⟨⟨cls,dd,data,sl⟩,ho,hc,n,hd⟩:=id ht;obtain ⟨⟨cls2,dd2,data2,sl2⟩,ho2,hc2,n2,hd2⟩:=id hb;simp only at hc hd hc2 hd2;subst hc hd hc2 hd2;have e:vs.toArray++ws.toArray=(vs++ws).toArray:=by simp
 by_cases hw:ws=[]
 · exact concat_meets ⟨_,ho,rfl⟩ ⟨_,ho2,rfl⟩ noFill_tuple_add seq_tuple_add PySem.F.slot_tuple_add PySem.F.entry_tuple_add (PySem.F.args_tuple_add_2 _ _)
    (tuple_addW1 t b vs.toArray ws.toArray n n2 dd dd2 sl sl2 (by simpa using hv) (by simp [hw])) ⟨ho,ho2,h1 hw⟩
 · refine concat_meets ⟨_,ho,rfl⟩ ⟨_,ho2,rfl⟩ noFill_tuple_add seq_tuple_add PySem.F.slot_tuple_add PySem.F.entry_tuple_add (PySem.F.args_tuple_add_2 _ _)
    (tuple_addW2 t b vs.toArray ws.toArray n n2 dd dd2 sl sl2 (by simpa using hv) (by simpa using hw) (by rw [zA2,zA2];exact hsz)) ⟨ho,ho2,?_⟩
   rw [e];exact h2 hw
def sIx (n d:Nat):Option Int->Nat
 | none=>d
 | some v=>if v<0 then (v+(n:Int)).toNat else min v.toNat n
theorem sIx_none (n d:Nat):sIx n d none=d:=rfl
theorem sIx_nat (n d k:Nat):sIx n d (some (k:Int))=min k n:=by
 show (if (k:Int)<0 then ((k:Int)+(n:Int)).toNat else min (k:Int).toNat n)=min k n;rw [if_neg (by lia),Int.toNat_natCast]
theorem sIx_le (n d:Nat) (hd:d<=n) (o:Option Int):sIx n d o<=n:=by
 cases o with
 | none=>exact hd
 | some v=>
   show (if v<0 then (v+(n:Int)).toNat else min v.toNat n)<=n
   by_cases hv:v<0
   · rw [if_pos hv];lia
   · rw [if_neg hv];exact Nat.min_le_right _ _
theorem m6 (v:Int) (n d:Nat):(if v<0 then max (v+(n:Int)) 0 else min v (n:Int))=((sIx n d (some v):Nat):Int):=by
 show (if v<0 then max (v+(n:Int)) 0 else min v (n:Int))=(((if v<0 then (v+(n:Int)).toNat else min v.toNat n):Nat):Int)
 by_cases hv:v<0
 · simp only [if_pos hv];lia
 · simp only [if_neg hv];lia
theorem kj (lo hi:Option Int) (n:Nat):Builtin.Slice.sliceAdjust lo hi 1 (n:Int)=(((sIx n 0 lo:Nat):Int),((sIx n n hi:Nat):Int)):=by
 have h1:¬ ((1:Int)<0):=by lia
 unfold Builtin.Slice.sliceAdjust;simp only [h1,if_false];refine Prod.ext ?_ ?_
 · cases lo with
   | none=>rfl
   | some v=>exact m6 v n 0
 · cases hi with
   | none=>rfl
   | some v=>exact m6 v n n
theorem jZ (i j:Nat):Builtin.Slice.slicePlaces (i:Int) (j:Int) 1=j - i:=by
 unfold Builtin.Slice.slicePlaces;have h1:(1:Int) > 0:=by lia
 simp only [h1,if_true,Int.ediv_one];split <;> lia
theorem fQ {v:Value} {o:Option Int} {Q:Option Int->Shared->Prop} (p:IsPart v o) (h:Q o s):wpAny .(18) A (Builtin.Slice.slicePartIndex v) Q E s:=by
 cases p with
 | none=>exact slicePart_none h
 | int i t=>exact slicePart_int h
theorem sliceApplied_gen {sl:Addr} {vl vu:Value} {lo hi:Option Int} {n:Nat} {Q:Int×Int×Nat->Shared->Prop} (hs:s.heap.IsSliceOf sl vl vu .none) (pl:IsPart vl lo) (pu:IsPart vu hi)
 (h:Q (((sIx n 0 lo:Nat):Int),1,sIx n n hi - sIx n 0 lo) s):wpAny .(18) A (Builtin.Slice.sliceApplied (.ref sl) (pure (n:Int))) Q E s:=by
 obtain ⟨os,hos,hcs,hds⟩:=id hs;unfold Builtin.Slice.sliceApplied Builtin.Slice.sliceFields;refine wpAny_bind (wpAny_bind (wpAny_field hos hds (x:=vl) rfl (wpAny_bind (wpAny_field hos hds (x:=vu) rfl (wpAny_bind (wpAny_field hos hds (x:=.none) rfl (wpAny_pure ?_)))))));refine wpAny_bind (slicePart_none ?_);show wpAny _ _ (if ((1:Int) == 0)=true then _ else _) _ _ s;rw [if_neg (by decide)];refine wpAny_bind (fQ pl (wpAny_bind (fQ pu (wpAny_bind (wpAny_pure ?_)))));show wpAny _ _ (match Builtin.Slice.sliceAdjust lo hi 1 (n:Int) with | (lo,hi)=>pure (lo,(1:Int),Builtin.Slice.slicePlaces lo hi 1)) _ _ s;rw [kj lo hi n];show wpAny _ _ (pure (((sIx n 0 lo:Nat):Int),(1:Int),Builtin.Slice.slicePlaces ((sIx n 0 lo:Nat):Int) ((sIx n n hi:Nat):Int) 1)) _ _ s;rw [jZ];exact wpAny_pure h
theorem o9 (xs:Array Value) (i k:Nat):((List.range k).filterMap fun (m:Nat)=>xs[((i:Int)+(m:Int)*1).toNat]?).toArray=((xs.toList.drop i).take k).toArray:=by
 have e:(fun (m:Nat)=>xs[((i:Int)+(m:Int)*1).toNat]?)=fun m=>xs[i+m]?:=by
  funext m;have:((i:Int)+(m:Int)*1).toNat=i+m:=by lia
  rw [this]
 rw [e];have:=pick_run xs i k;rw [List.filterMap_map] at this;have e2:((fun x=>xs[x]?) ∘ fun x=>i+x)=fun m=>xs[i+m]?:=rfl;rw [e2] at this;rw [this]
theorem getItem_tuple_cut {t sl:Addr} {items:Array Value} {vl vu:Value} {lo hi:Option Int} {Q:.(21)} (ht:IsTup s.heap t items) (hs:s.heap.IsSliceOf sl vl vu .none) (pl:IsPart vl lo) (pu:IsPart vu hi)
 (hw:¬ (sIx items.size 0 lo=0/\sIx items.size items.size hi=items.size))
 (h:Q (.ref s.heap.objs.size) { s with heap:=s.heap.push { cls:=.type "tuple",data:=.seq ((items.toList.drop (sIx items.size 0 lo)).take (sIx items.size items.size hi - sIx items.size 0 lo)).toArray } })
 (hsz:items.size<=sizeLine):wpAny .(18) A (getItem (.ref t) (.ref sl)) Q E s:=by
 have htake:sizeOk (.seq ((items.toList.drop (sIx items.size 0 lo)).take (sIx items.size items.size hi - sIx items.size 0 lo)).toArray):=by
  show ((items.toList.drop (sIx items.size 0 lo)).take (sIx items.size items.size hi - sIx items.size 0 lo)).toArray.size<=sizeLine;rw [zA2,zB3,zE8,zB6];lia
 have hj:sIx items.size items.size hi<=items.size:=sIx_le _ _ (zA1 _) hi;obtain ⟨os,hos,hcs,hds⟩:=id hs;have hTs:s.TypeIs (.ref sl) "slice":=⟨os,hos,hcs⟩
 unfold getItem;try with_reducible refine wpAny_holding ?_
 first | refine wpAny_bind (wpAny_pure ?_) | skip
 refine wpAny_bind (wpAny_sequenceKey ht.typeIs (by decide) ?_);refine wpAny_bind (wpAny_callSpecial?_slot (name:=Str.ofString "__getitem__") ht.typeIs PyProof.Rows.slot_tuple_getitem
  (wpAny_call_entry PyProof.Rows.slot_tuple_getitem ht.typeIs entry_tuple_getitem ?_ (args_tuple_getitem _ _)))
 show wpAny _ _ (Builtin.Tuple.tupleItemsOf (.ref t) >>= _) _ _ s;refine wpAny_bind (tupleItemsOf_ ht ?_);refine wpAny_bind (wpAny_typeOf hTs ?_);rw [if_pos (by decide)];refine wpAny_bind (sliceApplied_gen hs pl pu ?_);have hno:¬ ((((sIx items.size 0 lo:Nat):Int) == 0&&(1:Int) == 1&&(sIx items.size items.size hi - sIx items.size 0 lo) == items.size)=true):=by
  intro q;rw [zD6,zD6] at q;have q1:((sIx items.size 0 lo:Nat):Int)=0:=eq_of_beq q.1.1;have q2:sIx items.size items.size hi - sIx items.size 0 lo=items.size:=eq_of_beq q.2;exact hw ⟨by lia,by lia⟩
 show wpAny _ _ (if (((sIx items.size 0 lo:Nat):Int) == 0&&(1:Int) == 1&&(sIx items.size items.size hi - sIx items.size 0 lo) == items.size)=true then _ else _) _ _ s;rw [if_neg hno,o9]
 first
  | exact wpAny_bind (m:=Builtin.Tuple.tupleExact _) (wpAny_newObj_type (wpAny_pure ⟨_,rfl,wpAny_pure h⟩) htake)
  | exact wpAny_bind (m:=Builtin.Tuple.tupleExact _) (wpAny_newObj_type (wpAny_bind (wpAny_pure (wpAny_pure ⟨_,rfl,wpAny_pure h⟩))) htake)
  | exact wpAny_bind (wpAny_bind (m:=Builtin.Tuple.tupleExact _) (wpAny_newObj_type (wpAny_pure (wpAny_pure ⟨_,rfl,wpAny_pure h⟩)) htake))
  | exact wpAny_bind (wpAny_bind (m:=Builtin.Tuple.tupleExact _) (wpAny_newObj_type (wpAny_pure ⟨_,rfl,wpAny_pure h⟩) htake))
end
end HT
namespace L2
open PySem PySem.Spec PyProof.Rows
abbrev TO:=St->Hp->(Option Int->Hp->Prop)->Prop
def PO (X:Cx) (e:Option Expr) (t:TO):Prop:=
 ∀ (pins:List (Addr×Obj)) (s:Shared) (σ:St) (H:Hp) (Q:Option Int->Hp->Prop),Inv X pins σ H s->t σ H Q ->
   wpAny .(15) X.A (evalPart e X.env) (fun u s'=>∃ o H',Inv X pins σ H' s'/\IsPart u o/\Q o H') X.xe s
@[irreducible] def ZO (X:Cx) (e:Option Expr) (t:TO):Prop:=PO X e t
def kM:TO:=fun _ H Q=>Q none H
def tPart (t:TE):TO:=fun σ H Q=>t σ H fun x H1=>∃ i,x=.int i/\Q (some i) H1
theorem cM {ns:List Int}:∀ {us:List Value},Vals (ns.map V.int) us->IntsAre us ns:=by
 induction ns with
 | nil=>intro us r;rw [List.map_nil] at r;cases r;exact .nil
 | cons n ns ih=>
   intro us r
   rw [zC5] at r
   cases r with
   | cons r1 r2=>
     obtain ⟨t,e⟩:=r1
     subst e
     exact .cons n t (ih r2)
section
variable {X:Cx} {e:Expr} {te:TE} {lo hi:Option Expr} {tl th:TO} {pos p2:Pos}
theorem tw:PO X none kM:=by
 intro pins s σ H Q I h;rw [evalPart_none];exact wpAny_pure ⟨none,H,I,.none,h⟩
theorem cz:ZO X none kM:=by with_unfolding_all exact tw
theorem tv (h:PE X e te):PO X (some e) (tPart te):=by
 intro pins s σ H Q I hw;rw [evalPart_some];refine thn (h pins s σ H _ I hw) fun u s1 ⟨x,H1,I1,r1,q1⟩=>?_;obtain ⟨i,rfl,q⟩:=q1;obtain ⟨t,rfl⟩:=r1;exact ⟨some i,H1,I1,.int i t,q⟩
theorem bF (h:ZE X e te):ZO X (some e) (tPart te):=by with_unfolding_all exact tv h
def SlR (X:Cx) (r:V->Option Int->Option Int->Hp->VK->Prop):Prop:=
 ∀ (pins:List (Addr×Obj)) (s:Shared) (σ:St) (H:Hp) (x:V) (v vl vu:Value) (lo hi:Option Int) (sl:Addr) (Q:VK),Inv X pins σ H s->RelV x v->s.heap.IsSliceOf sl vl vu .none->IsPart vl lo->IsPart vu hi->r x lo hi H Q ->
   ∃ T id,typeLookup (.type T) "__getitem__" = pure (some (.builtin id))/\s.TypeIs v T/\wpAny .(15) X.A (getItem v (.ref sl)) (EP X pins σ Q) X.xe s
def tSl (r:V->Option Int->Option Int->Hp->VK->Prop) (te:TE) (tl th:TO):TE:=fun σ H Q=>te σ H fun x H1=>tl σ H1 fun l H2=>th σ H2 fun u H3=>r x l u H3 Q
theorem pe {r:V->Option Int->Option Int->Hp->VK->Prop} (hr:SlR X r) (he:PE X e te) (hl:PO X lo tl) (hu:PO X hi th):PE X (.Subscript e (.Slice lo hi none p2) pos) (tSl r te tl th):=by
 intro pins s σ H Q I h;refine Subscript_ (thn (he pins s σ H _ I h) fun v s1 ⟨x,H1,I1,r1,q1⟩=>?_);refine wpAny_Slice (thn (hl pins s1 σ H1 _ I1 q1) fun vl s2 ⟨l,H2,I2,pl,q2⟩=>thn (hu pins s2 σ H2 _ I2 q2) fun vu s3 ⟨u,H3,I3,pu,q3⟩=>?_);rw [evalPart_none];refine wpAny_pure ?_;have I4:Inv X pins σ H3 { s3 with heap:=s3.heap.push { cls:=.type "slice",data:=.fields #[vl,vu,.none] } }:=I3.kept (t':=s3.toks) fun b ob q=>Heap.get?_push_of_some _ q;obtain ⟨T,id,hT,ht,hg⟩:=hr pins { s3 with heap:=s3.heap.push { cls:=.type "slice",data:=.fields #[vl,vu,.none] } } σ H3 x v vl vu l u s3.heap.objs.size Q I4 r1 (Heap.IsSliceOf.new ..) pl pu q3;show wpAny .(15) X.A (subscriptTail e (.Slice lo hi none p2) v (.ref s3.heap.objs.size)) (EP X pins σ Q) X.xe { s3 with heap:=s3.heap.push { cls:=.type "slice",data:=.fields #[vl,vu,.none] } };exact tail_any (ops:=[.ref s3.heap.objs.size,v]) ht hT hg (by with_unfolding_all rfl)
theorem bB {r:V->Option Int->Option Int->Hp->VK->Prop} (hr:SlR X r) (he:ZE X e te) (hl:ZO X lo tl) (hu:ZO X hi th):ZE X (.Subscript e (.Slice lo hi none p2) pos) (tSl r te tl th):=by with_unfolding_all exact pe hr he hl hu
def fu (xs:List V) (lo hi:Option Int):List V:=(xs.drop (HT.sIx xs.length 0 lo)).take (HT.sIx xs.length xs.length hi - HT.sIx xs.length 0 lo)
theorem fo (xs:List V) (lo hi:Option Int):(fu xs lo hi).length<=xs.length:=by
 unfold fu;rw [zB3,zE8];lia
def rSlT (K:PySem.W.Frag):V->Option Int->Option Int->Hp->VK->Prop:=fun x lo hi H Q=>∃ a xs,x=.ref a/\SqT K H a xs /\
 ¬ (HT.sIx xs.length 0 lo=0/\HT.sIx xs.length xs.length hi=xs.length)/\∀ p,H p=none->Q (.ref p) (upd H p (.tup (fu xs lo hi)))
theorem sl_tup:SlR X (rSlT X.K):=by
 intro pins s σ H x v vl vu lo hi sl Q I rx hs pl pu h;obtain ⟨a,xs,rfl,hx,hw,q⟩:=h
 cases rx
 obtain ⟨its,r,ht,hz⟩:=I.tuple hx;have hlen:its.toArray.size=xs.length:=by rw [zA2];exact r.length.symm
 refine ⟨"tuple",_,PyProof.Rows.slot_tuple_getitem.lookup,ht.typeIs,?_⟩;refine HT.getItem_tuple_cut ht hs pl pu (by rw [hlen];exact hw) ?_ (by rw [hlen];exact hz);rw [hlen];refine ⟨.ref s.heap.objs.size,_,I.laid (t':=s.toks) (o:=.tup (fu xs lo hi)) (fun b ob q=>Heap.get?_push_of_some _ q) (zA1 _) ?_,rfl,q _ (I.hok.fresh (zA1 _))⟩;exact ⟨zE6 (fo xs lo hi) hz,_,(r.drop (HT.sIx xs.length 0 lo)).take (HT.sIx xs.length xs.length hi - HT.sIx xs.length 0 lo),TupD.new _ _⟩
def rCatT (K:PySem.W.Frag):R2:=fun x y H Q=>∃ a b xs ys,x=.ref a/\y=.ref b/\SqT K H a xs/\SqT K H b ys/\xs≠[]/\xs.length+ys.length<=sizeLine /\
 (ys=[]->Q (.ref a) H)/\(ys≠[]->∀ p,H p=none->Q (.ref p) (upd H p (.tup (xs++ys))))
theorem Vals.nil_iff {xs:List V} {us:List Value} (r:Vals xs us):us=[]↔xs=[]:=by
 cases r with
 | nil=>simp
 | cons _ _=>simp
theorem t8:OpR X (binaryOp .Add) (rCatT X.K):=by
 sleep 0;obtain ⟨a,b,xs,ys,rfl,rfl,ha,hb,hx,hz,q1,q2⟩:=h
 cases rx
 cases ry
 obtain ⟨its,r1,p1,_⟩:=I.tuple ha;obtain ⟨its2,r2,p2,_⟩:=I.tuple hb;refine HT.cat_tup p1 p2 (fun z=>hx (r1.nil_iff.mp z)) (fun z=>⟨.ref a,H,I,rfl,q1 (r2.nil_iff.mp z)⟩) (fun z=>?_) (by rw [← r1.length,← r2.length];exact hz);refine ⟨.ref s.heap.objs.size,_,I.laid (t':=s.toks) (o:=.tup (xs++ys)) (fun b ob q=>Heap.get?_push_of_some _ q) (zA1 _) ?_,rfl,q2 (fun w=>z (r2.nil_iff.mpr w)) _ (I.hok.fresh (zA1 _))⟩;exact ⟨by rw [zA4];exact hz,_,r1.append r2,TupD.new _ _⟩
end
def ixN (n:Nat) (i:Int):Option Nat:=if 0<=i then (if i<n then some i.toNat else none) else if -(n:Int)<=i then some (i+n).toNat else none
def atI {α:Type} (xs:List α) (i:Int):Option α:=(ixN xs.length i).bind fun j=>xs[j]?
theorem iV {n:Nat} {i:Int} {j:Nat} (h:ixN n i=some j):seqIndex? i n=some j/\j<n/\-(n:Int)<=i/\i<n:=by
 unfold ixN at h;by_cases h0:0<=i
 · rw [if_pos h0] at h;by_cases h1:i<n
   · rw [if_pos h1] at h;have e:i.toNat=j:=Option.some.inj h;exact ⟨by rw [seqIndex_of h0 h1,e],by lia,by lia,h1⟩
   · rw [if_neg h1] at h;cases h
 · rw [if_neg h0] at h;by_cases h1:-(n:Int)<=i
   · rw [if_pos h1] at h;have e:(i+n).toNat=j:=Option.some.inj h;exact ⟨by rw [seqIndex_neg (by lia) h1,e],by lia,h1,by lia⟩
   · rw [if_neg h1] at h;cases h
theorem i4 {α:Type} {xs:List α} {i:Int} {v:α} (h:atI xs i=some v):∃ j,seqIndex? i xs.length=some j/\xs[j]? = some v/\j<xs.length/\-(xs.length:Int)<=i/\i<xs.length:=by
 unfold atI at h
 cases e:ixN xs.length i with
 | none=>rw [e] at h;cases h
 | some j=>
   rw [e] at h
   obtain ⟨h1,h2,h3,h4⟩:=iV e
   exact ⟨j,h1,h,h2,h3,h4⟩
theorem uZ {α:Type} {xs:List α} {j:Nat} {v:α} (h:xs[j]? = some v):atI xs (j:Int)=some v:=by
 have hj:j<xs.length:=(List.getElem?_eq_some_iff.mp h).1;have e:ixN xs.length (j:Int)=some j:=by
  unfold ixN;rw [if_pos (by lia),if_pos (by lia)];simp
 unfold atI;rw [e];exact h
def nQ (b:Expr):Prop:=∀ o i,subscripted b false o i=operate [o,i] (getItem o i)
def IxR (X:Cx) (r:R2):Prop:=
 ∀ (value slice:Expr) (pins:.(31)) (s:Shared) (σ:St) (H:Hp) (x y:V) (v u:Value) (Q:VK),Inv X pins σ H s->RelV x v->RelV y u->r x y H Q ->
   subscripted slice false v u=operate [v,u] (getItem v u)->wpAny .(15) X.A (subscriptTail value slice v u) (EP X pins σ Q) X.xe s
def MtR (X:Cx) (id:String) (r:V->List V->Hp->VK->Prop):Prop:=
 ∀ (pins:List (Addr×Obj)) (s:Shared) (σ:St) (H:Hp) (x:V) (xs:List V) (v:Value) (us:List Value) (Q:VK),Inv X pins σ H s->RelV x v->Vals xs us->r x xs H Q ->
   wpAny .(15) X.A (call (.builtin id) (v::us)) (EP X pins σ Q) X.xe s
section
variable {X:Cx} {a b:Expr} {ta tb:TE} {pos:Pos}
theorem pe_ix {r:R2} (hr:IxR X r) (ha:PE X a ta) (hb:PE X b tb) (hs:nQ b):PE X (.Subscript a b pos) (tOp r ta tb):=by
 intro pins s σ H Q I h;exact Subscript_ (binT ha hb I h fun v u s2 x y H2 I2 rx ry q=>hr a b pins s2 σ H2 x y v u Q I2 rx ry q (hs _ _))
theorem aD {r:R2} (hr:IxR X r) (ha:ZE X a ta) (hb:ZE X b tb) (hs:nQ b):ZE X (.Subscript a b pos) (tOp r ta tb):=by with_unfolding_all exact pe_ix hr ha hb hs
def rIxL (K:PySem.W.Frag):R2:=fun x y H Q=>∃ p xs i v,x=.ref p/\y=.int i/\SqL K H p xs/\atI xs i=some v/\Q v H
def rIxT (K:PySem.W.Frag):R2:=fun x y H Q=>∃ p xs i v,x=.ref p/\y=.int i/\SqT K H p xs/\atI xs i=some v/\Q v H
def rIxS:R2:=fun x y H Q=>∃ z i c,x=.str z/\y=.int i/\z.length<=sizeLine/\atI z.cps.toList i=some c/\Q (.str ⟨#[c]⟩) H
theorem uE:IxR X (rIxL X.K):=by
 intro value slice pins s σ H x y v u Q I rx ry h hs;obtain ⟨p,xs,i,z,rfl,rfl,hq,he,q⟩:=h
 cases rx
 obtain ⟨t,rfl⟩:=ry;obtain ⟨its,r,pl,hz⟩:=I.list hq;obtain ⟨j,h1,h2,h3,h4,h5⟩:=i4 he;obtain ⟨w,ew,rw'⟩:=r.get h2;have hl:=r.length;have hn:=fc;have fin:EP X pins σ Q w s:=⟨z,H,I,rw',q⟩
 by_cases h0:0<=i
 · have hj:i.toNat=j:=by
    rw [seqIndex_of h0 h5] at h1;exact Option.some.inj h1
   exact item_listR pl.isList h0 (by lia) (by rw [hj];simpa using ew) fin hs
 · have hj:(i+(its.toArray.size:Int)).toNat=j:=by
    rw [seqIndex_neg (by lia) h4] at h1;rw [zA2,← hl];exact Option.some.inj h1
   exact subscriptTail_builtinR (x:=w) pl.isList.typeIs slot_list_getitem.lookup
    (wpAny_getItem_list_neg (Q:=fun r s'=>r=w/\EP X pins σ Q r s') pl.isList (by lia) (by rw [zA2] <;> lia) (by lia) (by rw [hj];simpa using ew) ⟨rfl,fin⟩) hs
theorem ix_tup:IxR X (rIxT X.K):=by
 intro value slice pins s σ H x y v u Q I rx ry h hs;obtain ⟨p,xs,i,z,rfl,rfl,hq,he,q⟩:=h
 cases rx
 obtain ⟨t,rfl⟩:=ry;obtain ⟨its,r,pl,hz⟩:=I.tuple hq;obtain ⟨j,h1,h2,h3,h4,h5⟩:=i4 he;obtain ⟨w,ew,rw'⟩:=r.get h2;have hl:=r.length;have hn:=fc;have fin:EP X pins σ Q w s:=⟨z,H,I,rw',q⟩
 exact subscriptTail_builtinR (x:=w) pl.typeIs slot_tuple_getitem.lookup
  (getItem_tuple (j:=j) (Q:=fun r s'=>r=w/\EP X pins σ Q r s') pl (by lia) (by lia) (by rw [zA2,← hl];exact h1) (by simpa using ew) ⟨rfl,fin⟩) hs
theorem ix_str:IxR X rIxS:=by
 intro value slice pins s σ H x y v u Q I rx ry h hs;obtain ⟨z,i,c,rfl,rfl,hz,he,q⟩:=h;obtain ⟨t,rfl⟩:=rx;obtain ⟨t',rfl⟩:=ry;obtain ⟨j,h1,h2,h3,h4,h5⟩:=i4 he;have hl:z.cps.toList.length=z.length:=by simp [Str.length]
 rw [hl] at h1 h4 h5;have hn:=fc;exact tail_any (typeIs_str s z t) slot_str_getitem.lookup (getItem_str (c:=c) (by
  have e1:decide (i < -(2 ^ 63:Int))=false:=decide_eq_false (by lia);have e2:decide (i>=2 ^ 63)=false:=decide_eq_false (by lia);rw [e1,e2,Bool.or_false]) (by rw [h1];simpa using h2) ⟨.str ⟨#[c]⟩,H,I.tok _,⟨_,rfl⟩,q⟩) hs
theorem j6 (its:List Value) (n j:Nat) (u:Value):Obj.mapSeq (·.setIfInBounds j u) { cls:=.type "list",data:=.seq its.toArray n }={ cls:=.type "list",data:=.seq (its.set j u).toArray n }:=by
 simp [Obj.mapSeq]
theorem Inv.lst {pins:.(31)} {σ:St} {H:Hp} {s:Shared} {p:Addr} {xs:List V} (I:.(14)) (h:H p=some (.lst xs)) :
 ∃ (its:List Value) (n:Nat),Vals xs its/\s.heap.get? p=some { cls:=.type "list",data:=.seq its.toArray n }/\xs.length<=sizeLine:=by
 obtain ⟨z,its,n,r,e⟩:=I.hok p _ h;exact ⟨its,n,r,e,z⟩
theorem Inv.lstUpd {pins:.(31)} {σ:St} {H:Hp} {s:Shared} {p:Addr} {xs ys:List V} {its its':List Value} {n n':Nat} {f:Obj->Obj} (I:.(14)) (h:H p=some (.lst xs))
 (ho:s.heap.get? p=some { cls:=.type "list",data:=.seq its.toArray n }) (hf:f { cls:=.type "list",data:=.seq its.toArray n }={ cls:=.type "list",data:=.seq its'.toArray n' }) (r:Vals ys its') (hz:ys.length<=sizeLine) (t:Nat) :
 Inv X pins σ (upd H p (.lst ys)) { s with heap:=s.heap.update p f,toks:=t }:=by
 have e:(s.heap.update p f).get? p=some { cls:=.type "list",data:=.seq its'.toArray n' }:=by
  rw [Heap.get?_update_self f ho (by rw [hf] <;> rfl),hf]
 refine I.write (x:=p) (e:=p) (by rw [h];trivial) (.inl rfl) (fun b u hb q=>(Heap.get?_update_other _ _ (Ne.symm hb)).trans q) ⟨_,e⟩ ?_;exact ⟨hz,its',n',r,e⟩
def rSetL:V->V->V->Hp->(Hp->Prop)->Prop:=fun o i v H Q=>∃ p xs k j,o=.ref p/\i=.int k/\H p=some (.lst xs)/\ixN xs.length k=some j/\Q (upd H p (.lst (xs.set j v)))
theorem eh:vh X rSetL:=by
 intro pins s σ H o i v ov iv u Q I ro ri rv h;obtain ⟨p,xs,k,j,rfl,rfl,hp,hj,q⟩:=h
 cases ro
 obtain ⟨t,rfl⟩:=ri;obtain ⟨its,n,r,ho,hz⟩:=I.lst hp;obtain ⟨h1,h2,h3,h4⟩:=iV hj;have hl:=r.length;have hn:=fc;have I':Inv X pins σ (upd H p (.lst (xs.set j v))) { s with heap:=s.heap.update p (Obj.mapSeq (·.setIfInBounds j u)) }:=
  I.lstUpd hp ho (j6 its n j u) (r.set rv j) (by rw [List.length_set];exact hz) s.toks
 by_cases h0:0<=k
 · have hk:k.toNat=j:=by
    rw [seqIndex_of h0 h4] at h1;exact Option.some.inj h1
   exact PySem.W.ki_setAt ho h0 (by lia) (by rw [zA2,← hl];exact h4) (by rw [hk];exact ⟨_,I',q⟩)
 · have hk:(k+(its.toArray.size:Int)).toNat=j:=by
    rw [seqIndex_neg (by lia) h3] at h1;rw [zA2,← hl];exact Option.some.inj h1
   exact PySem.W.ki_setBack ho (by lia) (by rw [zA2,← hl];exact h3) (by lia) (by rw [hk];exact ⟨_,I',q⟩)
theorem g8 (lo hi:Option Int) (n:Nat):(sliceBounds lo hi none n).1=((HT.sIx n 0 lo:Nat):Int)/\(sliceBounds lo hi none n).2.1=((HT.sIx n n hi:Nat):Int)/\(sliceBounds lo hi none n).2.2=1:=by
 refine ⟨?_,?_,rfl⟩
 · cases lo with
   | none=>simp [sliceBounds,HT.sIx]
   | some i=>
     simp only [sliceBounds,HT.sIx,Option.getD_none,show (1:Int) > 0 by decide,if_true]
     by_cases h:i<0
     · simp only [h,if_true] <;> lia
     · simp only [h,if_false] <;> lia
 · cases hi with
   | none=>simp [sliceBounds,HT.sIx]
   | some i=>
     simp only [sliceBounds,HT.sIx,Option.getD_none,show (1:Int) > 0 by decide,if_true]
     by_cases h:i<0
     · simp only [h,if_true] <;> lia
     · simp only [h,if_false] <;> lia
theorem gw (its:List Value) (lo hi:Option Int):slicePick its.toArray lo hi none=((its.drop (HT.sIx its.length 0 lo)).take (HT.sIx its.length its.length hi - HT.sIx its.length 0 lo)).toArray:=by
 obtain ⟨h1,h2,h3⟩:=g8 lo hi its.toArray.size;unfold slicePick;rw [h1,h2,h3];simp only [sliceRange_one,pick_run,zA2] <;> rfl
def rSlL (K:PySem.W.Frag):V->Option Int->Option Int->Hp->VK->Prop:=fun x lo hi H Q=>∃ a xs,x=.ref a/\SqL K H a xs/\∀ p,H p=none->Q (.ref p) (upd H p (.lst (fu xs lo hi)))
theorem sK:SlR X (rSlL X.K):=by
 intro pins s σ H x v vl vu lo hi sl Q I rx hs pl pu h;obtain ⟨a,xs,rfl,hx,q⟩:=h
 cases rx
 obtain ⟨its,r,ht,hz⟩:=I.list hx;have hlen:=r.length;refine ⟨"list",_,slot_list_getitem.lookup,ht.isList.typeIs,?_⟩;refine wpAny_getItem_list_slice ht.isList hs pl pu .none (by simp) ?_ (by rw [zA2] <;> lia);rw [gw,← hlen];refine ⟨.ref s.heap.objs.size,_,I.laid (t':=s.toks) (o:=.lst (fu xs lo hi)) (fun b ob q=>Heap.get?_push_of_some _ q) (zA1 _) ?_,rfl,q _ (I.hok.fresh (zA1 _))⟩;exact ⟨zE6 (fo xs lo hi) hz,_,0,(r.drop (HT.sIx xs.length 0 lo)).take (HT.sIx xs.length xs.length hi - HT.sIx xs.length 0 lo),Heap.get?_push_size _ rfl⟩
def gL:V->Bool
 | .non=>true
 | .bl _=>true
 | .int _=>true
 | .str _=>true
 | _=>false
def eqV:V->V->Bool
 | .non,.non=>true
 | .bl a,.bl b=>a == b
 | .bl a,.int b=>(if a then 1 else 0) == b
 | .int a,.bl b=>a == (if b then 1 else 0)
 | .int a,.int b=>a == b
 | .str a,.str b=>a == b
 | _,_=>false
theorem eqAt_V {A:Around} {s:Shared} {y x:V} {u v:Value} (ry:RelV y u) (rx:RelV x v) (fy:gL y=true) (fx:gL x=true):SeqAt.EqAt A s u v (eqV y x):=by
 cases y with
 | non=>
   cases ry
   cases x with
   | non=>cases rx;exact SeqAt.EqAt.same _
   | bl b=>cases rx;exact SeqAt.EqAt.none_bool b
   | int b=>obtain ⟨t,rfl⟩:=rx;exact SeqAt.EqAt.none_int b t
   | str b=>obtain ⟨t,rfl⟩:=rx;exact SeqAt.EqAt.none_str b t
   | _=>exact absurd (show false=true from fx) zB1
 | bl a=>
   cases ry
   cases x with
   | non=>cases rx;exact SeqAt.EqAt.bool_none a
   | bl b=>cases rx;exact SeqAt.EqAt.bool_bool a b
   | int b=>obtain ⟨t,rfl⟩:=rx;exact SeqAt.EqAt.bool_int a b t
   | str b=>obtain ⟨t,rfl⟩:=rx;exact SeqAt.EqAt.bool_str a b t
   | _=>exact absurd (show false=true from fx) zB1
 | int a=>
   obtain ⟨t',rfl⟩:=ry
   cases x with
   | non=>cases rx;exact SeqAt.EqAt.int_none a t'
   | bl b=>cases rx;exact SeqAt.EqAt.int_bool a t' b
   | int b=>obtain ⟨t,rfl⟩:=rx;exact SeqAt.EqAt.int_int a t' b t
   | str b=>obtain ⟨t,rfl⟩:=rx;exact SeqAt.EqAt.int_str a t' b t
   | _=>exact absurd (show false=true from fx) zB1
 | str a=>
   obtain ⟨t',rfl⟩:=ry
   cases x with
   | non=>cases rx;exact SeqAt.EqAt.str_none a t'
   | bl b=>cases rx;exact SeqAt.EqAt.str_bool a t' b
   | int b=>obtain ⟨t,rfl⟩:=rx;exact SeqAt.EqAt.str_int a t' b t
   | str b=>obtain ⟨t,rfl⟩:=rx;exact SeqAt.EqAt.str_str a t' b t
   | _=>exact absurd (show false=true from fx) zB1
 | _=>exact absurd (show false=true from fy) zB1
def eqU (x:V) (u:Value):Bool:=match u with
 | .none=>eqV .non x
 | .bool b=>eqV (.bl b) x
 | .int i _=>eqV (.int i) x
 | .str z _=>eqV (.str z) x
 | _=>false
theorem rm {x y:V} {u:Value} (r:RelV y u) (f:gL y=true):eqU x u=eqV y x:=by
 cases y with
 | non=>cases r;rfl
 | bl b=>cases r;rfl
 | int i=>obtain ⟨t,rfl⟩:=r;rfl
 | str z=>obtain ⟨t,rfl⟩:=r;rfl
 | _=>exact absurd (show false=true from f) zB1
theorem fC {x:V}:∀ {xs:List V} {us:List Value},Vals xs us->xs.all gL=true->us.any (eqU x)=xs.any fun y=>eqV y x
 | _,_,.nil,_=>rfl
 | y::xs,u::us,.cons r t,f=>by
   rw [List.all_cons,zD6] at f;rw [List.any_cons,List.any_cons,rm r f.1,fC t f.2]
theorem di {A:Around} {s:Shared} {x:V} {v:Value} (rx:RelV x v) (fx:gL x=true):∀ {xs:List V} {us:List Value},Vals xs us->xs.all gL=true->∀ u∈us,SeqAt.EqAt A s u v (eqU x u)
 | _,_,.nil,_=>fun u hu=>by cases hu
 | y::xs,u::us,.cons r t,f=>fun u' hu=>by
   rw [List.all_cons,zD6] at f;rcases zA8.mp hu with rfl | hu
   · rw [rm r f.1];exact eqAt_V r rx f.1 fx
   · exact di rx fx t f.2 u' hu
def inV (x:V) (xs:List V):Bool:=xs.any fun y=>eqV y x
def rIn (K:PySem.W.Frag) (neg:Bool):R2:=fun x y H Q=>∃ p xs,y=.ref p/\(SqL K H p xs\/SqT K H p xs)/\gL x=true/\xs.all gL=true/\Q (.bl (if neg then !inV x xs else inV x xs)) H
theorem cF:OpR X (compareOp .In) (rIn X.K false):=by
 sleep 0;obtain ⟨p,xs,rfl,hq,fx,fs,q⟩:=h
 cases ry
 rcases hq with hq | hq
 · obtain ⟨its,r,pl,hz⟩:=I.list hq;refine SeqAt.in_listAt (eqU x) pl.isList (fun w hw=>di rx fx r fs w (by simpa using hw)) ⟨.bl _,H,I,rfl,?_⟩;rw [show its.toArray.any (eqU x)=its.any (eqU x) by simp,fC r fs];exact q
 · obtain ⟨its,r,pl,hz⟩:=I.tuple hq;refine SeqAt.in_tupleAt (eqU x) pl (fun w hw=>di rx fx r fs w (by simpa using hw)) ⟨.bl _,H,I,rfl,?_⟩;rw [show its.toArray.any (eqU x)=its.any (eqU x) by simp,fC r fs];exact q
theorem hU:OpR X (compareOp .NotIn) (rIn X.K true):=by
 sleep 0;obtain ⟨p,xs,rfl,hq,fx,fs,q⟩:=h
 cases ry
 rcases hq with hq | hq
 · obtain ⟨its,r,pl,hz⟩:=I.list hq;refine SeqAt.notIn_listAt (eqU x) pl.isList (fun w hw=>di rx fx r fs w (by simpa using hw)) ⟨.bl _,H,I,rfl,?_⟩;rw [show its.toArray.any (eqU x)=its.any (eqU x) by simp,fC r fs];exact q
 · obtain ⟨its,r,pl,hz⟩:=I.tuple hq;refine SeqAt.notIn_tupleAt (eqU x) pl (fun w hw=>di rx fx r fs w (by simpa using hw)) ⟨.bl _,H,I,rfl,?_⟩;rw [show its.toArray.any (eqU x)=its.any (eqU x) by simp,fC r fs];exact q
theorem call_len_seq:CallR X (.builtin "len") (fun xs H Q=>∃ p ys,xs=[.ref p]/\(SqL X.K H p ys\/SqT X.K H p ys)/\Q (.int ys.length) H):=by
 sleep 1;obtain ⟨p,ys,rfl,hq,q⟩:=h;obtain ⟨u,rfl,rx⟩:=cx r
 cases rx
 have hn:=fc;rcases hq with hq | hq
 · obtain ⟨its,r',pl,hz⟩:=I.list hq;have hlen:=r'.length;exact Calls.call_len_list pl.isList (by simp only [zA2] <;> lia) ⟨.int ys.length,H,I.tok _,⟨s.toks+1,by rw [zA2,hlen]⟩,q⟩
 · obtain ⟨its,r',pl,hz⟩:=I.tuple hq;have hlen:=r'.length;exact len_tuple pl (by simp only [zA2] <;> lia) ⟨.int ys.length,H,I.tok _,⟨s.toks+1,by rw [zA2,hlen]⟩,q⟩
theorem call_len_str:CallR X (.builtin "len") (fun xs H Q=>∃ z,xs=[.str z]/\z.length<=sizeLine/\Q (.int z.length) H):=by
 sleep 1;obtain ⟨z,rfl,hz,q⟩:=h;obtain ⟨u,rfl,t,rfl⟩:=cx r;have hn:=fc;exact len_str (by lia) ⟨.int z.length,H,I.tok _,⟨_,rfl⟩,q⟩
theorem call_list_of:CallR X (.type "list") (fun xs H Q=>∃ p ys,xs=[.ref p]/\(SqL X.K H p ys\/SqT X.K H p ys)/\∀ l,H l=none->Q (.ref l) (upd H l (.lst ys))):=by
 sleep 1;obtain ⟨p,ys,rfl,hq,q⟩:=h;obtain ⟨u,rfl,rx⟩:=cx r
 cases rx
 have fin:∀ (its:List Value),Vals ys its->ys.length<=sizeLine->∀ (h':Heap) (c':Nat),(∀ b o',s.heap.get? b=some o'->h'.get? b=some o') ->
  h'.get? s.heap.objs.size=some { cls:=.type "list",dict:=none,data:=.seq its.toArray c',slots:=#[] }->EP X pins σ Q (.ref s.heap.objs.size) { s with heap:=h' }:=fun its r' hz h' c' kp e=>
  ⟨.ref s.heap.objs.size,_,I.laid (t':=s.toks) kp (zA1 _) (show ObjOk X.prog X.w _ h' _ (.lst ys) from ⟨hz,its,c',r',e⟩),rfl,q _ (I.hok.fresh (zA1 _))⟩
 rcases hq with hq | hq
 · obtain ⟨its,r',pl,hz⟩:=I.list hq;have hlen:=r'.length;obtain ⟨o,ho,hc,n,hd⟩:=pl.isList;exact call_list_seq p (.inl rfl) ho hc hd (fun h' c' kp e=>fin its r' hz h' c' kp e) (by simp only [zA2] <;> lia)
 · obtain ⟨its,r',pl,hz⟩:=I.tuple hq;have hlen:=r'.length;obtain ⟨o,ho,hc,n,hd⟩:=pl;exact call_list_seq p (.inr rfl) ho hc hd (fun h' c' kp e=>fin its r' hz h' c' kp e) (by simp only [zA2] <;> lia)
theorem call_tuple_of:CallR X (.type "tuple") (fun xs H Q=>∃ p ys,xs=[.ref p]/\((SqL X.K H p ys/\∀ l,H l=none->Q (.ref l) (upd H l (.tup ys)))\/(SqT X.K H p ys/\Q (.ref p) H))):=by
 sleep 1;obtain ⟨p,ys,rfl,h⟩:=h;obtain ⟨u,rfl,rx⟩:=cx r
 cases rx
 rcases h with ⟨hq,q⟩ | ⟨hq,q⟩
 · obtain ⟨its,r',pl,hz⟩:=I.list hq;have hlen:=r'.length;refine call_tuple_list pl.isList (fun h' kp=>?_) (by simp only [zA2] <;> lia);have I1:Inv X pins σ H { s with heap:=h' }:=I.kept (t':=s.toks) kp;have I2:Inv X pins σ (upd H h'.objs.size (.tup ys)) { s with heap:=h'.push { cls:=.type "tuple",data:=.seq its.toArray } }:=
    I1.laid (t':=s.toks) (fun b o e=>Heap.get?_push_of_some _ e) (zA1 _) (show ObjOk X.prog X.w _ _ _ (.tup ys) from ⟨hz,its,r',TupD.new _ _⟩)
   exact ⟨.ref h'.objs.size,_,I2,rfl,q _ (I1.hok.fresh (zA1 _))⟩
 · obtain ⟨its,r',pl,hz⟩:=I.tuple hq;exact call_tuple_same pl ⟨.ref p,H,I,rfl,q⟩
def tyV (K:PySem.W.Frag) (T:String) (x:V) (H:Hp):Prop:=match x with
 | .str _=>T="str"
 | .int _=>T="int"
 | .ref p=>(T="list"/\∃ xs,SqL K H p xs)\/(T="tuple"/\∃ o,K.lookup p=some o/\o.cls=.type "tuple"/\o.dict=none) \/
  (T="dict"/\((∃ kvs,H p=some (.dK kvs))\/∃ kvs,H p=some (.dT kvs)))\/(T="set"/\∃ S n,H p=some (.set S n))\/(T="tuple"/\∃ xs,H p=some (.tup xs))
 | _=>False
theorem tyV_is {pins:.(31)} {σ:St} {H:Hp} {s:Shared} {T:String} {x:V} {v:Value} (I:.(14)) (r:RelV x v) (ty:tyV X.K T x H) :
 s.TypeIs v T/\∀ a,v=.ref a->∃ ob,s.heap.get? a=some ob/\ob.dict=none:=by
 cases x with
 | str z=>
   obtain ⟨t,rfl⟩:=r
   cases (show T="str" from ty)
   exact ⟨typeIs_str s z t,fun _ e=>nomatch e⟩
 | int i=>
   obtain ⟨t,rfl⟩:=r
   cases (show T="int" from ty)
   exact ⟨typeIs_int s i t,fun _ e=>nomatch e⟩
 | ref p=>
   cases r
   rcases ty with ⟨rfl,xs,hq⟩ | ⟨rfl,o,hk,hc,hd⟩ | ⟨rfl,hk⟩ | ⟨rfl,S,n,hk⟩ | ⟨rfl,xs,hk⟩
   · obtain ⟨its,_,pl,_⟩:=I.list hq;refine ⟨pl.isList.typeIs,fun a e=>?_⟩
     cases e
     obtain ⟨o,n,e,c,hd,_⟩:=pl;exact ⟨o,e,hd⟩
   · refine ⟨⟨o,I.kIn p o hk,hc⟩,fun a e=>?_⟩
     cases e
     exact ⟨o,I.kIn _ o hk,hd⟩
   · have z:∃ o,s.heap.get? p=some o/\o.ExactDict:=by
      rcases hk with ⟨kvs,hk⟩ | ⟨kvs,hk⟩
      · obtain ⟨_,_,_,_,o,_,_,e,ex,_⟩:=I.hok p _ hk;exact ⟨o,e,ex⟩
      · obtain ⟨_,_,_,_,o,_,_,e,ex,_⟩:=I.hok p _ hk;exact ⟨o,e,ex⟩
     obtain ⟨o,e,ex⟩:=z;refine ⟨⟨o,e,ex.1⟩,fun a e2=>?_⟩
     cases e2
     exact ⟨o,e,ex.2.1⟩
   · obtain ⟨o,_,_,_,e,ex,_⟩:=I.hok p _ hk;refine ⟨⟨o,e,ex.1⟩,fun a e2=>?_⟩
     cases e2
     exact ⟨o,e,ex.2.1⟩
   · obtain ⟨_,_,_,n,e⟩:=I.hok p _ hk;refine ⟨⟨_,e,rfl⟩,fun a e2=>?_⟩
     cases e2
     exact ⟨_,e,rfl⟩
 | _=>exact False.elim ty
def tBM (K:PySem.W.Frag) (T:String) (r:V->List V->Hp->VK->Prop) (to:TE) (t:TA):TE:=fun σ H Q=>to σ H fun x H1=>tyV K T x H1/\t σ H1 fun xs H2=>r x xs H2 Q
variable {o e:Expr} {es:List Expr} {to:TE} {t:TA} {name:Str} {apos cpos:Pos} {T id:String} {r:V->List V->Hp->VK->Prop}
theorem j0 (pa:PlainAttrs T) (slot:Slot T name id) (hty:typeOf (.builtin id)=pure (.type "method_descriptor")) (hm:MtR X id r) (ho:PE X o to) (ha:PA X (e::es) t)
 (hbase:attributeBase o name X.env (eval o X.env)=eval o X.env:=by rfl)
 (hfew:(.(23).all (fun x=>!x.1)&&.(22).all (fun x=>x.1.isSome)
   && decide .(7))=true:=by rfl)
 (hline:(apos.endLine == cpos.line)=true:=by rfl) (hs:starEach (e::es) X.env=.(9)::starEach es X.env:=by rfl) (hplain:(backTo cpos .(13)).any (·.1)=false:=by rfl) :
 PE X (.Call (.Attribute o name apos) (e::es) [] cpos) (tBM X.K T r to t):=by
 intro pins s σ H Q I h;refine wpAny_Call_method_late hbase hfew hline rfl (thn (ho pins s σ H _ I h) fun v s1 ⟨x,H1,I1,r1,ty,q1⟩=>?_);obtain ⟨h1,h2⟩:=tyV_is I1 r1 ty;refine ⟨T,id,pa,slot,hty,h1,h2,?_⟩;have hA:=ha cpos pins s1 σ H1 _ I1 q1;rw [hs] at hA ⊢;refine Calls.callWith_builtin (by show (false||(backTo cpos .(13)).any (·.1))=false;rw [hplain] <;> rfl) (Calls.evalArgs_plain ?_);exact thn hA fun us s2 ⟨vs,H2,I2,r2,q2⟩=>hm pins s2 σ H2 x vs v us Q I2 r1 r2 q2
/- xs.append(e),list.index on a module's tuple .. are MtR facts of 06m -/
end
def MtM (X:Cx) (id:String) (r:V->List V->Hp->VK->Prop):Prop:=
 ∀ (pins:List (Addr×Obj)) (s:Shared) (σ:St) (H:Hp) (x:V) (xs:List V) (v:Value) (us:List Value) (Q:VK),Inv X pins σ H s->RelV x v->Vals xs us->r x xs H Q ->
   wpAny .(15) X.A (call (.builtin id) (v::us)) (EP X pins σ Q) X.xe s
theorem Vals.one:∀ {x:V} {us:List Value},Vals [x] us->∃ u,us=[u]/\RelV x u
 | _,_,.cons r .nil=>⟨_,rfl,r⟩
theorem Vals.eraseIdx:∀ {xs:List V} {us:List Value} (i:Nat),Vals xs us->Vals (xs.eraseIdx i) (us.eraseIdx i)
 | _,_,_,.nil=>.nil
 | _,_,0,.cons _ t=>t
 | _,_,i+1,.cons r t=>.cons r (Vals.eraseIdx i t)
theorem Vals.rep {xs:List V} {us:List Value} (h:Vals xs us):∀ k:Nat,Vals (List.replicate k xs).flatten (List.replicate k us).flatten
 | 0=>.nil
 | k+1=>by
   rw [zF2,zF2,zC7,zC7];exact Vals.append h (Vals.rep h k)
theorem ik {α:Type}:∀ (l:List α) (i:Nat),(l.eraseIdx i).length<=l.length
 | [],_=>zA1 _
 | _::_,0=>zF7 _
 | _::r,i+1=>Nat.succ_le_succ (ik r i)
theorem fh (its:List Value):∀ (k:Nat) (acc:List Value),
 List.foldl (fun x1 x2=>x1++x2) acc.toArray (List.replicate k its.toArray)=(acc++(List.replicate k its).flatten).toArray
 | 0,acc=>by simp
 | k+1,acc=>by
   have e:acc.toArray++its.toArray=(acc++its).toArray:=by simp
   have e2:(acc++its)++(List.replicate k its).flatten=acc++(List.replicate (k+1) its).flatten:=by
    rw [zF2,zC7,zC1]
   rw [← e2,← fh its k (acc++its),← e,zF2,zH9]
section
variable {X:Cx} {pins:List (Addr×Obj)} {σ:St} {H:Hp} {s:Shared} {l b:Addr} {xs ys zs:List V}
theorem Inv.lset {its its':List Value} {n:Nat} {f:Array Value->Array Value} {t':Nat} (I:.(14)) (hH:H l=some (.lst xs))
 (e:s.heap.get? l=some { cls:=.type "list",data:=.seq its.toArray n }) (hf:f its.toArray=its'.toArray) (hv:Vals ys its') (hz:ys.length<=sizeLine) :
 Inv X pins σ (upd H l (.lst ys)) { s with heap:=s.heap.update l (Obj.mapSeq f),toks:=t' }:=by
 have q:=PySem.IsL.update e f;rw [hf] at q;refine I.write (x:=l) (e:=l) (by rw [hH];exact trivial) (.inl rfl) (fun b' u hb hu=>(Heap.get?_update_other s.heap (Obj.mapSeq f) (Ne.symm hb)).trans hu) ⟨_,q⟩ ?_;exact ⟨hz,its',_,hv,q⟩
theorem Inv.lnew {its:List Value} {t':Nat} (I:.(14)) (hv:Vals ys its) (hz:ys.length<=sizeLine) :
 Inv X pins σ (upd H s.heap.objs.size (.lst ys)) { s with heap:=s.heap.push { cls:=.type "list",data:=.seq its.toArray },toks:=t' }:=
 I.laid (fun _ _ q=>Heap.get?_push_of_some _ q) (zA1 _) ⟨hz,its,0,hv,Heap.get?_push_size _ rfl⟩
theorem Inv.fresh (I:.(14)):H s.heap.objs.size=none:=I.hok.fresh (zA1 _)
theorem Inv.lstM (I:.(14)) (hH:H l=some (.lst xs)):xs.length<=sizeLine/\∃ (its:List Value) (n:Nat),Vals xs its/\xs.length=its.length/\s.heap.get? l=some { cls:=.type "list",data:=.seq its.toArray n }:=by
 obtain ⟨z,its,n,r,e⟩:=I.hok l _ hH;exact ⟨z,its,n,r,r.length,e⟩
theorem jA {n:Nat} (h:n<=sizeLine):Builtin.List.listTooLong n=false:=by
 unfold Builtin.List.listTooLong;exact decide_eq_false (by lia)
end
section
variable {X:Cx}
def sS:V->List V->Hp->VK->Prop:=fun x vs H Q=>∃ l xs y,x=.ref l/\vs=[y]/\H l=some (.lst xs)/\xs.length<sizeLine/\Q .non (upd H l (.lst (xs++[y])))
theorem mw:MtM X "list.append" sS:=by
 intro pins s σ H x vs v us Q I rx rv h;obtain ⟨l,xs,y,rfl,rfl,hH,hz,q⟩:=h
 cases rx
 obtain ⟨u,rfl,ru⟩:=rv.one;obtain ⟨z,its,n,r,hl,e⟩:=I.lstM hH;refine call_meets F.slot_list_append ⟨_,e,rfl⟩ F.entry_list_append (F.args_list_append_2 _ _) (PySem.list_append l its.toArray n u (by rw [zA2];lia)) ⟨e,?_⟩;refine ⟨.non,_,I.lset (its':=its++[u]) hH e (by simp) (r.append (.cons ru .nil)) ?_,rfl,q⟩;rw [zA4,zG7];lia
def sR:V->List V->Hp->VK->Prop:=fun x vs H Q=>∃ l b xs zs,x=.ref l/\vs=[.ref b]/\H l=some (.lst xs)/\H b=some (.lst zs)/\xs.length+zs.length<=sizeLine/\Q .non (upd H l (.lst (xs++zs)))
theorem mv:MtM X "list.extend" sR:=by
 intro pins s σ H x vs v us Q I rx rv h;obtain ⟨l,b,xs,zs,rfl,rfl,hH,hB,hz,q⟩:=h
 cases rx
 obtain ⟨u,rfl,ru⟩:=rv.one
 cases ru
 obtain ⟨z,its,n,r,hl,e⟩:=I.lstM hH;obtain ⟨z2,its2,n2,r2,hl2,e2⟩:=I.lstM hB;have hsz:its.toArray.size+its2.toArray.size<=sizeLine:=by rw [zA2,zA2];lia
 have hlong:¬ (!its.toArray.isEmpty&&Builtin.List.listTooLong (its.toArray.size+its2.toArray.size))=true:=by
  rw [jA hsz,Bool.and_false];exact zB1
 refine call_meets F.slot_list_extend ⟨_,e,rfl⟩ F.entry_list_extend (F.args_list_extend_2 _ _)
  (AutoSeq1.list_extend_list_list_0 l its.toArray n b its2.toArray n2 hlong (by rw [zA2];lia) (by lia)) ⟨e,e2,?_⟩
 refine ⟨.non,_,I.lset (its':=its++its2) hH e (by simp) (r.append r2) ?_,rfl,q⟩;rw [zA4];lia
def rPopAt:V->List V->Hp->VK->Prop:=fun x vs H Q=>∃ l xs i k y,x=.ref l/\vs=[.int i]/\H l=some (.lst xs)/\-(2 ^ 63)<=i/\i<2 ^ 63/\seqIndex? i xs.length=some k/\xs[k]? = some y/\Q y (upd H l (.lst (xs.eraseIdx k)))
theorem pS:MtM X "list.pop" rPopAt:=by
 intro pins s σ H x vs v us Q I rx rv h;obtain ⟨l,xs,i,k,y,rfl,rfl,hH,h1,h2,hk,hy,q⟩:=h
 cases rx
 obtain ⟨u,rfl,ru⟩:=rv.one;obtain ⟨t,rfl⟩:=ru;obtain ⟨z,its,n,r,hl,e⟩:=I.lstM hH;obtain ⟨w,hw,rw'⟩:=r.get hy;refine call_meets F.slot_list_pop ⟨_,e,rfl⟩ F.entry_list_pop (F.args_list_pop_2 _ _)
  (MeetsSeq.list_pop_at l its.toArray n i t k w (fitsIndex_both h1 h2) (by rw [zA2,← hl];exact hk) (by rw [← Array.getElem?_toList];exact hw) (by rw [zA2];lia)) ⟨e,?_⟩
 refine ⟨y,_,I.lset (its':=its.eraseIdx k) hH e ?_ (r.eraseIdx k) ?_,rw',q⟩
 · show its.toArray.eraseIdxIfInBounds k=(its.eraseIdx k).toArray;rw [List.eraseIdxIfInBounds_toArray]
 · have:=ik xs k;lia
def rCat:R2:=fun x y H Q=>∃ l b xs zs,x=.ref l/\y=.ref b/\H l=some (.lst xs)/\H b=some (.lst zs)/\xs.length+zs.length<=sizeLine/\∀ p,H p=none->Q (.ref p) (upd H p (.lst (xs++zs)))
theorem op_cat:OpR X (binaryOp .Add) rCat:=by
 sleep 0;obtain ⟨l,b,xs,zs,rfl,rfl,hH,hB,hz,q⟩:=h
 cases rx
 cases ry
 obtain ⟨z,its,n,r,hl,e⟩:=I.lstM hH;obtain ⟨z2,its2,n2,r2,hl2,e2⟩:=I.lstM hB;refine PySem.P.add_list e e2 ?_ (by rw [zA2,zA2];lia);have ea:its.toArray++its2.toArray=(its++its2).toArray:=by simp
 rw [ea];exact ⟨.ref _,_,I.lnew (t':=s.toks) (r.append r2) (by rw [zA4];lia),rfl,q _ I.fresh⟩
def rRep:R2:=fun x y H Q=>∃ l k xs,x=.ref l/\y=.int k/\H l=some (.lst xs)/\-(2 ^ 63)<=k/\k<2 ^ 63/\xs.length*k.toNat<=sizeLine /\
 ∀ p,H p=none->Q (.ref p) (upd H p (.lst (List.replicate k.toNat xs).flatten))
theorem gI {α:Type} (xs:List α) (k:Nat):(List.replicate k xs).flatten.length=k*xs.length:=by
 induction k with
 | zero=>simp
 | succ k ih=>rw [zF2,zC7,zA4,ih,Nat.succ_mul,Nat.add_comm]
theorem op_rep:OpR X (binaryOp .Mult) rRep:=by
 sleep 0;obtain ⟨l,k,xs,rfl,rfl,hH,h1,h2,hz,q⟩:=h
 cases rx
 obtain ⟨t,rfl⟩:=ry;obtain ⟨z,its,n,r,hl,e⟩:=I.lstM hH;have hlen:its.toArray.size*k.toNat<=sizeLine:=by rw [zA2,← hl];exact hz
 have hcap:¬ its.toArray.size*k.toNat > (2 ^ 63 - 1) / 8:=by
  have:(sizeLine:Nat)<=(2 ^ 63 - 1) / 8:=by decide
  lia
 have hfit:¬ (!Builtin.List.listFitsIndex k)=true:=by
  rw [fitsIndex_both h1 h2];exact zB1
 have hlong:¬ Builtin.List.listTooLong (its.toArray.size*k.toNat)=true:=by
  rw [jA hlen];exact zB1
 have hnew:List.foldl (fun x1 x2=>x1++x2) #[] (List.replicate (if its.toArray.isEmpty=true then 0 else k.toNat) its.toArray)=(List.replicate k.toNat its).flatten.toArray:=by
  have f0:∀ m:Nat,List.foldl (fun x1 x2=>x1++x2) #[] (List.replicate m its.toArray)=(List.replicate m its).flatten.toArray:=fun m=>by
   have:=fh its m [];rw [List.nil_append] at this;exact this
  rw [f0]
  cases its with
  | nil=>simp
  | cons a r'=>rw [if_neg (by simp)]
 refine wpAny_binaryOp_repeat_ref (T:="list") (U:="int") (by decide) ⟨_,e,rfl⟩ (fun s'=>typeIs_int s' k t) noFill_list_mul F.fills_int_mul F.slot_int_rmul repeat_list F.slot_int_index.lookup
  (call_meets F.slot_int_rmul (typeIs_int s k t) F.entry_int_rmul (F.args_int_rmul_2 _ _) (int___rmul___int_list k t l its.toArray n)
    ⟨e,rfl,⟨_,e,rfl⟩,call_meets F.slot_list_mul ⟨_,e,rfl⟩ F.entry_list_mul (F.args_list_mul_2 _ _) (AutoListH.list___mul___list_int_3 l its.toArray n k t hfit hcap hlong) ⟨e,?_⟩⟩)
 rw [hnew];exact ⟨.ref _,_,I.lnew (t':=s.toks) (r.rep k.toNat) (by rw [gI,Nat.mul_comm];exact hz),rfl,q _ I.fresh⟩
end
end L2
namespace Att
open PySem PySem.W PySem.Calls PyProof.Rows
theorem ff {P:Params} {h:Heap}:∀ (ns:List Int) (vs:List Value),WellAll P h vs (ns.map WData.int)->IntsAre vs ns:=by
 intro ns;induction ns with
 | nil=>
   intro vs w
   rw [List.map_nil] at w
   cases w
   exact .nil
 | cons n ns ih=>
   intro vs w
   rw [zC5] at w
   cases w with
   | cons a b=>
     cases a
     exact .cons _ _ (ih _ b)
theorem lq {l:OpenLaw} {n:Nat} (hn:l.most=some n) {P:Params} {h:Heap} {args:List WData} {vals:List Value}
 (hpre:l.row.toRowW.claim.pre args=true) (hwl:WellAll P h vals args) :
 ∃ a vs ns,vals=[Value.ref a]/\args=[WData.list (ns.map WData.int)]/\h.get? a=some { cls:=.type "list",data:=.seq vs.toArray }/\IntsAre vs ns/\ns.length<=n:=by
 have hsh:WShape.hasAll [] args [.list .int]=true:=(pre_splitW hpre).1;have hc:l.pre.holds [] { args:=args }=true:=(pre_splitW hpre).2;obtain ⟨d,r,rfl,h1,h2⟩:=hasAllW_cons hsh;obtain rfl:=hasAllW_nil h2;obtain ⟨xs,rfl,h3⟩:=hasW_list h1;obtain ⟨ns,rfl⟩:=items_int h3;have hlen:ns.length<=n:=by
  unfold OpenLaw.pre at hc;have h4:(WTm.not (.lt (.lit (.int (n:Int))) (.len (.arg 0)))).holds [] { args:=[.list (ns.map .int)] }=true:=by
   have h4:=(holds_andW hc).1;rw [hn] at h4;exact h4
  have h5:=condW_of h4 (w_not (w_lt w_lit (w_len_list (w_arg rfl))));rw [zA0] at h5;refine Nat.le_of_not_lt fun q=>?_;have q':(n:Int)<((ns.length:Nat):Int):=by lia
  first
   | (rw [decide_eq_true q'] at h5;exact absurd h5 (by decide))
   | (simp at h5;lia)
 cases hwl with
 | cons w1 w2=>
   cases w2
   cases w1 with
   | list ho hall=>exact ⟨_,_,ns,rfl,rfl,ho,ff ns _ hall,hlen⟩
theorem lH (l:OpenLaw) (args:List WData):l.row.toRowW.claim.post args (.bool true) args=true:=
 postW_of (r:=l.row.toRowW) (X:=(true == true))
  (show WShape.has [] (.bool true) .bool=true by first | rfl | decide | simp [WShape.has,WShape.arms,WShape.armsAll])
  (show (WTm.eq .res (.lit (.bool true))).value [] { args:=args,res:=some (.bool true),after:=args }=some (.bool (true == true)) from w_eq_bool (w_res rfl) w_lit) rfl
theorem attach_call {l:OpenLaw} {n:Nat} {q:Program} {loose:List Str} {XP:(Str->Option Value)->Heap->Prop} {YP:World->Heap->Prop} {d:DefRec}
 (hn:l.most=some n) (hdf:d.params.defaults=[])
 (call:∀ (w:World) (s₀ s₁:Shared) (mg mb:.(32)) (fa:Addr) (o:Obj) (pm cd doc:Value) (a:Addr) (vs:List Value) (ns:List Int),
   Ground q loose [] XP w s₀ mg mb s₁.heap->YP w s₁.heap ->
   s₁.heap.get? fa=some o->o.data=.func (docDef d.name d.params d.body d.scope pm cd doc)->s₁.heap.CodeRec cd d.name->mg d.name=some (.ref fa) ->
   s₁.heap.get? a=some { cls:=.type "list",data:=.seq vs.toArray }->IntsAre vs ns->ns.length<=n->s₁.gens=#[] ->
   codeAny (model l.prog w) callerA (.call (.ref fa) ⟨[.ref a],[]⟩) (fun r s'=>r=.ok (.ret (.bool true))/\OldK s₁.heap s'.heap/\s'.os=s₁.os/\AllBare s'.gens) s₁) :
 WalkO q loose XP YP l.row.toRowW d [] (fun f vs=>PySem.call f vs):=by
 intro w s₀ s₁ mg mb G Y fa o pm cd doc dV kV ho hd hcd hD hmg hg args vals as hpre hlay hrd hwl hlo;obtain rfl:dV=.none:=Dflts.none hD hdf;obtain rfl:kV=.none:=Dflts.noKw hD;obtain ⟨a,vs,ns,rfl,rfl,hobj,hints,hlen⟩:=lq hn hpre hwl;refine enter_call (codeAny_mono (call w s₀ s₁ mg mb fa o pm cd doc a vs ns G Y ho (fd_plain hd) hcd hmg hobj hints hlen hg) fun r s' hq=>?_);obtain ⟨rfl,h2,h3,h4⟩:=hq;exact ⟨.inl ⟨.bool true,.bool true,[],rfl,fun _=>rfl,.bool true,lH l _,fun _=>⟨List.Pairwise.nil,fun _ hm=>(nomatch hm)⟩⟩,h2,h3,h4⟩
end Att
namespace L2
open PySem PySem.Spec PyProof.Rows
theorem eK:∀ {vs:List Value} {ns:List Int},IntsAre vs ns->Vals (ns.map V.int) vs
 | _,_,.nil=>.nil
 | _,_,.cons n t h=>.cons ⟨t,rfl⟩ (eK h)
def Only (H:Hp):Prop:=∀ b,H b=none\/∃ o xs,H b=some (.frz o (.lst xs))
theorem pV {P:Program} {w:World} {K:PySem.W.Frag} {mg mb:.(32)} {CX:CXT} {k:Nat} {fa a:Addr} {fd:FuncData} {x:Str} {sp:Sp} {s₁:Shared} {vs:List Value} {ns:List Int}
 (KX:K.In s₁.heap) (hns:s₁.heap.Ns mainGlobals mg) (hb:s₁.heap.Ns builtinsNs mb) (hbb:∀ x:Str,x≠"__name__"->mb x=bootBuiltins x) (hlim:s₁.heap.NoLimit) (hg:s₁.gens=#[])
 (ha:s₁.heap.get? a=some { cls:=.type "list",data:=.seq vs.toArray }) (hi:IntsAre vs ns) (hl:ns.length<=sizeLine) (hr:Room k callerA)
 (F:∀ base:Heap,K.In base->base.Ns mainGlobals mg->FnOk P w K mg base CX k fa fd [x] sp) (hbind:∀ (s:Shared) (u:Value),BindsTo s fd ⟨[u],[]⟩ [(x,u)])
 (hsp:∀ H:Hp,Only H->SqL K H a (ns.map V.int)->sp [.ref a] H (fun v _=>v=.bl true) fun _ _ _=>False)
 (hCX:∀ H e s',CX [] H s₁ (fun _ _ _=>False) e s'->False) :
 codeAny (model P w) callerA (.call (.ref fa) ⟨[.ref a],[]⟩) (fun r s'=>r=.ok (.ret (.bool true))/\OldK s₁.heap s'.heap/\s'.os=s₁.os/\AllBare s'.gens) s₁:=by
 have rv:=eK hi;have lenV:=hi.length;-- from an abstract heap in which nothing but the script may be tracked
 have core:∀ H:Hp,Only H->SqL K H a (ns.map V.int)->HOk P w H s₁.heap->(∀ b,H b≠none->b=a)->(H a≠none->K.lookup a=none) ->
  codeAny (model P w) callerA (.call (.ref fa) ⟨[.ref a],[]⟩) (fun r s'=>r=.ok (.ret (.bool true))/\OldK s₁.heap s'.heap/\s'.os=s₁.os/\AllBare s'.gens) s₁:=by
  intro H hO hS hok hA hK;have base_of:∀ {b:Addr} {o:Obj},s₁.heap.get? b=some o->H b=none->(pZ s₁.heap H).get? b=some o:=fun e n=>pY e n;have noA:∀ {b:Addr} {o:Obj} {es:Array DictEntry} {ep:Nat},s₁.heap.get? b=some o->o.data=.dict es ep->H b=none:=fun {b o es ep} e d=>by
   cases q:H b with
   | none=>rfl
   | some u=>
     have e':b=a:=hA b (by rw [q];simp)
     subst e'
     rw [ha] at e;cases e
     have d':Data.seq vs.toArray _=Data.dict es ep:=d
     cases d'
  have nsK:∀ {b:Addr} {m:.(32)},s₁.heap.Ns b m->(pZ s₁.heap H).Ns b m:=fun {b m} ⟨o,es,ep,e,d,r⟩=>⟨o,es,ep,base_of e (noA e d),d,r⟩
  have hKb:K.In (pZ s₁.heap H):=fun b o e=>base_of (KX b o e) (by
   cases q:H b with
   | none=>rfl
   | some u=>
     have e':b=a:=hA b (by rw [q];simp)
     subst e'
     rw [hK (by rw [q];simp)] at e;cases e)
  have hM:Mod K mg (pZ s₁.heap H):=⟨hKb,nsK hns,⟨mb,nsK hb,hbb⟩,let ⟨mc,h1,h2⟩:=hlim;⟨mc,nsK h1,h2⟩⟩
  have e0:Env0 P w K mg (pZ s₁.heap H) callerA [] s₁ H:=⟨rfl,hM,fun b o e=>ui e,Nat.le_of_eq (mM _ _),trivial,fun b hb=>absurd (show b∈([]:List Addr) from hb) (by simp),hok,.of_eq hg⟩
  refine codeAny_mono ((F _ hKb (nsK hns)).run callerA [] s₁ H ⟨[.ref a],[]⟩ [.ref a] [.ref a] _ _ hr e0 (hbind s₁ (.ref a)) (.cons rfl .nil) (hsp H hO hS)) fun r s' h=>?_
  cases r with
  | error e=>exact (hCX H e s' h).elim
  | ok fl=>
    cases fl with
    | next=>exact False.elim h
    | brk=>exact False.elim h
    | cont=>exact False.elim h
    | ret u=>
      obtain ⟨v,H',os,bare,un,hok',r',q⟩:=h
      have q':v=.bl true:=q
      subst q'
      obtain rfl:u=Value.bool true:=r'
      refine ⟨rfl,OldK.of_keep fun b o e=>?_,os,bare⟩
      cases q:H b with
      | none=>exact un.keep b o e q (by intro z;exact absurd (show b∈([]:List Addr) from z) (by simp)) (by simp)
      | some u=>
        rcases hO b with z | ⟨ob,xs,z⟩
        · rw [q] at z;cases z
        · have z2:=un.frzs b ob _ z;obtain ⟨e1,_⟩:=hok b _ z;obtain ⟨e2,_⟩:=hok' b _ z2;rw [e] at e1;cases e1;exact e2
 cases hk:K.lookup a with
 | some o=>
   -- the script is one of the module's own objects
   have e:=KX a o hk
   rw [ha] at e
   cases e
   refine core (fun _=>none) (fun _=>.inl rfl) (.inr ⟨_,vs.toArray,_,hk,rfl,rfl,rfl,by rw [zA2,lenV];exact hl,by simpa using rv⟩) (fun b u z=>by have z':(none:Option HO)=some u:=z;cases z') (fun b z=>absurd rfl z) fun z=>absurd rfl z
 | none=>
   refine core (fun b=>if b=a then some (.frz { cls:=.type "list",data:=.seq vs.toArray } (.lst (ns.map V.int))) else none) (fun b=>?_) (.inl (.inr ⟨{ cls:=.type "list",data:=.seq vs.toArray },if_pos rfl⟩)) (fun b u z=>?_) (fun b z=>?_) fun _=>hk
   · by_cases hb:b=a
     · exact .inr ⟨_,_,if_pos hb⟩
     · exact .inl (if_neg hb)
   · by_cases hb:b=a
     · have z':=(if_pos hb).symm.trans z
       cases z'
       subst hb;exact ⟨ha,by rw [zA0];exact hl,vs,_,rv,ha⟩
     · have z':=(if_neg hb).symm.trans z
       cases z'
   · by_cases hb:b=a
     · exact hb
     · exact absurd (if_neg hb) z
theorem walk_of {l:PySem.W.OpenLaw} {n k:Nat} {q:Program} {loose:List Str} {XP:(Str->Option Value)->Heap->Prop} {YP:World->Heap->Prop} {d:DefRec} {K:Params->PySem.W.Frag} {CX:World->CXT} {sp:World->Sp} {x:Str}
 (hn:l.most=some n) (hn2:n<=sizeLine) (hdf:d.params.defaults=[]) (hr:Room k callerA)
 (hY:∀ (w:World) (h:Heap),YP w h->(K w.params).In h)
 (F:∀ (w:World) (mg:.(32)) (fa:Addr) (h:Heap),(K w.params).In h->h.Ns mainGlobals mg->mg d.name=some (.ref fa) ->
   ∃ fd:FuncData,(∀ (s:Shared) (u:Value),BindsTo s fd ⟨[u],[]⟩ [(x,u)]) /\
     ∀ base:Heap,(K w.params).In base->base.Ns mainGlobals mg->FnOk l.prog w (K w.params) mg base (CX w) k fa fd [x] (sp w))
 (hsp:∀ (w:World) (H:Hp) (a:Addr) (ns:List Int),ns.length<=n->Only H->SqL (K w.params) H a (ns.map V.int)->sp w [.ref a] H (fun v _=>v=.bl true) fun _ _ _=>False)
 (hCX:∀ (w:World) (H:Hp) (s:Shared) (e:Value) (s':Shared),CX w [] H s (fun _ _ _=>False) e s'->False) :
 PySem.W.WalkO q loose XP YP l.row.toRowW d [] (fun f vs=>PySem.call f vs):=by
 refine Att.attach_call hn hdf fun w s₀ s₁ mg mb fa o pm cd doc a vs ns G Y ho hd hcd hmg hobj hints hlen hg=>?_;have KX:=hY w _ Y;obtain ⟨fd,hb,hF⟩:=F w mg fa _ KX G.T.g hmg;exact pV KX G.T.g G.T.b G.T.builtins G.T.nolimit hg hobj hints (zE6 hlen hn2) hr hF hb (fun H hO hS=>hsp w H a ns hlen hO hS) fun H e s'=>hCX w H s₁ e s'
end L2
/- THE LAST THEOREM (shape;LID,My.* are yours):
   My.Adr: a structure of the addresses that your layer names (classes,functions);My.Txt K t: a structure (Prop) of the equations over K;
   My.txt_mk:{K} {implicit addresses ..} (e1:nsIn K mainGlobals "law" = some (some (.ref f))) (e2:K.lookup f=some ⟨oc,od,.func (fnOf "law" "law" params body scope dV kV doc pm an cdv ct),sl⟩) (e3:codeIn K cdv "law" = true) .. : ∃ t,My.Txt K t
(the tactic k_is has no namespace: write k_is) -/
namespace L2
open PySem PySem.Spec PyProof.Rows
def bH (s:Stmt):Arguments:=match s with
 | .FunctionDef _ a _ _ _ _ _ _ _ _=>a
 | _=>{ posonlyargs:=[],args:=[],vararg:=none,kwonlyargs:=[],kw_defaults:=[],kwarg:=none,defaults:=[] }
def bh (s:Stmt):List Stmt:=match s with
 | .FunctionDef _ _ b _ _ _ _ _ _ _=>b
 | _=>[]
def ap (s:Stmt):Scope:=match s with
 | .FunctionDef _ _ _ _ _ _ sc _ _ _=>sc
 | _=>{ kind:=.function,names:=[],isGenerator:=false,isCoroutine:=false }
abbrev CX0:CXT:=fun _ _ _ _ _ _=>False
abbrev E0:XK:=fun _ _ _=>False
theorem pass0 {X:Cx}:nS CX0 X E0:=fun _ _ _ _ _ _ _ h=>h.elim
structure Fun (K:PySem.W.Frag) (x qual:Str) (st:Stmt) (f:Addr) (fd:FuncData):Prop where
 ex:∃ (oc:Value) (od:Option Addr) (kV doc pm:Value) (an:Option Addr) (cdv ct:Value) (osl:Array (Option Value)),
  fd=PySem.W.fnOf x qual (bH st) (bh st) (ap st) .none kV doc pm an cdv ct/\K.lookup f=some ⟨oc,od,.func fd,osl⟩/\PySem.W.codeIn K cdv qual=true
 kp:PySem.W.keepIn K (.ref f)=true
section
variable {P:Program} {w:World} {K:PySem.W.Frag} {mg:Str->Option Value} {base:Heap}
theorem Fun.ok {x qual:Str} {st:Stmt} {f:Addr} {fd:FuncData} {N ps:List Str} {k:Nat} {sp:Sp} (F:Fun K x qual st f fd) (S:FnScope N ps (ap st)) (len:∀ vs H Q E,sp vs H Q E->vs.length=ps.length)
 (hbody:∀ (cdv:Value) (A:Around) (outer:List Env) (s:Shared) (H:Hp) (vs:List V) (Q:VK) (E:XK),Room k (A.deeper (envOfC qual (ap st) s.heap.objs.size f cdv))->sp vs H Q E ->
   ∃ t,PSs (qe CX0 P w K mg base N qual (ap st) f cdv A outer s H E).nox (bh st) t/\t { nx:=fun _ H'=>Q .non H',rt:=Q } (start N vs) H):FnOk P w K mg base CX0 (k+1) f fd ps sp:=by
 obtain ⟨oc,od,kV,doc,pm,an,cdv,ct,osl,rfl,lk,hcd⟩:=F.ex;refine fn_of lk hcd S len fun A outer s H vs Q E hr hsp=>?_;obtain ⟨t,h,q⟩:=hbody cdv A outer s H vs Q E hr hsp;exact ⟨t,h.nox,q⟩
theorem Fun.okz {x qual:Str} {st:Stmt} {f:Addr} {fd:FuncData} {N ps:List Str} {k:Nat} {sp:Sp} (F:Fun K x qual st f fd) (S:FnScope N ps (ap st)) (len:∀ vs H Q E,sp vs H Q E->vs.length=ps.length)
 (hbody:∀ (cdv:Value) (A:Around) (outer:List Env) (s:Shared) (H:Hp) (vs:List V) (Q:VK) (E:XK),Room k (A.deeper (envOfC qual (ap st) s.heap.objs.size f cdv))->sp vs H Q E ->
   ∃ t,ZSs (qe CX0 P w K mg base N qual (ap st) f cdv A outer s H E).nox (bh st) t/\t { nx:=fun _ H'=>Q .non H',rt:=Q } (start N vs) H):FnOk P w K mg base CX0 (k+1) f fd ps sp:=
 F.ok S len fun cdv A outer s H vs Q E hr h=>let ⟨t,h1,h2⟩:=hbody cdv A outer s H vs Q E hr h;⟨t,h1.p,h2⟩
theorem Fun.binds {x qual:Str} {st:Stmt} {f:Addr} {fd:FuncData} {ps:List Str} (F:Fun K x qual st f fd)
 (h:∀ (kV doc pm:Value) (an:Option Addr) (cdv ct:Value) (us:List Value),us.length=ps.length->bindArgs (PySem.W.fnOf x qual (bH st) (bh st) (ap st) .none kV doc pm an cdv ct) ⟨us,[]⟩=pure (ps.zip us)):Binds K fd ps []:=by
 obtain ⟨oc,od,kV,doc,pm,an,cdv,ct,osl,rfl,lk,hcd⟩:=F.ex;exact .all (h kV doc pm an cdv ct)
theorem fZ {x qual:Str} {st:Stmt} {f:Addr} {oc:Value} {od an:Option Addr} {osl:Array (Option Value)} {kV doc pm cdv ct:Value} (l:K.lookup f=some ⟨oc,od,.func (PySem.W.fnOf x qual (bH st) (bh st) (ap st) .none kV doc pm an cdv ct),osl⟩)
 (c:PySem.W.codeIn K cdv qual=true) (k:PySem.W.keepIn K (.ref f)=true):Fun K x qual st f (PySem.W.fnOf x qual (bH st) (bh st) (ap st) .none kV doc pm an cdv ct):=⟨⟨oc,od,kV,doc,pm,an,cdv,ct,osl,rfl,l,c⟩,k⟩
end
theorem aE {n:Nat} (h:n<=1000):n<sizeLine:=Nat.lt_of_le_of_lt h (by decide)
theorem iteF {A B:Prop} (h:B):if false=true then A else B:=by
 rw [if_neg zB1];exact h
theorem iteT {A B:Prop} (h:A):if true=true then A else B:=by
 rw [if_pos rfl];exact h
def Same (H H':Hp):Prop:=∀ b o,H b=some o->H' b=some o
theorem Same.refl (H:Hp):Same H H:=fun _ _ h=>h
theorem Same.trans {H H1 H2:Hp} (a:Same H H1) (b:Same H1 H2):Same H H2:=fun c o h=>b c o (a c o h)
end L2
set_option maxHeartbeats 4000000
namespace L2
open PySem PySem.Spec PyProof.Rows
def cX (env:Env):List (Str×NameKind)->List (Str×Addr)->List (Str×Addr)
 | [],cs=>cs
 | y::r,cs=>cX env r (if (y.2 == .free)=true then (y.1,(env.cells.lookup y.1).getD 0)::cs else cs)
theorem dM {env:Env} {scope:Scope} (h:∀ y∈scope.names,y.2=.free->∃ c,env.cells.lookup y.1=some c):closureFor scope env=pure (cX env scope.names []):=by
 simp only [closureFor];generalize scope.names=ns at h;have go:∀ (ns:List (Str×NameKind)) (cs:List (Str×Addr)),(∀ y∈ns,y.2=.free->∃ c,env.cells.lookup y.1=some c) ->
  (forIn ns cs fun (x:Str×NameKind) (r:List (Str×Addr))=>(if (x.2 == NameKind.free)=true then do let a ← cellOf env x.1;pure (ForInStep.yield ((x.1,a)::r)) else pure (ForInStep.yield r):Sem (ForInStep (List (Str×Addr)))))=(pure (cX env ns cs):Sem (List (Str×Addr))):=by
  intro ns;induction ns with
  | nil=>intro cs _;rfl
  | cons y r ih=>
    intro cs hy
    rw [List.forIn_cons]
    have hr:=fun z hz=>hy z (zA5 _ hz)
    by_cases hf:(y.2 == NameKind.free)=true
    · obtain ⟨c,hc⟩:=hy y zA3 (by simpa using hf);have e:cellOf env y.1=pure c:=by unfold cellOf;rw [hc]
      rw [if_pos hf,e];refine Eq.trans (ih ((y.1,c)::cs) hr) (congrArg pure ?_);show _=cX env r (if (y.2 == .free)=true then (y.1,(env.cells.lookup y.1).getD 0)::cs else cs);rw [if_pos hf,hc];rfl
    · rw [if_neg hf];refine Eq.trans (ih cs hr) (congrArg pure ?_);show _=cX env r (if (y.2 == .free)=true then (y.1,(env.cells.lookup y.1).getD 0)::cs else cs);rw [if_neg hf]
 have e:=go ns [] h;exact (congrArg (fun (t:Sem (List (Str×Addr)))=>t >>= fun cs=>pure cs) e).trans rfl
theorem dL {env:Env}:∀ (ns:List (Str×NameKind)) (cs:List (Str×Addr)),(∀ y∈ns,y.2=.free->∃ c,env.cells.lookup y.1=some c)->(∀ n c,cs.lookup n=some c->env.cells.lookup n=some c) ->
 ∀ n c,(cX env ns cs).lookup n=some c->env.cells.lookup n=some c
 | [],cs,_,hc=>hc
 | y::r,cs,hy,hc=>by
   refine dL r _ (fun z hz=>hy z (zA5 _ hz)) fun n c e=>?_;by_cases hf:(y.2 == NameKind.free)=true
   · rw [if_pos hf,zD9] at e;obtain ⟨c',hc'⟩:=hy y zA3 (by simpa using hf)
     cases hn:n == y.1 with
     | true=>
       rw [hn] at e
       have en:n=y.1:=by simpa using hn
       rw [hc'] at e
       rw [en,hc']
       exact e
     | false=>rw [hn] at e;exact hc n c e
   · rw [if_neg hf] at e;exact hc n c e
theorem dt {env:Env}:∀ (ns:List (Str×NameKind)) (cs:List (Str×Addr)) (n:Str),((n,NameKind.free)∈ns\/∃ c,cs.lookup n=some c)->∃ c,(cX env ns cs).lookup n=some c
 | [],cs,n,h=>by
   rcases h with h | h
   · cases h
   · exact h
 | y::r,cs,n,h=>by
   refine dt r _ n ?_;rcases h with h | ⟨c,h⟩
   · rcases zA8.mp h with e | h
     · refine .inr ⟨(env.cells.lookup n).getD 0,?_⟩;have e2:y.2=.free:=by rw [← e]
       have e1:y.1=n:=by rw [← e]
       rw [if_pos (by rw [e2];rfl),e1,zD9];simp
     · exact .inl h
   · refine .inr ?_;by_cases hf:(y.2 == NameKind.free)=true
     · rw [if_pos hf,zD9]
       cases hn:n == y.1 with
       | true=>exact ⟨_,rfl⟩
       | false=>exact ⟨c,h⟩
     · rw [if_neg hf];exact ⟨c,h⟩
def qP (env:Env) (y:Str×NameKind):Str×NameKind:=if (y.2 == NameKind.free&&env.scope.kind == .function&&env.kindOf y.1 == some .cell)=true then (y.1,NameKind.cell) else (y.1,y.2)
theorem cR {env:Env}:∀ {names:List (Str×NameKind)} {x:Str} {k':NameKind},(names.map (qP env)).lookup x=some k' ->
 ∃ k,(x,k)∈names/\names.lookup x=some k/\(k'=k\/(k=.free/\k'=.cell))
 | [],_,_,h=>by simp at h
 | (n,k)::r,x,k',h=>by
   have ih:=@cR env r x k';rw [zC5] at h;unfold qP at h;dsimp only at h
   cases hx:x == n with
   | true=>
     have en:x=n:=by simpa using hx
     refine ⟨k,by rw [en];exact zA3,by simp [zD9,hx],?_⟩
     by_cases hc:(k == NameKind.free&&env.scope.kind == .function&&env.kindOf n == some .cell)=true
     · rw [if_pos hc,zD9,hx] at h;have hk:k=.free:=by
        have:=(zF8.mp (zF8.mp hc).1).1;simpa using this
       exact .inr ⟨hk,by cases h;rfl⟩
     · rw [if_neg hc,zD9,hx] at h;exact .inl (by cases h;rfl)
   | false=>
     have h':(r.map (qP env)).lookup x=some k':=by
      by_cases hc:(k == NameKind.free&&env.scope.kind == .function&&env.kindOf n == some .cell)=true
      · rw [if_pos hc,zD9,hx] at h;exact h
      · rw [if_neg hc,zD9,hx] at h;exact h
     obtain ⟨k,h1,h2,h3⟩:=ih h'
     exact ⟨k,zA5 _ h1,by rw [zD9,hx];exact h2,h3⟩
theorem lu {env:Env}:∀ {names:List (Str×NameKind)} {x:Str} {k:NameKind},names.lookup x=some k->∃ k',(names.map (qP env)).lookup x=some k'
 | [],_,_,h=>by simp at h
 | (n,k0)::r,x,k,h=>by
   have ih:=@lu env r x k;rw [zC5];have e1:(qP env (n,k0)).1=n:=by unfold qP;split <;> rfl
   have e0:qP env (n,k0)=(n,(qP env (n,k0)).2):=by rw [Prod.ext_iff];exact ⟨e1,rfl⟩
   rw [e0,zD9]
   cases hx:x == n with
   | true=>exact ⟨_,rfl⟩
   | false=>
     rw [zD9,hx] at h
     exact ih h
def cW (X:Cx) (nv:List Str) (ix:List (Str×Nat)) (scope:Scope) (C:Addr) (s₀:Shared) (H₀:Hp) (fp:List Addr):Cx:=
 { X with N:=nv++ix.map (·.1),s₀:=s₀,H₀:=H₀,env:=compEnvC scope (cX X.env scope.names []) C X.env,outer:=X.stack,stack:=X.stack,ex:=fp,fn:=fun _=>false,pn:=[],xe:=fun _ _=>False }
def frV (σ:St) (ix:List (Str×Nat)):St:=ix.map fun p=>(σ[p.2]?).join
def st0 (nv:List Str) (ix:List (Str×Nat)) (σ:St):St:=nv.map (fun _=>none)++frV σ ix
structure CompOk (X:Cx) (nv:List Str) (ix:List (Str×Nat)) (scope:Scope):Prop where
 kind:scope.kind=.function
 nocell:∀ y∈scope.names,y.2≠.cell
 names:∀ y∈scope.names,y.2=.local->scope.names.lookup y.1=some .local
 free:(scope.names.all fun y=>!(y.2 == NameKind.free)||(X.env.kindOf y.1 == some NameKind.cell||X.env.kindOf y.1 == some NameKind.free))=true
 ix:(ix.all fun p=>(scope.names.lookup p.1 == some NameKind.free)&&(X.N[p.2]? == some p.1))=true
section
variable {X:Cx} {nv:List Str} {ix:List (Str×Nat)} {scope:Scope} {pins:List (Addr×Obj)} {σ:St} {H:Hp} {s:Shared}
theorem CompOk.fk (co:CompOk X nv ix scope) {y:Str×NameKind} (hy:y∈scope.names) (hf:y.2=.free):X.env.kindOf y.1=some .cell\/X.env.kindOf y.1=some .free:=by
 have q:=zB8.mp co.free y hy;rw [hf] at q;simpa using q
theorem CompOk.cells (co:CompOk X nv ix scope) (ok:X.Ok):∀ y∈scope.names,y.2=.free->∃ c,X.env.cells.lookup y.1=some c:=fun y hy hf=>ok.has y.1 (co.fk hy hf)
theorem CompOk.look (co:CompOk X nv ix scope) (ok:X.Ok) {n:Str} {c:Addr} (h:(cX X.env scope.names []).lookup n=some c):X.env.cells.lookup n=some c:=
 dL _ _ (co.cells ok) (fun _ _ e=>by cases e) n c h
theorem CompOk.ixp (co:CompOk X nv ix scope) {p:Str×Nat} (hp:p∈ix):scope.names.lookup p.1=some .free/\X.N[p.2]? = some p.1:=by
 have q:=zF8.mp (zB8.mp co.ix p hp);exact ⟨by simpa using q.1,by simpa using q.2⟩
theorem cg {α:Type}:∀ {l:List (Str×α)} {n:Str} {k:α},l.lookup n=some k->(n,k)∈l
 | [],_,_,h=>by cases h
 | (m,j)::r,n,k,h=>by
   rw [zD9] at h
   cases e:n == m with
   | true=>rw [e] at h;cases h;have:n=m:=by simpa using e
           rw [this];exact zA3
   | false=>rw [e] at h;exact zA5 _ (cg h)
theorem uU (co:CompOk X nv ix scope) (I:.(14)) {fp:List Addr} {C:Addr} (hC:s.heap.objs.size<=C) (hf:∀ b∈fp,fD X pins H b) (hlt:∀ b∈fp,b<s.heap.objs.size):(cW X nv ix scope C s H fp).Ok where
 mod:=I.mod
 kind:=co.kind
 glob:=I.ok.glob
 blt:=I.ok.blt
 above:=hC
 inj:=fun x y c a b=>I.ok.inj x y c (co.look I.ok a) (co.look I.ok b)
 has:=fun x hk=>by
  have z:∃ k,(x,k)∈scope.names/\k=.free:=by
   rcases hk with hk | hk
   · obtain ⟨k,h1,_,h3⟩:=cR (env:=X.env) (names:=scope.names) hk;rcases h3 with h3 | ⟨h3,_⟩
     · exact absurd h3.symm (co.nocell _ h1)
     · exact ⟨k,h1,h3⟩
   · obtain ⟨k,h1,_,h3⟩:=cR (env:=X.env) (names:=scope.names) hk;rcases h3 with h3 | ⟨_,h3⟩
     · exact ⟨k,h1,h3.symm⟩
     · cases h3
  obtain ⟨k,h1,rfl⟩:=z;exact dt _ _ x (.inl h1)
 cab:=fun x c h _=>by cases h
 hd:=I.ok.hd
 frames:=I.ok.frames
 stk:=.inl rfl
 exf:=fun b hb=>⟨zC2 (zB9 (hlt b hb) hC),fun x c e=>(hf b hb).2.2.2.2.1 x c (co.look I.ok e)⟩
 bs:=fun b o e=>I.bs b o e
 bsz:=zE6 I.ok.bsz I.sz
 noex:=fun b o e hb=>by
  rcases (hf b hb).2.2.2.1 with z | z
  · exact I.ok.noex b o e z
  · exact absurd (zB9 (Heap.lt_size e) (zE6 I.ok.bsz z)) (zD8 _)
 exfs:=fun b hb hs=>by
  rcases zA8.mp (I.stkSub b hs) with e | h
  · exact (hf b hb).2.1 e
  · exact (hf b hb).2.2.1 h
 funs:=I.stack
 frf:=I.stkFree
abbrev dH (its:List Value) (k:Nat):Obj:={ cls:=.type "list",data:=.seq its.toArray k }
theorem io {o:Option (Option V)} {v:V} (h:o.join=some v):o=some (some v):=by
 cases o with
 | none=>cases h
 | some o'=>exact congrArg some h
theorem m5 (co:CompOk X nv ix scope) (I:.(14)) {fp:List Addr} {h₁:Heap} {tk:Nat} {m:.(32)} (hf:∀ b∈fp,fD X pins H b) (hlt:∀ b∈fp,b<s.heap.objs.size)
 (hn:h₁.Ns .(16) m) (old:∀ b o,s.heap.get? b=some o->h₁.get? b=some o) (hD:h₁.get? s.heap.objs.size=some (dH [] 0)) :
 Inv (cW X nv ix scope .(16) s H fp) [(s.heap.objs.size,dH [] 0)] (st0 nv ix σ) H { s with heap:=h₁,toks:=tk } where
 ok:=uU co I (zF7 _) hf hlt
 os:=rfl
 bare:=I.bare
 base:=Un.kept old
 loc:=by
  refine ⟨m,hn,fun i x v e1 e2 hv=>?_⟩;obtain ⟨m₀,_,hl⟩:=I.loc;have e1':(nv++ix.map (·.1))[i]? = some x:=e1;unfold st0 at e2;by_cases hi:i<nv.length
  · rw [List.getElem?_append_left (by rw [zA0];exact hi),List.getElem?_map] at e2
    cases q:nv[i]? with
    | none=>rw [q] at e2;cases e2
    | some z=>rw [q] at e2;cases e2
  · have hi':nv.length<=i:=Nat.not_lt.mp hi;rw [List.getElem?_append_right hi',List.getElem?_map] at e1';rw [List.getElem?_append_right (by rw [zA0];exact hi'),zA0] at e2;unfold frV at e2;rw [List.getElem?_map] at e2
    cases q:ix[i - nv.length]? with
    | none=>rw [q] at e1';cases e1'
    | some p=>
      rw [q] at e1' e2
      have hp:p∈ix:=zD3 q
      have ex:p.1=x:=Option.some.inj e1'
      have ev:σ[p.2]? = some (some v):=io (Option.some.inj e2)
      obtain ⟨f1,f2⟩:=co.ixp hp
      have hk:=co.fk (cg f1) rfl
      obtain ⟨u,r,l⟩:=hl p.2 p.1 v f2 ev (hk.elim (fun z=>.inr (.inl z)) fun z=>.inr (.inr z))
      refine ⟨u,r,.inr ⟨?_,?_⟩⟩
      · obtain ⟨k',hk'⟩:=lu (env:=X.env) f1;obtain ⟨k,h1,h2,h3⟩:=cR hk';rw [f1] at h2
        cases h2
        rw [← ex];rcases h3 with h3 | ⟨_,h3⟩
        · exact .inr (hk'.trans (congrArg some h3))
        · exact .inl (hk'.trans (congrArg some h3))
      · obtain ⟨c,hc⟩:=dt (env:=X.env) scope.names [] p.1 (.inl (cg f1));refine ⟨c,by rw [← ex];exact hc,?_⟩;have hc':=co.look I.ok hc;rcases l with ⟨z,_⟩ | ⟨_,c',z1,o,z2,z3⟩
        · have z':X.env.kindOf p.1=some .local:=z;rcases hk with hk | hk
          · have hk':X.env.kindOf p.1=some .cell:=hk;rw [z'] at hk';cases hk'
          · have hk':X.env.kindOf p.1=some .free:=hk;rw [z'] at hk';cases hk'
        · rw [hc'] at z1
          cases z1
          exact ⟨o,old _ _ z2,z3⟩
 cell:=fun x c e=>by
  obtain ⟨v,o,h1,h2⟩:=I.cell x c (co.look I.ok e);exact ⟨v,o,old _ _ h1,h2⟩
 free:=I.hok.fresh (zF7 _)
 freeC:=fun x c e=>I.freeC x c (co.look I.ok e)
 pin:=fun p hp=>by
  have e:p=(s.heap.objs.size,dH [] 0):=by simpa [cW] using hp
  subst e;refine ⟨hD,I.hok.fresh (zA1 _),zC2 (zF0 _),fun hb=>?_,fun v z=>by cases z⟩;rcases zA8.mp (I.stkSub _ hb) with e | h
  · exact absurd I.lt (by rw [← e];exact zD8 _)
  · exact I.nofs (zA1 _) h
 hok:=I.hok.kept old
 len:=by
  show (nv.map (fun _=>none)++frV σ ix).length=(nv++ix.map (·.1)).length;unfold frV;simp
theorem Inv.track {D:Addr} {ys its:List _} {k:Nat} (I:.(14)) (rv:Vals ys its) (hz:ys.length<=sizeLine) (e:s.heap.get? D=some (dH its k)) (hn:H D=none) (hd:fD X pins H D):Inv X pins σ (upd H D (.lst ys)) s:=by
 have nD:∀ b u,H b=some u->b≠D:=fun b u q z=>by rw [z,hn] at q;cases q
 obtain ⟨h1,h2,h3,h4,h5,h6⟩:=hd;refine I.step (s:=s) (h':=s.heap) (g':=s.gens) (t':=s.toks) (d':=s.drawn) (ch:=[D]) (fun b hb=>?_) (fun b o _ _ _ q _=>q) (fun b o _ _ _ q _=>⟨o.slots,q⟩) (fun b o hb _ q=>?_) (fun b o _ q=>⟨o,q⟩)
  (fun b xs q=>by rw [aH (nD b _ q)];exact q) (fun b o u q=>by rw [aH (nD b _ q)];exact q) (fun b ps q=>⟨#[],by rw [aH (nD b _ q),q];simp⟩) (fun m hm=>hm) (fun b u q=>?_) I.bare
 · have e:b=D:=by simpa using hb
   subst e;exact ⟨h4,h2,h5,h6⟩
 · rw [aH (fun z=>hb (by simp [z]))];exact q
 · by_cases hb:b=D
   · subst hb;rw [af] at q
     cases q
     exact ⟨hz,its,k,rv,e⟩
   · rw [aH hb] at q;exact (I.hok b u q).stay (fun c v _ r=>r) (fun c r=>by rw [aH (nD c _ r)];exact r) fun c xs r=>by rw [aH (nD c _ r)];exact r
theorem uT {ps2:.(31)} {σ2:St} {H':Hp} {s':Shared} {fp:List Addr} {C:Addr} (I:.(14)) (hf:∀ b∈fp,fD X pins H b) (Ic:Inv (cW X nv ix scope C s H fp) ps2 σ2 H' s'):Inv X pins σ H' s':=
 I.call' (ch:=fp) Ic.os Ic.base Ic.hok Ic.bare fun b hb=>⟨(hf b hb).2.2.2.1,(hf b hb).2.1,(hf b hb).2.2.2.2.1,(hf b hb).2.2.2.2.2⟩
def PIf (X:Cx) (ifs:List Expr) (t:TT):Prop:=
 ∀ (pins:List (Addr×Obj)) (s:Shared) (σ:St) (H:Hp) (Q:Bool->Hp->Prop),Inv X pins σ H s->t σ H Q ->
   wpAny .(15) X.A (forIn ifs true fun c r=>if r=true then do let ok ← isTrue c X.env (eval c X.env);pure (ForInStep.yield ok) else pure (ForInStep.yield r)) (TP X pins σ Q) X.xe s
@[irreducible] def ZIf (X:Cx) (ifs:List Expr) (t:TT):Prop:=PIf X ifs t
def tYes:TT:=fun _ H Q=>Q true H
theorem tD:PIf X [] tYes:=fun _ _ _ H _ I h=>wpAny_tests_nil ⟨H,I,h⟩
theorem aY:ZIf X [] tYes:=by with_unfolding_all exact tD
theorem tB {c:Expr} {t:TT} (h:PT X c t):PIf X [c] t:=fun pins s σ H Q I q=>wpAny_tests_one (h pins s σ H Q I q)
theorem bX {c:Expr} {t:TT} (h:ZT X c t):ZIf X [c] t:=by with_unfolding_all exact tB h
end
section
variable {prog:Program} {w:World} {A:Around} {E:Value->Shared->Prop} {R:Result->Shared->Prop} {s:Shared}
theorem fv {elt target iter:Expr} {ifs:List Expr} {scope:Scope} {pos:Pos} {it acc:Value} {env:Env} (I:Nat->Shared->Prop)
 (turn:∀ n s,I n s->wpAny .(18) A (pyNext it) (fun r s₁=>match r with
   | none=>R (.ok .next) s₁
   | some v=>wpAny (model prog w) A (letOwnedTupleGo target it v) (fun _ s₁'=>wpAny (model prog w) A (assign target env v) (fun _ s₂=>
    wpAny .(18) A (forIn ifs true fun c r=>if r=true then do let ok ← isTrue c env (eval c env);pure (ForInStep.yield ok) else pure (ForInStep.yield r)) (fun ok s₃=>
     if ok=true then wpAny .(18) A (eval elt env) (fun x s₄=>
      wpAny .(18) A (call (.builtin "list.append") [acc,x]) (fun _ s₅=>∃ m,m<n/\I m s₅) (fun _ _=>False) s₄) (fun _ _=>False) s₃
     else ∃ m,m<n/\I m s₃) (fun _ _=>False) s₂) (fun _ _=>False) s₁') (fun _ _=>False) s₁) (fun _ _=>False) s)
 (n:Nat) (h:I n s) :
 codeAny .(18) A (.compLoop (.ListComp elt [⟨target,iter,ifs,0⟩] scope pos) 0 it acc env) R s:=by
 refine codeAny_loop rfl I (fun n s hI=>?_) n h;show wpAny _ A ((compTurn (.ListComp elt [⟨target,iter,ifs,0⟩] scope pos) 0 it acc env).onRaise (fun x=>do noteFrame x env;theTreesLotGoes x)) _ _ s;refine wpAny_noted ?_;rw [compTurn_list];refine wpAny_bind (wpAny_standAt (wpAny_bind (wpAny_mono (turn n s hI) (fun r s₁ h₁=>?_) fun _ _ h'=>h'.elim)))
 cases r with
 | none=>exact wpAny_pure h₁
 | some v=>
   refine wpAny_bind (wpAny_mono h₁ (fun _ s₁' h₁'=>?_) fun _ _ h'=>h'.elim)
   refine wpAny_bind (wpAny_mono h₁' (fun _ s₂ h₂=>wpAny_bind (wpAny_mono h₂ (fun ok s₃ h₃=>?_) fun _ _ h'=>h'.elim)) fun _ _ h'=>h'.elim)
   cases ok with
   | false=>exact wpAny_pure ⟨rfl,h₃⟩
   | true=>
     exact wpAny_bind (wpAny_bind (wpAny_mono h₃ (fun x s₄ h₄=>wpAny_bind (wpAny_mono h₄ (fun _ s₅ h₅=>wpAny_pure (wpAny_pure ⟨rfl,h₅⟩)) fun _ _ h'=>h'.elim)) fun _ _ h'=>h'.elim))
end
section
variable {X:Cx} {nv:List Str} {ix:List (Str×Nat)} {scope:Scope} {pins:List (Addr×Obj)} {σ:St} {H:Hp} {s:Shared} {elt tg iter:Expr} {ifs:List Expr} {pos:Pos}
def Kp (σ σ2:St):Prop:=σ.length=σ2.length/\∀ (i:Nat) v,σ[i]? = some (some v)->σ2[i]? = some (some v)
def KpG (nv:List Str) (g:TG):Prop:=∀ (fr:St) (v:V) (H:Hp) (Q:St->Hp->Prop),g v (nv.map (fun _=>none)++fr) H Q->g v (nv.map (fun _=>none)++fr) H fun σ2 H2=>Kp (nv.map (fun _=>none)++fr) σ2/\Q σ2 H2
theorem aG {x:Str}:KpG [x] (fJ 0):=fun fr v H Q h=>by
 refine ⟨⟨by simp,fun i w e=>?_⟩,h⟩
 cases i with
 | zero=>cases e
 | succ i=>exact e
def rW (nv:List Str) (ix:List (Str×Nat)) (g:TG) (ti:TT) (te:TE) (σ:St) (J:It) (Fin:List V->Hp->Prop) (H1:Hp):Prop:=
 ∃ W:Nat->Nat->List V->Hp->Prop,(∃ m,W 0 m [] H1)/\∀ i m ys H,W i m ys H ->
   (J.stop i H/\Fin ys H)\/(J.go i H/\ys.length<sizeLine/\∃ N:List V->Hp->Prop,(∀ ys' H',N ys' H'->∃ m',m' < m/\W (i+1) m' ys' H') /\
     ∀ x H',J.yld i H x H'->g x (st0 nv ix σ) H' fun σ2 H2=>ti σ2 H2 fun b H3=>if b=true then te σ2 H3 fun y H4=>N (ys++[y]) H4 else N ys H3)
theorem jL {J:It} {fp:List Addr} {it:Addr} {tn:Nat->Heap->Prop} {g:TG} {ti:TT} {te:TE} {Fin:List V->Hp->Prop} {E:.(21)} {RR:Value->Addr->Result->Shared->Prop}
 (co:CompOk X nv ix scope) (hc:X.calm=true) (I:.(14)) (T:Turn X.prog X.w X.K tg J fp it tn) (st:tn 0 s.heap) (hf:∀ b∈fp,fD X pins H b)
 (kg:KpG nv g) (hg:∀ C s₀ H₀ fp,PG .(27) tg g) (hi:∀ C s₀ H₀ fp,PIf .(27) ifs ti) (he:∀ C s₀ H₀ fp,PE .(27) elt te)
 (q:rW nv ix g ti te σ J Fin H)
 (fin:∀ D C s' H' ys,Inv X pins σ (upd H' D (.lst ys)) s'->H' D=none->Fin ys H'->(∃ m,s'.heap.Ns C m)->fD X pins (upd H' D (.lst ys)) C->RR (.ref D) C (.ok .next) s') :
 wpAny .(15) X.A (newList []) (fun acc s₃=>wpAny .(15) X.A (newFunctionEnv scope X.env.globals (cX X.env scope.names []) [] X.env.qual none .none (some X.env)) (fun cenv s₄=>
  codeAny .(15) X.A (.compStart .(20) 0 (.ref it) acc { cenv with scope:=relabel scope X.env }) (RR acc cenv.locals) s₄) E s₃) E s:=by
 obtain ⟨W,⟨m0,w0⟩,turn⟩:=q;refine wpAny_newObj_type (wpAny_newFunctionEnv co.nocell (by intro y hy;simp at hy) (fun h₁ hns₁ hsb₁=>?_) co.kind);dsimp only at hns₁ hsb₁ ⊢;generalize hH2:s.heap.push { cls:=.type "list",dict:=none,data:=.seq ([]:List Value).toArray }=H2 at hns₁ hsb₁ ⊢;have hC:H2.objs.size=s.heap.objs.size+1:=by rw [← hH2,Heap.size_push]
 rw [hC] at hns₁ hsb₁ ⊢;have hDC:s.heap.objs.size≠s.heap.objs.size+1:=zC2 (zF0 _);have below:∀ b,b<s.heap.objs.size->b≠s.heap.objs.size+1/\b≠s.heap.objs.size:=fun b hb=>⟨zC2 (zG2 hb),zC2 hb⟩
 have old:∀ b o,s.heap.get? b=some o->h₁.get? b=some o:=fun b o e=>hsb₁.extBut b o (below b (Heap.lt_size e)).1 (Heap.get?_push_of_some _ (hH2▸Heap.get?_push_of_some _ e));have hacc:h₁.get? s.heap.objs.size=some (dH [] 0):=hsb₁.extBut _ _ hDC (Heap.get?_push_of_some _ (hH2▸Heap.get?_push_size _ rfl));have hlt:∀ b∈fp,b<s.heap.objs.size:=fun b hb=>by
  obtain ⟨o,e,_⟩:=T.obj 0 _ st b hb;exact Heap.lt_size e
 have I₁:=fun tk=>m5 (tk:=tk) co I hf hlt hns₁ old hacc;have st₁:tn 0 h₁:=T.keep 0 _ _ st fun b _ o e=>old b o e;have fpD:∀ {H':Hp},H' s.heap.objs.size=none->fD X pins H' s.heap.objs.size:=fun hn=>I.fpOk (zA1 _) hn;have loop:∀ tk:Nat,codeAny .(15) X.A (.compLoop .(20) 0 (.ref it) (.ref s.heap.objs.size) (compEnvC scope (cX X.env scope.names []) .(16) X.env))
  (RR (.ref s.heap.objs.size) .(16)) { s with heap:=h₁,toks:=tk }:=by
  intro tk;refine fv (fun n s'=>∃ i H' ys its k,Inv (cW X nv ix scope .(16) s H fp) [(s.heap.objs.size,dH its k)] (st0 nv ix σ) H' s'/\Vals ys its/\ys.length<=sizeLine/\tn i s'.heap/\(∀ b∈fp,H' b=none)/\W i n ys H')
   ?_ m0 ⟨0,H,[],[],0,I₁ tk,.nil,zB0 _,st₁,fun b hb=>(hf b hb).1,w0⟩
  rintro n s3 ⟨i,H3,ys,its,k,I3,rv,hz,st3,fr3,w3⟩;have fpc:∀ {H':Hp} {its:List Value} {k:Nat},(∀ b∈fp,H' b=none)->∀ b∈fp,fD (cW X nv ix scope .(16) s H fp) [(s.heap.objs.size,dH its k)] H' b:=fun {H' its k} hn b hb=>by
   refine ⟨hn b hb,(below b (hlt b hb)).1,fun hs=>?_,.inl hb,fun x c e=>(hf b hb).2.2.2.2.1 x c (co.look I.ok e),fun p hp z=>?_⟩
   · rcases zA8.mp (I.stkSub b hs) with e | h
     · exact (hf b hb).2.1 e
     · exact (hf b hb).2.2.1 h
   · have e:p=(s.heap.objs.size,dH its k):=by simpa [cW] using hp
     subst e;exact (below b (hlt b hb)).2 z.symm
  have pD:=fun {ps:List (Addr×Obj)} {σ':St} {H':Hp} {s':Shared} (I':Inv (cW X nv ix scope .(16) s H fp) ((s.heap.objs.size,dH its k)::ps) σ' H' s')=>
   I'.pin (s.heap.objs.size,dH its k) (zB2 _ zA3)
  rcases turn i n ys H3 w3 with ⟨stop,fin0⟩ | ⟨go,hlt',N,hN,step⟩
  · refine thn (T.done (cW X nv ix scope .(16) s H fp) rfl rfl rfl hc i _ s3 _ H3 _ I3 (fpc fr3) st3 stop) fun r s4 ⟨hr,I4⟩=>?_;subst hr;obtain ⟨p1,p2,_⟩:=pD I4;have I5:=(uT I hf I4).track rv hz p1 p2 (fpD p2);obtain ⟨mC,hmC,_⟩:=I4.loc;exact fin _ _ s4 H3 ys I5 p2 fin0 ⟨mC,hmC⟩ (I.fpOk (zF7 _) (by rw [aH (Ne.symm hDC)];exact I4.free))
  · refine thn (T.item (cW X nv ix scope .(16) s H fp) rfl rfl rfl hc i _ s3 _ H3 _ I3 (fpc fr3) st3 go) fun r s4 ⟨u,hr,h4⟩=>?_;subst hr;refine thn h4 fun _ s5 ⟨x,H5,I5,r5,y5,st5,fr5⟩=>?_;have I5':=I5.pinned (fpc fr5) (T.obj _ _ st5);refine thn (hg _ _ _ _ _ s5 _ H5 x u _ I5' r5 (kg _ _ _ _ (step x H5 y5))) fun _ s6 ⟨σ6,H6,I6,kp,q6⟩=>?_;refine thn (hi _ _ _ _ _ s6 σ6 H6 _ I6 q6) fun b s7 ⟨H7,I7,q7⟩=>?_;have again:∀ {s7:Shared} {H7:Hp} {ys' its':List _} {k':Nat},Inv (cW X nv ix scope .(16) s H fp) ([(s.heap.objs.size,dH its' k')]++bU fp s5.heap) σ6 H7 s7->Vals ys' its'->ys'.length<=sizeLine->N ys' H7 ->
     ∃ m,m<n/\∃ i H' ys its k,Inv (cW X nv ix scope .(16) s H fp) [(s.heap.objs.size,dH its k)] (st0 nv ix σ) H' s7/\Vals ys its/\ys.length<=sizeLine/\tn i s7.heap/\(∀ b∈fp,H' b=none)/\W i m ys H':=fun {s7 H7 ys' its' k'} I8 rv' hz' n8=>by
     obtain ⟨m',hm,w8⟩:=hN _ _ n8;have pn:=fun (b:Addr) (o:Obj) (hb:b∈fp) (e:s5.heap.get? b=some o)=>I8.pin (b,o) (zB2 _ (zB2 _ (cL hb e)));refine ⟨m',hm,i+1,H7,ys',its',k',(I8.unpinned).weak kp.1 kp.2,rv',hz',T.keep _ _ _ st5 fun b hb o e=>(pn b o hb e).1,fun b hb=>?_,w8⟩;obtain ⟨o,e,d⟩:=T.obj _ _ st5 b hb;exact (pn b o hb e).2.1
    cases b with
    | false=>
      rw [if_neg zB1] at q7 ⊢
      exact again I7 rv hz q7
    | true=>
      rw [if_pos rfl] at q7 ⊢
      refine thn (he _ _ _ _ _ s7 σ6 H7 _ I7 q7) fun u8 s8 ⟨y,H8,I8,r8,q8⟩=>?_
      obtain ⟨p1,p2,p3,p4,p5⟩:=pD I8
      refine append_at (hsz:=by rw [zA2,← rv.length];exact zH0 hlt') p1 fun h9 hs9 hD9=>?_
      have I9:Inv (cW X nv ix scope .(16) s H fp) (bU fp s5.heap) σ6 H8 { s8 with heap:=h9 }:=by
       have Iu:Inv (cW X nv ix scope .(16) s H fp) (bU fp s5.heap) σ6 H8 s8:=I8.pins_of fun p hp=>I8.pin p (zB2 _ (zB2 _ hp));refine Iu.turned (t':=s8.toks) (it:=s.heap.objs.size) (fun b o hb e=>(hs9.2 b hb).trans e) p2 p3 (.inr (zA1 _)) (fun x c e z=>?_) fun p hp z=>?_
       · obtain ⟨v,o,e1,_⟩:=I.cell x c (co.look I.ok e);exact absurd (Heap.lt_size e1) (by rw [z];exact zD8 _)
       · have hp':p∈bU fp s5.heap:=by simpa [cW] using hp
         obtain ⟨hb,_⟩:=eX hp';exact (below _ (hlt _ hb)).2 z
      have I10:Inv (cW X nv ix scope .(16) s H fp) ([(s.heap.objs.size,dH (its++[u8]) (k+1))]++bU fp s5.heap) σ6 H8 { s8 with heap:=h9 }:=
       I9.pins_of fun p hp=>by
        rcases zB7.mp hp with hp | hp
        · have e:p=(s.heap.objs.size,dH (its++[u8]) (k+1)):=by simpa using hp
          subst e;refine ⟨?_,p2,p3,p4,fun v z=>by cases z⟩;rw [List.push_toArray] at hD9;exact hD9
        · exact I9.pin p (zB2 _ hp)
      exact again I10 (rv.append (.cons r8 .nil)) (by rw [zA4,zG7];exact hlt') q8
 exact codeAny_compStart_list (loop _) (T.self _ 0 _ _ _ st₁ (loop _))
def jV (nv:List Str) (ix:List (Str×Nat)) (wi:TI) (g:TG) (ti:TT) (te:TE):TE:=fun σ H Q=>wi σ H fun J H1=>rW nv ix g ti te σ J (fun ys H2=>∀ D,H2 D=none->Q (.ref D) (upd H2 D (.lst ys))) H1
theorem tM {wi:TI} {g:TG} {ti:TT} {te:TE} (nv:List Str) (ix:List (Str×Nat)) (hc:X.calm=true) (co:CompOk X nv ix scope) (hit:PI X tg iter wi) (kg:KpG nv g) (hg:∀ C s₀ H₀ fp,PG .(27) tg g)
 (hi:∀ C s₀ H₀ fp,PIf .(27) ifs ti) (he:∀ C s₀ H₀ fp,PE .(27) elt te)
 (hs:∀ x,foldedSetIterable iter X.env x=pure x:=by intro _;rfl):PE X .(20) (jV nv ix wi g ti te):=by
 intro pins s σ H Q I h;rw [eval_ListComp];refine wpAny_comprehension_free (use:=none) rfl hs (dM (co.cells I.ok)) co.kind co.names (thn (hit pins s σ H _ I h) fun v s1 h1=>thn h1 fun itv s2 h2=>?_);obtain ⟨it,fp,tn,J,H2,e,I2,T,st2,f2,q⟩:=h2;subst e;refine jL co hc I2 T st2 f2 kg hg hi he q fun D C s' H' ys I' hD fin ⟨m,hm⟩ hC=>?_;obtain ⟨c0,c1,c2,c3,c4,c5⟩:=hC;exact ⟨m,hm,fun h' hs'=>⟨.ref D,_,I'.turned (t':=s'.toks) (fun b o hb e=>(hs'.2 b hb).trans e) c0 c1 c3 c4 c5,rfl,fin D hD⟩⟩
theorem aQ {wi:TI} {g:TG} {ti:TT} {te:TE} (nv:List Str) (ix:List (Str×Nat)) (hc:X.calm=true) (co:CompOk X nv ix scope) (hit:ZI X tg iter wi) (kg:KpG nv g) (hg:∀ C s₀ H₀ fp,ZG .(27) tg g)
 (hi:∀ C s₀ H₀ fp,ZIf .(27) ifs ti) (he:∀ C s₀ H₀ fp,ZE .(27) elt te)
 (hs:∀ x,foldedSetIterable iter X.env x=pure x:=by intro _;rfl):ZE X .(20) (jV nv ix wi g ti te):=by with_unfolding_all exact tM nv ix hc co hit kg hg hi he hs
theorem jY {wi:TI} {g:TG} {ti:TT} {te:TE} {i:Nat} {y:Str} {py spos:Pos} (nv:List Str) (ix:List (Str×Nat)) (hc:X.calm=true) (hN:X.N.Nodup) (hi':X.N[i]? = some y) (hy:Loc X.env.scope y) (co:CompOk X nv ix scope) (hit:PI X tg iter wi) (kg:KpG nv g)
 (hg:∀ C s₀ H₀ fp,PG .(27) tg g) (hi:∀ C s₀ H₀ fp,PIf .(27) ifs ti) (he:∀ C s₀ H₀ fp,PE .(27) elt te)
 (hsw:swapsWith .(20) (some (.Name y py)) spos.line X.env=pure true:=by rfl)
 (hs:∀ x,foldedSetIterable iter X.env x=pure x:=by intro _;rfl) (hfn:X.fn y=true\/X.env.scope.names.lookup y=some .local:=by first | exact .inl rfl | exact .inr rfl | assumption) :
 PS X (.Assign [.Name y py] .(20) spos) (vf (jV nv ix wi g ti te) (fJ i)):=by
 intro pins s σ H D I h;rw [exec_Assign_Name_used _ _ _ _ hsw];refine wpAny_bind (wpAny_standAt (wpAny_bind ?_));show wpAny _ X.A (do let _ ← comprehension .(20) scope X.env _ (newList []) false (eval iter X.env) (some (assign (.Name y py) X.env))) _ _ s;refine wpAny_bind (wpAny_mono (wpAny_comprehension_free (use:=some (assign (.Name y py) X.env)) (Q:=fun _ s'=>SP X pins D .next s') rfl hs (dM (co.cells I.ok)) co.kind co.names
  (thn (hit pins s σ H _ I h) fun v s1 h1=>thn h1 fun itv s2 h2=>?_)) (fun _ s' hq=>wpAny_pure (wpAny_pure hq)) fun _ _ e=>e)
 obtain ⟨it,fp,tn,J,H2,e,I2,T,st2,f2,q⟩:=h2;subst e;refine jL co hc I2 T st2 f2 kg hg hi he q fun DD C s' H' ys I' hD fin ⟨m,hm⟩ hC=>?_;obtain ⟨c0,c1,c2,c3,c4,c5⟩:=hC;show wpAny _ X.A (assign (.Name y py) X.env (.ref DD)) _ _ s';refine wpAny_assign_Name (g6 I' hN hi' hy (show RelV (.ref DD) (.ref DD) from rfl) (fun s'' I'' ⟨a,sb,ha⟩=>?_) hfn);have hCa:C≠a:=by
  rcases ha with rfl | ha
  · exact c1
  · exact fun z=>c4 y a ha z.symm
 refine ⟨m,hm.sameBut sb hCa,fun h' hs'=>⟨_,_,I''.turned (t':=s''.toks) (fun b o hb e=>(hs'.2 b hb).trans e) c0 c1 c3 c4 c5,fin DD hD⟩⟩
theorem fK {wi:TI} {g:TG} {ti:TT} {te:TE} {i:Nat} {y:Str} {py spos:Pos} (nv:List Str) (ix:List (Str×Nat)) (hc:X.calm=true) (hN:X.N.Nodup) (hi':X.N[i]? = some y) (hy:Loc X.env.scope y) (co:CompOk X nv ix scope) (hit:ZI X tg iter wi) (kg:KpG nv g)
 (hg:∀ C s₀ H₀ fp,ZG .(27) tg g) (hi:∀ C s₀ H₀ fp,ZIf .(27) ifs ti) (he:∀ C s₀ H₀ fp,ZE .(27) elt te)
 (hsw:swapsWith .(20) (some (.Name y py)) spos.line X.env=pure true:=by rfl)
 (hs:∀ x,foldedSetIterable iter X.env x=pure x:=by intro _;rfl) (hfn:X.fn y=true\/X.env.scope.names.lookup y=some .local:=by first | exact .inl rfl | exact .inr rfl | assumption) :
 ZS X (.Assign [.Name y py] .(20) spos) (vf (jV nv ix wi g ti te) (fJ i)):=by with_unfolding_all exact jY nv ix hc hN hi' hy co hit kg hg hi he hsw hs hfn
end
section
variable {nv:List Str} {ix:List (Str×Nat)} {σ:St} {H:Hp} {g:TG} {ti:TT} {te:TE} {Fin:List V->Hp->Prop} {K:PySem.W.Frag} {a:Addr} {xs:List V}
theorem bW (Pv:Nat->List V->Hp->Prop) (h0:Pv 0 [] H) (hl:∀ i ys H,i<=xs.length->Pv i ys H->SqL K H a xs)
 (hs:∀ i x ys H,xs[i]? = some x->Pv i ys H->ys.length<sizeLine/\g x (st0 nv ix σ) H fun σ2 H2=>ti σ2 H2 fun b H3=>if b=true then te σ2 H3 fun y H4=>Pv (i+1) (ys++[y]) H4 else Pv (i+1) ys H3)
 (hd:∀ ys H,Pv xs.length ys H->Fin ys H):rW nv ix g ti te σ (Itl K a) Fin H:=by
 refine ⟨fun i m ys H=>m=xs.length - i/\i<=xs.length/\Pv i ys H,⟨xs.length,by simp,zB0 _,h0⟩,?_⟩;rintro i m ys H ⟨rfl,hi,p⟩;have q:=hl i ys H hi p;by_cases hlt:i<xs.length
 · have e:=hs i xs[i] ys H (by simp [hlt]) p;refine .inr ⟨⟨xs,xs[i],q,by simp [hlt]⟩,e.1,Pv (i+1),fun σ' H' p'=>⟨xs.length - (i+1),by lia,rfl,hlt,p'⟩,fun x H' y=>?_⟩;obtain ⟨e',y⟩:=y;subst e';exact (hs i x ys _ (y xs q) p).2
 · have e:i=xs.length:=by lia
   subst e;exact .inl ⟨⟨xs,q,zA1 _⟩,hd ys H p⟩
theorem bQ (Pv:Nat->List V->Hp->Prop) (h0:Pv 0 [] H) (hl:∀ i ys H,i<=xs.length->Pv i ys H->SqT K H a xs)
 (hs:∀ i x ys H,xs[i]? = some x->Pv i ys H->ys.length<sizeLine/\g x (st0 nv ix σ) H fun σ2 H2=>ti σ2 H2 fun b H3=>if b=true then te σ2 H3 fun y H4=>Pv (i+1) (ys++[y]) H4 else Pv (i+1) ys H3)
 (hd:∀ ys H,Pv xs.length ys H->Fin ys H):rW nv ix g ti te σ (Itt K a) Fin H:=by
 refine ⟨fun i m ys H=>m=xs.length - i/\i<=xs.length/\Pv i ys H,⟨xs.length,by simp,zB0 _,h0⟩,?_⟩;rintro i m ys H ⟨rfl,hi,p⟩;have q:=hl i ys H hi p;by_cases hlt:i<xs.length
 · have e:=hs i xs[i] ys H (by simp [hlt]) p;refine .inr ⟨⟨xs,xs[i],q,by simp [hlt]⟩,e.1,Pv (i+1),fun σ' H' p'=>⟨xs.length - (i+1),by lia,rfl,hlt,p'⟩,fun x H' y=>?_⟩;obtain ⟨e',y⟩:=y;subst e';exact (hs i x ys _ (y xs q) p).2
 · have e:i=xs.length:=by lia
   subst e;exact .inl ⟨⟨xs,q,zA1 _⟩,hd ys H p⟩
theorem cj {lo:Int} {n:Nat} (Pv:Nat->List V->Hp->Prop) (h0:Pv 0 [] H)
 (hs:∀ i ys H,i<n->Pv i ys H->ys.length<sizeLine/\g (.int (lo+i)) (st0 nv ix σ) H fun σ2 H2=>ti σ2 H2 fun b H3=>if b=true then te σ2 H3 fun y H4=>Pv (i+1) (ys++[y]) H4 else Pv (i+1) ys H3)
 (hd:∀ ys H,Pv n ys H->Fin ys H):rW nv ix g ti te σ (Itr lo n) Fin H:=by
 refine ⟨fun i m ys H=>m=n - i/\i<=n/\Pv i ys H,⟨n,by simp,zB0 _,h0⟩,?_⟩;rintro i m ys H ⟨rfl,hi,p⟩;by_cases hlt:i<n
 · refine .inr ⟨hlt,(hs i ys H hlt p).1,Pv (i+1),fun σ' H' p'=>⟨n - (i+1),by lia,rfl,hlt,p'⟩,fun x H' y=>?_⟩;obtain ⟨e',y⟩:=y;subst e' y;exact (hs i ys _ hlt p).2
 · have e:i=n:=by lia
   subst e;exact .inl ⟨zA1 _,hd ys H p⟩
end
theorem Same.new {H:Hp} {p:Addr} (h:H p=none) (o:HO):Same H (upd H p o):=fun b u q=>by rw [aH (bo q h)];exact q
section
variable {X:Cx} {a b c:Expr} {ta tb tc:TE} {pos:Pos}
theorem tZ:OpR X (binaryOp .Mult) (rI (fun i j=>IntMulOk i j) fun i j=>.int (i*j)):=opI fun _ _ _ _ _ _ _ hc q=>mul_int q hc
end
section
variable {prog:Program} {w:World} {A:Around} {E:Value->Shared->Prop} {s:Shared}
theorem cV {t sl:Addr} {items:Array Value} {vl vu:Value} {lo hi:Option Int} {Q:.(21)} (ht:IsTup s.heap t items) (hs:s.heap.IsSliceOf sl vl vu .none) (pl:IsPart vl lo) (pu:IsPart vu hi)
 (hw:HT.sIx items.size 0 lo=0/\HT.sIx items.size items.size hi=items.size)
 (h:Q (.ref t) s):wpAny .(18) A (getItem (.ref t) (.ref sl)) Q E s:=by
 obtain ⟨os,hos,hcs,hds⟩:=id hs;have hTs:s.TypeIs (.ref sl) "slice":=⟨os,hos,hcs⟩
 unfold getItem;try with_reducible refine wpAny_holding ?_
 first | refine wpAny_bind (wpAny_pure ?_) | skip
 refine wpAny_bind (wpAny_sequenceKey ht.typeIs (by decide) ?_);refine wpAny_bind (wpAny_callSpecial?_slot (name:=Str.ofString "__getitem__") ht.typeIs PyProof.Rows.slot_tuple_getitem
  (wpAny_call_entry PyProof.Rows.slot_tuple_getitem ht.typeIs entry_tuple_getitem ?_ (args_tuple_getitem _ _)))
 show wpAny _ _ (Builtin.Tuple.tupleItemsOf (.ref t) >>= _) _ _ s;refine wpAny_bind (tupleItemsOf_ ht ?_);refine wpAny_bind (wpAny_typeOf hTs ?_);rw [if_pos (by decide)];refine wpAny_bind (HT.sliceApplied_gen hs pl pu ?_);have hyes:((((HT.sIx items.size 0 lo:Nat):Int) == 0&&(1:Int) == 1&&(HT.sIx items.size items.size hi - HT.sIx items.size 0 lo) == items.size)=true):=by
  rw [hw.1,hw.2];simp
 show wpAny _ _ (if (((HT.sIx items.size 0 lo:Nat):Int) == 0&&(1:Int) == 1&&(HT.sIx items.size items.size hi - HT.sIx items.size 0 lo) == items.size)=true then _ else _) _ _ s;rw [if_pos hyes];refine wpAny_bind (m:=Builtin.Tuple.tupleIsExact _) ?_;unfold Builtin.Tuple.tupleIsExact;refine wpAny_bind (wpAny_typeOf ht.typeIs (wpAny_pure ?_));rw [if_pos (by decide)];exact wpAny_bind (wpAny_rule (wpAny_pure ⟨_,rfl,wpAny_pure h⟩))
end
section
variable {X:Cx} {a b c:Expr} {ta tb tc:TE} {pos:Pos}
def rSlP (K:PySem.W.Frag):V->Option Int->Option Int->Hp->VK->Prop:=fun x lo hi H Q=>∃ a,x=.ref a/\((∃ xs,H a=some (.tup xs)/\∀ r H',Same H H'->H' r=some (.tup (fu xs lo hi))->Q (.ref r) H') \/
 ∃ xs,SqL K H a xs/\∀ p,H p=none->Q (.ref p) (upd H p (.lst (fu xs lo hi))))
theorem nW:SlR X (rSlP X.K):=by
 intro pins s σ H x v vl vu lo hi sl Q I rx hs pl pu h;obtain ⟨a,rfl,⟨xs,hx,q⟩ | ⟨xs,hx,q⟩⟩:=h
 · by_cases hw:HT.sIx xs.length 0 lo=0/\HT.sIx xs.length xs.length hi=xs.length
   · cases rx
     obtain ⟨its,r,ht,hz⟩:=I.tuple (SqT.of hx);have hlen:its.toArray.size=xs.length:=by rw [zA2];exact r.length.symm
     refine ⟨"tuple",_,PyProof.Rows.slot_tuple_getitem.lookup,ht.typeIs,?_⟩;refine cV ht hs pl pu (by rw [hlen];exact hw) ⟨.ref a,H,I,rfl,q a H (Same.refl H) ?_⟩;rw [hx];unfold fu;rw [hw.1,hw.2,List.drop_zero,Nat.sub_zero,zA6 (zA1 _)]
   · exact sl_tup pins s σ H _ v vl vu lo hi sl Q I rx hs pl pu ⟨a,xs,rfl,SqT.of hx,hw,fun p hp=>q p _ (Same.new hp _) af⟩
 · exact sK pins s σ H _ v vl vu lo hi sl Q I rx hs pl pu ⟨a,xs,rfl,hx,q⟩
theorem PE.imp {e:Expr} {t t':TE} (h:PE X e t) (i:∀ σ H Q,t' σ H Q->t σ H Q):PE X e t':=fun pins s σ H Q I q=>h pins s σ H Q I (i σ H Q q)
theorem OpR.imp {f:Value->Value->Sem Value} {r r':R2} (h:OpR X f r) (i:∀ x y H Q,r' x y H Q->r x y H Q):OpR X f r':=fun pins s σ H x y v u Q I rx ry q=>h pins s σ H x y v u Q I rx ry (i x y H Q q)
def tV (i:Nat):TE:=fun σ H Q=>match σ[i]? with | some (some v)=>Q v H | _=>False
theorem tV_var {i:Nat} (σ:St) (H:Hp) (Q:VK) (h:tV i σ H Q):tVar i σ H Q:=by
 unfold tV at h;split at h
 · exact ⟨_,by assumption,h⟩
 · exact h.elim
theorem pn (i:Nat) {x:Str} {pos:Pos} (hN:X.N[i]? = some x:=by rfl) (hv:Vis X.env.scope x:=by first | exact Or.inl rfl | exact Or.inr .(8) | exact Or.inr (Or.inr rfl)) (hd:.(25)=false:=by decide)
 (hcd:(x == ("__classdict__" : Str))=false:=by decide):PE X (.Name x pos) (tV i):=(pe_var hN hv hd hcd).imp tV_var
theorem zn (i:Nat) {x:Str} {pos:Pos} (hN:X.N[i]? = some x:=by rfl) (hv:Vis X.env.scope x:=by first | exact Or.inl rfl | exact Or.inr .(8) | exact Or.inr (Or.inr rfl)) (hd:.(25)=false:=by decide)
 (hcd:(x == ("__classdict__" : Str))=false:=by decide):ZE X (.Name x pos) (tV i):=by with_unfolding_all exact pn i hN hv hd hcd
def sT (K:PySem.W.Frag):R2:=fun x y H Q=>match x,y with
 | .int i,.int j=>Q (.int (i+j)) H
 | .str i,.str j=>i.length+j.length<=sizeLine/\Q (.str (i++j)) H
 | .ref a,.ref b=>(∃ xs ys,H a=some (.lst xs)/\H b=some (.lst ys)/\xs.length+ys.length<=sizeLine/\∀ p,H p=none->Q (.ref p) (upd H p (.lst (xs++ys)))) \/
  ∃ xs ys,H a=some (.tup xs)/\H b=some (.tup ys)/\xs.length+ys.length<=sizeLine/\∀ r H',Same H H'->H' r=some (.tup (xs++ys))->Q (.ref r) H'
 | _,_=>False
theorem pG:OpR X (binaryOp .Add) (fun x y H Q=>∃ a b xs ys,x=.ref a/\y=.ref b/\H a=some (.tup xs)/\H b=some (.tup ys)/\xs.length+ys.length<=sizeLine/\∀ r H',Same H H'->H' r=some (.tup (xs++ys))->Q (.ref r) H'):=by
 sleep 0;obtain ⟨a,b,xs,ys,rfl,rfl,ha,hb,hz,q⟩:=h;by_cases hx:xs=[]
 · subst hx
   cases rx
   cases ry
   obtain ⟨its,r1,p1,_⟩:=I.tuple (SqT.of ha);obtain ⟨its2,r2,p2,_⟩:=I.tuple (SqT.of hb)
   cases r1
   obtain ⟨⟨cls,dd,data,sl⟩,ho,hc,n,hd⟩:=id p1;obtain ⟨⟨cls2,dd2,data2,sl2⟩,ho2,hc2,n2,hd2⟩:=id p2;simp only at hc hd hc2 hd2;subst hc hd hc2 hd2;exact concat_meets ⟨_,ho,rfl⟩ ⟨_,ho2,rfl⟩ noFill_tuple_add seq_tuple_add PySem.F.slot_tuple_add PySem.F.entry_tuple_add (PySem.F.args_tuple_add_2 _ _)
    (tuple_addW0 a b _ _ n n2 dd dd2 sl sl2 (by rfl)) ⟨ho,ho2,⟨.ref b,H,I,rfl,q b H (Same.refl H) hb⟩⟩
 · refine t8 pins s σ H _ _ v u Q I rx ry ⟨a,b,xs,ys,rfl,rfl,SqT.of ha,SqT.of hb,hx,hz,fun e=>?_,fun e p hp=>?_⟩
   · subst e;exact q a H (Same.refl H) (by rw [zC9];exact ha)
   · exact q p _ (Same.new hp _) af
theorem aB:OpR X (binaryOp .Add) (sT X.K):=by
 sleep 0;unfold sT at h;split at h
 · exact op_add pins s σ H _ _ v u Q I rx ry ⟨_,_,rfl,rfl,h⟩
 · exact j3 pins s σ H _ _ v u Q I rx ry ⟨_,_,rfl,rfl,h⟩
 · rcases h with ⟨xs,ys,h1,h2,h3,q⟩ | ⟨xs,ys,h1,h2,h3,q⟩
   · exact op_cat pins s σ H _ _ v u Q I rx ry ⟨_,_,xs,ys,rfl,rfl,h1,h2,h3,q⟩
   · exact pG pins s σ H _ _ v u Q I rx ry ⟨_,_,xs,ys,rfl,rfl,h1,h2,h3,q⟩
 · exact h.elim
def rP (C:Int->Int->Prop) (g:Int->Int->V):R2:=fun x y H Q=>match x,y with | .int i,.int j=>C i j/\Q (g i j) H | _,_=>False
def rP0 (g:Int->Int->V):R2:=fun x y H Q=>match x,y with | .int i,.int j=>Q (g i j) H | _,_=>False
theorem sQ {C:Int->Int->Prop} {g:Int->Int->V} (x y:V) (H:Hp) (Q:VK) (h:rP C g x y H Q):rI C g x y H Q:=by
 unfold rP at h;split at h
 · exact ⟨_,_,rfl,rfl,h⟩
 · exact h.elim
theorem eU {g:Int->Int->V} (x y:V) (H:Hp) (Q:VK) (h:rP0 g x y H Q):rI0 g x y H Q:=by
 unfold rP0 at h;split at h
 · exact ⟨_,_,rfl,rfl,h⟩
 · exact h.elim
theorem aP:OpR X (binaryOp .Sub) (rP0 fun i j=>.int (i - j)):=op_sub.imp eU
theorem bn:OpR X (binaryOp .Mod) (rP (fun _ j=>0<j) fun i j=>.int (i % j)):=op_mod.imp sQ
theorem cK:OpR X (binaryOp .FloorDiv) (rP CDiv fun i j=>.int (i / j)):=op_fdiv.imp sQ
theorem lW:OpR X (binaryOp .Pow) (rP CPow fun i j=>.int (i ^ j.toNat)):=op_pow.imp sQ
theorem fW:OpR X (compareOp .Lt) (rP0 fun i j=>.bl (decide (i<j))):=op_lt.imp eU
theorem hV:OpR X (compareOp .LtE) (rP0 fun i j=>.bl (decide (i<=j))):=op_le.imp eU
theorem cw:OpR X (compareOp .Gt) (rP0 fun i j=>.bl (decide (j<i))):=op_gt.imp eU
theorem lY:OpR X (compareOp .GtE) (rP0 fun i j=>.bl (decide (j<=i))):=op_ge.imp eU
def rIsP (neg:Bool):R2:=fun x y H Q=>match y with
 | .non=>Q (.bl (if neg then !decide (x=y) else decide (x=y))) H
 | .bl _=>match x with
   | .flt _=>False
   | .byt _=>False
   | .ty _=>False
   | _=>Q (.bl (if neg then !decide (x=y) else decide (x=y))) H
 | _=>False
end
mutual
inductive DatV (H:Hp):V->PyData->Prop where
 | non:DatV H .non .none
 | bl (b:Bool):DatV H (.bl b) (.bool b)
 | int (i:Int):DatV H (.int i) (.int i)
 | str (x:Str):DatV H (.str x) (.str x)
 | lst {a:Addr} {xs:List V} {ds:List PyData} (e:H a=some (.lst xs)) (r:DatAll H xs ds):DatV H (.ref a) (.list ds)
 | tup {a:Addr} {xs:List V} {ds:List PyData} (e:H a=some (.tup xs)) (r:DatAll H xs ds):DatV H (.ref a) (.tuple ds)
inductive DatAll (H:Hp):List V->List PyData->Prop where
 | nil:DatAll H [] []
 | cons {x:V} {d:PyData} {xs:List V} {ds:List PyData} (h:DatV H x d) (r:DatAll H xs ds):DatAll H (x::xs) (d::ds)
end
theorem DatAll.ints {H:Hp}:∀ ns:List Int,DatAll H (ns.map V.int) (ns.map PyData.int)
 | []=>.nil
 | n::r=>.cons (.int n) (DatAll.ints r)
section
variable {X:Cx} {pins:List (Addr×Obj)} {σ:St} {H:Hp} {s:Shared}
mutual
theorem DatV.reads (I:.(14)):∀ {x:V} {d:PyData} {v:Value},DatV H x d->RelV x v->∃ as,Reads s.heap v d as
 | _,_,_,.non,r=>by cases r;exact ⟨_,.none⟩
 | _,_,_,.bl b,r=>by cases r;exact ⟨_,.bool b⟩
 | _,_,_,.int i,r=>by obtain ⟨t,rfl⟩:=r;exact ⟨_,.int i t⟩
 | _,_,_,.str x,r=>by obtain ⟨t,rfl⟩:=r;exact ⟨_,.str x t⟩
 | _,_,_,.lst e q,r=>by
   cases r
   obtain ⟨_,its,n,rv,h⟩:=I.lstM e;obtain ⟨_,h⟩:=h;obtain ⟨as,z⟩:=DatAll.reads I q rv;exact ⟨_,reads_list_at h rfl rfl z⟩
 | _,_,_,.tup e q,r=>by
   cases r
   obtain ⟨its,rv,⟨o,h1,h2,n,h3⟩,_⟩:=I.tuple (SqT.of e);obtain ⟨as,z⟩:=DatAll.reads I q rv;exact ⟨_,reads_tuple_at h1 h2 h3 z⟩
theorem DatAll.reads (I:.(14)):∀ {xs:List V} {ds:List PyData} {vs:List Value},DatAll H xs ds->Vals xs vs->∃ as,ReadsAll s.heap vs ds as
 | _,_,_,.nil,r=>by cases r;exact ⟨_,.nil⟩
 | _,_,_,.cons h q,r=>by
   cases r with
   | cons r1 r2=>
     obtain ⟨as,z⟩:=DatV.reads I h r1
     obtain ⟨bs,y⟩:=DatAll.reads I q r2
     exact ⟨_,.cons z y⟩
end
end
section
variable {X:Cx} {a b c:Expr} {ta tb tc:TE} {pos:Pos}
def rEqD (neg:Bool):R2:=fun x y H Q=>match scal x y with
 | true=>Q (.bl (if neg then !decide (x=y) else decide (x=y))) H
 | false=>∃ d e,DatV H x d/\DatV H y e/\SeqAt.shaped d=true/\SeqAt.shaped e=true/\Q (.bl (if neg then !PyData.eqv d e else PyData.eqv d e)) H
theorem av (hu:X.A.units+64<cLine):OpR X (compareOp .Eq) (rEqD false):=by
 sleep 0;unfold rEqD at h;split at h
 · exact op_eq pins s σ H x y v u Q I rx ry ⟨by assumption,h⟩
 · obtain ⟨d,e,h1,h2,h3,h4,q⟩:=h;obtain ⟨as,r1⟩:=h1.reads I rx;obtain ⟨bs,r2⟩:=h2.reads I ry;exact eq_dataH r1 r2 h3 h4 hu ⟨.bl _,H,I,rfl,q⟩
theorem bg (hu:X.A.units+64<cLine):OpR X (compareOp .NotEq) (rEqD true):=by
 sleep 0;unfold rEqD at h;split at h
 · exact op_ne pins s σ H x y v u Q I rx ry ⟨by assumption,h⟩
 · obtain ⟨d,e,h1,h2,h3,h4,q⟩:=h;obtain ⟨as,r1⟩:=h1.reads I rx;obtain ⟨bs,r2⟩:=h2.reads I ry;exact ne_dataH r1 r2 h3 h4 hu ⟨.bl _,H,I,rfl,q⟩
theorem hW:OpR X (compareOp .Is) (rIsP false):=by
 sleep 0;unfold rIsP at h;split at h
 · exact op_isN pins s σ H x _ v u Q I rx ry ⟨rfl,h⟩
 · rename_i k
   cases ry
   split at h
   · exact h.elim
   · exact h.elim
   · exact h.elim
   · rename_i hf hb ht
     cases x with
     | non=>cases rx;exact wpAny_is_plain rfl (aM I h (by simp))
     | bl j=>cases rx;exact wpAny_is_plain rfl (aM I h (by rw [zH8];simp))
     | int j=>obtain ⟨t,rfl⟩:=rx;exact wpAny_is_plain rfl (aM I h (by simp))
     | str j=>obtain ⟨t,rfl⟩:=rx;exact wpAny_is_plain rfl (aM I h (by simp))
     | byt j=>exact absurd rfl (hb j)
     | flt j=>exact absurd rfl (hf j)
     | ref j=>cases rx;exact wpAny_is_plain rfl (aM I h (by simp))
     | ty j=>exact absurd rfl (ht j)
 · exact h.elim
def tBlP (t:TE):TT:=fun σ H Q=>t σ H fun x H1=>match x with | .bl c=>Q c H1 | _=>False
theorem blP {x:V} {P:Bool->Prop} (h:match x with | .bl c=>P c | _=>False):∃ c,x=.bl c/\P c:=by
 cases x <;> first | exact ⟨_,rfl,h⟩ | exact h.elim
theorem s9 {op:CmpOp} {r:R2} (ho:OpR X (compareOp op) r) (ha:PE X a ta) (hb:PE X b tb) (hm:behindInMarks op b=false):PT X (.Compare a [op] [b] pos) (tBlP (tOp r ta tb)):=by
 intro pins s σ H Q I h;refine wpAny_isTrue_Compare1 (binT ha hb I h fun v u s2 x y H2 I2 rx ry q=>?_) hm;refine thn (ho pins s2 σ H2 x y v u _ I2 rx ry q) fun z s3 ⟨w',H3,I3,r3,q3⟩=>?_;obtain ⟨k,rfl,q3⟩:=blP q3
 cases r3
 exact wpAny_truthy_bool ⟨H3,I3,q3⟩
theorem aj {op:CmpOp} {r:R2} (ho:OpR X (compareOp op) r) (ha:ZE X a ta) (hb:ZE X b tb) (hm:behindInMarks op b=false):ZT X (.Compare a [op] [b] pos) (tBlP (tOp r ta tb)):=by with_unfolding_all exact s9 ho ha hb hm
theorem sZ {e:Expr} {t:TE} (h:PE X e t) (he:∀ whole,isTrue e X.env whole=(do let v ← whole;standAt e.pos;holding [v] (truthy v)):=by intro _;rfl):PT X e (tBlP t):=by
 intro pins s σ H Q I q;refine isTrue_plain (thn (h pins s σ H _ I q) fun v s1 ⟨x,H1,I1,r1,q1⟩=>?_) (he _);obtain ⟨k,rfl,q1⟩:=blP q1
 cases r1
 exact wpAny_truthy_bool ⟨H1,I1,q1⟩
theorem bb {e:Expr} {t:TE} (h:ZE X e t) (he:∀ whole,isTrue e X.env whole=(do let v ← whole;standAt e.pos;holding [v] (truthy v)):=by intro _;rfl):ZT X e (tBlP t):=by with_unfolding_all exact sZ h he
def tAndP (ta tb:TE):TE:=fun σ H Q=>ta σ H fun x H1=>match x with | .bl c=>if c=true then tb σ H1 Q else Q (.bl false) H1 | _=>False
def tOrP (ta tb:TE):TE:=fun σ H Q=>ta σ H fun x H1=>match x with | .bl c=>if c=true then Q (.bl true) H1 else tb σ H1 Q | _=>False
def tNotP (ta:TE):TE:=fun σ H Q=>ta σ H fun x H1=>match x with | .bl c=>Q (.bl (!c)) H1 | _=>False
variable {rest:List Expr}
theorem tQ (ha:PE X a ta) (hb:PE X (.BoolOp .And (b::rest) pos) tb):PE X (.BoolOp .And (a::b::rest) pos) (tAndP ta tb):=by
 intro pins s σ H Q I h;refine BoolOp_and (thn (ha pins s σ H _ I h) fun v s1 ⟨x,H1,I1,r1,q1⟩=>?_);obtain ⟨c,rfl,q1⟩:=blP q1
 cases r1
 refine wpAny_truthy_bool ?_
 cases c with
 | true=>exact hb pins s1 σ H1 Q I1 q1
 | false=>exact ⟨.bl false,H1,I1,rfl,q1⟩
theorem bq (ha:ZE X a ta) (hb:ZE X (.BoolOp .And (b::rest) pos) tb):ZE X (.BoolOp .And (a::b::rest) pos) (tAndP ta tb):=by with_unfolding_all exact tQ ha hb
theorem pe_orP (ha:PE X a ta) (hb:PE X (.BoolOp .Or (b::rest) pos) tb):PE X (.BoolOp .Or (a::b::rest) pos) (tOrP ta tb):=by
 intro pins s σ H Q I h;refine BoolOp_or (thn (ha pins s σ H _ I h) fun v s1 ⟨x,H1,I1,r1,q1⟩=>?_);obtain ⟨c,rfl,q1⟩:=blP q1
 cases r1
 refine wpAny_truthy_bool ?_
 cases c with
 | false=>exact hb pins s1 σ H1 Q I1 q1
 | true=>exact ⟨.bl true,H1,I1,rfl,q1⟩
theorem ze_orP (ha:ZE X a ta) (hb:ZE X (.BoolOp .Or (b::rest) pos) tb):ZE X (.BoolOp .Or (a::b::rest) pos) (tOrP ta tb):=by with_unfolding_all exact pe_orP ha hb
theorem tK (ha:PE X a ta):PE X (.UnaryOp .Not a pos) (tNotP ta):=by
 intro pins s σ H Q I h;refine UnaryOp_ (thn (ha pins s σ H _ I h) fun v s1 ⟨x,H1,I1,r1,q1⟩=>?_);obtain ⟨c,rfl,q1⟩:=blP q1
 cases r1
 exact not_of (wpAny_truthy_bool ⟨.bl (!c),H1,I1,rfl,q1⟩)
theorem se (ha:ZE X a ta):ZE X (.UnaryOp .Not a pos) (tNotP ta):=by with_unfolding_all exact tK ha
def rIxP (K:PySem.W.Frag):R2:=fun x y H Q=>match x,y with
 | .ref p,.int i=>(∃ xs,(SqL K H p xs\/H p=some (.tup xs))/\∃ v,atI xs i=some v/\Q v H)
 | _,_=>False
theorem aS:IxR X (rIxP X.K):=by
 intro value slice pins s σ H x y v u Q I rx ry h hs;unfold rIxP at h;split at h
 · obtain ⟨xs,h1 | h1,w,e,q⟩:=h
   · exact uE value slice pins s σ H _ _ v u Q I rx ry ⟨_,xs,_,w,rfl,rfl,h1,e,q⟩ hs
   · exact ix_tup value slice pins s σ H _ _ v u Q I rx ry ⟨_,xs,_,w,rfl,rfl,SqT.of h1,e,q⟩ hs
 · exact h.elim
theorem CallR.imp {f:Value} {r r':List V->Hp->VK->Prop} (h:CallR X f r) (i:∀ xs H Q,r' xs H Q->r xs H Q):CallR X f r':=fun pins s σ H xs us Q I rs q=>h pins s σ H xs us Q I rs (i xs H Q q)
def jX (K:PySem.W.Frag):List V->Hp->VK->Prop:=fun xs H Q=>match xs with
 | [.ref p]=>∃ ys,(SqL K H p ys\/H p=some (.tup ys))/\Q (.int ys.length) H
 | _=>False
theorem nA:CallR X (.builtin "len") (jX X.K):=call_len_seq.imp fun xs H Q h=>by
 unfold jX at h;split at h
 · obtain ⟨ys,h1 | h1,q⟩:=h
   · exact ⟨_,ys,rfl,.inl h1,q⟩
   · exact ⟨_,ys,rfl,.inr (SqT.of h1),q⟩
 · exact h.elim
def dP (H:Hp):V->Option String
 | .non=>some "NoneType"
 | .bl _=>some "bool"
 | .int _=>some "int"
 | .str _=>some "str"
 | .ref a=>match H a with
   | some (.lst _)=>some "list"
   | some (.tup _)=>some "tuple"
   | some (.dK _)=>some "dict"
   | _=>none
 | _=>none
def sy (t c:String):Bool:=t == c||(t == "bool"&&c == "int")
theorem kF {K:PySem.W.Frag} {H:Hp} {x:V} {t:String} (h:dP H x=some t):TyOf K H x (.type t):=by
 unfold dP at h;split at h;all_goals first | (cases h;constructor) | skip
 · split at h;all_goals first | (cases h;constructor;assumption) | cases h
 · cases h
def oW:List V->Hp->VK->Prop:=fun xs H Q=>match xs with
 | [x,.ty c]=>∃ t,dP H x=some t/\(c == "int"||c == "bool"||c == "tuple"||c == "str"||c == "list")=true/\Q (.bl (sy t c)) H
 | _=>False
theorem kit_of {K:PySem.W.Frag} {H:Hp} {x:V} {t c:String} (h:dP H x=some t) (hc:(c == "int"||c == "bool"||c == "tuple"||c == "str"||c == "list")=true):PySem.W.kitOne K (.type t) (.type c)=some (sy t c):=by
 have ht:t∈["NoneType","bool","int","str","list","tuple","dict"]:=by
  unfold dP at h;split at h;all_goals first | (cases h;decide) | skip
  · split at h;all_goals first | (cases h;decide) | cases h
  · cases h
 have hc':c∈["int","bool","tuple","str","list"]:=by
  simp only [Bool.or_eq_true,beq_iff_eq] at hc;simp only [zA8,zI2,or_false];rcases hc with (((hc | hc) | hc) | hc) | hc <;> simp [hc]
 have all:(["NoneType","bool","int","str","list","tuple","dict"].all fun t=>["int","bool","tuple","str","list"].all fun c=>decide (PySem.W.kitOne [] (.type t) (.type c)=some (sy t c)))=true:=by decide +kernel
 have e:PySem.W.kitOne K (.type t) (.type c)=PySem.W.kitOne [] (.type t) (.type c):=rfl;rw [e];exact of_decide_eq_true (zB8.mp (zB8.mp all t ht) c hc')
theorem nB:CallR X (.builtin "isinstance") oW:=by
 sleep 1;unfold oW at h;split at h
 · obtain ⟨t,h1,h2,q⟩:=h;obtain ⟨u,w',rfl,r1,r2⟩:=on r
   cases r2
   exact mH I r1 (kF h1) (kit_of h1 h2) fun tk=>⟨.bl _,H,I.tok tk,rfl,q⟩
 · exact h.elim
def oM (K:PySem.W.Frag):List V->Hp->VK->Prop:=fun xs H Q=>match xs with
 | [.ref p]=>∃ ys,(SqL K H p ys\/H p=some (.tup ys))/\∀ r H',Same H H'->H' r=some (.tup ys)->Q (.ref r) H'
 | _=>False
theorem m9:CallR X (.type "tuple") (oM X.K):=call_tuple_of.imp fun xs H Q h=>by
 unfold oM at h;split at h
 · obtain ⟨ys,h1 | h1,q⟩:=h
   · exact ⟨_,ys,rfl,.inl ⟨h1,fun l hl=>q l _ (Same.new hl _) af⟩⟩
   · exact ⟨_,ys,rfl,.inr ⟨SqT.of h1,q _ H (Same.refl H) h1⟩⟩
 · exact h.elim
def oT (K:PySem.W.Frag):List V->Hp->VK->Prop:=fun xs H Q=>match xs with
 | [.ref p]=>∃ ys,(SqL K H p ys\/H p=some (.tup ys))/\∀ l,H l=none->Q (.ref l) (upd H l (.lst ys))
 | _=>False
theorem nu:CallR X (.type "list") (oT X.K):=call_list_of.imp fun xs H Q h=>by
 unfold oT at h;split at h
 · obtain ⟨ys,h1 | h1,q⟩:=h
   · exact ⟨_,ys,rfl,.inl h1,q⟩
   · exact ⟨_,ys,rfl,.inr (SqT.of h1),q⟩
 · exact h.elim
def lA:List V->Hp->VK->Prop:=fun xs H Q=>match xs with
 | [.int i]=>i.natAbs.log2<1920/\Q (.str (toString i)) H
 | _=>False
theorem nh:CallR X (.type "str") lA:=call_str_int.imp fun xs H Q h=>by
 unfold lA at h;split at h
 · exact ⟨_,rfl,h⟩
 · exact h.elim
def oR:List V->Hp->VK->Prop:=fun xs H Q=>match xs with
 | [.int i,.int j]=>Q (.int (if j<i then j else i)) H
 | _=>False
theorem nk (hc:X.calm=true):CallR X (.builtin "min") oR:=(no hc).imp fun xs H Q h=>by
 unfold oR at h;split at h
 · exact ⟨_,_,rfl,h⟩
 · exact h.elim
structure FnA (P:Program) (w:World) (K:PySem.W.Frag) (mg:Str->Option Value) (base:Heap) (x:Str) (k:Nat) (ps:List Str) (sp:Sp):Prop where
 ex:∃ f fd,FnOk P w K mg base CX0 k f fd ps sp/\Binds K fd ps []/\PySem.W.keepIn K (.ref f)=true/\mg x=some (.ref f)
def tFn (sp:Sp) (t:TA):TE:=fun σ H Q=>t σ H fun vs H1=>sp vs H1 Q E0
theorem pe_fn {x:Str} {k k':Nat} {ps:List Str} {sp:Sp} {e:Expr} {es:List Expr} {t:TA} {p:Pos} (F:FnA X.prog X.w X.K X.mg X.base x k ps sp) (hr:Room k' X.A) (hk:k<=k') (hg:Gl X x)
 (ha:PA X (e::es) t) (hdb:.(25)=false:=by decide) (he:starEach (e::es) X.env=.(9)::starEach es X.env:=by rfl) (hpl:(backTo pos .(13)).any (·.1)=false:=by rfl) :
 PE X (.Call (.Name x p) (e::es) [] pos) (tFn sp t):=by
 obtain ⟨f,fd,F1,b1,k1,m1⟩:=F.ex;refine (tO (F1.mono hk) hr hg m1 k1 b1 .nil pass0 ha hdb he hpl).imp fun σ H Q h=>?_;have e:(fun (vs:List V) (H1:Hp)=>sp (vs++[]) H1 Q E0)=fun vs H1=>sp vs H1 Q E0:=by
  funext vs H1;rw [zC9]
 show t σ H fun vs H1=>sp (vs++[]) H1 Q E0;rw [e];exact h
theorem au {x:Str} {k k':Nat} {ps:List Str} {sp:Sp} {e:Expr} {es:List Expr} {t:TA} {p:Pos} (F:FnA X.prog X.w X.K X.mg X.base x k ps sp) (hr:Room k' X.A) (hk:k<=k') (hg:Gl X x)
 (ha:ZA X (e::es) t) (hdb:.(25)=false:=by decide) (he:starEach (e::es) X.env=.(9)::starEach es X.env:=by rfl) (hpl:(backTo pos .(13)).any (·.1)=false:=by rfl) :
 ZE X (.Call (.Name x p) (e::es) [] pos) (tFn sp t):=by with_unfolding_all exact pe_fn F hr hk hg ha hdb he hpl
end
theorem pd {X:Cx} {x:Str} {T:String} {pos:Pos} (hg:Gl X x) (hm:X.mg x=none) (hv:bootBuiltins x=some (.type T)) (hn:x≠"__name__":=by decide) (hd:.(25)=false:=by decide):PE X (.Name x pos) (tC (.ty T)):=
 tP hg hm hv (show RelV (.ty T) (.type T) from rfl) hn hd
theorem bK {p:Prop} [Decidable p] {A B:Prop} (h1:p->A) (h2:¬ p->B):if decide p=true then A else B:=by
 by_cases h:p
 · rw [decide_eq_true h];exact iteT (h1 h)
 · rw [decide_eq_false h];exact iteF (h2 h)
theorem cU {b:Bool} {A B:Prop} (h1:b=true->A) (h2:b=false->B):if b=true then A else B:=by
 cases b with
 | true=>exact iteT (h1 rfl)
 | false=>exact iteF (h2 rfl)
theorem fz:bootBuiltins "isinstance" = some (.builtin "isinstance"):=by decide +kernel
theorem dU:bootBuiltins "sorted" = some (.builtin "sorted"):=by decide +kernel
theorem iy:bootBuiltins "min" = some (.builtin "min"):=by decide +kernel
theorem nK:bootBuiltins "all" = some (.builtin "all"):=by decide +kernel
theorem iz:bootBuiltins "int" = some (.type "int"):=by decide +kernel
theorem kh:bootBuiltins "bool" = some (.type "bool"):=by decide +kernel
theorem fw:bootBuiltins "tuple" = some (.type "tuple"):=by decide +kernel
theorem kf:bootBuiltins "list" = some (.type "list"):=by decide +kernel
theorem iw:bootBuiltins "str" = some (.type "str"):=by decide +kernel
def o0 (K:PySem.W.Frag):List V->Hp->VK->Prop:=fun xs H Q=>match xs with
 | [.ref p]=>∃ bs:List Bool,SqL K H p (bs.map V.bl)/\Q (.bl (bs.all id)) H
 | _=>False
theorem nE {X:Cx} (hc:X.calm=true):CallR X (.builtin "all") (o0 X.K):=by
 sleep 1;unfold o0 at h;split at h
 · rename_i p
   obtain ⟨bs,hq,q⟩:=h;obtain ⟨u,rfl,rx⟩:=cx r
   cases rx
   obtain ⟨its,rv,pl,hz⟩:=I.list hq;have hlen:its.length=bs.length:=by rw [← rv.length,zA0]
   have hlt:p<s.heap.objs.size:=by
    obtain ⟨_,e,_⟩:=pl.isList;exact Heap.lt_size e
   refine call_all_walk (wpAny_pyIter_list pl.isList ?_);have W:Walks X.prog X.w X.A.in1 s.heap.objs.size [s.heap.objs.size,p] [s.heap.objs.size] its.toArray.size _ _:=Walks.list (show X.A.in1.handled=none from I.ok.hd hc) s.heap.objs.size p (zC2 hlt) its.toArray;refine ⟨s.heap.objs.size,_,_,_,_,_,fun i=>bs.getD i false,rfl,W,⟨⟨_,Heap.get?_push_size _ rfl,rfl,rfl⟩,pl.isList.push _⟩,?_,fun h' tk hk=>?_⟩
   · intro i v s' Q' E' hP hQ;have hP':its[i]? = some v:=by simpa using hP
     have hi:i<bs.length:=by rw [← hlen];exact (List.getElem?_eq_some_iff.mp hP').1
     obtain ⟨w',e1,e2⟩:=rv.get (i:=i) (x:=.bl bs[i]) (by rw [List.getElem?_map,List.getElem?_eq_getElem hi];rfl);rw [hP'] at e1
     cases e1
     cases e2
     refine wpAny_truthy_bool ?_;have e:bs.getD i false=bs[i]:=by rw [zA9,List.getElem?_eq_getElem hi];rfl
     have hQ':Q' (bs.getD i false) s':=hQ;rw [e] at hQ';exact hQ'
   · have I1:Inv X pins σ H { s with heap:=h',toks:=tk }:=I.kept fun b o e=>hk b o (by simpa using zC2 (Heap.lt_size e)) (Heap.get?_push_of_some _ e);refine ⟨.bl _,H,I1,rfl,?_⟩;have e:(List.range its.toArray.size).all (fun i=>bs.getD i false)=bs.all id:=by
      rw [zA2,hlen];have key:∀ l:List Bool,(List.range l.length).all (fun i=>l.getD i false)=l.all id:=by
       intro l;rw [zH8,zB8,zB8];constructor
       · intro h x hx;obtain ⟨i,hi,rfl⟩:=zD5.mp hx;have:=h i (zE7.mpr hi);rw [zA9,List.getElem?_eq_getElem hi] at this;exact this
       · intro h i hi;have hi':=zE7.mp hi;rw [zA9,List.getElem?_eq_getElem hi'];exact h _ (zB4 hi')
      exact key bs
     rw [e];exact q
 · exact h.elim
def tPar3 (i j k:Nat) (ta:TA):TS:=fun D σ H=>ta σ H fun vs H1=>match vs with | [v,w,z]=>D.nx (((σ.set i (some v)).set j (some w)).set k (some z)) H1 | _=>False
theorem tp {X:Cx} {pos:Pos} {i j k:Nat} {x y z:Str} {a b c:Expr} {ta:TA} {px py pz pt:Pos} {kt k2 pt2} (hc:X.calm=true) (hN:X.N.Nodup) (hi:X.N[i]? = some x) (hj:X.N[j]? = some y) (hk:X.N[k]? = some z) (hij:i≠j) (hik:i≠k) (hjk:j≠k)
 (hx:X.env.scope.names.lookup x=some .local) (hy:X.env.scope.names.lookup y=some .local) (hz:X.env.scope.names.lookup z=some .local) (ha:PA X [a,b,c] ta)
 (hw:swappedStores [.Tuple [.Name x px,.Name y py,.Name z pz] kt pt] (.Tuple [a,b,c] k2 pt2) X.env=pure (some [x,y,z]))
 (hs:swapsWithSole [.Tuple [.Name x px,.Name y py,.Name z pz] kt pt] (.Tuple [a,b,c] k2 pt2) pos.line X.env=pure false:=by rfl) :
 PS X (.Assign [.Tuple [.Name x px,.Name y py,.Name z pz] kt pt] (.Tuple [a,b,c] k2 pt2) pos) (tPar3 i j k ta):=by
 intro pins s σ H D I h;rw [exec_Assign_arm];refine wpAny_bind (wpAny_standAt ?_);rw [hs];refine wpAny_bind (wpAny_pure ?_);rw [if_neg (by decide)];refine wpAny_bind (Tuple_ (thn (ha _ pins s σ H _ I h) fun us s1 ⟨vs,H1,I1,r1,q1⟩=>?_));obtain ⟨v,w,t,e1,q1⟩:∃ v w t,vs=[v,w,t]/\D.nx (((σ.set i (some v)).set j (some w)).set k (some t)) H1:=by
  match vs,q1 with
  | [v,w,t],q1=>exact ⟨v,w,t,rfl,q1⟩
  | [],q1=>exact q1.elim
  | [_],q1=>exact q1.elim
  | [_,_],q1=>exact q1.elim
  | _::_::_::_::_,q1=>exact q1.elim
 subst e1;obtain ⟨u1,u2,u3,rfl,rv,rw',rz⟩:∃ u1 u2 u3,us=[u1,u2,u3]/\RelV v u1/\RelV w u2/\RelV t u3:=by
  cases r1 with
  | cons p q=>
    cases q with
    | cons p' q'=>
      cases q' with
      | cons p2 q2=>
        cases q2
        exact ⟨_,_,_,rfl,p,p',p2⟩
 refine wpAny_newObj_type ?_ (by show 3<=sizeLine;decide);have I2:Inv X pins σ H1 { s1 with heap:=s1.heap.push { cls:=.type "tuple",data:=.seq [u1,u2,u3].toArray } }:=I1.kept (t':=s1.toks) fun b o e=>Heap.get?_push_of_some _ e;rw [hw];refine wpAny_bind (wpAny_pure ?_);show wpAny .(15) X.A (do rule "assign.swapped-stores";let items ← unpackItems (.ref s1.heap.objs.size) 3 none;assignInOrder [fun v=>bindName X.env z v,fun v=>bindName X.env y v,fun v=>bindName X.env x v] items.reverse;pure Flow.next) _ _ _;refine wpAny_bind (wpAny_rule (wpAny_bind (unpackItems_tuple (items:=#[u1,u2,u3]) (I.ok.hd hc) (IsTup.new s1.heap _) fun h' hx'=>?_)));have I3:=I2.kept (h':=h') (t':=s1.toks) fun b o e=>hx' b o (zC2 (Heap.lt_size e)) e;show wpAny _ _ (assignInOrder [fun v=>bindName X.env z v,fun v=>bindName X.env y v,fun v=>bindName X.env x v] [u3,u2,u1] >>= fun _=>pure Flow.next) _ _ _;refine wpAny_bind (assignInOrder_cons (wpAny_bindName (bS I3 hN hk (.inl hz) rz (fun s2 I4=>?_) (.inr hz))));refine assignInOrder_cons (wpAny_bindName (bS I4 hN hj (.inl hy) rw' (fun s3 I5=>?_) (.inr hy)));refine assignInOrder_cons (wpAny_bindName (bS I5 hN hi (.inl hx) rv (fun s4 I6=>assignInOrder_nil (wpAny_pure ?_)) (.inr hx)));have e:((σ.set k (some t)).set j (some w)).set i (some v)=((σ.set i (some v)).set j (some w)).set k (some t):=by
  rw [List.set_comm _ _ (Ne.symm hij),List.set_comm _ _ (Ne.symm hik),List.set_comm _ _ (Ne.symm hjk)]
 rw [e] at I6;exact ⟨_,H1,I6,q1⟩
theorem kq {X:Cx} {pos:Pos} {i j k:Nat} {x y z:Str} {a b c:Expr} {ta:TA} {px py pz pt:Pos} {kt k2 pt2} (hc:X.calm=true) (hN:X.N.Nodup) (hi:X.N[i]? = some x) (hj:X.N[j]? = some y) (hk:X.N[k]? = some z) (hij:i≠j) (hik:i≠k) (hjk:j≠k)
 (hx:X.env.scope.names.lookup x=some .local) (hy:X.env.scope.names.lookup y=some .local) (hz:X.env.scope.names.lookup z=some .local) (ha:ZA X [a,b,c] ta)
 (hw:swappedStores [.Tuple [.Name x px,.Name y py,.Name z pz] kt pt] (.Tuple [a,b,c] k2 pt2) X.env=pure (some [x,y,z]))
 (hs:swapsWithSole [.Tuple [.Name x px,.Name y py,.Name z pz] kt pt] (.Tuple [a,b,c] k2 pt2) pos.line X.env=pure false:=by rfl) :
 ZS X (.Assign [.Tuple [.Name x px,.Name y py,.Name z pz] kt pt] (.Tuple [a,b,c] k2 pt2) pos) (tPar3 i j k ta):=by with_unfolding_all exact tp hc hN hi hj hk hij hik hjk hx hy hz ha hw hs
section
variable {X:Cx} {e:Expr} {es:List Expr} {t:TA} {p pos:Pos}
theorem lT (hg:Gl X "len") (hm:X.mg "len" = none) (ha:PA X (e::es) t) (he:.(1)) (hpl:.(3)) :
 PE X (.Call (.Name "len" p) (e::es) [] pos) (tCB (jX X.K) t):=bt nA hg hm PySem.boot_len ha (by decide) (by decide) he hpl
theorem aI (hg:Gl X "len") (hm:X.mg "len" = none) (ha:ZA X (e::es) t) (he:.(1)) (hpl:.(3)) :
 ZE X (.Call (.Name "len" p) (e::es) [] pos) (tCB (jX X.K) t):=by with_unfolding_all exact lT hg hm ha he hpl
theorem fH (hg:Gl X "isinstance") (hm:X.mg "isinstance" = none) (ha:PA X (e::es) t) (he:.(1)) (hpl:.(3)) :
 PE X (.Call (.Name "isinstance" p) (e::es) [] pos) (tCB oW t):=bt nB hg hm fz ha (by decide) (by decide) he hpl
theorem aR (hg:Gl X "isinstance") (hm:X.mg "isinstance" = none) (ha:ZA X (e::es) t) (he:.(1)) (hpl:.(3)) :
 ZE X (.Call (.Name "isinstance" p) (e::es) [] pos) (tCB oW t):=by with_unfolding_all exact fH hg hm ha he hpl
theorem tT (hc:X.calm=true) (hg:Gl X "min") (hm:X.mg "min" = none) (ha:PA X (e::es) t) (he:.(1)) (hpl:.(3)) :
 PE X (.Call (.Name "min" p) (e::es) [] pos) (tCB oR t):=bt (nk hc) hg hm iy ha (by decide) (by decide) he hpl
theorem dC (hc:X.calm=true) (hg:Gl X "min") (hm:X.mg "min" = none) (ha:ZA X (e::es) t) (he:.(1)) (hpl:.(3)) :
 ZE X (.Call (.Name "min" p) (e::es) [] pos) (tCB oR t):=by with_unfolding_all exact tT hc hg hm ha he hpl
theorem tW (hc:X.calm=true) (hg:Gl X "all") (hm:X.mg "all" = none) (ha:PA X (e::es) t) (he:.(1)) (hpl:.(3)) :
 PE X (.Call (.Name "all" p) (e::es) [] pos) (tCB (o0 X.K) t):=bt (nE hc) hg hm nK ha (by decide) (by decide) he hpl
theorem eI (hc:X.calm=true) (hg:Gl X "all") (hm:X.mg "all" = none) (ha:ZA X (e::es) t) (he:.(1)) (hpl:.(3)) :
 ZE X (.Call (.Name "all" p) (e::es) [] pos) (tCB (o0 X.K) t):=by with_unfolding_all exact tW hc hg hm ha he hpl
theorem lP (hg:Gl X "tuple") (hm:X.mg "tuple" = none) (ha:PA X (e::es) t) (he:.(1)) (hpl:.(3)) :
 PE X (.Call (.Name "tuple" p) (e::es) [] pos) (tCB (oM X.K) t):=bP m9 hg hm fw ha (by decide) (by decide) he hpl
theorem bD (hg:Gl X "tuple") (hm:X.mg "tuple" = none) (ha:ZA X (e::es) t) (he:.(1)) (hpl:.(3)) :
 ZE X (.Call (.Name "tuple" p) (e::es) [] pos) (tCB (oM X.K) t):=by with_unfolding_all exact lP hg hm ha he hpl
theorem pv (hg:Gl X "list") (hm:X.mg "list" = none) (ha:PA X (e::es) t) (he:.(1)) (hpl:.(3)) :
 PE X (.Call (.Name "list" p) (e::es) [] pos) (tCB (oT X.K) t):=bP nu hg hm kf ha (by decide) (by decide) he hpl
theorem i7 (hg:Gl X "list") (hm:X.mg "list" = none) (ha:ZA X (e::es) t) (he:.(1)) (hpl:.(3)) :
 ZE X (.Call (.Name "list" p) (e::es) [] pos) (tCB (oT X.K) t):=by with_unfolding_all exact pv hg hm ha he hpl
theorem tS (hg:Gl X "str") (hm:X.mg "str" = none) (ha:PA X (e::es) t) (he:.(1)) (hpl:.(3)) :
 PE X (.Call (.Name "str" p) (e::es) [] pos) (tCB lA t):=bP nh hg hm iw ha (by decide) (by decide) he hpl
theorem aF (hg:Gl X "str") (hm:X.mg "str" = none) (ha:ZA X (e::es) t) (he:.(1)) (hpl:.(3)) :
 ZE X (.Call (.Name "str" p) (e::es) [] pos) (tCB lA t):=by with_unfolding_all exact tS hg hm ha he hpl
theorem sY (hg:Gl X "int") (hm:X.mg "int" = none):PE X (.Name "int" pos) (tC (.ty "int")):=pd hg hm iz (by decide) (by decide)
theorem rX (hg:Gl X "int") (hm:X.mg "int" = none):ZE X (.Name "int" pos) (tC (.ty "int")):=by with_unfolding_all exact sY hg hm
theorem o2 (hg:Gl X "bool") (hm:X.mg "bool" = none):PE X (.Name "bool" pos) (tC (.ty "bool")):=pd hg hm kh (by decide) (by decide)
theorem nZ (hg:Gl X "bool") (hm:X.mg "bool" = none):ZE X (.Name "bool" pos) (tC (.ty "bool")):=by with_unfolding_all exact o2 hg hm
theorem lF (hg:Gl X "tuple") (hm:X.mg "tuple" = none):PE X (.Name "tuple" pos) (tC (.ty "tuple")):=pd hg hm fw (by decide) (by decide)
theorem cZ (hg:Gl X "tuple") (hm:X.mg "tuple" = none):ZE X (.Name "tuple" pos) (tC (.ty "tuple")):=by with_unfolding_all exact lF hg hm
end
section
variable {X:Cx}
theorem Inv.moved {wr:List Addr} {pins:.(31)} {σ:St} {H:Hp} {s s':Shared} {h2:Heap} {t2:Nat} (I:.(14)) (m:Moved wr (fun a b=>b=a) { s with heap:=h2,toks:=t2 } s') (hk:∀ b o,s.heap.get? b=some o->b∉wr/\h2.get? b=some o):Inv X pins σ H s':=by
 have e:s'={ s with heap:=s'.heap,toks:=s'.toks }:=by
  obtain ⟨_,h2,h3,h4,_⟩:=m
  cases s'
  simp only at h2 h3 h4;subst h2 h3 h4;rfl
 rw [e];exact I.kept fun b o q=>m.heap b o (hk b o q).1 (hk b o q).2
def oN (K:PySem.W.Frag):List V->Hp->VK->Prop:=fun xs H Q=>match xs with
 | [.ref p]=>∃ ns:List Int,(SqL K H p (ns.map V.int)\/H p=some (.tup (ns.map V.int)))/\Q (.int ns.sum) H
 | _=>False
theorem fV {f g:Nat->Int}:∀ n,(∀ i,i<n->f i=g i)->preSum f n=preSum g n
 | 0,_=>rfl
 | n+1,h=>by
   show preSum f n+f n=preSum g n+g n;rw [fV n fun i hi=>h i (by lia),h n (by lia)]
theorem eW (f:Nat->Int):∀ n,preSum f (n+1)=f 0+preSum (fun i=>f (i+1)) n
 | 0=>by show (0:Int)+f 0=f 0+0;lia
 | n+1=>by
   show preSum f (n+1)+f (n+1)=f 0+(preSum (fun i=>f (i+1)) n+f (n+1))
   rw [eW f n];lia
theorem cS:∀ ns:List Int,preSum (fun i=>ns.getD i 0) ns.length=ns.sum
 | []=>rfl
 | n::r=>by
   rw [zB5,eW,zE0];have e:preSum (fun i=>(n::r).getD (i+1) 0) r.length=preSum (fun i=>r.getD i 0) r.length:=fV _ fun i _=>by simp
   rw [e,cS r];rfl
theorem cm {ns:List Int} {its:List Value} (rv:Vals (ns.map V.int) its) {i:Nat} {v:Value} (h:its.toArray[i]? = some v):∃ t,v=.int (ns.getD i 0) t:=by
 have h':its[i]? = some v:=by simpa using h
 have hl:its.length=ns.length:=by rw [← rv.length,zA0]
 have hi:i<ns.length:=by rw [← hl];exact (List.getElem?_eq_some_iff.mp h').1
 obtain ⟨w',e1,t,e2⟩:=rv.get (i:=i) (x:=.int ns[i]) (by rw [List.getElem?_map,List.getElem?_eq_getElem hi];rfl);rw [h'] at e1
 cases e1
 refine ⟨t,?_⟩;rw [e2,zA9,List.getElem?_eq_getElem hi];rfl
theorem ng (hc:X.calm=true):CallR X (.builtin "sum") (oN X.K):=by
 sleep 1;unfold oN at h;split at h
 · rename_i p
   obtain ⟨ns,hq,q⟩:=h;obtain ⟨u,rfl,rx⟩:=cx r
   cases rx
   have hh:X.A.in1.handled=none:=I.ok.hd hc;rcases hq with hq | hq
   · obtain ⟨its,rv,pl,hz⟩:=I.list hq;have hlt:p<s.heap.objs.size:=by
      obtain ⟨_,e,_⟩:=pl.isList;exact Heap.lt_size e
     refine call_sum_walkAnyS (wpAny_pyIter_list pl.isList ?_);refine ⟨s.heap.objs.size,_,_,_,_,_,_,fun i=>ns.getD i 0,rfl,(Walks.list hh s.heap.objs.size p (zC2 hlt) its.toArray).toS,⟨⟨_,Heap.get?_push_size _ rfl,rfl,rfl⟩,pl.isList.push _⟩,?_,fun i v hv=>cm rv hv,fun s' t' m=>?_⟩
     · intro b hb;rw [Heap.size_push];rcases zA8.mp hb with rfl | hb
       · exact zF0 _
       · rcases zA8.mp hb with rfl | hb
         · exact zG2 hlt
         · cases hb
     · have I1:Inv X pins σ H s':=I.moved m fun b o e=>⟨by simpa using zC2 (Heap.lt_size e),Heap.get?_push_of_some _ e⟩
       refine ⟨.int _,H,I1,⟨t',rfl⟩,?_⟩;rw [zA2,← rv.length,zA0,cS];exact q
   · obtain ⟨its,rv,pl,hz⟩:=I.tuple (SqT.of hq);have hlt:p<s.heap.objs.size:=pl.lt;refine call_sum_walkAnyS (wpAny_pyIter_tuple (show s.heap.IsTuple p its.toArray from pl) ?_);refine ⟨s.heap.objs.size,_,_,_,_,_,_,fun i=>ns.getD i 0,rfl,(Walks.tuple hh s.heap.objs.size p (zC2 hlt) its.toArray).toS,⟨⟨_,Heap.get?_push_size _ rfl,rfl,rfl⟩,?_⟩,?_,fun i v hv=>cm rv hv,fun s' t' m=>?_⟩
     · exact IsTup.keeps pl fun b o e=>Heap.get?_push_of_some _ e
     · intro b hb;rw [Heap.size_push];rcases zA8.mp hb with rfl | hb
       · exact zF0 _
       · rcases zA8.mp hb with rfl | hb
         · exact zG2 hlt
         · cases hb
     · have I1:Inv X pins σ H s':=I.moved m fun b o e=>⟨by simpa using zC2 (Heap.lt_size e),Heap.get?_push_of_some _ e⟩
       refine ⟨.int _,H,I1,⟨t',rfl⟩,?_⟩;rw [zA2,← rv.length,zA0,cS];exact q
 · exact h.elim
def ju (K:PySem.W.Frag):List V->Hp->VK->Prop:=fun xs H Q=>match xs with
 | [.int i,.int j]=>Q (.int (if j > i then j else i)) H
 | [.ref p]=>∃ ns:List Int,(SqL K H p (ns.map V.int)\/H p=some (.tup (ns.map V.int)))/\ns≠[]/\∀ M,M∈ns->(∀ n∈ns,n<=M)->Q (.int M) H
 | _=>False
theorem uY {ns:List Int} (h:ns≠[]):ns.getD (argBest (fun i j=>decide (ns.getD i 0 > ns.getD j 0)) (ns.length - 1)) 0∈ns/\∀ n∈ns,n<=ns.getD (argBest (fun i j=>decide (ns.getD i 0 > ns.getD j 0)) (ns.length - 1)) 0:=by
 have hp:0<ns.length:=zF1.mpr h;obtain ⟨h1,h2⟩:=argBest_gt (fun i=>ns.getD i 0) (ns.length - 1);have hlt:argBest (fun i j=>decide (ns.getD i 0 > ns.getD j 0)) (ns.length - 1)<ns.length:=by lia
 refine ⟨?_,fun n hn=>?_⟩
 · rw [zA9,List.getElem?_eq_getElem hlt];exact zB4 hlt
 · obtain ⟨i,hi,rfl⟩:=zD5.mp hn;have:=h2 i (by lia);have e:ns.getD i 0=ns[i]:=by rw [zA9,List.getElem?_eq_getElem hi];rfl
   rw [e] at this;exact this
theorem np (hc:X.calm=true):CallR X (.builtin "max") (ju X.K):=by
 sleep 1;unfold ju at h;split at h
 · exact nq hc pins s σ H _ us Q I r ⟨_,_,rfl,h⟩
 · rename_i p
   obtain ⟨ns,hq,hne,q⟩:=h;obtain ⟨u,rfl,rx⟩:=cx r
   cases rx
   have hh:X.A.in1.handled=none:=I.ok.hd hc;have hb:=uY hne;rcases hq with hq | hq
   · obtain ⟨its,rv,pl,hz⟩:=I.list hq;have hlen:its.length=ns.length:=by rw [← rv.length,zA0]
     have hlt:p<s.heap.objs.size:=by
      obtain ⟨_,e,_⟩:=pl.isList;exact Heap.lt_size e
     refine call_max_walk (wpAny_pyIter_list pl.isList ?_);refine ⟨s.heap.objs.size,_,_,_,_,_,_,rfl,Walks.list hh s.heap.objs.size p (zC2 hlt) its.toArray,⟨⟨_,Heap.get?_push_size _ rfl,rfl,rfl⟩,pl.isList.push _⟩,?_,?_,CmpOf.ints_gt (fun i=>ns.getD i 0) (fun i v hv=>cm rv hv),fun v h' tk hv hk=>?_⟩
     · intro b hb;rw [Heap.size_push];rcases zA8.mp hb with rfl | hb
       · exact zF0 _
       · rcases zA8.mp hb with rfl | hb
         · exact zG2 hlt
         · cases hb
     · rw [zA2,hlen];exact zF1.mpr hne
     · obtain ⟨t,rfl⟩:=cm rv hv;refine ⟨.int _,H,I.kept fun b o e=>hk b o (by simpa using zC2 (Heap.lt_size e)) (Heap.get?_push_of_some _ e),⟨t,rfl⟩,?_⟩;rw [zA2,hlen];exact q _ hb.1 hb.2
   · obtain ⟨its,rv,pl,hz⟩:=I.tuple (SqT.of hq);have hlen:its.length=ns.length:=by rw [← rv.length,zA0]
     have hlt:p<s.heap.objs.size:=pl.lt;refine call_max_walk (wpAny_pyIter_tuple (show s.heap.IsTuple p its.toArray from pl) ?_);refine ⟨s.heap.objs.size,_,_,_,_,_,_,rfl,Walks.tuple hh s.heap.objs.size p (zC2 hlt) its.toArray,⟨⟨_,Heap.get?_push_size _ rfl,rfl,rfl⟩,IsTup.keeps pl fun b o e=>Heap.get?_push_of_some _ e⟩,?_,?_,CmpOf.ints_gt (fun i=>ns.getD i 0) (fun i v hv=>cm rv hv),fun v h' tk hv hk=>?_⟩
     · intro b hb;rw [Heap.size_push];rcases zA8.mp hb with rfl | hb
       · exact zF0 _
       · rcases zA8.mp hb with rfl | hb
         · exact zG2 hlt
         · cases hb
     · rw [zA2,hlen];exact zF1.mpr hne
     · obtain ⟨t,rfl⟩:=cm rv hv;refine ⟨.int _,H,I.kept fun b o e=>hk b o (by simpa using zC2 (Heap.lt_size e)) (Heap.get?_push_of_some _ e),⟨t,rfl⟩,?_⟩;rw [zA2,hlen];exact q _ hb.1 hb.2
 · exact h.elim
def dG:V->List V->Hp->VK->Prop:=fun x vs H Q=>match x,vs with
 | .ref a,[.int k]=>∃ ns:List Int,H a=some (.tup (ns.map V.int))/\Q (.int (ns.count k)) H
 | _,_=>False
def isK (k:Int):Value->Bool
 | .int i _=>i == k
 | _=>false
theorem rD (k:Int):∀ {ns:List Int} {its:List Value},Vals (ns.map V.int) its->its.countP (isK k)=ns.count k
 | [],_,r=>by cases r;rfl
 | n::ns,_,r=>by
   cases r with
   | cons r1 r2=>
     obtain ⟨t,rfl⟩:=r1
     rw [List.countP_cons,List.count_cons,rD k r2]
     rfl
theorem pT:MtM X "tuple.count" dG:=by
 intro pins s σ H x vs v us Q I rx rv h;unfold dG at h;split at h
 · rename_i a k
   obtain ⟨ns,hH,q⟩:=h
   cases rx
   obtain ⟨u,rfl,t,rfl⟩:=rv.one;obtain ⟨z,its,r,n,e⟩:=I.hok a _ hH;refine call_meets F.slot_tuple_count ⟨_,e,rfl⟩ F.entry_tuple_count (F.args_tuple_count_2 _ _) (MeetsSeq2.tuple_count a its.toArray n (.int k t) (isK k) (fun y hy=>?_)) ⟨e,?_⟩
   · have hy':y∈its:=by simpa using hy
     obtain ⟨i,hi,rfl⟩:=zD5.mp hy';obtain ⟨t',e'⟩:=cm r (i:=i) (v:=its[i]) (by simp [hi]);rw [e'];exact MeetsSeq.EqGives.int _ k t' t
   · refine ⟨.int _,H,I.tok _,⟨_,rfl⟩,?_⟩;rw [show its.toArray.toList=its from rfl,rD k r];exact q
 · exact h.elim
theorem dY:fillsNumberSlot (.type "tuple") "mul" = pure false:=
 PySem.fillsNumberSlot_seq (id:="tuple.__mul__") (r:=some (.builtin "tuple.__rmul__")) F.slot_tuple_mul.lookup (by decide +kernel) F.slot_tuple_rmul.lookup (by decide +kernel)
theorem hJ:seqRepeat? (.type "tuple")=pure (some (.builtin "tuple.__mul__")):=by
 unfold seqRepeat?;rw [PySem.seqSlot_of (T:="tuple") (name:="__mul__") (id:="tuple.__mul__") F.slot_tuple_mul.lookup (by decide +kernel),PySem.seqSlot_of (T:="tuple") (name:="__rmul__") (id:="tuple.__rmul__") F.slot_tuple_rmul.lookup (by decide +kernel)];rfl
theorem fI (a:Int) (t:Tok) (l:Addr) (items:Array Value) (n:Nat) :
 Meets (Builtin.«int.__rmul__» ⟨[.int a t,.ref l],[]⟩) (fun _ R s=>s.heap.get? l=some { cls:=.type "tuple",dict:=none,data:=.seq items n,slots:=#[] }/\R (.ok (.ret Value.notImplemented)) s):=
 .of_wp fun prog w A R s h=>by obtain ⟨hp,g,d,tk,os⟩:=s;obtain ⟨hl,h⟩:=h;wp_walk;exact ⟨_,rfl,h⟩
theorem fE (l:Addr) (items:Array Value) (n:Nat) (x:Int) (u:Tok) (h1:(decide (x < -(2 ^ 63))||decide (x>=2 ^ 63))=false) (h2:(items.isEmpty||x == 1)=true) :
 Meets (Builtin.«tuple.__mul__» ⟨[.ref l,.int x u],[]⟩) (fun _ R s=>s.heap.get? l=some { cls:=.type "tuple",dict:=none,data:=.seq items n,slots:=#[] }/\R (.ok (.ret (.ref l))) s):=
 .of_wp fun prog w A R s h=>by
  obtain ⟨hp,g,d,tk,os⟩:=s;obtain ⟨hl,h⟩:=h;wp_walk;refine wpAny_ite_false (by rw [h1];rfl) ?_;wp_walk;exact ⟨_,rfl,h⟩
theorem fF (l:Addr) (items:Array Value) (n:Nat) (x:Int) (u:Tok) (h1:(decide (x < -(2 ^ 63))||decide (x>=2 ^ 63))=false) (h2:(items.isEmpty||x == 1)=false) (h3:(decide (x<=0)||items.isEmpty)=true) :
 Meets (Builtin.«tuple.__mul__» ⟨[.ref l,.int x u],[]⟩) (fun _ R s=>s.heap.get? l=some { cls:=.type "tuple",dict:=none,data:=.seq items n,slots:=#[] }/\R (.ok (.ret (.ref s.heap.objs.size))) { s with heap:=s.heap.push { cls:=.type "tuple",data:=.seq #[] } }):=
 .of_wp fun prog w A R s h=>by
  obtain ⟨hp,g,d,tk,os⟩:=s;obtain ⟨hl,h⟩:=h;wp_walk;refine wpAny_ite_false (by rw [h1];rfl) ?_;wp_walk;exact ⟨_,rfl,h⟩
theorem fG (l:Addr) (items:Array Value) (n:Nat) (x:Int) (u:Tok) (h1:(decide (x < -(2 ^ 63))||decide (x>=2 ^ 63))=false) (h2:(items.isEmpty||x == 1)=false) (h3:(decide (x<=0)||items.isEmpty)=false) (h4:decide ((items.size:Int)*x > (2 ^ 63 - 1) / 8)=false) (h5:Builtin.Tuple.tupleTooMany ((items.size:Int)*x)=false) (hz:((List.replicate x.toNat items).foldl (·++·) #[]).size<=sizeLine) :
 Meets (Builtin.«tuple.__mul__» ⟨[.ref l,.int x u],[]⟩) (fun _ R s=>s.heap.get? l=some { cls:=.type "tuple",dict:=none,data:=.seq items n,slots:=#[] }/\R (.ok (.ret (.ref s.heap.objs.size))) { s with heap:=s.heap.push { cls:=.type "tuple",data:=.seq ((List.replicate x.toNat items).foldl (·++·) #[]) } }):=
 .of_wp fun prog w A R s h=>by
  obtain ⟨hp,g,d,tk,os⟩:=s;obtain ⟨hl,h⟩:=h;wp_walk;refine wpAny_ite_false (by rw [h1];rfl) ?_;wp_walk;refine wpAny_ite_false h4 ?_;wp_walk;exact ⟨_,rfl,h⟩
end
section
variable {X:Cx}
def rMulQ:R2:=fun x y H Q=>match x,y with
 | .int i,.int j=>IntMulOk i j/\Q (.int (i*j)) H
 | .ref a,.int k=>(-(2 ^ 63)<=k/\k<2 ^ 63)/\((∃ xs,H a=some (.lst xs)/\xs.length*k.toNat<=sizeLine/\∀ p,H p=none->Q (.ref p) (upd H p (.lst (List.replicate k.toNat xs).flatten))) \/
  ∃ xs,H a=some (.tup xs)/\xs.length*k.toNat<=sizeLine/\∀ r H',Same H H'->H' r=some (.tup (List.replicate k.toNat xs).flatten)->Q (.ref r) H')
 | _,_=>False
theorem ba:OpR X (binaryOp .Mult) rMulQ:=by
 sleep 0;unfold rMulQ at h;split at h
 · exact tZ pins s σ H _ _ v u Q I rx ry ⟨_,_,rfl,rfl,h⟩
 · obtain ⟨⟨hk1,hk2⟩,⟨xs,h1,h4,q⟩ | ⟨xs,hH,hz,q⟩⟩:=h
   · exact op_rep pins s σ H _ _ v u Q I rx ry ⟨_,_,xs,rfl,rfl,h1,hk1,hk2,h4,q⟩
   rename_i l k
   cases rx
   obtain ⟨t,rfl⟩:=ry;obtain ⟨z,its,r,n,e⟩:=I.hok l _ hH;have hl:its.length=xs.length:=r.length.symm;have hemp:its.toArray.isEmpty=xs.isEmpty:=by
    cases r <;> rfl
   have g1:(decide (k < -(2 ^ 63))||decide (k>=2 ^ 63))=false:=by
    rw [Bool.or_eq_false_iff];exact ⟨decide_eq_false (by lia),decide_eq_false (by lia)⟩
   refine wpAny_binaryOp_repeat_ref (T:="tuple") (U:="int") (by decide) ⟨_,e,rfl⟩ (fun s'=>typeIs_int s' k t) dY F.fills_int_mul F.slot_int_rmul hJ F.slot_int_index.lookup
    (call_meets F.slot_int_rmul (typeIs_int s k t) F.entry_int_rmul (F.args_int_rmul_2 _ _) (fI k t l its.toArray n) ⟨e,rfl,⟨_,e,rfl⟩,?_⟩)
   by_cases c1:(its.toArray.isEmpty||k == 1)=true
   · refine call_meets F.slot_tuple_mul ⟨_,e,rfl⟩ F.entry_tuple_mul (F.args_tuple_mul_2 _ _) (fE l its.toArray n k t g1 c1) ⟨e,?_⟩;refine ⟨.ref l,H,I,rfl,q l H (Same.refl H) ?_⟩;rw [hH];rw [Bool.or_eq_true] at c1;rcases c1 with c1 | c1
     · rw [hemp,List.isEmpty_iff] at c1;subst c1;have:(List.replicate k.toNat ([]:List V)).flatten=[]:=by
        induction k.toNat with
        | zero=>rfl
        | succ m ih=>rw [zF2,zC7,ih];rfl
       rw [this]
     · have:k=1:=by simpa using c1
       subst this;show some (HO.tup xs)=some (.tup (List.replicate 1 xs).flatten);simp
   · have c1':(its.toArray.isEmpty||k == 1)=false:=by simpa using c1
     have he:its.toArray.isEmpty=false:=(Bool.or_eq_false_iff.mp c1').1;by_cases c2:k<=0
     · refine call_meets F.slot_tuple_mul ⟨_,e,rfl⟩ F.entry_tuple_mul (F.args_tuple_mul_2 _ _) (fF l its.toArray n k t g1 c1' (by rw [decide_eq_true c2];rfl)) ⟨e,?_⟩;have e0:(List.replicate k.toNat xs).flatten=[]:=by
        have:k.toNat=0:=by lia
        rw [this];rfl
       have I2:Inv X pins σ (upd H s.heap.objs.size (.tup [])) { s with heap:=s.heap.push { cls:=.type "tuple",data:=.seq #[] } }:=
        I.laid (t':=s.toks) (o:=.tup []) (fun b ob q=>Heap.get?_push_of_some _ q) (zA1 _) ⟨zB0 _,[],.nil,TupD.new _ _⟩
       exact ⟨.ref s.heap.objs.size,_,I2,rfl,q _ _ (Same.new (I.hok.fresh (zA1 _)) _) (by rw [e0];exact af)⟩
     · have hcast:(its.toArray.size:Int)*k=((xs.length*k.toNat:Nat):Int):=by
        rw [zA2,hl];have:k=(k.toNat:Int):=by lia
        conv=>lhs;rw [this]
        norm_cast
       have hb:(sizeLine:Nat)<=(2 ^ 63 - 1) / 8:=by decide
       have g4:decide ((its.toArray.size:Int)*k > (2 ^ 63 - 1) / 8)=false:=by
        refine decide_eq_false ?_;rw [hcast];lia
       have g5:Builtin.Tuple.tupleTooMany ((its.toArray.size:Int)*k)=false:=by
        unfold Builtin.Tuple.tupleTooMany;rw [hcast];exact decide_eq_false (by lia)
       have f0:List.foldl (fun x1 x2=>x1++x2) #[] (List.replicate k.toNat its.toArray)=(List.replicate k.toNat its).flatten.toArray:=by
        have:=fh its k.toNat [];rw [List.nil_append] at this;exact this
       refine call_meets F.slot_tuple_mul ⟨_,e,rfl⟩ F.entry_tuple_mul (F.args_tuple_mul_2 _ _) (fG l its.toArray n k t g1 c1' (by rw [decide_eq_false c2,he];rfl) g4 g5 (by rw [f0,zA2,gI,hl,Nat.mul_comm];exact hz)) ⟨e,?_⟩;rw [f0];have I2:Inv X pins σ (upd H s.heap.objs.size (.tup (List.replicate k.toNat xs).flatten)) { s with heap:=s.heap.push { cls:=.type "tuple",data:=.seq (List.replicate k.toNat its).flatten.toArray } }:=
        I.laid (t':=s.toks) (o:=.tup (List.replicate k.toNat xs).flatten) (fun b ob q=>Heap.get?_push_of_some _ q) (zA1 _) ⟨by rw [gI,Nat.mul_comm];exact hz,_,r.rep k.toNat,TupD.new _ _⟩
       exact ⟨.ref s.heap.objs.size,_,I2,rfl,q _ _ (Same.new (I.hok.fresh (zA1 _)) _) af⟩
 · exact h.elim
def Itrs (lo c:Int) (n:Nat):It:=⟨fun i _=>i<n,fun i H x H'=>H'=H/\x=.int (lo+i*c),fun i _=>n<=i⟩
theorem iH {P:Program} {w:World} {K:PySem.W.Frag} {tg:Expr} (it:Addr) (lo c:Int) (n:Nat):Turn P w K tg (Itrs lo c n) [it] it (fun i h=>IsRangeIter h it (lo+(i:Nat)*c) ((n:Int) - (i:Nat)) c) where
 mem:=by simp
 obj:=fun i h st b hb=>by
  have e:b=it:=by simpa using hb
  subst e;exact ⟨_,st,fun v z=>by
   have z':Data.fields _=Data.cell v:=z
   cases z'⟩
 keep:=fun i h h' st k=>k it (by simp) _ st
 item:=by
  sleep 4;subst hP hw hK;sleep 3;have W:=Walks.range (prog:=X.prog) (w:=X.w) (I.ok.hd hc) it lo c n;refine W.item i s _ _ hg st fun v h' tk hv st' kk=>?_;obtain ⟨t,rfl⟩:=hv;have I1:Inv X pins σ H { s with heap:=h',toks:=tk }:=I.turned (fun b o hb e=>kk b o (by simpa using hb) e) f0 f1 f3 f4 f5;exact ⟨_,rfl,j9 (s:={ s with heap:=h',toks:=tk }) (n:="range_iterator") st' rfl rfl (by decide) ⟨.int (lo+i*c),H,I1,⟨t,rfl⟩,⟨rfl,rfl⟩,st',fun b hb=>(hf b hb).1⟩⟩
 done:=by
  sleep 4;subst hP hw hK;sleep 3;exact wpAny_pyNext_range_end (I.ok.hd hc) st (by have:n<=i:=hg;lia) fun h' eb=>⟨rfl,I.turned (t':=s.toks) (fun b o hb e=>eb b o hb e) f0 f1 f3 f4 f5⟩
 self:=fun _ _ _ _ _ st h=>wpAny_pyIter_rangeiter st h
theorem eS {a b c:Int} (hc:c≠0):0<=Builtin.Range.rangeSize a b c:=by
 unfold Builtin.Range.rangeSize;split
 · split
   · have:=Int.ediv_nonneg (a:=b - a - 1) (b:=c) (by lia) (by lia);lia
   · lia
 · split
   · have:=Int.ediv_nonneg (a:=a - b - 1) (b:=-c) (by lia) (by lia);lia
   · lia
def iRng3 {tg:Expr} (ta:TA):TI:=fun σ H R=>ta σ H fun vs H1=>∃ i j c:Int,vs=[.int i,.int j,.int c]/\(c≠0/\(c<2 ^ 29/\-(2 ^ 29)<c)/\Builtin.Range.small i j c=true)/\R (Itrs i c (Builtin.Range.rangeSize i j c).toNat) H1
theorem lM {tg:Expr} {a b d:Expr} {ta:TA} {p pos:Pos} (hg:Gl X "range") (hm:X.mg "range" = none) (ha:PA X [a,b,d] ta) (hs:starEach [a,b,d] X.env=[(false,eval a X.env),(false,eval b X.env),(false,eval d X.env)]:=by rfl) (hs2:starEach [b,d] X.env=[(false,eval b X.env),(false,eval d X.env)]:=by rfl) :
 PI X tg (.Call (.Name "range" p) [a,b,d] [] pos) (iRng3 (tg:=tg) ta):=by
 intro pins s σ H R I h;refine Call_ (fe I hg hm boot_range (PyProof.Rows.callWith_type1 (thn (ha pos pins s σ H _ I h) fun us s1 ⟨vs,H1,I1,r1,q1⟩=>?_) (by rw [hs,hs2]) (by rw [hs2];rfl)));obtain ⟨i,j,c,e,⟨hc0,⟨hcb,hcb2⟩,hsm⟩,q⟩:=q1;subst e
 cases r1 with
 | cons r rr=>
   cases rr with
   | cons r' rr=>
     cases rr with
     | cons r'' rr=>
       cases rr
       obtain ⟨t,rfl⟩:=r
       obtain ⟨t',rfl⟩:=r'
       obtain ⟨t'',rfl⟩:=r''
       refine PySem.call_range_3 hc0 ?_ (Or.inl (PyProof.noPylong_small (by lia)))
       refine wpAny_pyIter_range (IsRange.new ..) hsm ?_
       have I2:Inv X pins σ H1 { s1 with heap:=s1.heap.push { cls:=.type "range",data:=.fields #[.int i t,.int j t',.int c t''] } }:=I1.kept (t':=s1.toks) fun b o e=>Heap.get?_push_of_some _ e
       refine ⟨(s1.heap.push { cls:=.type "range",data:=.fields #[.int i t,.int j t',.int c t''] }).objs.size,[(s1.heap.push { cls:=.type "range",data:=.fields #[.int i t,.int j t',.int c t''] }).objs.size],_,_,H1,rfl,
        I2.kept (t':=s1.toks) fun b o e=>Heap.get?_push_of_some _ e,iH _ i c (Builtin.Range.rangeSize i j c).toNat,?_,fun b hb=>?_,q⟩
       · have e1:i+((0:Nat):Int)*c=i:=by simp
         have e2:(((Builtin.Range.rangeSize i j c).toNat:Nat):Int) - ((0:Nat):Int)=Builtin.Range.rangeSize i j c:=by have:=eS (a:=i) (b:=j) hc0;lia
         show IsRangeIter _ _ (i+((0:Nat):Int)*c) ((((Builtin.Range.rangeSize i j c).toNat:Nat):Int) - ((0:Nat):Int)) c;rw [e1,e2];exact Heap.get?_push_size _ rfl
       · have e:b=(s1.heap.push { cls:=.type "range",data:=.fields #[.int i t,.int j t',.int c t''] }).objs.size:=by simpa using hb
         subst e;exact I2.fpOk (zA1 _) (I2.hok.fresh (zA1 _))
theorem cA {tg:Expr} {a b d:Expr} {ta:TA} {p pos:Pos} (hg:Gl X "range") (hm:X.mg "range" = none) (ha:ZA X [a,b,d] ta) (hs:starEach [a,b,d] X.env=[(false,eval a X.env),(false,eval b X.env),(false,eval d X.env)]:=by rfl) (hs2:starEach [b,d] X.env=[(false,eval b X.env),(false,eval d X.env)]:=by rfl) :
 ZI X tg (.Call (.Name "range" p) [a,b,d] [] pos) (iRng3 (tg:=tg) ta):=by with_unfolding_all exact lM hg hm ha hs hs2
theorem ci {lo c:Int} {n:Nat} {g:TG} {tb:TS} {D:Ends} {σ:St} {H:Hp} (Pv:Nat->St->Hp->Prop) (h0:Pv 0 σ H)
 (hs:∀ i σ H,i<n->Pv i σ H->g (.int (lo+i*c)) σ H fun σ2 H2=>tb { D with nx:=Pv (i+1),ct:=Pv (i+1),bk:=D.nx } σ2 H2) (hd:∀ σ H,Pv n σ H->D.nx σ H) :
 ∃ W:Nat->Nat->St->Hp->Prop,(∃ m,W 0 m σ H)/\∀ i m σ H,W i m σ H ->
   ((Itrs lo c n).stop i H/\D.nx σ H)\/((Itrs lo c n).go i H/\∃ N:St->Hp->Prop,(∀ σ' H',N σ' H'->∃ m',m' < m/\W (i+1) m' σ' H')/\∀ x H',(Itrs lo c n).yld i H x H'->g x σ H' fun σ2 H2=>tb { D with nx:=N,ct:=N,bk:=D.nx } σ2 H2):=by
 refine ⟨fun i m σ H=>m=n - i/\i<=n/\Pv i σ H,⟨n,by simp,zB0 _,h0⟩,?_⟩;rintro i m σ H ⟨rfl,hi,p⟩;by_cases hlt:i<n
 · refine .inr ⟨hlt,Pv (i+1),fun σ' H' p'=>⟨n - (i+1),by lia,rfl,hlt,p'⟩,fun x H' y=>?_⟩;obtain ⟨e,y⟩:=y;subst e y;exact hs i σ _ hlt p
 · have e:i=n:=by lia
   subst e;exact .inl ⟨zA1 _,hd σ H p⟩
theorem eT {a b:Int}:(Builtin.Range.rangeSize a b (-1)).toNat=(a - b).toNat:=by
 unfold Builtin.Range.rangeSize;rw [if_neg (by decide)];split
 · have:(- -1:Int)=1:=by decide
   rw [this,Int.ediv_one];lia
 · lia
theorem dE {a b:Int} (ha:-(2 ^ 62)<=a) (ha':a<2 ^ 62) (hb:-(2 ^ 62)<=b) (hb':b<2 ^ 62):Builtin.Range.small a b (-1)=true:=by
 have e:Builtin.Range.rangeSize a b (-1)=if a > b then a - b else 0:=by
  unfold Builtin.Range.rangeSize;rw [if_neg (by decide)];have:(- -1:Int)=1:=by decide
  rw [this];split
  · rw [Int.ediv_one];lia
  · rfl
 unfold Builtin.Range.small;rw [e];simp only [Builtin.Range.rangeFitsLong,zD6,Bool.or_eq_true,decide_eq_true_eq,beq_iff_eq,show ¬ ((-1:Int) > 0) by decide,if_false];split <;> lia
end
section
variable {X:Cx} {e:Expr} {es:List Expr} {t:TA} {p pos:Pos}
theorem nH:bootBuiltins "sum" = some (.builtin "sum"):=by decide +kernel
theorem nJ:bootBuiltins "max" = some (.builtin "max"):=by decide +kernel
theorem nM:bootBuiltins "abs" = some (.builtin "abs"):=by decide +kernel
theorem tR (hc:X.calm=true) (hg:Gl X "sum") (hm:X.mg "sum" = none) (ha:PA X (e::es) t) (he:.(1)) (hpl:.(3)) :
 PE X (.Call (.Name "sum" p) (e::es) [] pos) (tCB (oN X.K) t):=bt (ng hc) hg hm nH ha (by decide) (by decide) he hpl
theorem si (hc:X.calm=true) (hg:Gl X "sum") (hm:X.mg "sum" = none) (ha:ZA X (e::es) t) (he:.(1)) (hpl:.(3)) :
 ZE X (.Call (.Name "sum" p) (e::es) [] pos) (tCB (oN X.K) t):=by with_unfolding_all exact tR hc hg hm ha he hpl
theorem tU (hc:X.calm=true) (hg:Gl X "max") (hm:X.mg "max" = none) (ha:PA X (e::es) t) (he:.(1)) (hpl:.(3)) :
 PE X (.Call (.Name "max" p) (e::es) [] pos) (tCB (ju X.K) t):=bt (np hc) hg hm nJ ha (by decide) (by decide) he hpl
theorem kC (hc:X.calm=true) (hg:Gl X "max") (hm:X.mg "max" = none) (ha:ZA X (e::es) t) (he:.(1)) (hpl:.(3)) :
 ZE X (.Call (.Name "max" p) (e::es) [] pos) (tCB (ju X.K) t):=by with_unfolding_all exact tU hc hg hm ha he hpl
def o1:List V->Hp->VK->Prop:=fun xs H Q=>match xs with
 | [.int i]=>Q (.int (if i<0 then -i else i)) H
 | _=>False
theorem nF:CallR X (.builtin "abs") o1:=call_abs.imp fun xs H Q h=>by
 unfold o1 at h;split at h
 · exact ⟨_,rfl,h⟩
 · exact h.elim
theorem tX (hg:Gl X "abs") (hm:X.mg "abs" = none) (ha:PA X (e::es) t) (he:.(1)) (hpl:.(3)) :
 PE X (.Call (.Name "abs" p) (e::es) [] pos) (tCB o1 t):=bt nF hg hm nM ha (by decide) (by decide) he hpl
theorem iG (hg:Gl X "abs") (hm:X.mg "abs" = none) (ha:ZA X (e::es) t) (he:.(1)) (hpl:.(3)) :
 ZE X (.Call (.Name "abs" p) (e::es) [] pos) (tCB o1 t):=by with_unfolding_all exact tX hg hm ha he hpl
def oZ:V->List V->Hp->VK->Prop:=fun x vs H Q=>match x,vs with
 | .ref l,[y]=>∃ xs,H l=some (.lst xs)/\xs.length<sizeLine/\Q .non (upd H l (.lst (xs++[y])))
 | _,_=>False
theorem uv:MtM X "list.append" oZ:=fun pins s σ H x vs v us Q I rx rv h=>by
 unfold oZ at h;split at h
 · obtain ⟨xs,h1,h2,q⟩:=h;exact mw pins s σ H _ _ v us Q I rx rv ⟨_,xs,_,rfl,rfl,h1,h2,q⟩
 · exact h.elim
variable {o:Expr} {to:TE} {apos cpos:Pos}
theorem lK (ho:PE X o to) (ha:PA X (e::es) t) (hbase:attributeBase o "append" X.env (eval o X.env)=eval o X.env:=by rfl)
 (hfew:(.(23).all (fun x=>!x.1)&&.(22).all (fun x=>x.1.isSome)
   && decide .(7))=true:=by rfl)
 (hline:(apos.endLine == cpos.line)=true:=by rfl) (hs:starEach (e::es) X.env=.(9)::starEach es X.env:=by rfl) (hplain:(backTo cpos .(13)).any (·.1)=false:=by rfl) :
 PE X (.Call (.Attribute o "append" apos) (e::es) [] cpos) (fun σ H Q=>to σ H fun x H1=>tyV X.K "list" x H1/\t σ H1 fun xs H2=>oZ x xs H2 Q):=
 j0 PySem.F.plainAttrs_list PySem.F.slot_list_append PySem.F.type_list_append uv ho ha hbase hfew hline hs hplain
theorem gQ (ho:ZE X o to) (ha:ZA X (e::es) t) (hbase:attributeBase o "append" X.env (eval o X.env)=eval o X.env:=by rfl)
 (hfew:(.(23).all (fun x=>!x.1)&&.(22).all (fun x=>x.1.isSome)
   && decide .(7))=true:=by rfl)
 (hline:(apos.endLine == cpos.line)=true:=by rfl) (hs:starEach (e::es) X.env=.(9)::starEach es X.env:=by rfl) (hplain:(backTo cpos .(13)).any (·.1)=false:=by rfl) :
 ZE X (.Call (.Attribute o "append" apos) (e::es) [] cpos) (fun σ H Q=>to σ H fun x H1=>tyV X.K "list" x H1/\t σ H1 fun xs H2=>oZ x xs H2 Q):=by with_unfolding_all exact lK ho ha hbase hfew hline hs hplain
theorem jx (ho:PE X o to) (ha:PA X (e::es) t) (hbase:attributeBase o "count" X.env (eval o X.env)=eval o X.env:=by rfl)
 (hfew:(.(23).all (fun x=>!x.1)&&.(22).all (fun x=>x.1.isSome)
   && decide .(7))=true:=by rfl)
 (hline:(apos.endLine == cpos.line)=true:=by rfl) (hs:starEach (e::es) X.env=.(9)::starEach es X.env:=by rfl) (hplain:(backTo cpos .(13)).any (·.1)=false:=by rfl) :
 PE X (.Call (.Attribute o "count" apos) (e::es) [] cpos) (fun σ H Q=>to σ H fun x H1=>tyV X.K "tuple" x H1/\t σ H1 fun xs H2=>dG x xs H2 Q):=
 j0 PySem.F.plainAttrs_tuple PySem.F.slot_tuple_count PySem.F.type_tuple_count pT ho ha hbase hfew hline hs hplain
theorem ee (ho:ZE X o to) (ha:ZA X (e::es) t) (hbase:attributeBase o "count" X.env (eval o X.env)=eval o X.env:=by rfl)
 (hfew:(.(23).all (fun x=>!x.1)&&.(22).all (fun x=>x.1.isSome)
   && decide .(7))=true:=by rfl)
 (hline:(apos.endLine == cpos.line)=true:=by rfl) (hs:starEach (e::es) X.env=.(9)::starEach es X.env:=by rfl) (hplain:(backTo cpos .(13)).any (·.1)=false:=by rfl) :
 ZE X (.Call (.Attribute o "count" apos) (e::es) [] cpos) (fun σ H Q=>to σ H fun x H1=>tyV X.K "tuple" x H1/\t σ H1 fun xs H2=>dG x xs H2 Q):=by with_unfolding_all exact jx ho ha hbase hfew hline hs hplain
theorem tyL {K:PySem.W.Frag} {H:Hp} {l:Addr} {xs:List V} (h:H l=some (.lst xs)):tyV K "list" (.ref l) H:=.inl ⟨rfl,xs,SqL.of h⟩
theorem tyT {K:PySem.W.Frag} {H:Hp} {l:Addr} {xs:List V} (h:H l=some (.tup xs)):tyV K "tuple" (.ref l) H:=.inr (.inr (.inr (.inr ⟨rfl,xs,h⟩)))
end
theorem DatV.ints {H:Hp} {a:Addr} {ns:List Int} (e:H a=some (.tup (ns.map V.int))):DatV H (.ref a) (.tuple (ns.map PyData.int)):=.tup e (DatAll.ints ns)
def PrAt (H:Hp) (v:V) (p:Int×Int):Prop:=∃ b,v=.ref b/\H b=some (.tup [.int p.1,.int p.2])
inductive Prs (H:Hp):List V->List (Int×Int)->Prop where
 | nil:Prs H [] []
 | cons {v p vs ps}:PrAt H v p->Prs H vs ps->Prs H (v::vs) (p::ps)
theorem Prs.same {H H':Hp} (y:Same H H'):∀ {vs ps},Prs H vs ps->Prs H' vs ps
 | _,_,.nil=>.nil
 | _,_,.cons ⟨b,e,h⟩ r=>.cons ⟨b,e,y _ _ h⟩ (Prs.same y r)
theorem Prs.length {H:Hp}:∀ {vs ps},Prs H vs ps->vs.length=ps.length
 | _,_,.nil=>rfl
 | _,_,.cons _ r=>by rw [zB5,zB5,Prs.length r]
theorem Prs.get {H:Hp}:∀ {vs ps} {i:Nat} {v:V},Prs H vs ps->vs[i]? = some v->∃ p,ps[i]? = some p/\PrAt H v p
 | _,_,_,_,.nil,h=>by simp at h
 | _,_,0,_,.cons h _,e=>by simp at e;subst e;exact ⟨_,rfl,h⟩
 | _,_,i+1,_,.cons _ r,e=>by
   obtain ⟨p,h1,h2⟩:=Prs.get (i:=i) r (by simpa using e);exact ⟨p,by simpa using h1,h2⟩
theorem Prs.snoc {H:Hp} {v:V} {p:Int×Int} (h:PrAt H v p):∀ {vs ps},Prs H vs ps->Prs H (vs++[v]) (ps++[p])
 | _,_,.nil=>.cons h .nil
 | _,_,.cons q r=>.cons q (Prs.snoc h r)
theorem Same.updN {H H':Hp} {t:Addr} {o:HO} (y:Same H H') (h:H t=none):Same H (upd H' t o):=fun b u e=>by
 rw [aH (bo e h)];exact y b u e
theorem iY:∀ ns:List Int,PyData.canLayAll0 (ns.map PyData.int)=true/\PyData.depthAll (ns.map PyData.int)<=1
 | []=>⟨by simp [PyData.canLayAll0],by simp [PyData.depthAll]⟩
 | n::r=>by
   obtain ⟨h1,h2⟩:=iY r;refine ⟨by simp only [zC5,PyData.canLayAll0,PyData.canLay0,h1,Bool.and_self],?_⟩;simp only [zC5,PyData.depthAll,PyData.depth];lia
theorem aJ (ns:List Int):SeqAt.shaped (.tuple (ns.map PyData.int))=true:=by
 obtain ⟨h1,h2⟩:=iY ns;unfold SeqAt.shaped;rw [zD6];exact ⟨by simp only [PyData.canLay0];exact h1,decide_eq_true (by simp only [PyData.depth];lia)⟩
theorem aU (ns:List Int):SeqAt.shaped (.list (ns.map PyData.int))=true:=by
 obtain ⟨h1,h2⟩:=iY ns;unfold SeqAt.shaped;rw [zD6];exact ⟨by simp only [PyData.canLay0];exact h1,decide_eq_true (by simp only [PyData.depth];lia)⟩
theorem SqL.same {K:PySem.W.Frag} {H H':Hp} {a:Addr} {xs:List V} (e:Same H H') (h:SqL K H a xs):SqL K H' a xs:=by
 rcases h with (h | ⟨o,h⟩) | h
 · exact .inl (.inl (e _ _ h))
 · exact .inl (.inr ⟨o,e _ _ h⟩)
 · exact .inr h
theorem eJ {c:TT} {tb:TS} {D:Ends} {σ:St} {H:Hp} (Pv:Nat->St->Hp->Prop) (m0:Nat) (h0:Pv m0 σ H)
 (hs:∀ m σ H,Pv m σ H->c σ H fun b H1=>if b=true then ∃ N:St->Hp->Prop,(∀ σ' H',N σ' H'->∃ m',m' < m/\Pv m' σ' H')/\tb { D with nx:=N,ct:=N,bk:=D.nx } σ H1 else D.nx σ H1):kL c tb D σ H:=⟨Pv,⟨m0,h0⟩,hs⟩
section
variable {X:Cx}
def rGetL (K:PySem.W.Frag):V->V->Hp->VK->Prop:=fun x y H Q=>match x,y with
 | .ref p,.int i=>∃ xs v,SqL K H p xs/\0<=i/\xs[i.toNat]? = some v/\Q v H
 | _,_=>False
theorem eC:PGet X (rGetL X.K):=by
 sleep 0;unfold rGetL at h;split at h
 · rename_i p i
   obtain ⟨xs,z,hq,h0,he,q⟩:=h
   cases rx
   obtain ⟨t,rfl⟩:=ry;obtain ⟨its,r,pl,hz⟩:=I.list hq;obtain ⟨w,ew,rw'⟩:=r.get he;have hl:=r.length;have hn:=fc;have hi:i.toNat<its.length:=(List.getElem?_eq_some_iff.mp ew).1;exact wpAny_getItem_list pl.isList h0 (by lia) (by simpa using ew) ⟨z,H,I,rw',q⟩
 · exact h.elim
def ipP (f:Int->Int->Int):TIp:=fun x y H Q=>match x,y with
 | .int i,.int j=>Q (.int (f i j)) H
 | _,_=>False
theorem ipP_I {f:Int->Int->Int} {x y:V} {H:Hp} {Q:VK} (h:ipP f x y H Q):ipI f x y H Q:=by
 unfold ipP at h;split at h
 · exact ⟨_,_,rfl,rfl,h⟩
 · exact h.elim
theorem dI:PIp X .Add (ipP fun i j=>i+j):=fun pins s σ H x y v u Q I r1 r2 h=>ip_add pins s σ H x y v u Q I r1 r2 (ipP_I h)
theorem mJ:PIp X .Sub (ipP fun i j=>i - j):=fun pins s σ H x y v u Q I r1 r2 h=>ip_sub pins s σ H x y v u Q I r1 r2 (ipP_I h)
def rSetP:V->V->V->Hp->(Hp->Prop)->Prop:=fun o i v H Q=>match o,i with
 | .ref p,.int k=>∃ xs,H p=some (.lst xs)/\0<=k/\k.toNat<xs.length/\Q (upd H p (.lst (xs.set k.toNat v)))
 | _,_=>False
theorem dc:vh X rSetP:=fun pins s σ H o i v ov iv u Q I r1 r2 r3 h=>by
 unfold rSetP at h;split at h
 · obtain ⟨xs,h1,h2,h3,q⟩:=h;refine eh pins s σ H _ _ v ov iv u Q I r1 r2 r3 ⟨_,xs,_,_,rfl,rfl,h1,?_,q⟩;unfold ixN;rw [if_pos h2,if_pos (by lia)]
 · exact h.elim
end
section
variable {X:Cx} {e:Expr} {es:List Expr} {t:TA} {p pos:Pos} {K:PySem.W.Frag} {o:Expr} {to:TE} {apos cpos:Pos}
theorem pC (hg:Gl X "len") (hm:X.mg "len" = none) (ha:PA X (e::es) t) (he:.(1)) (hpl:.(3)) (hK:X.K=K) :
 PE X (.Call (.Name "len" p) (e::es) [] pos) (tCB (jX K) t):=by subst hK;exact lT hg hm ha he hpl
theorem oj (hg:Gl X "len") (hm:X.mg "len" = none) (ha:ZA X (e::es) t) (he:.(1)) (hpl:.(3)) (hK:X.K=K) :
 ZE X (.Call (.Name "len" p) (e::es) [] pos) (tCB (jX K) t):=by with_unfolding_all exact pC hg hm ha he hpl hK
theorem lJ (ho:PE X o to) (ha:PA X (e::es) t) (hK:X.K=K) (hbase:attributeBase o "count" X.env (eval o X.env)=eval o X.env:=by rfl)
 (hfew:(.(23).all (fun x=>!x.1)&&.(22).all (fun x=>x.1.isSome)
   && decide .(7))=true:=by rfl)
 (hline:(apos.endLine == cpos.line)=true:=by rfl) (hs:starEach (e::es) X.env=.(9)::starEach es X.env:=by rfl) (hplain:(backTo cpos .(13)).any (·.1)=false:=by rfl) :
 PE X (.Call (.Attribute o "count" apos) (e::es) [] cpos) (fun σ H Q=>to σ H fun x H1=>tyV K "tuple" x H1/\t σ H1 fun xs H2=>dG x xs H2 Q):=by subst hK;exact jx ho ha hbase hfew hline hs hplain
theorem ku (ho:ZE X o to) (ha:ZA X (e::es) t) (hK:X.K=K) (hbase:attributeBase o "count" X.env (eval o X.env)=eval o X.env:=by rfl)
 (hfew:(.(23).all (fun x=>!x.1)&&.(22).all (fun x=>x.1.isSome)
   && decide .(7))=true:=by rfl)
 (hline:(apos.endLine == cpos.line)=true:=by rfl) (hs:starEach (e::es) X.env=.(9)::starEach es X.env:=by rfl) (hplain:(backTo cpos .(13)).any (·.1)=false:=by rfl) :
 ZE X (.Call (.Attribute o "count" apos) (e::es) [] cpos) (fun σ H Q=>to σ H fun x H1=>tyV K "tuple" x H1/\t σ H1 fun xs H2=>dG x xs H2 Q):=by with_unfolding_all exact lJ ho ha hK hbase hfew hline hs hplain
end
section
variable {X:Cx}
def cN (mg:.(32)) (x:Str) (i:Int):Prop:=∃ t,mg x=some (.int i t)
theorem pe_ig {x:Str} {i:Int} {pos:Pos} (hg:Gl X x) (hm:cN X.mg x i) (hd:.(25)=false:=by decide):PE X (.Name x pos) (tC (.int i)):=by
 obtain ⟨t,e⟩:=hm;exact gA hg e ⟨t,rfl⟩ hd
theorem cC {x:Str} {i:Int} {pos:Pos} (hg:Gl X x) (hm:cN X.mg x i) (hd:.(25)=false:=by decide):ZE X (.Name x pos) (tC (.int i)):=by with_unfolding_all exact pe_ig hg hm hd
end
section
variable {M:Model} {A:Around} {E:Value->Shared->Prop} {s:Shared}
theorem uq {scope:Scope} {globals:Addr} {cl:List (Str×Addr)} {qual:Str} {env:Env} {x:Str} {Q:Env->Shared->Prop}
 (hcl:∀ n acc,cellsFrom n scope.names acc=(x,n)::acc) (hpc:∀ h:Heap,pushCells h scope.names=h.push { cls:=.type "cell",data:=.cell none })
 (h:Q { scope,locals:=s.heap.objs.size,globals,cells:=(x,s.heap.objs.size+1)::cl,qual,func:=none,code:=env.code,frame:=env.frame,builtins:=env.builtins }
   { s with heap:=(s.heap.push { cls:=.type "dict",data:=.dict #[] }).push { cls:=.type "cell",data:=.cell none } }) :
 wpAny M A (newFunctionEnv scope globals cl [] qual none .none (some env)) Q E s:=by
 simp only [newFunctionEnv,Option.isSome_some,if_true];refine wpAny_bind (wpAny_alloc ?_);refine wpAny_bind (wpAny_layCells _ (fun name kind cells=>by cases hkc:kind == NameKind.cell <;> simp [hkc]) _ _ _ _ ?_);rw [hcl,hpc,show ({ s with heap:=s.heap.push { cls:=.type "dict",data:=.dict #[] } }:Shared).heap.objs.size=s.heap.objs.size+1 from Heap.size_push ..];rw [List.forIn_nil];exact wpAny_bind (wpAny_pure (wpAny_pure h))
end
def dv (X:Cx) (x:Str) (scope:Scope) (C:Addr):List (Str×Addr):=(x,C+1)::cX X.env scope.names []
def bz (X:Cx) (x:Str) (nv:List Str) (ix:List (Str×Nat)) (scope:Scope) (C:Addr) (s₀:Shared) (H₀:Hp) (fp:List Addr):Cx:=
 { X with N:=nv++ix.map (·.1),s₀:=s₀,H₀:=H₀,env:={ compEnvC scope (cX X.env scope.names []) C X.env with cells:=dv X x scope C },outer:=X.stack,stack:=X.stack,ex:=fp,fn:=fun y=>y == x,pn:=[],xe:=fun _ _=>False }
structure CompOk1 (X:Cx) (x:Str) (nv:List Str) (ix:List (Str×Nat)) (scope:Scope):Prop where
 kind:scope.kind=.function
 names:∀ y∈scope.names,y.2=.local->scope.names.lookup y.1=some .local
 free:(scope.names.all fun y=>!(y.2 == NameKind.free)||((X.env.kindOf y.1 == some NameKind.cell||X.env.kindOf y.1 == some NameKind.free)&&!(y.1 == x)))=true
 ix:(ix.all fun p=>(scope.names.lookup p.1 == some NameKind.free)&&(X.N[p.2]? == some p.1))=true
 cl:∀ n acc,cellsFrom n scope.names acc=(x,n)::acc
 pc:∀ h:Heap,pushCells h scope.names=h.push { cls:=.type "cell",data:=.cell none }
 own:(scope.names.all fun y=>!(y.2 == NameKind.cell)||(y.1 == x))=true
section
variable {X:Cx} {x:Str} {nv:List Str} {ix:List (Str×Nat)} {scope:Scope} {pins:List (Addr×Obj)} {σ:St} {H:Hp} {s:Shared}
theorem CompOk1.fk (co:CompOk1 X x nv ix scope) {y:Str×NameKind} (hy:y∈scope.names) (hf:y.2=.free):(X.env.kindOf y.1=some .cell\/X.env.kindOf y.1=some .free)/\y.1≠x:=by
 have q:=zB8.mp co.free y hy;rw [hf] at q;simpa using q
theorem CompOk1.cells (co:CompOk1 X x nv ix scope) (ok:X.Ok):∀ y∈scope.names,y.2=.free->∃ c,X.env.cells.lookup y.1=some c:=fun y hy hf=>ok.has y.1 (co.fk hy hf).1
theorem CompOk1.look0 (co:CompOk1 X x nv ix scope) (ok:X.Ok) {n:Str} {c:Addr} (h:(cX X.env scope.names []).lookup n=some c):X.env.cells.lookup n=some c:=
 dL _ _ (co.cells ok) (fun _ _ e=>by cases e) n c h
theorem CompOk1.look (co:CompOk1 X x nv ix scope) (ok:X.Ok) {n:Str} {c C:Addr} (h:(dv X x scope C).lookup n=some c):(n=x/\c=C+1)\/X.env.cells.lookup n=some c:=by
 unfold dv at h;rw [zD9] at h
 cases e:n == x with
 | true=>rw [e] at h;cases h;exact .inl ⟨by simpa using e,rfl⟩
 | false=>rw [e] at h;exact .inr (co.look0 ok h)
theorem CompOk1.ixp (co:CompOk1 X x nv ix scope) {p:Str×Nat} (hp:p∈ix):scope.names.lookup p.1=some .free/\X.N[p.2]? = some p.1:=by
 have q:=zF8.mp (zB8.mp co.ix p hp);exact ⟨by simpa using q.1,by simpa using q.2⟩
theorem CompOk1.isx (co:CompOk1 X x nv ix scope) {y:Str} (hy:(y,NameKind.cell)∈scope.names):y=x:=by
 have q:=zB8.mp co.own _ hy;simpa using q
theorem ga (co:CompOk1 X x nv ix scope) {y:Str} {C:Addr} (hy:(y,NameKind.free)∈scope.names):∃ c,(dv X x scope C).lookup y=some c:=by
 unfold dv;rw [zD9]
 cases e:y == x with
 | true=>exact ⟨_,rfl⟩
 | false=>exact dt _ _ y (.inl hy)
theorem ql (co:CompOk1 X x nv ix scope) (I:.(14)) {fp:List Addr} {C:Addr} (hC:s.heap.objs.size<=C) (hf:∀ b∈fp,fD X pins H b) (hlt:∀ b∈fp,b<s.heap.objs.size):(bz X x nv ix scope C s H fp).Ok where
 mod:=I.mod
 kind:=co.kind
 glob:=I.ok.glob
 blt:=I.ok.blt
 above:=hC
 inj:=fun y z c a b=>by
  have low:∀ {n:Str},X.env.cells.lookup n=some c->c=C+1->False:=fun {n} e q=>by
   obtain ⟨v,o,e1,_⟩:=I.cell n c e;have:=Heap.lt_size e1;rw [q] at this;exact zD8 _ (zB9 (Nat.lt_of_succ_lt this) hC)
  rcases co.look I.ok a with ⟨h1,h2⟩ | h1 <;> rcases co.look I.ok b with ⟨g1,g2⟩ | g1
  · rw [h1,g1]
  · exact (low g1 h2).elim
  · exact (low h1 g2).elim
  · exact I.ok.inj y z c h1 g1
 has:=fun y hk=>by
  have z:(y,NameKind.free)∈scope.names\/y=x:=by
   rcases hk with hk | hk
   · obtain ⟨k,h1,_,h3⟩:=cR (env:=X.env) (names:=scope.names) hk;rcases h3 with h3 | ⟨h3,_⟩
     · rw [← h3] at h1;exact .inr (co.isx h1)
     · rw [h3] at h1;exact .inl h1
   · obtain ⟨k,h1,_,h3⟩:=cR (env:=X.env) (names:=scope.names) hk;rcases h3 with h3 | ⟨_,h3⟩
     · rw [← h3] at h1;exact .inl h1
     · cases h3
  rcases z with z | rfl
  · exact ga co z
  · refine ⟨C+1,?_⟩;show (dv X y scope C).lookup y=_;unfold dv;simp
 cab:=fun y c h e=>by
  rcases co.look I.ok e with ⟨_,h2⟩ | h2
  · rw [h2];exact Nat.le_succ_of_le hC
  · have hy:y=x:=by simpa [bz] using h
    have e':(dv X x scope C).lookup y=some c:=e;unfold dv at e';rw [hy] at e';have:c=C+1:=by simpa using e'.symm
    rw [this];exact Nat.le_succ_of_le hC
 hd:=I.ok.hd
 frames:=I.ok.frames
 stk:=.inl rfl
 exf:=fun b hb=>⟨zC2 (zB9 (hlt b hb) hC),fun y c e=>by
  rcases co.look I.ok e with ⟨_,h2⟩ | h2
  · have:=hlt b hb;intro z;rw [← z,h2] at this;exact zD8 _ (zB9 (Nat.lt_of_succ_lt this) hC)
  · exact (hf b hb).2.2.2.2.1 y c h2⟩
 bs:=fun b o e=>I.bs b o e
 bsz:=zE6 I.ok.bsz I.sz
 noex:=fun b o e hb=>by
  rcases (hf b hb).2.2.2.1 with z | z
  · exact I.ok.noex b o e z
  · exact absurd (zB9 (Heap.lt_size e) (zE6 I.ok.bsz z)) (zD8 _)
 exfs:=fun b hb hs=>by
  rcases zA8.mp (I.stkSub b hs) with e | h
  · exact (hf b hb).2.1 e
  · exact (hf b hb).2.2.1 h
 funs:=I.stack
 frf:=I.stkFree
theorem kb (co:CompOk1 X x nv ix scope) (I:.(14)) {fp:List Addr} {h₁:Heap} {tk:Nat} {m:.(32)} (hf:∀ b∈fp,fD X pins H b) (hlt:∀ b∈fp,b<s.heap.objs.size)
 (hn:h₁.Ns .(16) m) (old:∀ b o,s.heap.get? b=some o->h₁.get? b=some o) (hD:h₁.get? s.heap.objs.size=some (dH [] 0)) (hce:h₁.IsCell (s.heap.objs.size+1+1) none) :
 Inv (bz X x nv ix scope .(16) s H fp) [(s.heap.objs.size,dH [] 0)] (st0 nv ix σ) H { s with heap:=h₁,toks:=tk } where
 ok:=ql co I (zF7 _) hf hlt
 os:=rfl
 bare:=I.bare
 base:=Un.kept old
 loc:=by
  refine ⟨m,hn,fun i y v e1 e2 hv=>?_⟩;obtain ⟨m₀,_,hl⟩:=I.loc;have e1':(nv++ix.map (·.1))[i]? = some y:=e1;unfold st0 at e2;by_cases hi:i<nv.length
  · rw [List.getElem?_append_left (by rw [zA0];exact hi),List.getElem?_map] at e2
    cases q:nv[i]? with
    | none=>rw [q] at e2;cases e2
    | some z=>rw [q] at e2;cases e2
  · have hi':nv.length<=i:=Nat.not_lt.mp hi;rw [List.getElem?_append_right hi',List.getElem?_map] at e1';rw [List.getElem?_append_right (by rw [zA0];exact hi'),zA0] at e2;unfold frV at e2;rw [List.getElem?_map] at e2
    cases q:ix[i - nv.length]? with
    | none=>rw [q] at e1';cases e1'
    | some p=>
      rw [q] at e1' e2
      have hp:p∈ix:=zD3 q
      have ex:p.1=y:=Option.some.inj e1'
      have ev:σ[p.2]? = some (some v):=io (Option.some.inj e2)
      obtain ⟨f1,f2⟩:=co.ixp hp
      obtain ⟨hk,hpx⟩:=co.fk (cg f1) rfl
      obtain ⟨u,r,l⟩:=hl p.2 p.1 v f2 ev (hk.elim (fun z=>.inr (.inl z)) fun z=>.inr (.inr z))
      refine ⟨u,r,.inr ⟨?_,?_⟩⟩
      · obtain ⟨k',hk'⟩:=lu (env:=X.env) f1;obtain ⟨k,h1,h2,h3⟩:=cR hk';rw [f1] at h2
        cases h2
        rw [← ex];rcases h3 with h3 | ⟨_,h3⟩
        · exact .inr (hk'.trans (congrArg some h3))
        · exact .inl (hk'.trans (congrArg some h3))
      · obtain ⟨c,hc⟩:=ga (C:=s.heap.objs.size+1) co (cg f1);refine ⟨c,by rw [← ex];exact hc,?_⟩;have hc':X.env.cells.lookup p.1=some c:=by
         rcases co.look I.ok hc with ⟨z,_⟩ | z
         · exact absurd z hpx
         · exact z
        rcases l with ⟨z,_⟩ | ⟨_,c',z1,o,z2,z3⟩
        · have z':X.env.kindOf p.1=some .local:=z;rcases hk with hk | hk
          · have hk':X.env.kindOf p.1=some .cell:=hk;rw [z'] at hk';cases hk'
          · have hk':X.env.kindOf p.1=some .free:=hk;rw [z'] at hk';cases hk'
        · rw [hc'] at z1
          cases z1
          exact ⟨o,old _ _ z2,z3⟩
 cell:=fun y c e=>by
  rcases co.look I.ok e with ⟨_,h2⟩ | h2
  · rw [h2];exact ⟨_,hce⟩
  · obtain ⟨v,o,h1,h2⟩:=I.cell y c h2;exact ⟨v,o,old _ _ h1,h2⟩
 free:=I.hok.fresh (zF7 _)
 freeC:=fun y c e=>by
  rcases co.look I.ok e with ⟨_,h2⟩ | h2
  · rw [h2];exact I.hok.fresh (by lia)
  · exact I.freeC y c h2
 pin:=fun p hp=>by
  have e:p=(s.heap.objs.size,dH [] 0):=by simpa [bz] using hp
  subst e;refine ⟨hD,I.hok.fresh (zA1 _),zC2 (zF0 _),fun hb=>?_,fun v z=>by cases z⟩;rcases zA8.mp (I.stkSub _ hb) with e | h
  · exact absurd I.lt (by rw [← e];exact zD8 _)
  · exact I.nofs (zA1 _) h
 hok:=I.hok.kept old
 len:=by
  show (nv.map (fun _=>none)++frV σ ix).length=(nv++ix.map (·.1)).length;unfold frV;simp
theorem qk {ps2:.(31)} {σ2:St} {H':Hp} {s':Shared} {fp:List Addr} {C:Addr} (I:.(14)) (hf:∀ b∈fp,fD X pins H b) (Ic:Inv (bz X x nv ix scope C s H fp) ps2 σ2 H' s'):Inv X pins σ H' s':=
 I.call' (ch:=fp) Ic.os Ic.base Ic.hok Ic.bare fun b hb=>⟨(hf b hb).2.2.2.1,(hf b hb).2.1,(hf b hb).2.2.2.2.1,(hf b hb).2.2.2.2.2⟩
end
section
variable {X:Cx} {x:Str} {nv:List Str} {ix:List (Str×Nat)} {scope:Scope} {pins:List (Addr×Obj)} {σ:St} {H:Hp} {s:Shared} {elt tg iter:Expr} {ifs:List Expr} {pos:Pos}
theorem m4 {J:It} {fp:List Addr} {it:Addr} {tn:Nat->Heap->Prop} {g:TG} {ti:TT} {te:TE} {Fin:List V->Hp->Prop} {E:.(21)} {RR:Value->Addr->Result->Shared->Prop}
 (co:CompOk1 X x nv ix scope) (hc:X.calm=true) (I:.(14)) (T:Turn X.prog X.w X.K tg J fp it tn) (st:tn 0 s.heap) (hf:∀ b∈fp,fD X pins H b)
 (kg:KpG nv g) (hg:∀ C s₀ H₀ fp,PG (bz X x nv ix scope C s₀ H₀ fp) tg g) (hi:∀ C s₀ H₀ fp,PIf (bz X x nv ix scope C s₀ H₀ fp) ifs ti) (he:∀ C s₀ H₀ fp,PE (bz X x nv ix scope C s₀ H₀ fp) elt te)
 (q:rW nv ix g ti te σ J Fin H)
 (fin:∀ D C s' H' ys,Inv X pins σ (upd H' D (.lst ys)) s'->H' D=none->Fin ys H'->(∃ m,s'.heap.Ns C m)->fD X pins (upd H' D (.lst ys)) C->RR (.ref D) C (.ok .next) s') :
 wpAny .(15) X.A (newList []) (fun acc s₃=>wpAny .(15) X.A (newFunctionEnv scope X.env.globals (cX X.env scope.names []) [] X.env.qual none .none (some X.env)) (fun cenv s₄=>
  codeAny .(15) X.A (.compStart .(20) 0 (.ref it) acc { cenv with scope:=relabel scope X.env }) (RR acc cenv.locals) s₄) E s₃) E s:=by
 obtain ⟨W,⟨m0,w0⟩,turn⟩:=q;refine wpAny_newObj_type (uq (x:=x) co.cl co.pc ?_);dsimp only;generalize hH2:s.heap.push { cls:=.type "list",dict:=none,data:=.seq ([]:List Value).toArray }=H2;have hC:H2.objs.size=s.heap.objs.size+1:=by rw [← hH2,Heap.size_push]
 rw [hC];generalize hh1:(H2.push { cls:=.type "dict",data:=.dict #[] }).push { cls:=.type "cell",data:=.cell none }=h₁;have hns₁:h₁.Ns .(16) (fun _=>none):=by
  rw [← hh1,← hC];exact (Heap.Ns.new H2 (.type "dict")).keeps fun b o e=>Heap.get?_push_of_some _ e
 have hcell:h₁.IsCell (s.heap.objs.size+1+1) none:=by
  rw [← hh1,← hC];have e:(H2.push { cls:=.type "dict",data:=.dict #[] }).objs.size=H2.objs.size+1:=Heap.size_push ..;rw [← e];exact ⟨_,Heap.get?_push_size _ rfl,rfl⟩
 have hDC:s.heap.objs.size≠s.heap.objs.size+1:=zC2 (zF0 _);have below:∀ b,b<s.heap.objs.size->b≠s.heap.objs.size+1/\b≠s.heap.objs.size:=fun b hb=>⟨zC2 (zG2 hb),zC2 hb⟩
 have old:∀ b o,s.heap.get? b=some o->h₁.get? b=some o:=fun b o e=>by
  rw [← hh1,← hH2];exact Heap.get?_push_of_some _ (Heap.get?_push_of_some _ (Heap.get?_push_of_some _ e))
 have hacc:h₁.get? s.heap.objs.size=some (dH [] 0):=by
  rw [← hh1,← hH2];exact Heap.get?_push_of_some _ (Heap.get?_push_of_some _ (Heap.get?_push_size _ rfl))
 have hlt:∀ b∈fp,b<s.heap.objs.size:=fun b hb=>by
  obtain ⟨o,e,_⟩:=T.obj 0 _ st b hb;exact Heap.lt_size e
 have I₁:=fun tk=>kb (tk:=tk) co I hf hlt hns₁ old hacc hcell;have st₁:tn 0 h₁:=T.keep 0 _ _ st fun b _ o e=>old b o e;have fpD:∀ {H':Hp},H' s.heap.objs.size=none->fD X pins H' s.heap.objs.size:=fun hn=>I.fpOk (zA1 _) hn;have loop:∀ tk:Nat,codeAny .(15) X.A (.compLoop .(20) 0 (.ref it) (.ref s.heap.objs.size) (bz X x nv ix scope .(16) s H fp).env)
  (RR (.ref s.heap.objs.size) .(16)) { s with heap:=h₁,toks:=tk }:=by
  intro tk;refine fv (fun n s'=>∃ i H' ys its k,Inv (bz X x nv ix scope .(16) s H fp) [(s.heap.objs.size,dH its k)] (st0 nv ix σ) H' s'/\Vals ys its/\ys.length<=sizeLine/\tn i s'.heap/\(∀ b∈fp,H' b=none)/\W i n ys H')
   ?_ m0 ⟨0,H,[],[],0,I₁ tk,.nil,zB0 _,st₁,fun b hb=>(hf b hb).1,w0⟩
  rintro n s3 ⟨i,H3,ys,its,k,I3,rv,hz,st3,fr3,w3⟩;have fpc:∀ {H':Hp} {its:List Value} {k:Nat},(∀ b∈fp,H' b=none)->∀ b∈fp,fD (bz X x nv ix scope .(16) s H fp) [(s.heap.objs.size,dH its k)] H' b:=fun {H' its k} hn b hb=>by
   refine ⟨hn b hb,(below b (hlt b hb)).1,fun hs=>?_,.inl hb,fun y c e=>?_,fun p hp z=>?_⟩
   · rcases zA8.mp (I.stkSub b hs) with e | h
     · exact (hf b hb).2.1 e
     · exact (hf b hb).2.2.1 h
   · rcases co.look I.ok e with ⟨_,h2⟩ | h2
     · have:=hlt b hb;intro z;rw [← z,h2] at this;exact zD8 _ (Nat.lt_of_succ_lt (Nat.lt_of_succ_lt this))
     · exact (hf b hb).2.2.2.2.1 y c h2
   · have e:p=(s.heap.objs.size,dH its k):=by simpa [bz] using hp
     subst e;exact (below b (hlt b hb)).2 z.symm
  have pD:=fun {ps:List (Addr×Obj)} {σ':St} {H':Hp} {s':Shared} (I':Inv (bz X x nv ix scope .(16) s H fp) ((s.heap.objs.size,dH its k)::ps) σ' H' s')=>
   I'.pin (s.heap.objs.size,dH its k) (zB2 _ zA3)
  rcases turn i n ys H3 w3 with ⟨stop,fin0⟩ | ⟨go,hlt',N,hN,step⟩
  · refine thn (T.done (bz X x nv ix scope .(16) s H fp) rfl rfl rfl hc i _ s3 _ H3 _ I3 (fpc fr3) st3 stop) fun r s4 ⟨hr,I4⟩=>?_;subst hr;obtain ⟨p1,p2,_⟩:=pD I4;have I5:=(qk I hf I4).track rv hz p1 p2 (fpD p2);obtain ⟨mC,hmC,_⟩:=I4.loc;exact fin _ _ s4 H3 ys I5 p2 fin0 ⟨mC,hmC⟩ (I.fpOk (zF7 _) (by rw [aH (Ne.symm hDC)];exact I4.free))
  · refine thn (T.item (bz X x nv ix scope .(16) s H fp) rfl rfl rfl hc i _ s3 _ H3 _ I3 (fpc fr3) st3 go) fun r s4 ⟨u,hr,h4⟩=>?_;subst hr;refine thn h4 fun _ s5 ⟨z,H5,I5,r5,y5,st5,fr5⟩=>?_;have I5':=I5.pinned (fpc fr5) (T.obj _ _ st5);refine thn (hg _ _ _ _ _ s5 _ H5 z u _ I5' r5 (kg _ _ _ _ (step z H5 y5))) fun _ s6 ⟨σ6,H6,I6,kp,q6⟩=>?_;refine thn (hi _ _ _ _ _ s6 σ6 H6 _ I6 q6) fun b s7 ⟨H7,I7,q7⟩=>?_;have again:∀ {s7:Shared} {H7:Hp} {ys' its':List _} {k':Nat},Inv (bz X x nv ix scope .(16) s H fp) ([(s.heap.objs.size,dH its' k')]++bU fp s5.heap) σ6 H7 s7->Vals ys' its'->ys'.length<=sizeLine->N ys' H7 ->
     ∃ m,m<n/\∃ i H' ys its k,Inv (bz X x nv ix scope .(16) s H fp) [(s.heap.objs.size,dH its k)] (st0 nv ix σ) H' s7/\Vals ys its/\ys.length<=sizeLine/\tn i s7.heap/\(∀ b∈fp,H' b=none)/\W i m ys H':=fun {s7 H7 ys' its' k'} I8 rv' hz' n8=>by
     obtain ⟨m',hm,w8⟩:=hN _ _ n8;have pn:=fun (b:Addr) (o:Obj) (hb:b∈fp) (e:s5.heap.get? b=some o)=>I8.pin (b,o) (zB2 _ (zB2 _ (cL hb e)));refine ⟨m',hm,i+1,H7,ys',its',k',(I8.unpinned).weak kp.1 kp.2,rv',hz',T.keep _ _ _ st5 fun b hb o e=>(pn b o hb e).1,fun b hb=>?_,w8⟩;obtain ⟨o,e,d⟩:=T.obj _ _ st5 b hb;exact (pn b o hb e).2.1
    cases b with
    | false=>
      rw [if_neg zB1] at q7 ⊢
      exact again I7 rv hz q7
    | true=>
      rw [if_pos rfl] at q7 ⊢
      refine thn (he _ _ _ _ _ s7 σ6 H7 _ I7 q7) fun u8 s8 ⟨y,H8,I8,r8,q8⟩=>?_
      obtain ⟨p1,p2,p3,p4,p5⟩:=pD I8
      refine append_at (hsz:=by rw [zA2,← rv.length];exact zH0 hlt') p1 fun h9 hs9 hD9=>?_
      have I9:Inv (bz X x nv ix scope .(16) s H fp) (bU fp s5.heap) σ6 H8 { s8 with heap:=h9 }:=by
       have Iu:Inv (bz X x nv ix scope .(16) s H fp) (bU fp s5.heap) σ6 H8 s8:=I8.pins_of fun p hp=>I8.pin p (zB2 _ (zB2 _ hp));refine Iu.turned (t':=s8.toks) (it:=s.heap.objs.size) (fun b o hb e=>(hs9.2 b hb).trans e) p2 p3 (.inr (zA1 _)) (fun y c e z=>?_) fun p hp z=>?_
       · rcases co.look I.ok e with ⟨_,h2⟩ | h2
         · rw [h2] at z;exact zD8 s.heap.objs.size (by have:s.heap.objs.size<s.heap.objs.size+1+1:=zG2 (zF0 _);rw [z] at this;exact this)
         · obtain ⟨v,o,e1,_⟩:=I.cell y c h2;exact absurd (Heap.lt_size e1) (by rw [z];exact zD8 _)
       · have hp':p∈bU fp s5.heap:=by simpa [bz] using hp
         obtain ⟨hb,_⟩:=eX hp';exact (below _ (hlt _ hb)).2 z
      have I10:Inv (bz X x nv ix scope .(16) s H fp) ([(s.heap.objs.size,dH (its++[u8]) (k+1))]++bU fp s5.heap) σ6 H8 { s8 with heap:=h9 }:=
       I9.pins_of fun p hp=>by
        rcases zB7.mp hp with hp | hp
        · have e:p=(s.heap.objs.size,dH (its++[u8]) (k+1)):=by simpa using hp
          subst e;refine ⟨?_,p2,p3,p4,fun v z=>by cases z⟩;rw [List.push_toArray] at hD9;exact hD9
        · exact I9.pin p (zB2 _ hp)
      exact again I10 (rv.append (.cons r8 .nil)) (by rw [zA4,zG7];exact hlt') q8
 exact codeAny_compStart_list (loop _) (T.self _ 0 _ _ _ st₁ (loop _))
theorem ph {wi:TI} {g:TG} {ti:TT} {te:TE} (x:Str) (nv:List Str) (ix:List (Str×Nat)) (hc:X.calm=true) (co:CompOk1 X x nv ix scope) (hit:PI X tg iter wi) (kg:KpG nv g) (hg:∀ C s₀ H₀ fp,PG (bz X x nv ix scope C s₀ H₀ fp) tg g)
 (hi:∀ C s₀ H₀ fp,PIf (bz X x nv ix scope C s₀ H₀ fp) ifs ti) (he:∀ C s₀ H₀ fp,PE (bz X x nv ix scope C s₀ H₀ fp) elt te)
 (hs:∀ y,foldedSetIterable iter X.env y=pure y:=by intro _;rfl):PE X .(20) (jV nv ix wi g ti te):=by
 intro pins s σ H Q I h;rw [eval_ListComp];refine wpAny_comprehension_free (use:=none) rfl hs (dM (co.cells I.ok)) co.kind co.names (thn (hit pins s σ H _ I h) fun v s1 h1=>thn h1 fun itv s2 h2=>?_);obtain ⟨it,fp,tn,J,H2,e,I2,T,st2,f2,q⟩:=h2;subst e;refine m4 co hc I2 T st2 f2 kg hg hi he q fun D C s' H' ys I' hD fin ⟨m,hm⟩ hC=>?_;obtain ⟨c0,c1,c2,c3,c4,c5⟩:=hC;exact ⟨m,hm,fun h' hs'=>⟨.ref D,_,I'.turned (t':=s'.toks) (fun b o hb e=>(hs'.2 b hb).trans e) c0 c1 c3 c4 c5,rfl,fin D hD⟩⟩
theorem n9 {wi:TI} {g:TG} {ti:TT} {te:TE} (x:Str) (nv:List Str) (ix:List (Str×Nat)) (hc:X.calm=true) (co:CompOk1 X x nv ix scope) (hit:ZI X tg iter wi) (kg:KpG nv g) (hg:∀ C s₀ H₀ fp,ZG (bz X x nv ix scope C s₀ H₀ fp) tg g)
 (hi:∀ C s₀ H₀ fp,ZIf (bz X x nv ix scope C s₀ H₀ fp) ifs ti) (he:∀ C s₀ H₀ fp,ZE (bz X x nv ix scope C s₀ H₀ fp) elt te)
 (hs:∀ y,foldedSetIterable iter X.env y=pure y:=by intro _;rfl):ZE X .(20) (jV nv ix wi g ti te):=by with_unfolding_all exact ph x nv ix hc co hit kg hg hi he hs
end
section
variable {X:Cx} {K:PySem.W.Frag}
theorem iq (h:X.K=K):IxR X (rIxP K):=by subst h;exact aS
theorem tG {tg l:Expr} {tl:TE} (hl:PE X l tl) (h:X.K=K):PI X tg l (iTup K tl):=by subst h;exact qS hl
theorem r9 {tg l:Expr} {tl:TE} (hl:ZE X l tl) (h:X.K=K):ZI X tg l (iTup K tl):=by with_unfolding_all exact tG hl h
end
section
variable {X:Cx} {pins:List (Addr×Obj)} {σ:St} {H:Hp} {s:Shared}
def oJ (p:Addr) (i j c:Int):HO:=.ext fun h=>∃ t u v,IsRange h p i j c t u v
theorem jp {pins:.(31)} {σ:St} {H:Hp} {s:Shared} {i j c:Int} {t u v:Tok} {tk:Nat} (I:.(14)):Inv X pins σ (upd H s.heap.objs.size (oJ s.heap.objs.size i j c)) { s with heap:=s.heap.push { cls:=.type "range",data:=.fields #[.int i t,.int j u,.int c v] },toks:=tk }:=by
 refine I.laid (fun b o e=>Heap.get?_push_of_some _ e) (zA1 _) ⟨⟨t,u,v,IsRange.new ..⟩,⟨_,Heap.get?_push_size _ rfl⟩,?_⟩;rintro h1 h2 ⟨t,u,v,e⟩ k;exact ⟨t,u,v,k _ e⟩
def rRng:List V->Hp->VK->Prop:=fun vs H1 Q=>match vs with
 | [.int i,.int j]=>∀ p,H1 p=none->Q (.ref p) (upd H1 p (oJ p i j 1))
 | [.int i,.int j,.int c]=>(c≠0/\c<2 ^ 29/\-(2 ^ 29)<c)/\∀ p,H1 p=none->Q (.ref p) (upd H1 p (oJ p i j c))
 | _=>False
theorem qm:CallR X (.type "range") rRng:=by
 sleep 1;unfold rRng at h;split at h
 · obtain ⟨u1,u2,rfl,⟨t1,rfl⟩,t2,rfl⟩:=on r;exact call_range_2 ⟨.ref s.heap.objs.size,_,jp I,rfl,h _ (I.hok.fresh (zA1 _))⟩
 · obtain ⟨⟨h1,h2,h3⟩,q⟩:=h
   cases r with
   | cons a1 r=>
     cases r with
     | cons a2 r=>
       cases r with
       | cons a3 r=>
         cases r
         obtain ⟨t1,rfl⟩:=a1
         obtain ⟨t2,rfl⟩:=a2
         obtain ⟨t3,rfl⟩:=a3
         exact PySem.call_range_3 h1 ⟨.ref s.heap.objs.size,_,jp I,rfl,q _ (I.hok.fresh (zA1 _))⟩ (Or.inl (PyProof.noPylong_small (by lia)))
 · exact h.elim
def oS:List V->Hp->VK->Prop:=fun vs H Q=>match vs with
 | [.ref p]=>∃ i j c,H p=some (oJ p i j c)/\Builtin.Range.small i j c=true/\c≠0/\(Builtin.Range.rangeSize i j c).toNat<=1000000/\∀ l,H l=none->Q (.ref l) (upd H l (.lst (((List.range (Builtin.Range.rangeSize i j c).toNat).map fun (k:Nat)=>i+(k:Int)*c).map V.int)))
 | _=>False
theorem gk {F:Nat->Int}:∀ (n:Nat) {us:List Value},us.length=n->(∀ (j:Nat) (v:Value),us[j]? = some v->∃ t,v=.int (F j) t)->Vals (((List.range n).map F).map V.int) us:=by
 intro n us hl h;have:∀ (us:List Value) (G:Nat->Int),(∀ (j:Nat) (v:Value),us[j]? = some v->∃ t,v=.int (G j) t)->Vals (((List.range us.length).map G).map V.int) us:=by
  intro us;induction us with
  | nil=>intro G _;exact .nil
  | cons u r ih=>
    intro G hG
    rw [zB5,List.range_succ_eq_map,zC5,zC5]
    refine .cons (hG 0 u rfl) ?_
    have:=ih (fun j=>G (j+1)) fun j v e=>hG (j+1) v (by simpa using e)
    have e:((List.range r.length).map Nat.succ).map G=(List.range r.length).map (fun j=>G (j+1)):=by rw [zI1];rfl
    rw [e]
    exact this
 have:=this us F h;rw [hl] at this;exact this
theorem nw (hc:X.calm=true):CallR X (.type "list") oS:=by
 sleep 1;unfold oS at h;split at h
 · rename_i p
   obtain ⟨i,j,c,hp,hs,hc0,hn,q⟩:=h;obtain ⟨u,rfl,rx⟩:=cx r
   cases rx
   obtain ⟨⟨t,u,v,hr⟩,_⟩:=I.hok p _ hp;have h0:=eS (a:=i) (b:=j) hc0;refine call_list_range (I.ok.hd hc) hr hs (n:=(Builtin.Range.rangeSize i j c).toNat) (by lia) (by lia) fun h' tk acc' c' hk hS hit=>?_;have rv:Vals (((List.range (Builtin.Range.rangeSize i j c).toNat).map fun (k:Nat)=>i+(k:Int)*c).map V.int) acc'.toList:=gk _ (by rw [zB6];exact hit.1) fun k v e=>hit.2 k v (by simpa using e);refine ⟨.ref s.heap.objs.size,_,I.laid (t':=tk) hk (zA1 _) (show ObjOk X.prog X.w _ h' _ (.lst (((List.range (Builtin.Range.rangeSize i j c).toNat).map fun (k:Nat)=>i+(k:Int)*c).map V.int)) from ⟨?_,acc'.toList,c',rv,hS⟩),rfl,q _ (I.hok.fresh (zA1 _))⟩;rw [zA0,zA0,List.length_range,sizeLine_eq];lia
 · exact h.elim
theorem i3:bootBuiltins "list" = some (.type "list"):=by decide +kernel
variable {e:Expr} {es:List Expr} {t:TA} {p pos:Pos}
theorem lS (hg:Gl X "range") (hm:X.mg "range" = none) (ha:PA X (e::es) t) (he:.(1)) (hpl:.(3)) :
 PE X (.Call (.Name "range" p) (e::es) [] pos) (tCB rRng t):=bP qm hg hm boot_range ha (by decide) (by decide) he hpl
theorem cD (hg:Gl X "range") (hm:X.mg "range" = none) (ha:ZA X (e::es) t) (he:.(1)) (hpl:.(3)) :
 ZE X (.Call (.Name "range" p) (e::es) [] pos) (tCB rRng t):=by with_unfolding_all exact lS hg hm ha he hpl
theorem j1 (hc:X.calm=true) (hg:Gl X "list") (hm:X.mg "list" = none) (ha:PA X (e::es) t) (he:.(1)) (hpl:.(3)) :
 PE X (.Call (.Name "list" p) (e::es) [] pos) (tCB oS t):=bP (nw hc) hg hm i3 ha (by decide) (by decide) he hpl
theorem bY (hc:X.calm=true) (hg:Gl X "list") (hm:X.mg "list" = none) (ha:ZA X (e::es) t) (he:.(1)) (hpl:.(3)) :
 ZE X (.Call (.Name "list" p) (e::es) [] pos) (tCB oS t):=by with_unfolding_all exact j1 hc hg hm ha he hpl
end
section
variable {X:Cx} {pins:List (Addr×Obj)} {σ:St} {H:Hp} {s:Shared}
def SqK (H:Hp) (c:Bool) (a:Addr) (xs:List V):Prop:=H a=some (if c=true then HO.tup xs else HO.lst xs)
theorem SqK.tup {a:Addr} {xs:List V} (h:H a=some (.tup xs)):SqK H true a xs:=h
theorem uC {K:PySem.W.Frag} {x y:Str}:KpG [x,y] (gTup K 2 (p9 (fJ 0) (p9 (fJ 1) gNil))):=fun fr v H Q h=>by
 obtain ⟨a,xs,e,hq,hl,v1,r1,e1,v2,r2,e2,e3,q⟩:=h;refine ⟨a,xs,e,hq,hl,v1,r1,e1,v2,r2,e2,e3,⟨by simp,fun i w e=>?_⟩,q⟩;match i,e with
 | 0,e=>cases e
 | 1,e=>cases e
 | i+2,e=>exact e
end
end L2
namespace SRV
open PySem
open PyProof.Rows hiding K SortedTo K_bubble K_mirror K_congr K_mirror_equal
class KV where
 sh:Shared
 kind:SortKind
 kv:Keyed->Int
 good:Keyed->Prop
 lt:∀ {prog:Program} {w:World} {A:Around} {E:.(21)} {st:SortSt} {x y:Keyed} {Q:Option Bool->SortSt->Prop},kindOf st=kind->good x->good y->Q (some (decide (kv x<kv y))) st->wpS .(18) A E sh (lt' x y) Q st
variable [KV]
def kv (p:Keyed):Int:=KV.kv p
def IsI (p:Keyed):Prop:=KV.good p
def AllI (xs:Array Keyed):Prop:=∀ p∈xs.toList,IsI p
def K (xs:Array Keyed) (i:Nat):Int:=match xs[i]? with
 | some p=>kv p
 | none=>0
def SortedTo (xs:Array Keyed) (k:Nat):Prop:=∀ i j,i<=j->j<k->K xs i<=K xs j
theorem K_congr {xs ys:Array Keyed} {i j:Nat} (h:xs[i]? = ys[j]?):K xs i=K ys j:=by unfold K;rw [h]
theorem K_bubble {xs:Array Keyed} {src d:Nat} (hs:src<xs.size) (hd:d<=src) (k:Nat) :
 K (bubble xs src d) k=if k=src - d then K xs src else if src - d<k/\k<=src then K xs (k - 1) else K xs k:=by
 have e:=getElem?_bubble hs d hd k;by_cases h1:k=src - d
 · rw [if_pos h1] at e ⊢;exact K_congr e
 · rw [if_neg h1] at e ⊢;by_cases h2:src - d<k/\k<=src
   · rw [if_pos h2] at e ⊢;exact K_congr e
   · rw [if_neg h2] at e ⊢;exact K_congr e
theorem K_mirror {xs:Array Keyed} {i j:Nat} (hj:j<=xs.size) (k:Nat) :
 K (mirror xs i j ((j - i) / 2)) k=if i<=k/\k<j then K xs (i+j - 1 - k) else K xs k:=by
 have e:=getElem?_mirror_all (i:=i) hj k;by_cases h1:i<=k/\k<j
 · rw [if_pos h1] at e ⊢;exact K_congr e
 · rw [if_neg h1] at e ⊢;exact K_congr e
theorem K_mirror_equal {xs:Array Keyed} {i j:Nat} (hj:j<=xs.size) (heq:∀ k,i<=k->k<j->K xs k=K xs (j - 1)) (k:Nat) :
 K (mirror xs i j ((j - i) / 2)) k=K xs k:=by
 rw [K_mirror hj];split
 · rename_i h
   rw [heq k h.1 h.2,heq (i+j - 1 - k) (by lia) (by lia)]
 · rfl
section
variable {prog:Program} {w:World} {A:Around} {E:Value->Shared->Prop}
theorem s_lt {st:SortSt} {x y:Keyed} {Q:Option Bool->SortSt->Prop} (hk:kindOf st=KV.kind) (hx:IsI x) (hy:IsI y) (h:Q (some (decide (kv x<kv y))) st):wpS .(18) A E KV.sh (lt' x y) Q st:=KV.lt hk hx hy h
theorem fT {st:SortSt} {xs:Array Keyed} {i:Nat} {p:Keyed} {Q:Keyed->SortSt->Prop} (e:xs[i]? = some p) (h:Q p st):wpS .(18) A E KV.sh (elem' xs i) Q st:=by
 rw [elem'_eq,e];exact wpS_pure h
def gal:Bool->Keyed->Array Keyed->Nat->Nat->Nat->StateT SortSt Sem (Option Nat):=sortPriv% PySem.Builtin.gallop
theorem gal_eq (lf:Bool) (ky:Keyed) (ar:Array Keyed) (bs n ht:Nat):gal lf ky ar bs n ht=(do
 let byd (i:Nat):StateT SortSt Sem (Option Bool):=do
  let x ← elem' ar (bs+i)
  if lf then lt' x ky else return (← lt' ky x).map (!·)
 let mut la:=0
 let mut os:=1
 let mut lo:=0
 let mut hi:=0
 let some rt ← byd ht | return none
 if rt then
  let mo:=n - ht
  for _ in [0:n] do
   if os>=mo then break
   let some mr ← byd (ht+os) | return none
   if !mr then break
   la:=os
   os:=2*os+1
  lo:=ht+la+1
  hi:=ht+min os mo
 else
  let mo:=ht+1
  for _ in [0:n] do
   if os>=mo then break
   let some fd ← byd (ht - os) | return none
   if fd then break
   la:=os
   os:=2*os+1
  lo:=ht+1 - min os mo
  hi:=ht - la
 for _ in [0:n] do
  if lo>=hi then break
  let m:=lo+(hi - lo) / 2
  let some mr ← byd m | return none
  if mr then lo:=m+1 else hi:=m
 return some hi):=rfl
def Byd (lf:Bool) (ky:Keyed) (ar:Array Keyed) (bs i:Nat):Bool:=if lf then decide (K ar (bs+i)<kv ky) else !decide (kv ky<K ar (bs+i))
theorem rV {ar:Array Keyed} {i:Nat} {p:Keyed} (e:ar[i]? = some p):K ar i=kv p:=by unfold K;rw [e]
theorem at_of {ar:Array Keyed} {i:Nat} (h:i<ar.size) (hI:AllI ar):∃ p,ar[i]? = some p/\IsI p:=⟨ar[i],getElem?_pos ar i h,hI _ (by simp)⟩
theorem s_byd {st:SortSt} {lf:Bool} {ky:Keyed} {ar:Array Keyed} {bs i:Nat} {Q:Option Bool->SortSt->Prop} (hk:kindOf st=KV.kind) (hI:AllI ar) (hy:IsI ky) (hi:bs+i<ar.size) (h:Q (some (Byd lf ky ar bs i)) st) :
 wpS .(18) A E KV.sh (do let x ← elem' ar (bs+i);if lf then lt' x ky else return (← lt' ky x).map (!·)) Q st:=by
 obtain ⟨p,e,hp⟩:=at_of hi hI;have hK:=rV e;unfold Byd at h;refine wpS_bind (fT e ?_)
 cases lf with
 | true=>
   simp only [if_true] at h ⊢
   rw [hK] at h
   exact s_lt hk hp hy h
 | false=>
   simp only [zC0,if_false] at h ⊢
   rw [hK] at h
   exact wpS_bind (s_lt hk hy hp (wpS_pure h))
theorem g9 {st:SortSt} {lf:Bool} {ky:Keyed} {ar:Array Keyed} {bs n ht c:Nat} {Q:Option Nat->SortSt->Prop} (hk:kindOf st=KV.kind) (hI:AllI ar) (hy:IsI ky) (hn:bs+n<=ar.size) (hh:ht<n) (hc:c<=n)
 (cut:∀ i,i<n->Byd lf ky ar bs i=decide (i<c)) (h:Q (some c) st):wpS .(18) A E KV.sh (gal lf ky ar bs n ht) Q st:=by
 have byd:∀ {i:Nat} {R:Option Bool->SortSt->Prop},i<n->R (some (decide (i<c))) st->wpS .(18) A E KV.sh (do let x ← elem' ar (bs+i);if lf then lt' x ky else return (← lt' ky x).map (!·)) R st:=fun {i R} hi hR=>
  s_byd hk hI hy (by lia) (by rw [cut i hi];exact hR)
 rw [gal_eq];dsimp only;refine wpS_bind (byd hh ?_);by_cases hr:ht<c
 · simp only [hr,decide_true,if_true];refine wpS_bind (wpS_mono (wpS_forRange (I:=fun x r st'=>st=st'/\∃ l o,r=(none,l,o)/\ht+l<c/\l<o/\x+1<=o) (Q:=fun r st'=>st=st'/\∃ l o,r=(none,l,o)/\ht+l<c/\l<o/\c<=ht+min o (n - ht)) ?_ ?_ ⟨rfl,0,1,rfl,by lia,by lia,by lia⟩) ?_)
   · rintro x r st' _ hx ⟨rfl,l,o,rfl,g1,g2,g3⟩;dsimp only;by_cases hge:o>=n - ht
     · rw [if_pos hge];exact wpS_pure ⟨rfl,l,o,rfl,g1,g2,by lia⟩
     · rw [if_neg hge];refine wpS_bind (byd (by lia) ?_);by_cases hm:ht+o<c
       · simp only [hm,decide_true,Bool.not_true,zC0,if_false];exact wpS_pure ⟨rfl,_,_,rfl,hm,by lia,by lia⟩
       · simp only [hm,decide_false,Bool.not_false,if_true];exact wpS_pure ⟨rfl,l,o,rfl,g1,g2,by lia⟩
   · rintro r st' ⟨rfl,l,o,rfl,g1,g2,g3⟩;exact ⟨rfl,l,o,rfl,g1,g2,by lia⟩
   · rintro r st' ⟨rfl,l,o,rfl,g1,g2,g3⟩;dsimp only;refine wpS_bind (wpS_mono (wpS_forRange (I:=fun x r st'=>st=st'/\∃ l u,r=(none,l,u)/\l<=c/\c<=u/\u<=n/\u - l<=n - x) (Q:=fun r st'=>st=st'/\∃ l,r=(none,l,c)) ?_ ?_ ⟨rfl,(ht+l+1),(ht+min o (n - ht)),rfl,(by lia),g3,(by lia),by lia⟩) ?_)
     · rintro x r st' _ hx ⟨rfl,l,u,rfl,g1,g2,g3,g4⟩;dsimp only;by_cases hge:l>=u
       · rw [if_pos hge];have:u=c:=by lia
         subst this;exact wpS_pure ⟨rfl,l,rfl⟩
       · rw [if_neg hge];refine wpS_bind (byd (by lia) ?_);by_cases hm:l+(u - l) / 2<c
         · simp only [hm,decide_true,if_true];exact wpS_pure ⟨rfl,_,_,rfl,by lia,g2,g3,by lia⟩
         · simp only [hm,decide_false,zC0,if_false];exact wpS_pure ⟨rfl,_,_,rfl,g1,by lia,by lia,by lia⟩
     · rintro r st' ⟨rfl,l,u,rfl,g1,g2,g3,g4⟩;have:u=c:=by
        have:max 0 n=n:=by lia
        lia
       subst this;exact ⟨rfl,l,rfl⟩
     · rintro r st' ⟨rfl,l,rfl⟩;exact wpS_pure h
 · simp only [hr,decide_false,zC0,if_false];refine wpS_bind (wpS_mono (wpS_forRange (I:=fun x r st'=>st=st'/\∃ l o,r=(none,l,o)/\c<=ht - l/\l<=ht/\l<o/\x+1<=o) (Q:=fun r st'=>st=st'/\∃ l o,r=(none,l,o)/\c<=ht - l/\l<=ht/\l<o/\ht+1 - min o (ht+1)<=c) ?_ ?_ ⟨rfl,0,1,rfl,by lia,by lia,by lia,by lia⟩) ?_)
   · rintro x r st' _ hx ⟨rfl,l,o,rfl,g1,g0,g2,g3⟩;dsimp only;by_cases hge:o>=ht+1
     · rw [if_pos hge];exact wpS_pure ⟨rfl,l,o,rfl,g1,g0,g2,by lia⟩
     · rw [if_neg hge];refine wpS_bind (byd (by lia) ?_);by_cases hm:ht - o<c
       · simp only [hm,decide_true,if_true];exact wpS_pure ⟨rfl,l,o,rfl,g1,g0,g2,by lia⟩
       · simp only [hm,decide_false,zC0,if_false];exact wpS_pure ⟨rfl,_,_,rfl,by lia,by lia,by lia,by lia⟩
   · rintro r st' ⟨rfl,l,o,rfl,g1,g0,g2,g3⟩;exact ⟨rfl,l,o,rfl,g1,g0,g2,by lia⟩
   · rintro r st' ⟨rfl,l,o,rfl,g1,g0,g2,g3⟩;dsimp only;refine wpS_bind (wpS_mono (wpS_forRange (I:=fun x r st'=>st=st'/\∃ l u,r=(none,l,u)/\l<=c/\c<=u/\u<=n/\u - l<=n - x) (Q:=fun r st'=>st=st'/\∃ l,r=(none,l,c)) ?_ ?_ ⟨rfl,(ht+1 - min o (ht+1)),(ht - l),rfl,g3,g1,(by lia),by lia⟩) ?_)
     · rintro x r st' _ hx ⟨rfl,l,u,rfl,g1,g2,g3,g4⟩;dsimp only;by_cases hge:l>=u
       · rw [if_pos hge];have:u=c:=by lia
         subst this;exact wpS_pure ⟨rfl,l,rfl⟩
       · rw [if_neg hge];refine wpS_bind (byd (by lia) ?_);by_cases hm:l+(u - l) / 2<c
         · simp only [hm,decide_true,if_true];exact wpS_pure ⟨rfl,_,_,rfl,by lia,g2,g3,by lia⟩
         · simp only [hm,decide_false,zC0,if_false];exact wpS_pure ⟨rfl,_,_,rfl,g1,by lia,by lia,by lia⟩
     · rintro r st' ⟨rfl,l,u,rfl,g1,g2,g3,g4⟩;have:u=c:=by
        have:max 0 n=n:=by lia
        lia
       subst this;exact ⟨rfl,l,rfl⟩
     · rintro r st' ⟨rfl,l,rfl⟩;exact wpS_pure h
end
open PyProof.Rows hiding K SortedTo K_bubble K_mirror K_congr K_mirror_equal
variable [KV]
def Le (x y:Keyed):Prop:=kv x<=kv y
structure MI (A B:List Keyed) (o:List Keyed) (ia ib:Nat):Prop where
 perm:o.Perm (A.take ia++B.take ib)
 srt:o.Pairwise Le
 lea:∀ x∈o,∀ y∈A.drop ia,kv x<=kv y
 leb:∀ x∈o,∀ y∈B.drop ib,kv x<=kv y
structure Mer (A B:List Keyed) (o:List Keyed):Prop where
 perm:o.Perm (A++B)
 srt:o.Pairwise Le
theorem iR {l:List Keyed} (h:l.Pairwise Le) {i:Nat} (hi:i<l.length):∀ y∈l.drop (i+1),kv l[i]<=kv y:=by
 have e:l.drop i=l[i]::l.drop (i+1):=zD0 hi;have h2:(l.drop i).Pairwise Le:=h.sublist (zH6 i l);rw [e] at h2;exact (List.pairwise_cons.mp h2).1
theorem dj {l:List Keyed} {i:Nat} {y:Keyed} (h:y∈l.drop (i+1)):y∈l.drop i:=by
 rw [← List.drop_drop] at h;exact List.mem_of_mem_drop h
theorem MI.pushB {A B o:List Keyed} {ia ib:Nat} (m:MI A B o ia ib) (hB:B.Pairwise Le) (hi:ib<B.length) (h:∀ z∈A.drop ia,kv B[ib]<=kv z):MI A B (o++[B[ib]]) ia (ib+1):=by
 have hm:B[ib]∈B.drop ib:=by rw [zD0 hi];exact zA3
 refine ⟨?_,?_,fun x hx y hy=>?_,fun x hx y hy=>?_⟩
 · have e:B.take (ib+1)=B.take ib++[B[ib]]:=by rw [zC3,List.getElem?_eq_getElem hi];rfl
   rw [e,← zC1];exact m.perm.append_right _
 · refine zC4.mpr ⟨m.srt,zF9 _ _,fun x hx y hy=>?_⟩;rw [zC6.mp hy];exact m.leb x hx _ hm
 · rcases zB7.mp hx with hx | hx
   · exact m.lea x hx y hy
   · rw [zC6.mp hx];exact h y hy
 · rcases zB7.mp hx with hx | hx
   · exact m.leb x hx y (dj hy)
   · rw [zC6.mp hx];exact iR hB hi y hy
theorem MI.pushA {A B o:List Keyed} {ia ib:Nat} (m:MI A B o ia ib) (hA:A.Pairwise Le) (hi:ia<A.length) (h:∀ z∈B.drop ib,kv A[ia]<=kv z):MI A B (o++[A[ia]]) (ia+1) ib:=by
 have hm:A[ia]∈A.drop ia:=by rw [zD0 hi];exact zA3
 refine ⟨?_,?_,fun x hx y hy=>?_,fun x hx y hy=>?_⟩
 · have e:A.take (ia+1)=A.take ia++[A[ia]]:=by rw [zC3,List.getElem?_eq_getElem hi];rfl
   rw [e,zC1];refine (m.perm.append_right _).trans ?_;rw [zC1];exact zF4 _ List.perm_append_comm
 · refine zC4.mpr ⟨m.srt,zF9 _ _,fun x hx y hy=>?_⟩;rw [zC6.mp hy];exact m.lea x hx _ hm
 · rcases zB7.mp hx with hx | hx
   · exact m.lea x hx y (dj hy)
   · rw [zC6.mp hx];exact iR hA hi y hy
 · rcases zB7.mp hx with hx | hx
   · exact m.leb x hx y hy
   · rw [zC6.mp hx];exact h y hy
theorem MI.extA {A B o:List Keyed} {ia ib:Nat} (m:MI A B o ia ib) (hA:A.Pairwise Le):∀ (k:Nat),ia+k<=A.length->(∀ i (hi:ia+i<A.length),i<k->∀ z∈B.drop ib,kv A[ia+i]<=kv z)->MI A B (o++(A.drop ia).take k) (ia+k) ib
 | 0,_,_=>by rw [zE4,zC9];exact m
 | k+1,hk,h=>by
   have ih:=MI.extA m hA k (by lia) fun i hi hik=>h i hi (by lia);have hi:ia+k<A.length:=by lia
   have e:(A.drop ia).take (k+1)=(A.drop ia).take k++[A[ia+k]]:=by rw [zC3,List.getElem?_drop,List.getElem?_eq_getElem hi];rfl
   rw [e,← zC1];exact ih.pushA hA hi (h k hi (by lia))
theorem MI.extB {A B o:List Keyed} {ia ib:Nat} (m:MI A B o ia ib) (hB:B.Pairwise Le):∀ (k:Nat),ib+k<=B.length->(∀ i (hi:ib+i<B.length),i<k->∀ z∈A.drop ia,kv B[ib+i]<=kv z)->MI A B (o++(B.drop ib).take k) ia (ib+k)
 | 0,_,_=>by rw [zE4,zC9];exact m
 | k+1,hk,h=>by
   have ih:=MI.extB m hB k (by lia) fun i hi hik=>h i hi (by lia);have hi:ib+k<B.length:=by lia
   have e:(B.drop ib).take (k+1)=(B.drop ib).take k++[B[ib+k]]:=by rw [zC3,List.getElem?_drop,List.getElem?_eq_getElem hi];rfl
   rw [e,← zC1];exact ih.pushB hB hi (h k hi (by lia))
theorem ei (a b c d:List Keyed):(a++b++(c++d)).Perm (a++c++(b++d)):=by
 rw [zC1,zC1];refine zF4 a ?_;rw [← zC1,← zC1];exact List.Perm.append_right d List.perm_append_comm
theorem MI.finAB {A B o:List Keyed} {ia ib:Nat} (m:MI A B o ia ib) (hA:A.Pairwise Le) (hB:B.Pairwise Le) (h:∀ x∈A.drop ia,∀ y∈B.drop ib,kv x<=kv y):Mer A B (o++A.drop ia++B.drop ib):=by
 refine ⟨?_,?_⟩
 · have e:=(m.perm.append_right (A.drop ia++B.drop ib)).trans (ei (A.take ia) (B.take ib) (A.drop ia) (B.drop ib));rw [zD1,zD1] at e;rw [zC1];exact e
 · refine zC4.mpr ⟨zC4.mpr ⟨m.srt,hA.sublist (zH6 _ _),fun x hx y hy=>m.lea x hx y hy⟩,hB.sublist (zH6 _ _),fun x hx y hy=>?_⟩;rcases zB7.mp hx with hx | hx
   · exact m.leb x hx y hy
   · exact h x hx y hy
theorem MI.finBA {A B o:List Keyed} {ia ib:Nat} (m:MI A B o ia ib) (hA:A.Pairwise Le) (hB:B.Pairwise Le) (h:∀ x∈A.drop ia,∀ y∈B.drop ib,kv y<=kv x):Mer A B (o++B.drop ib++A.drop ia):=by
 refine ⟨?_,?_⟩
 · have e:=(m.perm.append_right (A.drop ia++B.drop ib)).trans (ei (A.take ia) (B.take ib) (A.drop ia) (B.drop ib));rw [zD1,zD1] at e;rw [zC1];exact (zF4 o List.perm_append_comm).trans e
 · refine zC4.mpr ⟨zC4.mpr ⟨m.srt,hB.sublist (zH6 _ _),fun x hx y hy=>m.leb x hx y hy⟩,hA.sublist (zH6 _ _),fun x hx y hy=>?_⟩;rcases zB7.mp hx with hx | hx
   · exact m.lea x hx y hy
   · exact h y hy x hx
def mlo:Array Keyed->Array Keyed->StateT SortSt Sem (Array Keyed):=sortPriv% PySem.Builtin.mergeLo
def setG:Nat->StateT SortSt Sem Unit:=sortPriv% PySem.Builtin.setMinGallop
theorem sM (g:Nat):setG g=modify fun z=>SortSt.mk' (kindOf z) (arrOf z) (pendingOf z) g (failedOf z):=rfl
theorem mlo_eq (xa xb:Array Keyed):mlo xa xb=(do
 rule "list.sort.merge-lo"
 let tot:=xa.size+xb.size
 let dn (ou:Array Keyed) (i j:Nat):=ou++xa.extract i xa.size++xb.extract j xb.size
 let la (ou:Array Keyed) (i j:Nat):=ou++xb.extract j xb.size++xa.extract i xa.size
 let mut ou:Array Keyed:=#[← elem' xb 0]
 let mut i:=0
 let mut j:=1
 if j == xb.size then return dn ou i j
 if i+1 == xa.size then return la ou i j
 let mut mg:=gallopOf (← get)
 for _ in [0:tot] do
  let mut ac:=0
  let mut bc:=0
  for _ in [0:tot] do
   let some bw ← lt' (← elem' xb j) (← elem' xa i) | return dn ou i j
   if bw then
    ou:=ou.push (← elem' xb j);j:=j+1;bc:=bc+1;ac:=0
    if j == xb.size then return dn ou i j
    if bc>=mg then break
   else
    ou:=ou.push (← elem' xa i);i:=i+1;ac:=ac+1;bc:=0
    if i+1 == xa.size then return la ou i j
    if ac>=mg then break
  rule "list.sort.gallop"
  mg:=mg+1
  for _ in [0:tot] do
   if mg > 1 then mg:=mg - 1
   setG mg
   let some k ← gal false (← elem' xb j) xa i (xa.size - i) 0 | return dn ou i j
   ac:=k
   if k > 0 then
    ou:=ou++xa.extract i (i+k);i:=i+k
    if i+1 == xa.size then return la ou i j
    if i == xa.size then return dn ou i j
   ou:=ou.push (← elem' xb j);j:=j+1
   if j == xb.size then return dn ou i j
   let some k ← gal true (← elem' xa i) xb j (xb.size - j) 0 | return dn ou i j
   bc:=k
   if k > 0 then
    ou:=ou++xb.extract j (j+k);j:=j+k
    if j == xb.size then return dn ou i j
   ou:=ou.push (← elem' xa i);i:=i+1
   if i+1 == xa.size then return la ou i j
   if ac<7&&bc<7 then break
  mg:=mg+1
  setG mg
 unsupported "internal:list.sort.merge-bound"):=rfl
open PyProof.Rows hiding K SortedTo K_bubble K_mirror K_congr K_mirror_equal
variable [KV]
structure SameSt (a b:SortSt):Prop where
 kind:kindOf b=kindOf a
 arr:arrOf b=arrOf a
 pend:pendingOf b=pendingOf a
 fail:failedOf b=failedOf a
theorem SameSt.refl (a:SortSt):SameSt a a:=⟨rfl,rfl,rfl,rfl⟩
theorem SameSt.setG {a b:SortSt} (h:SameSt a b) (g:Nat):SameSt a (SortSt.mk' (kindOf b) (arrOf b) (pendingOf b) g (failedOf b)):=⟨h.kind,h.arr,h.pend,h.fail⟩
theorem iI (o x y:Array Keyed) (i j:Nat):(o++x.extract i x.size++y.extract j y.size).toList=o.toList++x.toList.drop i++y.toList.drop j:=by
 have e:∀ (z:Array Keyed) (k:Nat),(z.extract k z.size).toList=z.toList.drop k:=fun z k=>by
  rw [Array.toList_extract,zG6,zA6];rw [zE8,zB6];exact zA1 _
 rw [zG4,zG4,e,e]
theorem kH (o x:Array Keyed) (i k:Nat):(o++x.extract i (i+k)).toList=o.toList++(x.toList.drop i).take k:=by
 rw [zG4,Array.toList_extract,zG6,zE9]
section
variable {A B:List Keyed} {o:List Keyed} {ia ib:Nat}
theorem dr {l:List Keyed} {i:Nat} (h:i=l.length):l.drop i=[]:=List.drop_of_length_le (by lia)
theorem pH {l:List Keyed} {i:Nat} (h:i+1=l.length):∀ x∈l.drop i,kv x=kv (l[l.length - 1]'(by lia)):=fun x hx=>by
 have e:l.drop i=l[i]::l.drop (i+1):=zD0 (by lia);rw [e,dr h] at hx;have:x=l[i]:=by simpa using hx
 subst this;congr 2;lia
end
section
variable {prog:Program} {w:World} {A:Around} {E:Value->Shared->Prop}
theorem aT {st:SortSt} {xs:Array Keyed} {i:Nat} {Q:Keyed->SortSt->Prop} (hi:i<xs.toList.length) (h:Q xs.toList[i] st):wpS .(18) A E KV.sh (elem' xs i) Q st:=
 fT (by rw [← Array.getElem?_toList,List.getElem?_eq_getElem hi]) h
theorem fS {st:SortSt} {g:Nat} {Q:Unit->SortSt->Prop} (h:Q () (SortSt.mk' (kindOf st) (arrOf st) (pendingOf st) g (failedOf st))):wpS .(18) A E KV.sh (setG g) Q st:=by
 rw [sM];exact wpS_modify h
theorem jK {xs:Array Keyed} (hs:xs.toList.Pairwise Le) (ky:Keyed) (lf:Bool) (bs n:Nat) (hn:bs+n<=xs.size):∃ c,c<=n/\∀ i,i<n->Byd lf ky xs bs i=decide (i<c):=by
 have mono:∀ i j,i<=j->bs+j<xs.size->K xs (bs+i)<=K xs (bs+j):=fun i j hij hj=>by
  have e1:xs[bs+i]? = some (xs.toList[bs+i]'(by rw [zB6];lia)):=by rw [← Array.getElem?_toList,List.getElem?_eq_getElem]
  have e2:xs[bs+j]? = some (xs.toList[bs+j]'(by rw [zB6];lia)):=by rw [← Array.getElem?_toList,List.getElem?_eq_getElem]
  rw [rV e1,rV e2];by_cases h:i=j
  · subst h;exact zE5 _
  · exact zE1.mp hs _ _ _ _ (by lia)
 have down:∀ i j,i<=j->j<n->Byd lf ky xs bs j=true->Byd lf ky xs bs i=true:=fun i j hij hj h=>by
  have:=mono i j hij (by lia);unfold Byd at h ⊢
  cases lf with
  | true=>simp only [if_true,decide_eq_true_eq] at h ⊢;lia
  | false=>simp only [zC0,if_false,Bool.not_eq_true',decide_eq_false_iff_not] at h ⊢;lia
 induction n with
 | zero=>exact ⟨0,zA1 _,fun i hi=>absurd hi (Nat.not_lt_zero _)⟩
 | succ n ih=>
   obtain ⟨c,hc,hd⟩:=ih (by lia) (fun i j hij hj h=>down i j hij (by lia) h)
   by_cases hb:Byd lf ky xs bs n=true
   · refine ⟨n+1,zA1 _,fun i hi=>?_⟩;rw [decide_eq_true hi];exact down i n (by lia) (by lia) hb
   · refine ⟨c,by lia,fun i hi=>?_⟩;by_cases h:i=n
     · subst h;rw [decide_eq_false (by lia)];exact Bool.not_eq_true _▸(by simpa using hb)
     · exact hd i (by lia)
theorem nY {xs:Array Keyed} {i:Nat} (hi:i<xs.toList.length):K xs i=kv xs.toList[i]:=rV (by rw [← Array.getElem?_toList,List.getElem?_eq_getElem hi])
end
open PyProof.Rows hiding K SortedTo K_bubble K_mirror K_congr K_mirror_equal
variable [KV]
theorem cG {l:List Keyed} {k:Nat} {z:Keyed} (h:z∈l.drop k):∃ u,∃ h:k+u<l.length,z=l[k+u]:=by
 obtain ⟨u,hu,rfl⟩:=zD5.mp h;rw [zE8] at hu;exact ⟨u,by lia,by rw [List.getElem_drop]⟩
theorem fg {l:List Keyed} (h:l.Pairwise Le) {i:Nat} (hi:i<l.length):∀ z∈l.drop i,kv l[i]<=kv z:=fun z hz=>by
 rw [zD0 hi] at hz;rcases zA8.mp hz with rfl | hz
 · exact zE5 _
 · exact iR h hi z hz
theorem gfalse {xs:Array Keyed} {ky:Keyed} {bs n c:Nat} (hn:bs+n=xs.toList.length) (cut:∀ i,i<n->Byd false ky xs bs i=decide (i<c)) :
 (∀ t (h:bs+t<xs.toList.length),t<c->kv xs.toList[bs+t]<=kv ky)/\(∀ z∈xs.toList.drop (bs+c),kv ky<kv z):=by
 constructor
 · intro t h ht;have:=cut t (by lia);rw [decide_eq_true ht] at this;unfold Byd at this;rw [nY h] at this;simp only [zC0,if_false,Bool.not_eq_true',decide_eq_false_iff_not] at this;lia
 · intro z hz;obtain ⟨u,hu,rfl⟩:=cG hz;have:=cut (c+u) (by lia);rw [decide_eq_false (by lia)] at this;unfold Byd at this;have e:bs+(c+u)=bs+c+u:=by lia
   rw [e,nY hu] at this;simpa using this
theorem gtrue {xs:Array Keyed} {ky:Keyed} {bs n c:Nat} (hn:bs+n=xs.toList.length) (cut:∀ i,i<n->Byd true ky xs bs i=decide (i<c)) :
 (∀ t (h:bs+t<xs.toList.length),t<c->kv xs.toList[bs+t]<kv ky)/\(∀ z∈xs.toList.drop (bs+c),kv ky<=kv z):=by
 constructor
 · intro t h ht;have:=cut t (by lia);rw [decide_eq_true ht] at this;unfold Byd at this;rw [nY h] at this;simpa using this
 · intro z hz;obtain ⟨u,hu,rfl⟩:=cG hz;have:=cut (c+u) (by lia);rw [decide_eq_false (by lia)] at this;unfold Byd at this;have e:bs+(c+u)=bs+c+u:=by lia
   rw [e,nY hu] at this;simpa using this
theorem MI.start {A B:List Keyed} (hB:B.Pairwise Le) (hb:0<B.length) (h0:∀ z∈A,kv B[0]<=kv z):MI A B [B[0]] 0 1:=by
 have m:MI A B [] 0 0:=⟨by simp,List.Pairwise.nil,fun x hx=>(nomatch hx),fun x hx=>(nomatch hx)⟩
 exact m.pushB hB hb fun z hz=>h0 z (by simpa using hz)
theorem MI.doneB {xa xb ou:Array Keyed} {i j:Nat} (m:MI xa.toList xb.toList ou.toList i j) (hA:xa.toList.Pairwise Le) (hB:xb.toList.Pairwise Le) (h:j=xb.toList.length):Mer xa.toList xb.toList (ou++xa.extract i xa.size++xb.extract j xb.size).toList:=by
 rw [iI];exact m.finAB hA hB fun x _ y hy=>by rw [dr h] at hy;cases hy
theorem MI.doneA {xa xb ou:Array Keyed} {i j:Nat} (m:MI xa.toList xb.toList ou.toList i j) (hA:xa.toList.Pairwise Le) (hB:xb.toList.Pairwise Le) (h:i=xa.toList.length):Mer xa.toList xb.toList (ou++xa.extract i xa.size++xb.extract j xb.size).toList:=by
 rw [iI];exact m.finAB hA hB fun x hx y _=>by rw [dr h] at hx;cases hx
theorem MI.last {xa xb ou:Array Keyed} {i j:Nat} (m:MI xa.toList xb.toList ou.toList i j) (hA:xa.toList.Pairwise Le) (hB:xb.toList.Pairwise Le) (h:i+1=xa.toList.length) (hl:∀ z∈xb.toList,kv z<=kv (xa.toList[xa.toList.length - 1]'(by lia))):Mer xa.toList xb.toList (ou++xb.extract j xb.size++xa.extract i xa.size).toList:=by
 rw [iI];exact m.finBA hA hB fun x hx y hy=>by rw [pH h x hx];exact hl y (List.mem_of_mem_drop hy)
section
variable {α β γ δ ε ζ κ μ:Type} {A:Prop} {c:κ} {G:κ->Prop}
@[elab_as_elim] theorem e4 {f:α->β->γ->δ->κ} {P:α->β->γ->δ->Prop} (h:A/\∃ p q r s,c=f p q r s/\P p q r s) (k:A->∀ p q r s,P p q r s->G (f p q r s)):G c:=by
 obtain ⟨a,p,q,r,s,rfl,t⟩:=h;exact k a _ _ _ _ t
@[elab_as_elim] theorem e5 {f:α->β->γ->δ->ε->κ} {P:α->β->γ->δ->ε->Prop} (h:A/\∃ p q r s u,c=f p q r s u/\P p q r s u) (k:A->∀ p q r s u,P p q r s u->G (f p q r s u)):G c:=by
 obtain ⟨a,p,q,r,s,u,rfl,t⟩:=h;exact k a _ _ _ _ _ t
@[elab_as_elim] theorem e6 {f:α->β->γ->δ->ε->ζ->κ} {P:α->β->γ->δ->ε->ζ->Prop} (h:A/\∃ p q r s u v,c=f p q r s u v/\P p q r s u v) (k:A->∀ p q r s u v,P p q r s u v->G (f p q r s u v)):G c:=by
 obtain ⟨a,p,q,r,s,u,v,rfl,t⟩:=h;exact k a _ _ _ _ _ _ t
variable {ω:Type} {g:μ->ω->κ} {R:μ->Prop}
@[elab_as_elim] theorem o5 {f:α->β->γ->δ->ε->κ} {P:α->β->γ->δ->ε->Prop} (h:A/\((∃ x y,c=g x y/\R x)\/∃ p q r s u,c=f p q r s u/\P p q r s u)) (k₁:A->∀ x y,R x->G (g x y)) (k:A->∀ p q r s u,P p q r s u->G (f p q r s u)):G c:=
 h.2.elim (fun ⟨_,_,e,r⟩=>e▸k₁ h.1 _ _ r) fun e=>e5 (G:=G) ⟨h.1,e⟩ k
@[elab_as_elim] theorem o6 {f:α->β->γ->δ->ε->ζ->κ} {P:α->β->γ->δ->ε->ζ->Prop} (h:A/\((∃ x y,c=g x y/\R x)\/∃ p q r s u v,c=f p q r s u v/\P p q r s u v)) (k₁:A->∀ x y,R x->G (g x y)) (k:A->∀ p q r s u v,P p q r s u v->G (f p q r s u v)):G c:=
 h.2.elim (fun ⟨_,_,e,r⟩=>e▸k₁ h.1 _ _ r) fun e=>e6 (G:=G) ⟨h.1,e⟩ k
end
section
variable {prog:Program} {w:World} {A:Around} {E:Value->Shared->Prop}
def pLo (xa xb ou:Array Keyed) (i j mg ac bc:Nat):=do
 let e ← elem' xb j
 if (j+1 == xb.size)=true then
  pure (ForInStep.done (some (ou.push e++xa.extract i xa.size++xb.extract (j+1) xb.size),ou.push e,i,j+1,mg,ac,bc))
 else do
  let f ← elem' xa i
  let x ← gal true f xb (j+1) (xb.size - (j+1)) 0
  match x with
  | some k=>
    if k > 0 then
     if (j+1+k == xb.size)=true then
      pure (ForInStep.done (some (ou.push e++xb.extract (j+1) (j+1+k)++xa.extract i xa.size++xb.extract (j+1+k) xb.size),ou.push e++xb.extract (j+1) (j+1+k),i,j+1+k,mg,ac,k))
     else do
      let g ← elem' xa i
      if (i+1+1 == xa.size)=true then
       pure (ForInStep.done (some ((ou.push e++xb.extract (j+1) (j+1+k)).push g++xb.extract (j+1+k) xb.size++xa.extract (i+1) xa.size),(ou.push e++xb.extract (j+1) (j+1+k)).push g,i+1,j+1+k,mg,ac,k))
      else if (decide (ac<7)&&decide (k<7))=true then
       pure (ForInStep.done (none,(ou.push e++xb.extract (j+1) (j+1+k)).push g,i+1,j+1+k,mg,ac,k))
      else pure (ForInStep.yield (none,(ou.push e++xb.extract (j+1) (j+1+k)).push g,i+1,j+1+k,mg,ac,k))
    else do
     let g ← elem' xa i
     if (i+1+1 == xa.size)=true then
      pure (ForInStep.done (some ((ou.push e).push g++xb.extract (j+1) xb.size++xa.extract (i+1) xa.size),(ou.push e).push g,i+1,j+1,mg,ac,k))
     else if (decide (ac<7)&&decide (k<7))=true then
      pure (ForInStep.done (none,(ou.push e).push g,i+1,j+1,mg,ac,k))
     else pure (ForInStep.yield (none,(ou.push e).push g,i+1,j+1,mg,ac,k))
  | _=>pure (ForInStep.done (some (ou.push e++xa.extract i xa.size++xb.extract (j+1) xb.size),ou.push e,i,j+1,mg,ac,bc))
theorem s_tlo {st:SortSt} {xa xb ou:Array Keyed} {i j mg ac bc:Nat} {Q:ForInStep (Option (Array Keyed)×Array Keyed×Nat×Nat×Nat×Nat×Nat)->SortSt->Prop} (hk:kindOf st=KV.kind) (hIa:AllI xa) (hIb:AllI xb) (hA:xa.toList.Pairwise Le) (hB:xb.toList.Pairwise Le)
 (ha:0<xa.toList.length) (hl:∀ z∈xb.toList,kv z<=kv (xa.toList[xa.toList.length - 1]'(by lia))) (m:MI xa.toList xb.toList ou.toList i j) (hi:i+1<xa.size) (hj:j<xb.toList.length) (hz:∀ z∈xa.toList.drop i,kv xb.toList[j]<=kv z)
 (hd:∀ res rest,Mer xa.toList xb.toList res.toList->Q (.done (some res,rest)) st)
 (hn:∀ ou' i' j' bc',MI xa.toList xb.toList ou'.toList i' j'->i' + 1<xa.size->j' < xb.toList.length->i+j<i' + j'->Q (.done (none,ou',i',j',mg,ac,bc')) st/\Q (.yield (none,ou',i',j',mg,ac,bc')) st) :
 wpS .(18) A E KV.sh (pLo xa xb ou i j mg ac bc) Q st:=by
 have hsa:xa.size=xa.toList.length:=(zB6 ..).symm;have hsb:xb.size=xb.toList.length:=(zB6 ..).symm;unfold pLo;refine wpS_bind (aT hj ?_);have M2:MI xa.toList xb.toList (ou.push xb.toList[j]).toList i (j+1):=by rw [zH7];exact m.pushB hB hj hz
 by_cases e3:j+1=xb.size
 · rw [if_pos (by simpa using e3)];exact wpS_pure (hd _ _ (M2.doneB hA hB (by lia)))
 rw [if_neg (by simpa using e3)];refine wpS_bind (aT (i:=i) (by lia) ?_);obtain ⟨c2,hc2,cut2⟩:=jK hB (xa.toList[i]'(by lia)) true (j+1) (xb.size - (j+1)) (by lia);obtain ⟨lt2,ge2⟩:=gtrue (by lia) cut2;refine wpS_bind (g9 (c:=c2) hk hIb (hIa _ (zB4 _)) (by lia) (by lia) hc2 cut2 ?_);dsimp only;by_cases k1:c2 > 0
 · rw [if_pos k1];have M3:MI xa.toList xb.toList (ou.push xb.toList[j]++xb.extract (j+1) (j+1+c2)).toList i (j+1+c2):=by
    rw [kH];exact M2.extB hB c2 (by lia) fun t ht htc z hz=>zD4 (zD7 (lt2 t ht htc)) (fg hA (by lia) z hz)
   by_cases e4:j+1+c2=xb.size
   · rw [if_pos (by simpa using e4)];exact wpS_pure (hd _ _ (M3.doneB hA hB (by lia)))
   rw [if_neg (by simpa using e4)];refine wpS_bind (aT (i:=i) (by lia) ?_);have M4:MI xa.toList xb.toList ((ou.push xb.toList[j]++xb.extract (j+1) (j+1+c2)).push (xa.toList[i]'(by lia))).toList (i+1) (j+1+c2):=by rw [zH7];exact M3.pushA hA (by lia) ge2
   by_cases e5:i+1+1=xa.size
   · rw [if_pos (by simpa using e5)];exact wpS_pure (hd _ _ (M4.last hA hB (by lia) hl))
   rw [if_neg (by simpa using e5)];obtain ⟨q1,q2⟩:=hn _ _ _ c2 M4 (by lia) (by lia) (by lia);split
   · exact wpS_pure q1
   · exact wpS_pure q2
 · rw [if_neg k1];obtain rfl:c2=0:=by lia
   refine wpS_bind (aT (i:=i) (by lia) ?_);have M4:MI xa.toList xb.toList ((ou.push xb.toList[j]).push (xa.toList[i]'(by lia))).toList (i+1) (j+1):=by rw [zH7];exact M2.pushA hA (by lia) ge2
   by_cases e5:i+1+1=xa.size
   · rw [if_pos (by simpa using e5)];exact wpS_pure (hd _ _ (M4.last hA hB (by lia) hl))
   rw [if_neg (by simpa using e5)];obtain ⟨q1,q2⟩:=hn _ _ _ 0 M4 (by lia) (by lia) (by lia);split
   · exact wpS_pure q1
   · exact wpS_pure q2
theorem s_mlo {st:SortSt} {xa xb:Array Keyed} {Q:Array Keyed->SortSt->Prop} (hk:kindOf st=KV.kind) (hIa:AllI xa) (hIb:AllI xb) (hA:xa.toList.Pairwise Le) (hB:xb.toList.Pairwise Le) (ha:0<xa.toList.length) (hb:0<xb.toList.length)
 (h0:∀ z∈xa.toList,kv (xb.toList[0])<=kv z) (hl:∀ z∈xb.toList,kv z<=kv (xa.toList[xa.toList.length - 1]'(by lia)))
 (h:∀ o st',SameSt st st'->Mer xa.toList xb.toList o.toList->Q o st'):wpS .(18) A E KV.sh (mlo xa xb) Q st:=by
 have hsa:xa.size=xa.toList.length:=(zB6 ..).symm;have hsb:xb.size=xb.toList.length:=(zB6 ..).symm;rw [mlo_eq];refine wpS_bind (wpS_lift (wpAny_rule ⟨rfl,?_⟩));dsimp only;refine wpS_bind (aT hb ?_);have m0:MI xa.toList xb.toList (#[xb.toList[0]]:Array Keyed).toList 0 1:=MI.start hB hb h0;by_cases c1:1=xb.size
 · rw [if_pos (by simpa using c1)];exact wpS_pure (h _ _ (SameSt.refl _) (m0.doneB hA hB (by lia)))
 rw [if_neg (by simpa using c1)];by_cases c2:0+1=xa.size
 · rw [if_pos (by simpa using c2)];exact wpS_pure (h _ _ (SameSt.refl _) (m0.last hA hB (by lia) hl))
 rw [if_neg (by simpa using c2)];refine wpS_bind (wpS_get ?_);refine wpS_bind (wpS_mono (wpS_forRange (I:=fun x c st'=>SameSt st st'/\∃ ou i j mg,c=(none,ou,i,j,mg)/\MI xa.toList xb.toList ou.toList i j/\i+1<xa.size/\j<xb.toList.length/\x+1<=i+j) (Q:=fun c st'=>SameSt st st'/\∃ res rest,c=(some res,rest)/\Mer xa.toList xb.toList res.toList) ?step ?fin ⟨SameSt.refl _,_,_,_,_,rfl,m0,by lia,by lia,by lia⟩) ?post)
 case post=>
  rintro c st' ⟨sm,res,rest,rfl,me⟩
  exact wpS_pure (h _ _ sm me)
 case fin=>
  rintro c st' ⟨sm,ou,i,j,mg,rfl,m,hi,hj,hx⟩
  exfalso
  lia
 case step=>
  intro x c st1 _ hx I0
  refine e4 (c:=c) I0 fun sm ou i j mg I0=>?_
  have m:=I0.1;have hi:=I0.2.1;have hj:=I0.2.2.1;have hx2:=I0.2.2.2
  dsimp only
  refine wpS_bind (wpS_mono (wpS_forRange (I:=fun y c st'=>SameSt st st'/\∃ ou i j ac bc,c=(none,ou,i,j,ac,bc)/\MI xa.toList xb.toList ou.toList i j/\i+1<xa.size/\j<xb.toList.length/\x+1+min y 1<=i+j)
   (Q:=fun c st'=>SameSt st st'/\((∃ res rest,c=(some res,rest)/\Mer xa.toList xb.toList res.toList)\/∃ ou i j ac bc,c=(none,ou,i,j,ac,bc)/\MI xa.toList xb.toList ou.toList i j/\i+1<xa.size/\j<xb.toList.length/\x+2<=i+j)) ?s1 ?f1 ⟨sm,_,_,_,_,_,rfl,m,hi,hj,by lia⟩) ?p1)
  case f1=>
   rintro c st2 ⟨sm2,ou,i,j,ac,bc,rfl,m,hi,hj,hx3⟩
   exact ⟨sm2,.inr ⟨_,_,_,_,_,rfl,m,hi,hj,by lia⟩⟩
  case s1=>
   intro y c st2 _ hy I0
   refine e5 (c:=c) I0 fun sm2 ou i j ac bc I0=>?_
   have m:=I0.1;have hi:=I0.2.1;have hj:=I0.2.2.1;have hx3:=I0.2.2.2
   dsimp only
   refine wpS_bind (aT hj (wpS_bind (aT (i:=i) (by lia) ?_)))
   refine wpS_bind (s_lt (sm2.kind.trans hk) (hIb _ (zB4 _)) (hIa _ (zB4 _)) ?_)
   by_cases bw:kv xb.toList[j]<kv (xa.toList[i]'(by lia))
   · simp only [bw,decide_true,if_true];refine wpS_bind (aT hj ?_);have m2:MI xa.toList xb.toList (ou.push xb.toList[j]).toList i (j+1):=by
      rw [zH7];exact m.pushB hB hj fun z hz=>zD4 (zD7 bw) (fg hA (by lia) z hz)
     by_cases e1:j+1=xb.size
     · rw [if_pos (by simpa using e1)];exact wpS_pure ⟨sm2,.inl ⟨_,_,rfl,m2.doneB hA hB (by lia)⟩⟩
     · rw [if_neg (by simpa using e1)];split
       · exact wpS_pure ⟨sm2,.inr ⟨_,_,_,_,_,rfl,m2,hi,by lia,by lia⟩⟩
       · exact wpS_pure ⟨sm2,_,_,_,_,_,rfl,m2,hi,by lia,by lia⟩
   · simp only [bw,decide_false,zC0,if_false];refine wpS_bind (aT (i:=i) (by lia) ?_);have m2:MI xa.toList xb.toList (ou.push (xa.toList[i]'(by lia))).toList (i+1) j:=by
      rw [zH7];exact m.pushA hA (by lia) fun z hz=>zD4 (Int.not_lt.mp bw) (fg hB hj z hz)
     by_cases e1:i+1+1=xa.size
     · rw [if_pos (by simpa using e1)];exact wpS_pure ⟨sm2,.inl ⟨_,_,rfl,m2.last hA hB (by lia) hl⟩⟩
     · rw [if_neg (by simpa using e1)];split
       · exact wpS_pure ⟨sm2,.inr ⟨_,_,_,_,_,rfl,m2,by lia,hj,by lia⟩⟩
       · exact wpS_pure ⟨sm2,_,_,_,_,_,rfl,m2,by lia,hj,by lia⟩
  case p1=>
   intro c st2 I0
   refine o5 (c:=c) I0 (fun sm2 res rest me=>?_) fun sm2 ou i j ac bc I0=>?_
   · exact wpS_pure ⟨sm2,_,_,rfl,me⟩
   have m:=I0.1;have hi:=I0.2.1;have hj:=I0.2.2.1;have hx3:=I0.2.2.2
   dsimp only
   refine wpS_bind (wpS_lift (wpAny_rule ⟨rfl,?_⟩))
   refine wpS_bind (wpS_mono (wpS_forRange (I:=fun y c st'=>SameSt st st'/\∃ ou i j mg ac bc,c=(none,ou,i,j,mg,ac,bc)/\MI xa.toList xb.toList ou.toList i j/\i+1<xa.size/\j<xb.toList.length/\x+2<=i+j)
    (Q:=fun c st'=>SameSt st st'/\((∃ res rest,c=(some res,rest)/\Mer xa.toList xb.toList res.toList)\/∃ ou i j mg ac bc,c=(none,ou,i,j,mg,ac,bc)/\MI xa.toList xb.toList ou.toList i j/\i+1<xa.size/\j<xb.toList.length/\x+2<=i+j)) ?s2 ?f2 ⟨sm2,_,_,_,_,_,_,rfl,m,hi,hj,hx3⟩) ?p2)
   case f2=>
    rintro c st3 ⟨sm3,ou,i,j,mg,ac,bc,rfl,m,hi,hj,hx4⟩
    exact ⟨sm3,.inr ⟨_,_,_,_,_,_,rfl,m,hi,hj,hx4⟩⟩
   case p2=>
    intro c st3 I0
    refine o6 (c:=c) I0 (fun sm3 res rest me=>?_) fun sm3 ou i j mg ac bc I0=>?_
    · exact wpS_pure ⟨sm3,_,_,rfl,me⟩
    · have m:=I0.1;have hi:=I0.2.1;have hj:=I0.2.2.1;have hx4:=I0.2.2.2;dsimp only;refine wpS_bind (fS ?_);exact wpS_pure ⟨sm3.setG _,_,_,_,_,rfl,m,hi,hj,by lia⟩
   case s2=>
    intro y c st3 _ hy I0
    refine e6 (c:=c) I0 fun sm3' ou i j mg ac bc I0=>?_
    have m:=I0.1;have hi:=I0.2.1;have hj:=I0.2.2.1;have hx4:=I0.2.2.2
    dsimp only
    have sm3:=fun g=>sm3'.setG g
    obtain ⟨c1,hc1,cut1⟩:=jK hA xb.toList[j] false i (xa.size - i) (by lia)
    obtain ⟨le1,gt1⟩:=gfalse (by lia) cut1
    have m1:MI xa.toList xb.toList (ou++xa.extract i (i+c1)).toList (i+c1) j:=by
     rw [kH];exact m.extA hA c1 (by lia) fun t ht htc z hz=>zD4 (le1 t ht htc) (fg hB hj z hz)
    have go:∀ (Q':ForInStep (Option (Array Keyed)×Array Keyed×Nat×Nat×Nat×Nat×Nat)->SortSt->Prop) (mg' g:Nat),(∀ res rest,Mer xa.toList xb.toList res.toList->Q' (.done (some res,rest)) .(24)) ->
     (∀ ou' i' j' bc',MI xa.toList xb.toList ou'.toList i' j'->i' + 1<xa.size->j' < xb.toList.length->i+j<i' + j'->Q' (.done (none,ou',i',j',mg',c1,bc')) .(24)/\Q' (.yield (none,ou',i',j',mg',c1,bc')) .(24)) ->
     wpS .(18) A E KV.sh (if c1 > 0 then (if (i+c1+1 == xa.size)=true then pure (ForInStep.done (some (ou++xa.extract i (i+c1)++xb.extract j xb.size++xa.extract (i+c1) xa.size),ou++xa.extract i (i+c1),i+c1,j,mg',c1,bc)) else if (i+c1 == xa.size)=true then pure (ForInStep.done (some (ou++xa.extract i (i+c1)++xa.extract (i+c1) xa.size++xb.extract j xb.size),ou++xa.extract i (i+c1),i+c1,j,mg',c1,bc)) else pLo xa xb (ou++xa.extract i (i+c1)) (i+c1) j mg' c1 bc) else pLo xa xb ou i j mg' c1 bc) Q' .(24):=fun Q' mg' g hd hn=>by
     by_cases k0:c1 > 0
     · rw [if_pos k0];by_cases e1:i+c1+1=xa.size
       · rw [if_pos (by simpa using e1)];exact wpS_pure (hd _ _ (m1.last hA hB (by lia) hl))
       rw [if_neg (by simpa using e1)];by_cases e2:i+c1=xa.size
       · rw [if_pos (by simpa using e2)];exact wpS_pure (hd _ _ (m1.doneA hA hB (by lia)))
       rw [if_neg (by simpa using e2)];exact s_tlo ((sm3 g).kind.trans hk) hIa hIb hA hB ha hl m1 (by lia) hj (fun z hz=>zD7 (gt1 z hz)) hd fun _ _ _ _ m1 h1 h2 h3=>hn _ _ _ _ m1 h1 h2 (by lia)
     · rw [if_neg k0];obtain rfl:c1=0:=by lia
       exact s_tlo ((sm3 g).kind.trans hk) hIa hIb hA hB ha hl m hi hj (fun z hz=>zD7 (gt1 z hz)) hd hn
    by_cases hmg:mg > 1
    · rw [if_pos hmg];refine wpS_bind (fS (wpS_bind (aT hj ?_)));refine wpS_bind (g9 (c:=c1) ((sm3 _).kind.trans hk) hIa (hIb _ (zB4 _)) (by lia) (by lia) hc1 cut1 ?_);dsimp only;refine go _ (mg - 1) _ (fun _ _ me=>?_) fun _ _ _ _ m1 h1 h2 h3=>?_
      · exact ⟨sm3 _,.inl ⟨_,_,rfl,me⟩⟩
      · exact ⟨⟨sm3 _,.inr ⟨_,_,_,_,_,_,rfl,m1,h1,h2,by lia⟩⟩,⟨sm3 _,_,_,_,_,_,_,rfl,m1,h1,h2,by lia⟩⟩
    · rw [if_neg hmg];refine wpS_bind (fS (wpS_bind (aT hj ?_)));refine wpS_bind (g9 (c:=c1) ((sm3 _).kind.trans hk) hIa (hIb _ (zB4 _)) (by lia) (by lia) hc1 cut1 ?_);dsimp only;refine go _ mg _ (fun _ _ me=>?_) fun _ _ _ _ m1 h1 h2 h3=>?_
      · exact ⟨sm3 _,.inl ⟨_,_,rfl,me⟩⟩
      · exact ⟨⟨sm3 _,.inr ⟨_,_,_,_,_,_,rfl,m1,h1,h2,by lia⟩⟩,⟨sm3 _,_,_,_,_,_,_,rfl,m1,h1,h2,by lia⟩⟩
end
open PyProof.Rows hiding K SortedTo K_bubble K_mirror K_congr K_mirror_equal
variable [KV]
structure MH (A B:List Keyed) (o:List Keyed) (na nb:Nat):Prop where
 perm:o.Perm (A.drop na++B.drop nb)
 srt:o.Pairwise Le
 lea:∀ x∈o,∀ y∈A.take na,kv y<=kv x
 leb:∀ x∈o,∀ y∈B.take nb,kv y<=kv x
theorem iQ {l:List Keyed} (h:l.Pairwise Le) {i:Nat} (hi:i<l.length):∀ y∈l.take i,kv y<=kv l[i]:=fun y hy=>by
 obtain ⟨u,hu,rfl⟩:=zD5.mp hy;rw [zB3] at hu;rw [zF3];exact zE1.mp h _ _ _ _ (by lia)
theorem dh {l:List Keyed} {i:Nat} {y:Keyed} (h:y∈l.take i):y∈l.take (i+1):=(List.take_sublist_take_left (zF7 i)).mem h
theorem e7 {l:List Keyed} {i:Nat} (hi:i<l.length):l[i]∈l.take (i+1):=by
 rw [zC3,List.getElem?_eq_getElem hi];exact zB2 _ (zC6.mpr rfl)
theorem MH.pushA {A B o:List Keyed} {na nb:Nat} (m:MH A B o (na+1) nb) (hA:A.Pairwise Le) (hi:na<A.length) (h:∀ z∈B.take nb,kv z<=kv A[na]):MH A B (A[na]::o) na nb:=by
 refine ⟨?_,?_,fun x hx y hy=>?_,fun x hx y hy=>?_⟩
 · rw [zD0 hi,List.cons_append];exact List.Perm.cons _ m.perm
 · exact List.pairwise_cons.mpr ⟨fun x hx=>m.lea x hx _ (e7 hi),m.srt⟩
 · rcases zA8.mp hx with rfl | hx
   · exact iQ hA hi y hy
   · exact m.lea x hx y (dh hy)
 · rcases zA8.mp hx with rfl | hx
   · exact h y hy
   · exact m.leb x hx y hy
theorem MH.pushB {A B o:List Keyed} {na nb:Nat} (m:MH A B o na (nb+1)) (hB:B.Pairwise Le) (hi:nb<B.length) (h:∀ z∈A.take na,kv z<=kv B[nb]):MH A B (B[nb]::o) na nb:=by
 refine ⟨?_,?_,fun x hx y hy=>?_,fun x hx y hy=>?_⟩
 · rw [zD0 hi];exact (List.Perm.cons _ m.perm).trans List.perm_middle.symm
 · exact List.pairwise_cons.mpr ⟨fun x hx=>m.leb x hx _ (e7 hi),m.srt⟩
 · rcases zA8.mp hx with rfl | hx
   · exact h y hy
   · exact m.lea x hx y hy
 · rcases zA8.mp hx with rfl | hx
   · exact iQ hB hi y hy
   · exact m.leb x hx y (dh hy)
theorem MH.extA {A B o:List Keyed} {nb:Nat} (hA:A.Pairwise Le):∀ (k c:Nat),MH A B o (c+k) nb->c+k<=A.length->(∀ i (hi:i<A.length),c<=i->i<c+k->∀ z∈B.take nb,kv z<=kv A[i])->MH A B ((A.drop c).take k++o) c nb
 | 0,c,m,_,_=>by rw [zE4];exact m
 | k+1,c,m,hk,h=>by
   have m':MH A B o (c+1+k) nb:=by rw [show c+1+k=c+(k+1) by lia];exact m
   have ih:=MH.extA hA k (c+1) m' (by lia) fun i hi h1 h2=>h i hi (by lia) (by lia);have hi:c<A.length:=by lia
   rw [zD0 hi,List.take_succ_cons,List.cons_append];exact ih.pushA hA hi (h c hi (zA1 _) (by lia))
theorem MH.extB {A B o:List Keyed} {na:Nat} (hB:B.Pairwise Le):∀ (k c:Nat),MH A B o na (c+k)->c+k<=B.length->(∀ i (hi:i<B.length),c<=i->i<c+k->∀ z∈A.take na,kv z<=kv B[i])->MH A B ((B.drop c).take k++o) na c
 | 0,c,m,_,_=>by rw [zE4];exact m
 | k+1,c,m,hk,h=>by
   have m':MH A B o na (c+1+k):=by rw [show c+1+k=c+(k+1) by lia];exact m
   have ih:=MH.extB hB k (c+1) m' (by lia) fun i hi h1 h2=>h i hi (by lia) (by lia);have hi:c<B.length:=by lia
   rw [zD0 hi,List.take_succ_cons,List.cons_append];exact ih.pushB hB hi (h c hi (zA1 _) (by lia))
theorem MH.finAB {A B o:List Keyed} {na nb:Nat} (m:MH A B o na nb) (hA:A.Pairwise Le) (hB:B.Pairwise Le) (h:∀ x∈A.take na,∀ y∈B.take nb,kv x<=kv y):Mer A B (A.take na++B.take nb++o):=by
 refine ⟨?_,?_⟩
 · have e:=(zF4 (A.take na++B.take nb) m.perm).trans (ei (A.take na) (B.take nb) (A.drop na) (B.drop nb));rw [zD1,zD1] at e;exact e
 · refine zC4.mpr ⟨zC4.mpr ⟨hA.sublist (zH5 _ _),hB.sublist (zH5 _ _),fun x hx y hy=>h x hx y hy⟩,m.srt,fun x hx y hy=>?_⟩;rcases zB7.mp hx with hx | hx
   · exact m.lea y hy x hx
   · exact m.leb y hy x hx
theorem MH.finBA {A B o:List Keyed} {na nb:Nat} (m:MH A B o na nb) (hA:A.Pairwise Le) (hB:B.Pairwise Le) (h:∀ x∈A.take na,∀ y∈B.take nb,kv y<=kv x):Mer A B (B.take nb++A.take na++o):=by
 refine ⟨?_,?_⟩
 · have e:=(zF4 (A.take na++B.take nb) m.perm).trans (ei (A.take na) (B.take nb) (A.drop na) (B.drop nb));rw [zD1,zD1] at e;exact (List.Perm.append_right o List.perm_append_comm).trans e
 · refine zC4.mpr ⟨zC4.mpr ⟨hB.sublist (zH5 _ _),hA.sublist (zH5 _ _),fun x hx y hy=>h y hy x hx⟩,m.srt,fun x hx y hy=>?_⟩;rcases zB7.mp hx with hx | hx
   · exact m.leb y hy x hx
   · exact m.lea y hy x hx
theorem gX (o x y:Array Keyed) (i j:Nat):(x.extract 0 i++y.extract 0 j++o.reverse).toList=x.toList.take i++y.toList.take j++o.toList.reverse:=by
 have e:∀ (z:Array Keyed) (k:Nat),(z.extract 0 k).toList=z.toList.take k:=fun z k=>by
  rw [Array.toList_extract,zG6,List.drop_zero,Nat.sub_zero]
 rw [zG4,zG4,e,e,Array.toList_reverse]
theorem gW (o:Array Keyed) (z:Keyed):(o.push z).toList.reverse=z::o.toList.reverse:=by
 rw [zH7,List.reverse_append];rfl
theorem je (o x:Array Keyed) (c n:Nat):(o++(x.extract c n).reverse).toList.reverse=(x.toList.drop c).take (n - c)++o.toList.reverse:=by
 rw [zG4,List.reverse_append,Array.toList_reverse,List.reverse_reverse,Array.toList_extract,zG6]
def MHa (xa xb ou:Array Keyed) (na nb:Nat):Prop:=MH xa.toList xb.toList ou.toList.reverse na nb
section
variable {xa xb ou:Array Keyed} {na nb:Nat}
theorem MHa.done0 (m:MHa xa xb ou na nb) (hA:xa.toList.Pairwise Le) (hB:xb.toList.Pairwise Le) (h:na=0\/nb=0):Mer xa.toList xb.toList (xa.extract 0 na++xb.extract 0 nb++ou.reverse).toList:=by
 rw [gX];refine MH.finAB m hA hB fun x hx y hy=>?_;rcases h with h | h
 · rw [h] at hx;simp at hx
 · rw [h] at hy;simp at hy
theorem MHa.first (m:MHa xa xb ou na nb) (hA:xa.toList.Pairwise Le) (hB:xb.toList.Pairwise Le) (hb:0<xb.toList.length) (h:nb=1) (h0:∀ z∈xa.toList,kv xb.toList[0]<=kv z):Mer xa.toList xb.toList (xb.extract 0 nb++xa.extract 0 na++ou.reverse).toList:=by
 rw [gX];refine MH.finBA m hA hB fun x hx y hy=>?_;rw [h,zC3,List.getElem?_eq_getElem hb] at hy;have:y=xb.toList[0]:=by simpa using hy
 rw [this];exact h0 x (List.mem_of_mem_take hx)
theorem MHa.pushA (m:MHa xa xb ou (na+1) nb) (hA:xa.toList.Pairwise Le) (hi:na<xa.toList.length) (h:∀ z∈xb.toList.take nb,kv z<=kv xa.toList[na]):MHa xa xb (ou.push xa.toList[na]) na nb:=by
 unfold MHa;rw [gW];exact MH.pushA m hA hi h
theorem MHa.pushB (m:MHa xa xb ou na (nb+1)) (hB:xb.toList.Pairwise Le) (hi:nb<xb.toList.length) (h:∀ z∈xa.toList.take na,kv z<=kv xb.toList[nb]):MHa xa xb (ou.push xb.toList[nb]) na nb:=by
 unfold MHa;rw [gW];exact MH.pushB m hB hi h
theorem MHa.extA {c:Nat} (m:MHa xa xb ou na nb) (hA:xa.toList.Pairwise Le) (hc:c<=na) (hn:na<=xa.toList.length) (h:∀ i (hi:i<xa.toList.length),c<=i->i<na->∀ z∈xb.toList.take nb,kv z<=kv xa.toList[i]):MHa xa xb (ou++(xa.extract c na).reverse) c nb:=by
 unfold MHa;rw [je];exact MH.extA hA (na - c) c (by rw [show c+(na - c)=na by lia];exact m) (by lia) fun i hi h1 h2=>h i hi h1 (by lia)
theorem MHa.extB {c:Nat} (m:MHa xa xb ou na nb) (hB:xb.toList.Pairwise Le) (hc:c<=nb) (hn:nb<=xb.toList.length) (h:∀ i (hi:i<xb.toList.length),c<=i->i<nb->∀ z∈xa.toList.take na,kv z<=kv xb.toList[i]):MHa xa xb (ou++(xb.extract c nb).reverse) na c:=by
 unfold MHa;rw [je];exact MH.extB hB (nb - c) c (by rw [show c+(nb - c)=nb by lia];exact m) (by lia) fun i hi h1 h2=>h i hi h1 (by lia)
end
theorem ffalse {xs:Array Keyed} {ky:Keyed} {n c:Nat} (hn:n<=xs.toList.length) (hc:c<=n) (cut:∀ i,i<n->Byd false ky xs 0 i=decide (i<c)) :
 (∀ z∈xs.toList.take c,kv z<=kv ky)/\(∀ i (h:i<xs.toList.length),c<=i->i<n->kv ky<kv xs.toList[i]):=by
 have key:∀ i (h:i<xs.toList.length),i<n->(!decide (kv ky<kv xs.toList[i]))=decide (i<c):=fun i h hi=>by
  have:=cut i hi;unfold Byd at this;rw [zH1,nY h] at this;simpa using this
 constructor
 · intro z hz;obtain ⟨u,hu,rfl⟩:=zD5.mp hz;rw [zB3] at hu;have:=key u (by lia) (by lia);rw [zF3];rw [decide_eq_true (show u<c by lia)] at this;simpa using this
 · intro i h h1 h2;have:=key i h h2;rw [decide_eq_false (show ¬ i<c by lia)] at this;simpa using this
theorem ftrue {xs:Array Keyed} {ky:Keyed} {n c:Nat} (hn:n<=xs.toList.length) (hc:c<=n) (cut:∀ i,i<n->Byd true ky xs 0 i=decide (i<c)) :
 (∀ z∈xs.toList.take c,kv z<kv ky)/\(∀ i (h:i<xs.toList.length),c<=i->i<n->kv ky<=kv xs.toList[i]):=by
 have key:∀ i (h:i<xs.toList.length),i<n->decide (kv xs.toList[i]<kv ky)=decide (i<c):=fun i h hi=>by
  have:=cut i hi;unfold Byd at this;rw [zH1,nY h] at this;simpa using this
 constructor
 · intro z hz;obtain ⟨u,hu,rfl⟩:=zD5.mp hz;rw [zB3] at hu;have:=key u (by lia) (by lia);rw [zF3];rw [decide_eq_true (show u<c by lia)] at this;simpa using this
 · intro i h h1 h2;have:=key i h h2;rw [decide_eq_false (show ¬ i<c by lia)] at this;simpa using this
theorem eO {l:List Keyed} (h:l.Pairwise Le) {n:Nat} (hn:n<l.length):∀ z∈l.take (n+1),kv z<=kv l[n]:=fun z hz=>by
 rw [zC3,List.getElem?_eq_getElem hn] at hz;rcases zB7.mp hz with hz | hz
 · exact iQ h hn z hz
 · have:z=l[n]:=by simpa using hz
   rw [this];exact zE5 _
def mhi:Array Keyed->Array Keyed->StateT SortSt Sem (Array Keyed):=sortPriv% PySem.Builtin.mergeHi
theorem mhi_eq (xa xb:Array Keyed):mhi xa xb=(do
 rule "list.sort.merge-hi"
 let tot:=xa.size+xb.size
 let dn (ou:Array Keyed) (i j:Nat):=xa.extract 0 i++xb.extract 0 j++ou.reverse
 let fb (ou:Array Keyed) (i j:Nat):=xb.extract 0 j++xa.extract 0 i++ou.reverse
 let mut i:=xa.size - 1
 let mut j:=xb.size
 let mut ou:Array Keyed:=#[← elem' xa i]
 if i == 0 then return dn ou i j
 if j == 1 then return fb ou i j
 let mut mg:=gallopOf (← get)
 for _ in [0:tot] do
  let mut ac:=0
  let mut bc:=0
  for _ in [0:tot] do
   let some aw ← lt' (← elem' xb (j - 1)) (← elem' xa (i - 1)) | return dn ou i j
   if aw then
    i:=i - 1;ou:=ou.push (← elem' xa i);ac:=ac+1;bc:=0
    if i == 0 then return dn ou i j
    if ac>=mg then break
   else
    j:=j - 1;ou:=ou.push (← elem' xb j);bc:=bc+1;ac:=0
    if j == 1 then return fb ou i j
    if bc>=mg then break
  rule "list.sort.gallop"
  mg:=mg+1
  for _ in [0:tot] do
   if mg > 1 then mg:=mg - 1
   setG mg
   let some t ← gal false (← elem' xb (j - 1)) xa 0 i (i - 1) | return dn ou i j
   let k:=i - t
   ac:=k
   if k > 0 then
    ou:=ou++(xa.extract t i).reverse;i:=t
    if i == 0 then return dn ou i j
   j:=j - 1;ou:=ou.push (← elem' xb j)
   if j == 1 then return fb ou i j
   let some t ← gal true (← elem' xa (i - 1)) xb 0 j (j - 1) | return dn ou i j
   let k:=j - t
   bc:=k
   if k > 0 then
    ou:=ou++(xb.extract t j).reverse;j:=t
    if j == 1 then return fb ou i j
    if j == 0 then return dn ou i j
   i:=i - 1;ou:=ou.push (← elem' xa i)
   if i == 0 then return dn ou i j
   if ac<7&&bc<7 then break
  mg:=mg+1
  setG mg
 unsupported "internal:list.sort.merge-bound"):=rfl
open PyProof.Rows hiding K SortedTo K_bubble K_mirror K_congr K_mirror_equal
variable [KV]
section
variable {prog:Program} {w:World} {A:Around} {E:Value->Shared->Prop}
def pHi (xa xb ou:Array Keyed) (i j mg ac bc:Nat):=do
 let e ← elem' xb (j - 1)
 if (j - 1 == 1)=true then
  pure (ForInStep.done (some (xb.extract 0 (j - 1)++xa.extract 0 i++(ou.push e).reverse),i,j - 1,ou.push e,mg,ac,bc))
 else do
  let f ← elem' xa (i - 1)
  let x ← gal true f xb 0 (j - 1) (j - 1 - 1)
  match x with
  | some t=>
    if j - 1 - t > 0 then
     if (t == 1)=true then
      pure (ForInStep.done (some (xb.extract 0 t++xa.extract 0 i++(ou.push e++(xb.extract t (j - 1)).reverse).reverse),i,t,ou.push e++(xb.extract t (j - 1)).reverse,mg,ac,j - 1 - t))
     else if (t == 0)=true then
      pure (ForInStep.done (some (xa.extract 0 i++xb.extract 0 t++(ou.push e++(xb.extract t (j - 1)).reverse).reverse),i,t,ou.push e++(xb.extract t (j - 1)).reverse,mg,ac,j - 1 - t))
     else do
      let g ← elem' xa (i - 1)
      if (i - 1 == 0)=true then
       pure (ForInStep.done (some (xa.extract 0 (i - 1)++xb.extract 0 t++((ou.push e++(xb.extract t (j - 1)).reverse).push g).reverse),i - 1,t,(ou.push e++(xb.extract t (j - 1)).reverse).push g,mg,ac,j - 1 - t))
      else if (decide (ac<7)&&decide (j - 1 - t<7))=true then
       pure (ForInStep.done (none,i - 1,t,(ou.push e++(xb.extract t (j - 1)).reverse).push g,mg,ac,j - 1 - t))
      else pure (ForInStep.yield (none,i - 1,t,(ou.push e++(xb.extract t (j - 1)).reverse).push g,mg,ac,j - 1 - t))
    else do
     let g ← elem' xa (i - 1)
     if (i - 1 == 0)=true then
      pure (ForInStep.done (some (xa.extract 0 (i - 1)++xb.extract 0 (j - 1)++((ou.push e).push g).reverse),i - 1,j - 1,(ou.push e).push g,mg,ac,j - 1 - t))
     else if (decide (ac<7)&&decide (j - 1 - t<7))=true then
      pure (ForInStep.done (none,i - 1,j - 1,(ou.push e).push g,mg,ac,j - 1 - t))
     else pure (ForInStep.yield (none,i - 1,j - 1,(ou.push e).push g,mg,ac,j - 1 - t))
  | _=>pure (ForInStep.done (some (xa.extract 0 i++xb.extract 0 (j - 1)++(ou.push e).reverse),i,j - 1,ou.push e,mg,ac,bc))
theorem s_thi {st:SortSt} {xa xb ou:Array Keyed} {i j mg ac bc:Nat} {Q:ForInStep (Option (Array Keyed)×Nat×Nat×Array Keyed×Nat×Nat×Nat)->SortSt->Prop} (hk:kindOf st=KV.kind) (hIa:AllI xa) (hIb:AllI xb) (hA:xa.toList.Pairwise Le) (hB:xb.toList.Pairwise Le)
 (hb:0<xb.toList.length) (h0:∀ z∈xa.toList,kv (xb.toList[0])<=kv z) (m:MHa xa xb ou i j) (hi:0<i) (hi2:i<xa.toList.length) (hj:1<j) (hj2:j<=xb.toList.length) (hz:∀ z∈xa.toList.take i,kv z<=kv (xb.toList[j - 1]'(by lia)))
 (hd:∀ res rest,Mer xa.toList xb.toList res.toList->Q (.done (some res,rest)) st)
 (hn:∀ ou' i' j' bc',MHa xa xb ou' i' j'->0<i'->i' < xa.size->1<j'->j'<=xb.size->i' + j' + 2<=i+j->Q (.done (none,i',j',ou',mg,ac,bc')) st/\Q (.yield (none,i',j',ou',mg,ac,bc')) st) :
 wpS .(18) A E KV.sh (pHi xa xb ou i j mg ac bc) Q st:=by
 have hsa:xa.size=xa.toList.length:=(zB6 ..).symm;have hsb:xb.size=xb.toList.length:=(zB6 ..).symm;unfold pHi;refine wpS_bind (aT (i:=j - 1) (by lia) ?_);have M2:MHa xa xb (ou.push (xb.toList[j - 1]'(by lia))) i (j - 1):=MHa.pushB (by rw [show j - 1+1=j by lia];exact m) hB (by lia) hz;by_cases e3:j - 1=1
 · rw [if_pos (by simpa using e3)];exact wpS_pure (hd _ _ (M2.first hA hB hb e3 h0))
 rw [if_neg (by simpa using e3)];refine wpS_bind (aT (i:=i - 1) (by lia) ?_);obtain ⟨c2,hc2,cut2⟩:=jK hB (xa.toList[i - 1]'(by lia)) true 0 (j - 1) (by lia);obtain ⟨lt2,ge2⟩:=ftrue (by lia) hc2 cut2;refine wpS_bind (g9 (c:=c2) hk hIb (hIa _ (zB4 _)) (by lia) (by lia) hc2 cut2 ?_);dsimp only;by_cases k1:j - 1 - c2 > 0
 · rw [if_pos k1];have M3:MHa xa xb (ou.push (xb.toList[j - 1]'(by lia))++(xb.extract c2 (j - 1)).reverse) i c2:=M2.extB hB hc2 (by lia) fun t ht h1 h2 z hz=>by
    refine zD4 ?_ (ge2 t ht h1 h2);exact eO hA (n:=i - 1) (by lia) z (by rw [show i - 1+1=i by lia];exact hz)
   by_cases e4:c2=1
   · rw [if_pos (by simpa using e4)];exact wpS_pure (hd _ _ (M3.first hA hB hb e4 h0))
   rw [if_neg (by simpa using e4)];by_cases e6:c2=0
   · rw [if_pos (by simpa using e6)];exact wpS_pure (hd _ _ (M3.done0 hA hB (.inr e6)))
   rw [if_neg (by simpa using e6)];refine wpS_bind (aT (i:=i - 1) (by lia) ?_);have M4:MHa xa xb ((ou.push (xb.toList[j - 1]'(by lia))++(xb.extract c2 (j - 1)).reverse).push (xa.toList[i - 1]'(by lia))) (i - 1) c2:=MHa.pushA (by rw [show i - 1+1=i by lia];exact M3) hA (by lia) (fun z hz=>zD7 (lt2 z hz));by_cases e5:i - 1=0
   · rw [if_pos (by simpa using e5)];exact wpS_pure (hd _ _ (M4.done0 hA hB (.inl e5)))
   rw [if_neg (by simpa using e5)];obtain ⟨q1,q2⟩:=hn _ _ _ (j - 1 - c2) M4 (by lia) (by lia) (by lia) (by lia) (by lia);split
   · exact wpS_pure q1
   · exact wpS_pure q2
 · rw [if_neg k1];have c20:c2=j - 1:=by lia
   refine wpS_bind (aT (i:=i - 1) (by lia) ?_);have M4:MHa xa xb ((ou.push (xb.toList[j - 1]'(by lia))).push (xa.toList[i - 1]'(by lia))) (i - 1) (j - 1):=MHa.pushA (by rw [show i - 1+1=i by lia];exact M2) hA (by lia) (fun z hz=>zD7 (lt2 z (by rw [c20];exact hz)));by_cases e5:i - 1=0
   · rw [if_pos (by simpa using e5)];exact wpS_pure (hd _ _ (M4.done0 hA hB (.inl e5)))
   rw [if_neg (by simpa using e5)];obtain ⟨q1,q2⟩:=hn _ _ _ (j - 1 - c2) M4 (by lia) (by lia) (by lia) (by lia) (by lia);split
   · exact wpS_pure q1
   · exact wpS_pure q2
theorem s_mhi {st:SortSt} {xa xb:Array Keyed} {Q:Array Keyed->SortSt->Prop} (hk:kindOf st=KV.kind) (hIa:AllI xa) (hIb:AllI xb) (hA:xa.toList.Pairwise Le) (hB:xb.toList.Pairwise Le) (ha:0<xa.toList.length) (hb:0<xb.toList.length)
 (h0:∀ z∈xa.toList,kv (xb.toList[0])<=kv z) (hl:∀ z∈xb.toList,kv z<=kv (xa.toList[xa.toList.length - 1]'(by lia)))
 (h:∀ o st',SameSt st st'->Mer xa.toList xb.toList o.toList->Q o st'):wpS .(18) A E KV.sh (mhi xa xb) Q st:=by
 have hsa:xa.size=xa.toList.length:=(zB6 ..).symm;have hsb:xb.size=xb.toList.length:=(zB6 ..).symm;rw [mhi_eq];refine wpS_bind (wpS_lift (wpAny_rule ⟨rfl,?_⟩));dsimp only;refine wpS_bind (aT (i:=xa.size - 1) (by lia) ?_);have m0:MHa xa xb #[xa.toList[xa.size - 1]'(by lia)] (xa.size - 1) xb.size:=by
  have mm:MHa xa xb #[] (xa.size - 1+1) xb.size:=by
   refine ⟨?_,List.Pairwise.nil,fun x hx=>(nomatch hx),fun x hx=>(nomatch hx)⟩;rw [dr (show xa.size - 1+1=xa.toList.length by lia),dr hsb];exact List.Perm.refl _
  refine mm.pushA hA (by lia) fun z hz=>?_;have:=hl z (List.mem_of_mem_take hz);have e:xa.toList[xa.toList.length - 1]'(by lia)=xa.toList[xa.size - 1]'(by lia):=by congr 1
  rw [← e];exact this
 by_cases c1:xa.size - 1=0
 · rw [if_pos (by simpa using c1)];exact wpS_pure (h _ _ (SameSt.refl _) (m0.done0 hA hB (.inl c1)))
 rw [if_neg (by simpa using c1)];by_cases c2:xb.size=1
 · rw [if_pos (by simpa using c2)];exact wpS_pure (h _ _ (SameSt.refl _) (m0.first hA hB hb c2 h0))
 rw [if_neg (by simpa using c2)];refine wpS_bind (wpS_get ?_);refine wpS_bind (wpS_mono (wpS_forRange (I:=fun x c st'=>SameSt st st'/\∃ i j ou mg,c=(none,i,j,ou,mg)/\MHa xa xb ou i j/\0<i/\i<xa.size/\1<j/\j<=xb.size/\i+j+x+1<=xa.size+xb.size) (Q:=fun c st'=>SameSt st st'/\∃ res rest,c=(some res,rest)/\Mer xa.toList xb.toList res.toList) ?step ?fin ⟨SameSt.refl _,_,_,_,_,rfl,m0,by lia,by lia,by lia,by lia,by lia⟩) ?post)
 case post=>
  rintro c st' ⟨sm,res,rest,rfl,me⟩
  exact wpS_pure (h _ _ sm me)
 case fin=>
  rintro c st' ⟨sm,i,j,ou,mg,rfl,m,hi,hi2,hj,hj2,hx⟩
  exfalso
  lia
 case step=>
  intro x c st1 _ hx I0
  refine e4 (c:=c) I0 fun sm i j ou mg I0=>?_
  have m:=I0.1;have hi:=I0.2.1;have hi2:=I0.2.2.1;have hj:=I0.2.2.2.1;have hj2:=I0.2.2.2.2.1;have hx2:=I0.2.2.2.2.2
  dsimp only
  refine wpS_bind (wpS_mono (wpS_forRange (I:=fun y c st'=>SameSt st st'/\∃ i j ou ac bc,c=(none,i,j,ou,ac,bc)/\MHa xa xb ou i j/\0<i/\i<xa.size/\1<j/\j<=xb.size/\i+j+x+1+min y 1<=xa.size+xb.size)
   (Q:=fun c st'=>SameSt st st'/\((∃ res rest,c=(some res,rest)/\Mer xa.toList xb.toList res.toList)\/∃ i j ou ac bc,c=(none,i,j,ou,ac,bc)/\MHa xa xb ou i j/\0<i/\i<xa.size/\1<j/\j<=xb.size/\i+j+x+2<=xa.size+xb.size)) ?s1 ?f1 ⟨sm,_,_,_,_,_,rfl,m,hi,hi2,hj,hj2,by lia⟩) ?p1)
  case f1=>
   rintro c st2 ⟨sm2,i,j,ou,ac,bc,rfl,m,hi,hi2,hj,hj2,hx3⟩
   exact ⟨sm2,.inr ⟨_,_,_,_,_,rfl,m,hi,hi2,hj,hj2,by lia⟩⟩
  case s1=>
   intro y c st2 _ hy I0
   refine e5 (c:=c) I0 fun sm2 i j ou ac bc I0=>?_
   have m:=I0.1;have hi:=I0.2.1;have hi2:=I0.2.2.1;have hj:=I0.2.2.2.1;have hj2:=I0.2.2.2.2.1;have hx3:=I0.2.2.2.2.2
   dsimp only
   refine wpS_bind (aT (i:=j - 1) (by lia) (wpS_bind (aT (i:=i - 1) (by lia) ?_)))
   refine wpS_bind (s_lt (sm2.kind.trans hk) (hIb _ (zB4 _)) (hIa _ (zB4 _)) ?_)
   by_cases aw:kv (xb.toList[j - 1]'(by lia))<kv (xa.toList[i - 1]'(by lia))
   · simp only [aw,decide_true,if_true];refine wpS_bind (aT (i:=i - 1) (by lia) ?_);have m2:MHa xa xb (ou.push (xa.toList[i - 1]'(by lia))) (i - 1) j:=MHa.pushA (by rw [show i - 1+1=i by lia];exact m) hA (by lia) fun z hz=>by
      refine zD4 ?_ (zD7 aw);exact eO hB (n:=j - 1) (by lia) z (by rw [show j - 1+1=j by lia];exact hz)
     by_cases e1:i - 1=0
     · rw [if_pos (by simpa using e1)];exact wpS_pure ⟨sm2,.inl ⟨_,_,rfl,m2.done0 hA hB (.inl e1)⟩⟩
     · rw [if_neg (by simpa using e1)];split
       · exact wpS_pure ⟨sm2,.inr ⟨_,_,_,_,_,rfl,m2,by lia,by lia,hj,hj2,by lia⟩⟩
       · exact wpS_pure ⟨sm2,_,_,_,_,_,rfl,m2,by lia,by lia,hj,hj2,by lia⟩
   · simp only [aw,decide_false,zC0,if_false];refine wpS_bind (aT (i:=j - 1) (by lia) ?_);have m2:MHa xa xb (ou.push (xb.toList[j - 1]'(by lia))) i (j - 1):=MHa.pushB (by rw [show j - 1+1=j by lia];exact m) hB (by lia) fun z hz=>by
      refine zD4 ?_ (Int.not_lt.mp aw);exact eO hA (n:=i - 1) (by lia) z (by rw [show i - 1+1=i by lia];exact hz)
     by_cases e1:j - 1=1
     · rw [if_pos (by simpa using e1)];exact wpS_pure ⟨sm2,.inl ⟨_,_,rfl,m2.first hA hB hb e1 h0⟩⟩
     · rw [if_neg (by simpa using e1)];split
       · exact wpS_pure ⟨sm2,.inr ⟨_,_,_,_,_,rfl,m2,hi,hi2,by lia,by lia,by lia⟩⟩
       · exact wpS_pure ⟨sm2,_,_,_,_,_,rfl,m2,hi,hi2,by lia,by lia,by lia⟩
  case p1=>
   intro c st2 I0
   refine o5 (c:=c) I0 (fun sm2 res rest me=>?_) fun sm2 i j ou ac bc I0=>?_
   · exact wpS_pure ⟨sm2,_,_,rfl,me⟩
   have m:=I0.1;have hi:=I0.2.1;have hi2:=I0.2.2.1;have hj:=I0.2.2.2.1;have hj2:=I0.2.2.2.2.1;have hx3:=I0.2.2.2.2.2
   dsimp only
   refine wpS_bind (wpS_lift (wpAny_rule ⟨rfl,?_⟩))
   refine wpS_bind (wpS_mono (wpS_forRange (I:=fun y c st'=>SameSt st st'/\∃ i j ou mg ac bc,c=(none,i,j,ou,mg,ac,bc)/\MHa xa xb ou i j/\0<i/\i<xa.size/\1<j/\j<=xb.size/\i+j+x+2<=xa.size+xb.size)
    (Q:=fun c st'=>SameSt st st'/\((∃ res rest,c=(some res,rest)/\Mer xa.toList xb.toList res.toList)\/∃ i j ou mg ac bc,c=(none,i,j,ou,mg,ac,bc)/\MHa xa xb ou i j/\0<i/\i<xa.size/\1<j/\j<=xb.size/\i+j+x+2<=xa.size+xb.size)) ?s2 ?f2 ⟨sm2,_,_,_,_,_,_,rfl,m,hi,hi2,hj,hj2,hx3⟩) ?p2)
   case f2=>
    rintro c st3 ⟨sm3,i,j,ou,mg,ac,bc,rfl,m,hi,hi2,hj,hj2,hx4⟩
    exact ⟨sm3,.inr ⟨_,_,_,_,_,_,rfl,m,hi,hi2,hj,hj2,hx4⟩⟩
   case p2=>
    intro c st3 I0
    refine o6 (c:=c) I0 (fun sm3 res rest me=>?_) fun sm3 i j ou mg ac bc I0=>?_
    · exact wpS_pure ⟨sm3,_,_,rfl,me⟩
    · have m:=I0.1;have hi:=I0.2.1;have hi2:=I0.2.2.1;have hj:=I0.2.2.2.1;have hj2:=I0.2.2.2.2.1;have hx4:=I0.2.2.2.2.2;dsimp only;refine wpS_bind (fS ?_);exact wpS_pure ⟨sm3.setG _,_,_,_,_,rfl,m,hi,hi2,hj,hj2,by lia⟩
   case s2=>
    intro y c st3 _ hy I0
    refine e6 (c:=c) I0 fun sm3' i j ou mg ac bc I0=>?_
    have m:=I0.1;have hi:=I0.2.1;have hi2:=I0.2.2.1;have hj:=I0.2.2.2.1;have hj2:=I0.2.2.2.2.1;have hx4:=I0.2.2.2.2.2
    dsimp only
    have sm3:=fun g=>sm3'.setG g
    obtain ⟨c1,hc1,cut1⟩:=jK hA (xb.toList[j - 1]'(by lia)) false 0 i (by lia)
    obtain ⟨le1,gt1⟩:=ffalse (by lia) hc1 cut1
    have m1:MHa xa xb (ou++(xa.extract c1 i).reverse) c1 j:=m.extA hA hc1 (by lia) fun t ht h1 h2 z hz=>by
     refine zD4 ?_ (zD7 (gt1 t ht h1 h2));exact eO hB (n:=j - 1) (by lia) z (by rw [show j - 1+1=j by lia];exact hz)
    have go:∀ (Q':ForInStep (Option (Array Keyed)×Nat×Nat×Array Keyed×Nat×Nat×Nat)->SortSt->Prop) (mg' g:Nat),(∀ res rest,Mer xa.toList xb.toList res.toList->Q' (.done (some res,rest)) .(24)) ->
     (∀ ou' i' j' bc',MHa xa xb ou' i' j'->0<i'->i' < xa.size->1<j'->j'<=xb.size->i' + j' + 2<=i+j->Q' (.done (none,i',j',ou',mg',i - c1,bc')) .(24)/\Q' (.yield (none,i',j',ou',mg',i - c1,bc')) .(24)) ->
     wpS .(18) A E KV.sh (if i - c1 > 0 then (if (c1 == 0)=true then pure (ForInStep.done (some (xa.extract 0 c1++xb.extract 0 j++(ou++(xa.extract c1 i).reverse).reverse),c1,j,ou++(xa.extract c1 i).reverse,mg',i - c1,bc)) else pHi xa xb (ou++(xa.extract c1 i).reverse) c1 j mg' (i - c1) bc) else pHi xa xb ou i j mg' (i - c1) bc) Q' .(24):=fun Q' mg' g hd hn=>by
     by_cases k0:i - c1 > 0
     · rw [if_pos k0];by_cases e1:c1=0
       · rw [if_pos (by simpa using e1)];exact wpS_pure (hd _ _ (m1.done0 hA hB (.inl e1)))
       rw [if_neg (by simpa using e1)];exact s_thi ((sm3 g).kind.trans hk) hIa hIb hA hB hb h0 m1 (by lia) (by lia) hj (by lia) (fun z hz=>le1 z hz) hd fun _ _ _ _ m1 a1 a2 a3 a4 h3=>hn _ _ _ _ m1 a1 a2 a3 a4 (by lia)
     · rw [if_neg k0];have c10:c1=i:=by lia
       exact s_thi ((sm3 g).kind.trans hk) hIa hIb hA hB hb h0 m hi (by lia) hj (by lia) (fun z hz=>le1 z (by rw [c10];exact hz)) hd hn
    by_cases hmg:mg > 1
    · rw [if_pos hmg];refine wpS_bind (fS (wpS_bind (aT (i:=j - 1) (by lia) ?_)));refine wpS_bind (g9 (c:=c1) ((sm3 _).kind.trans hk) hIa (hIb _ (zB4 _)) (by lia) (by lia) hc1 cut1 ?_);dsimp only;refine go _ (mg - 1) _ (fun _ _ me=>?_) fun _ _ _ _ m1 a1 a2 a3 a4 h3=>?_
      · exact ⟨sm3 _,.inl ⟨_,_,rfl,me⟩⟩
      · exact ⟨⟨sm3 _,.inr ⟨_,_,_,_,_,_,rfl,m1,a1,a2,a3,a4,by lia⟩⟩,⟨sm3 _,_,_,_,_,_,_,rfl,m1,a1,a2,a3,a4,by lia⟩⟩
    · rw [if_neg hmg];refine wpS_bind (fS (wpS_bind (aT (i:=j - 1) (by lia) ?_)));refine wpS_bind (g9 (c:=c1) ((sm3 _).kind.trans hk) hIa (hIb _ (zB4 _)) (by lia) (by lia) hc1 cut1 ?_);dsimp only;refine go _ mg _ (fun _ _ me=>?_) fun _ _ _ _ m1 a1 a2 a3 a4 h3=>?_
      · exact ⟨sm3 _,.inl ⟨_,_,rfl,me⟩⟩
      · exact ⟨⟨sm3 _,.inr ⟨_,_,_,_,_,_,rfl,m1,a1,a2,a3,a4,by lia⟩⟩,⟨sm3 _,_,_,_,_,_,_,rfl,m1,a1,a2,a3,a4,by lia⟩⟩
end
open PyProof.Rows hiding K SortedTo K_bubble K_mirror K_congr K_mirror_equal
variable [KV]
def PM:List (Nat×Nat×Nat)->List (List Keyed)->Nat->Prop
 | [],[],_=>True
 | p::r,l::ls,lo=>p.1=lo/\p.2.1=l.length/\PM r ls (lo+l.length)
 | _,_,_=>False
theorem PM.len:∀ {ps:List (Nat×Nat×Nat)} {ls:List (List Keyed)} {lo:Nat},PM ps ls lo->ps.length=ls.length
 | [],[],_,_=>rfl
 | _::r,_::ls,lo,h=>by rw [zB5,zB5,PM.len h.2.2]
 | [],_::_,_,h=>h.elim
 | _::_,[],_,h=>h.elim
theorem PM.at:∀ {ps:List (Nat×Nat×Nat)} {a:List (List Keyed)} {l:List Keyed} {b:List (List Keyed)} {lo:Nat},PM ps (a++l::b) lo->∃ pw,ps[a.length]? = some (lo+a.flatten.length,l.length,pw)
 | (s,n,p)::r,[],l,b,lo,h=>⟨p,by have h1:=h.1;have h2:=h.2.1;simp only at h1 h2;subst h1 h2;rfl⟩
 | p::r,x::a,l,b,lo,h=>by
   obtain ⟨pw,e⟩:=PM.at (a:=a) h.2.2;refine ⟨pw,?_⟩;rw [zB5,List.getElem?_cons_succ,e,zC7,zA4,zH2]
 | [],[],_,_,_,h=>h.elim
 | [],_::_,_,_,_,h=>h.elim
theorem PM.merge:∀ {ps:List (Nat×Nat×Nat)} {a:List (List Keyed)} {l m:List Keyed} {b:List (List Keyed)} {lo:Nat} {x:List Keyed} {pw:Nat},PM ps (a++l::m::b) lo->x.length=l.length+m.length ->
 PM ((ps.set a.length (lo+a.flatten.length,l.length+m.length,pw)).eraseIdx (a.length+1)) (a++x::b) lo
 | p::q::r,[],l,m,b,lo,x,pw,h,hx=>by
   obtain ⟨h1,h2,h3,h4,h5⟩:=h;show PM ((lo+0,l.length+m.length,pw)::r) (x::b) lo;refine ⟨rfl,hx.symm,?_⟩;rw [hx,← zH2];exact h5
 | p::r,y::a,l,m,b,lo,x,pw,h,hx=>by
   obtain ⟨h1,h2,h3⟩:=h;have ih:=PM.merge (pw:=pw) h3 hx;show PM (p::((r.set a.length _).eraseIdx (a.length+1))) (y::(a++x::b)) lo;refine ⟨h1,h2,?_⟩;rw [zC7,zA4,← zH2];exact ih
 | [],[],_,_,_,_,_,_,h,_=>h.elim
 | [_],[],_,_,_,_,_,_,h,_=>h.2.2.elim
 | [],_::_,_,_,_,_,_,_,h,_=>h.elim
theorem jn {xs:Array Keyed} {pre R post:List Keyed} (e:xs.toList=pre++R++post) {t:Nat} (ht:t<R.length):xs[pre.length+t]? = some R[t]:=by
 rw [← Array.getElem?_toList,e,zC1,List.getElem?_append_right (by lia),zE9,List.getElem?_append_left ht,List.getElem?_eq_getElem ht]
theorem mY {xs:Array Keyed} {R:List Keyed} (hs:R.Pairwise Le) (ky:Keyed) (lf:Bool) (bs:Nat) (hK:∀ t (h:t<R.length),K xs (bs+t)=kv R[t]):∃ c,c<=R.length/\∀ i,i<R.length->Byd lf ky xs bs i=decide (i<c):=by
 have down:∀ i j,i<=j->j<R.length->Byd lf ky xs bs j=true->Byd lf ky xs bs i=true:=fun i j hij hj h=>by
  have hm:kv (R[i]'(by lia))<=kv R[j]:=by
   by_cases e:i=j
   · subst e;exact zE5 _
   · exact zE1.mp hs _ _ _ _ (by lia)
  unfold Byd at h ⊢;rw [hK j hj] at h;rw [hK i (by lia)]
  cases lf with
  | true=>simp only [if_true,decide_eq_true_eq] at h ⊢;lia
  | false=>simp only [zC0,if_false,Bool.not_eq_true',decide_eq_false_iff_not] at h ⊢;lia
 have main:∀ n,n<=R.length->∃ c,c<=n/\∀ i,i<n->Byd lf ky xs bs i=decide (i<c):=by
  intro n;induction n with
  | zero=>exact fun _=>⟨0,zA1 _,fun i hi=>absurd hi (Nat.not_lt_zero _)⟩
  | succ n ih=>
    intro hn
    obtain ⟨c,hc,hd⟩:=ih (by lia)
    by_cases hb:Byd lf ky xs bs n=true
    · refine ⟨n+1,zA1 _,fun i hi=>?_⟩;rw [decide_eq_true hi];exact down i n (by lia) (by lia) hb
    · refine ⟨c,by lia,fun i hi=>?_⟩;by_cases h:i=n
      · subst h;rw [decide_eq_false (by lia)];exact Bool.not_eq_true _▸(by simpa using hb)
      · exact hd i (by lia)
 exact main _ (zA1 _)
theorem fM:∀ (l:List Keyed) (k off:Nat) (xs:Array Keyed),off+k+l.length<=xs.size->((l.zipIdx k).foldl (fun a (x:Keyed×Nat)=>a.setIfInBounds (off+x.2) x.1) xs).toList=xs.toList.take (off+k)++l++xs.toList.drop (off+k+l.length)
 | [],k,off,xs,_=>by simp
 | p::l,k,off,xs,h=>by
   rw [List.zipIdx_cons,zH9];rw [zB5] at h;rw [fM l (k+1) off _ (by rw [Array.size_setIfInBounds];lia)];rw [Array.toList_setIfInBounds];have hlen:off+k<xs.toList.length:=by rw [zB6];lia
   rw [List.drop_set_of_lt (by lia),zB5];have e1:(xs.toList.set (off+k) p).take (off+(k+1))=xs.toList.take (off+k)++[p]:=by
    rw [← zH2,zC3,List.take_set_of_le (by lia),List.getElem?_set_self hlen];rfl
   have e2:off+(k+1)+l.length=off+k+(l.length+1):=by lia
   rw [e1,e2];simp
theorem pw3 {a b c:List Keyed} (ha:a.Pairwise Le) (hb:b.Pairwise Le) (hc:c.Pairwise Le) (hab:∀ x∈a,∀ y∈b,kv x<=kv y) (hac:∀ x∈a,∀ y∈c,kv x<=kv y) (hbc:∀ x∈b,∀ y∈c,kv x<=kv y):(a++b++c).Pairwise Le:=by
 refine zC4.mpr ⟨zC4.mpr ⟨ha,hb,hab⟩,hc,fun x hx y hy=>?_⟩;rcases zB7.mp hx with hx | hx
 · exact hac x hx y hy
 · exact hbc x hx y hy
def mat:Nat->StateT SortSt Sem Bool:=sortPriv% PySem.Builtin.mergeAt
theorem mat_is:mergeAt'=mat:=rfl
theorem mat_eq (i:Nat):mat i=(do
 let z ← get
 let (some (p,n,pw),some (q,m,_)):=((pendingOf z)[i]?,(pendingOf z)[i+1]?) | unsupported "internal:list.sort.pending"
 set (setPending z (((pendingOf z).setIfInBounds i (p,n+m,pw)).eraseIdxIfInBounds (i+1)))
 let some k ← gal false (← elem' (arrOf z) q) (arrOf z) p n 0 | return false
 let (p,n):=(p+k,n - k)
 if n == 0 then return true
 let some m ← gal true (← elem' (arrOf z) (p+n - 1)) (arrOf z) q m (m - 1) | return false
 if m == 0 then return true
 let x:=(arrOf z).extract p q
 let y:=(arrOf z).extract q (q+m)
 let mg ← if n<=m then mlo x y else mhi x y
 modify fun v=>setArr v (mg.toList.zipIdx.foldl (fun a (u,j)=>a.setIfInBounds (p+j) u) (arrOf v))
 return (failedOf (← get)).isNone):=rfl
open PyProof.Rows hiding K SortedTo K_bubble K_mirror K_congr K_mirror_equal
variable [KV]
theorem s_set {prog:Program} {w:World} {A:Around} {E:.(21)} {st v:SortSt} {Q:PUnit->SortSt->Prop} (h:Q ⟨⟩ v):wpS .(18) A E KV.sh (set v:StateT SortSt Sem PUnit) Q st:=by
 unfold wpS;rw [StateT.run_set];exact wpAny_pure ⟨rfl,h⟩
theorem gM:∀ (p z:List Keyed) (c:Nat),(p++z).drop (p.length+c)=z.drop c
 | [],z,c=>by simp
 | x::p,z,c=>by
   rw [zB5,show p.length+1+c=p.length+c+1 by lia,List.cons_append,List.drop_succ_cons];exact gM p z c
theorem mQ {xs:Array Keyed} {pre R post:List Keyed} (e:xs.toList=pre++R++post) (c d:Nat) (hd:d<=R.length) (hc:c<=d):(xs.extract (pre.length+c) (pre.length+d)).toList=(R.drop c).take (d - c):=by
 rw [Array.toList_extract,zG6,e,zC1,gM];have:(R++post).drop c=R.drop c++post:=List.drop_append_of_le_length (by lia);rw [this,show pre.length+d - (pre.length+c)=d - c by lia,List.take_append_of_le_length (by rw [zE8];lia)]
theorem AllI.sub {xs ys:Array Keyed} (h:AllI xs) (hs:∀ p∈ys.toList,p∈xs.toList):AllI ys:=fun p hp=>h p (hs p hp)
section
variable {prog:Program} {w:World} {A:Around} {E:Value->Shared->Prop}
structure Kept (a b:SortSt):Prop where
 kind:kindOf b=kindOf a
 fail:failedOf b=failedOf a
theorem s_mat {st:SortSt} {L1 L2:List (List Keyed)} {R1 R2 rest:List Keyed} {Q:Bool->SortSt->Prop} (hk:kindOf st=KV.kind) (hf:failedOf st=none) (hI:AllI (arrOf st))
 (ha:(arrOf st).toList=(L1++R1::R2::L2).flatten++rest) (pm:PM (pendingOf st).toList (L1++R1::R2::L2) 0) (n1:R1≠[]) (n2:R2≠[]) (s1:R1.Pairwise Le) (s2:R2.Pairwise Le)
 (h:∀ st' R,Kept st st'->R.Perm (R1++R2)->R.Pairwise Le->(arrOf st').toList=(L1++R::L2).flatten++rest->PM (pendingOf st').toList (L1++R::L2) 0->Q true st'):wpS .(18) A E KV.sh (mat L1.length) Q st:=by
 have p1:0<R1.length:=zF1.mpr n1;have p2:0<R2.length:=zF1.mpr n2;obtain ⟨pw,e1⟩:=pm.at
 have e2':=(show PM (pendingOf st).toList ((L1++[R1])++R2::L2) 0 by rw [zC1];exact pm).at
 obtain ⟨pw2,e2⟩:=e2';rw [zA4,zG7,zG5,zC7,List.flatten_nil,zC9,zA4] at e2;rw [Array.getElem?_toList] at e1 e2;have ea:(arrOf st).toList=L1.flatten++R1++(R2++L2.flatten++rest):=by rw [ha];simp
 have eb:(arrOf st).toList=(L1.flatten++R1)++R2++(L2.flatten++rest):=by rw [ha];simp
 have hsz:(arrOf st).size=L1.flatten.length+R1.length+R2.length+L2.flatten.length+rest.length:=by
  rw [← zB6,ha];simp only [zG5,zC7,zA4];lia
 have pmR:∀ R:List Keyed,R.length=R1.length+R2.length->PM (((pendingOf st).setIfInBounds L1.length (0+L1.flatten.length,R1.length+R2.length,pw)).eraseIdxIfInBounds (L1.length+1)).toList (L1++R::L2) 0:=fun R hR=>by
  have:=PM.merge (pw:=pw) pm hR;rw [Array.toList_eraseIdxIfInBounds,Array.toList_setIfInBounds];exact this
 have join:(L1++(R1++R2)::L2).flatten++rest=(arrOf st).toList:=by rw [ha];simp
 rw [mat_eq];refine wpS_bind (wpS_get ?_);rw [e1,e2];dsimp only;refine wpS_bind (s_set ?_);have g2:(arrOf st)[0+(L1.flatten.length+R1.length)]? = some R2[0]:=by
  have:=jn eb p2;rw [zA4,Nat.add_zero] at this;rw [zH1];exact this
 refine wpS_bind (fT g2 ?_);have hK1:∀ t (ht:t<R1.length),K (arrOf st) (0+L1.flatten.length+t)=kv R1[t]:=fun t ht=>by
  rw [zH1];exact rV (jn ea ht)
 have hK2:∀ t (ht:t<R2.length),K (arrOf st) (0+(L1.flatten.length+R1.length)+t)=kv R2[t]:=fun t ht=>by
  have:=rV (jn eb ht);rw [zA4] at this;rw [zH1];exact this
 have hI2:IsI R2[0]:=hI _ (by rw [eb];exact zH4 _ (zB2 _ (zB4 _)));obtain ⟨c,hc,cut⟩:=mY s1 R2[0] false (0+L1.flatten.length) hK1;have lo:∀ t (ht:t<R1.length),t<c->kv R1[t]<=kv R2[0]:=fun t ht htc=>by
  have:=cut t ht;unfold Byd at this;rw [hK1 t ht,decide_eq_true htc] at this;simp only [zC0,if_false,Bool.not_eq_true',decide_eq_false_iff_not] at this;lia
 have up:∀ t (ht:t<R1.length),c<=t->kv R2[0]<kv R1[t]:=fun t ht htc=>by
  have:=cut t ht;unfold Byd at this;rw [hK1 t ht,decide_eq_false (show ¬ t<c by lia)] at this;simpa using this
 refine wpS_bind (g9 (st:=setPending st _) (c:=c) hk hI hI2 (by lia) p1 hc cut ?_);dsimp only;have b0:∀ y∈R2,kv R2[0]<=kv y:=fun y hy=>fg s2 p2 y (by simpa using hy);by_cases c1:R1.length - c=0
 · rw [if_pos (by simpa using c1)];refine wpS_pure (h _ (R1++R2) ⟨rfl,rfl⟩ (List.Perm.refl _) ?_ join.symm (pmR _ (by rw [zA4])));refine zC4.mpr ⟨s1,s2,fun x hx y hy=>?_⟩;obtain ⟨t,ht,rfl⟩:=zD5.mp hx;exact zD4 (lo t ht (by lia)) (b0 y hy)
 rw [if_neg (by simpa using c1)];have gl:(arrOf st)[0+L1.flatten.length+c+(R1.length - c) - 1]? = some (R1[R1.length - 1]'(by lia)):=by
  have:=jn ea (t:=R1.length - 1) (by lia);rw [show 0+L1.flatten.length+c+(R1.length - c) - 1=L1.flatten.length+(R1.length - 1) by lia];exact this
 refine wpS_bind (fT gl ?_);have hI1:IsI (R1[R1.length - 1]'(by lia)):=hI _ (by rw [ea];exact zH4 _ (zB2 _ (zB4 _)));obtain ⟨d,hd,cut2⟩:=mY s2 (R1[R1.length - 1]'(by lia)) true (0+(L1.flatten.length+R1.length)) hK2;have lo2:∀ t (ht:t<R2.length),t<d->kv R2[t]<kv (R1[R1.length - 1]'(by lia)):=fun t ht htc=>by
  have:=cut2 t ht;unfold Byd at this;rw [hK2 t ht,decide_eq_true htc] at this;simpa using this
 have up2:∀ t (ht:t<R2.length),d<=t->kv (R1[R1.length - 1]'(by lia))<=kv R2[t]:=fun t ht htc=>by
  have:=cut2 t ht;unfold Byd at this;rw [hK2 t ht,decide_eq_false (show ¬ t<d by lia)] at this;simpa using this
 refine wpS_bind (g9 (st:=setPending st _) (c:=d) hk hI hI1 (by lia) (by lia) hd cut2 ?_);dsimp only;have lastA:∀ x∈R1,kv x<=kv (R1[R1.length - 1]'(by lia)):=fun x hx=>by
  refine eO s1 (n:=R1.length - 1) (by lia) x ?_;rw [zA6 (by lia)];exact hx
 by_cases c2:d=0
 · rw [if_pos (by simpa using c2)];refine wpS_pure (h _ (R1++R2) ⟨rfl,rfl⟩ (List.Perm.refl _) ?_ join.symm (pmR _ (by rw [zA4])));refine zC4.mpr ⟨s1,s2,fun x hx y hy=>?_⟩;exact zD4 (lastA x hx) (zD4 (up2 0 p2 (by lia)) (b0 y hy))
 rw [if_neg (by simpa using c2)];have ex:((arrOf st).extract (0+L1.flatten.length+c) (0+(L1.flatten.length+R1.length))).toList=R1.drop c:=by
  have:=mQ ea c R1.length (zA1 _) hc;rw [zH1,zH1,this,zA6 (by rw [zE8];exact zA1 _)]
 have ey:((arrOf st).extract (0+(L1.flatten.length+R1.length)) (0+(L1.flatten.length+R1.length)+d)).toList=R2.take d:=by
  have:=mQ eb 0 d hd (zB0 _);rw [zA4,Nat.add_zero,List.drop_zero,Nat.sub_zero] at this;rw [zH1];exact this
 generalize hx:(arrOf st).extract (0+L1.flatten.length+c) (0+(L1.flatten.length+R1.length))=xx at ex ⊢;generalize hy:(arrOf st).extract (0+(L1.flatten.length+R1.length)) (0+(L1.flatten.length+R1.length)+d)=yy at ey ⊢;have Ix:AllI xx:=hI.sub fun p hp=>by rw [ex] at hp;rw [ea];exact zH4 _ (zB2 _ (List.mem_of_mem_drop hp))
 have Iy:AllI yy:=hI.sub fun p hp=>by rw [ey] at hp;rw [eb];exact zH4 _ (zB2 _ (List.mem_of_mem_take hp))
 have Sx:xx.toList.Pairwise Le:=by rw [ex];exact s1.sublist (zH6 _ _)
 have Sy:yy.toList.Pairwise Le:=by rw [ey];exact s2.sublist (zH5 _ _)
 have lx:xx.toList.length=R1.length - c:=by rw [ex,zE8]
 have ly:yy.toList.length=d:=by rw [ey,zB3];lia
 have y0:yy.toList[0]'(by lia)=R2[0]:=by simp only [ey,zF3]
 have xl:xx.toList[xx.toList.length - 1]'(by lia)=R1[R1.length - 1]'(by lia):=by
  simp only [ex,List.getElem_drop,zE8];congr 1;lia
 have h0:∀ z∈xx.toList,kv (yy.toList[0]'(by lia))<=kv z:=fun z hz=>by
  rw [y0];rw [ex] at hz;obtain ⟨u,hu,rfl⟩:=cG hz;exact zD7 (up _ hu (by lia))
 have hl:∀ z∈yy.toList,kv z<=kv (xx.toList[xx.toList.length - 1]'(by lia)):=fun z hz=>by
  rw [xl];rw [ey] at hz;obtain ⟨u,hu,rfl⟩:=zD5.mp hz;rw [zB3] at hu;rw [zF3];exact zD7 (lo2 u (by lia) (by lia))
 have fin:∀ (o:Array Keyed) (st2:SortSt),SameSt (setPending st (((pendingOf st).setIfInBounds L1.length (0+L1.flatten.length,R1.length+R2.length,pw)).eraseIdxIfInBounds (L1.length+1))) st2->Mer xx.toList yy.toList o.toList ->
  wpS .(18) A E KV.sh (do modify fun v=>setArr v (o.toList.zipIdx.foldl (fun a (u,j)=>a.setIfInBounds (0+L1.flatten.length+c+j) u) (arrOf v));return (failedOf (← get)).isNone) Q st2:=by
  intro o st2 sm me;refine wpS_bind (wpS_modify (wpS_bind (wpS_get ?_)));have hf2:failedOf st2=none:=sm.fail.trans hf;show wpS _ _ _ _ (pure (failedOf st2).isNone) Q _;rw [hf2];have harr:arrOf st2=arrOf st:=sm.arr;have lo':o.toList.length=R1.length - c+d:=by rw [me.perm.length_eq,zA4,lx,ly]
  have hwb:=fM o.toList 0 (0+L1.flatten.length+c) (arrOf st) (by rw [lo'];lia);refine wpS_pure (h _ (R1.take c++o.toList++R2.drop d) ⟨sm.kind,sm.fail⟩ ?_ ?_ ?_ ?_)
  · have e:=me.perm;rw [ex,ey] at e;have e3:(R1.take c++o.toList++R2.drop d).Perm (R1.take c++(R1.drop c++R2.take d)++R2.drop d):=List.Perm.append_right _ (zF4 _ e);have e4:R1.take c++(R1.drop c++R2.take d)++R2.drop d=R1++R2:=by
     rw [← zC1,zD1,zC1,zD1]
    rw [e4] at e3;exact e3
  · have om:∀ z∈o.toList,z∈R1.drop c\/z∈R2.take d:=fun z hz=>by
     have:=me.perm.mem_iff.mp hz;rw [ex,ey] at this;exact zB7.mp this
    have ta:∀ x∈R1.take c,kv x<=kv R2[0]:=fun x hx=>by
     obtain ⟨u,hu,rfl⟩:=zD5.mp hx;rw [zB3] at hu;rw [zF3];exact lo u (by lia) (by lia)
    have td:∀ y∈R2.drop d,kv (R1[R1.length - 1]'(by lia))<=kv y:=fun y hy=>by
     obtain ⟨u,hu,rfl⟩:=cG hy;exact up2 _ hu (by lia)
    refine pw3 (s1.sublist (zH5 _ _)) me.srt (s2.sublist (zH6 _ _)) (fun x hx y hy=>?_) (fun x hx y hy=>?_) (fun x hx y hy=>?_)
    · rcases om y hy with hy | hy
      · obtain ⟨u,hu,rfl⟩:=cG hy;exact zD4 (ta x hx) (zD7 (up _ hu (by lia)))
      · exact zD4 (ta x hx) (b0 y (List.mem_of_mem_take hy))
    · exact zD4 (ta x hx) (b0 y (List.mem_of_mem_drop hy))
    · rcases om x hx with hx | hx
      · exact zD4 (lastA x (List.mem_of_mem_drop hx)) (td y hy)
      · obtain ⟨u,hu,rfl⟩:=zD5.mp hx;rw [zB3] at hu;rw [zF3];exact zD4 (zD7 (lo2 u (by lia) (by lia))) (td y hy)
  · show (o.toList.zipIdx.foldl (fun a (x:Keyed×Nat)=>a.setIfInBounds (0+L1.flatten.length+c+x.2) x.1) (arrOf st2)).toList=_;rw [harr];refine hwb.trans ?_;rw [Nat.add_zero,lo'];have t1:(arrOf st).toList.take (0+L1.flatten.length+c)=L1.flatten++R1.take c:=by
     rw [ea,zC1,zH1,List.take_append,zA6 (by lia),zE9,List.take_append_of_le_length (by lia)]
    have t2:(arrOf st).toList.drop (0+L1.flatten.length+c+(R1.length - c+d))=R2.drop d++(L2.flatten++rest):=by
     rw [eb,zC1,show 0+L1.flatten.length+c+(R1.length - c+d)=(L1.flatten++R1).length+d by rw [zA4];lia,gM,List.drop_append_of_le_length (by lia)]
    rw [t1,t2];simp only [zG5,zC7,zC1]
  · show PM (pendingOf st2).toList _ _;rw [sm.pend];refine pmR _ ?_;rw [zA4,zA4,zB3,zE8,lo'];lia
 by_cases c3:R1.length - c<=d
 · rw [if_pos c3];exact wpS_bind (s_mlo hk Ix Iy Sx Sy (by lia) (by lia) h0 hl fun o st2 sm me=>fin o st2 sm me)
 · rw [if_neg c3];exact wpS_bind (s_mhi hk Ix Iy Sx Sy (by lia) (by lia) h0 hl fun o st2 sm me=>fin o st2 sm me)
end
open PyProof.Rows hiding K SortedTo K_bubble K_mirror K_congr K_mirror_equal
variable [KV]
structure SX (a₀:Array Keyed) (lo:Nat) (st₀ st:SortSt):Prop where
 perm:(arrOf st).Perm a₀
 kind:kindOf st=KV.kind
 fail:failedOf st=none
 pend:pendingOf st=pendingOf st₀
 pre:∀ k,k<lo->(arrOf st)[k]? = a₀[k]?
theorem SX.size {a₀:Array Keyed} {lo:Nat} {st₀ st:SortSt} (h:SX a₀ lo st₀ st):(arrOf st).size=a₀.size:=h.perm.size_eq
theorem SX.setA {a₀:Array Keyed} {lo:Nat} {st₀ st:SortSt} (h:SX a₀ lo st₀ st) {xs:Array Keyed} (hp:xs.Perm (arrOf st)) (he:∀ k,k<lo->xs[k]? = (arrOf st)[k]?):SX a₀ lo st₀ (setArr st xs):=
 ⟨hp.trans h.perm,h.kind,h.fail,h.pend,fun k hk=>(he k hk).trans (h.pre k hk)⟩
def km (xs:Array Keyed) (lo n:Nat):Prop:=∀ i j,i<=j->j<n->K xs (lo+i)<=K xs (lo+j)
def vi (xs:Array Keyed) (lo n:Nat):Prop:=∀ i j,i<=j->j<n->K xs (lo+j)<=K xs (lo+i)
section
variable {prog:Program} {w:World} {A:Around} {E:Value->Shared->Prop} {a₀:Array Keyed} {lo:Nat} {st₀:SortSt}
theorem kO {st:SortSt} {i j:Nat} {Q:Option Bool->SortSt->Prop} (hX:SX a₀ lo st₀ st) (h0:AllI a₀) (hi:i<a₀.size) (hj:j<a₀.size) (h:Q (some (decide (K (arrOf st) i<K (arrOf st) j))) st):wpS .(18) A E KV.sh (ltAt' i j) Q st:=by
 have get:∀ k,k<a₀.size->∃ p,(arrOf st)[k]? = some p/\IsI p:=fun k hk=>by
  have hk':k<(arrOf st).size:=by rw [hX.size];exact hk
  have hm:(arrOf st)[k]∈a₀.toList:=(zG3.mp hX.perm).mem_iff.mp (by simp);exact ⟨_,getElem?_pos (arrOf st) k hk',h0 _ hm⟩
 obtain ⟨p,e1,g1⟩:=get i hi;obtain ⟨q,e2,g2⟩:=get j hj;rw [rV e1,rV e2] at h;rw [ltAt'_eq];exact wpS_bind (wpS_get (wpS_bind (fT e1 (wpS_bind (fT e2 (s_lt hX.kind g1 g2 h))))))
theorem c9 {st:SortSt} {i j:Nat} (hX:SX a₀ lo st₀ st) (hi:lo<=i) (hj:j<=a₀.size):SX a₀ lo st₀ (setArr st (mirror (arrOf st) i j ((j - i) / 2))):=
 hX.setA (mirror_perm _ _ _ _) fun k hk=>by
  rw [getElem?_mirror_all (by rw [hX.size];exact hj),if_neg (by lia)]
theorem s_bin {st:SortSt} {n ok:Nat} {Q:Bool->SortSt->Prop} (h0:AllI a₀) (hn:lo+n<=a₀.size) (hok:ok<=n) (hX:SX a₀ lo st₀ st) (hs:km (arrOf st) lo ok)
 (h:∀ st',SX a₀ lo st₀ st'->km (arrOf st') lo n->Q true st'):wpS .(18) A E KV.sh (binarySort' lo n ok) Q st:=by
 rw [binarySort'_eq];refine wpS_bind (wpS_mono (wpS_forRange (I:=fun k c z=>c=(none,())/\SX a₀ lo st₀ z/\km (arrOf z) lo (min k n)) (Q:=fun c z=>c=(none,())/\SX a₀ lo st₀ z/\km (arrOf z) lo n) ?st1 ?fi1 ?in1) ?po1)
 case po1=>rintro c z ⟨rfl,zX,zs⟩;exact wpS_pure (h z zX zs)
 case in1=>
  refine ⟨rfl,hX,fun i j hij hj=>?_⟩
  by_cases h1:ok=0
  · have:i=j:=by lia
    subst this;exact zE5 _
  · exact hs i j hij (by lia)
 case fi1=>
  rintro c z ⟨hc,zX,zs⟩
  refine ⟨hc,zX,?_⟩
  rwa [show min (max (max ok 1) n) n=n by lia] at zs
 case st1=>
  rintro k c z hak hkn ⟨rfl,zX,zs⟩
  rw [show min k n=k by lia] at zs
  refine wpS_bind (wpS_mono (wpS_forRange (I:=fun x c v=>z=v/\∃ l r,c=(none,l,r)/\l<=r/\r<=k/\r - l<=k - x/\(∀ i,i<l->K (arrOf z) (lo+i)<=K (arrOf z) (lo+k))/\(∀ i,r<=i->i<k->K (arrOf z) (lo+k)<K (arrOf z) (lo+i)))
   (Q:=fun c v=>z=v/\∃ l r,c=(none,l,r)/\l<=k/\(∀ i,i<l->K (arrOf z) (lo+i)<=K (arrOf z) (lo+k))/\(∀ i,l<=i->i<k->K (arrOf z) (lo+k)<K (arrOf z) (lo+i))) ?ist ?ifi ⟨rfl,0,k,rfl,by lia,by lia,by lia,fun i hi=>by lia,fun i g1 g2=>by lia⟩) ?ipo)
  case ifi=>
   rintro c v ⟨rfl,l,r,rfl,hlr,hrk,hm,hlo,hhi⟩
   have:l=r:=by lia
   subst this
   exact ⟨rfl,l,l,rfl,hrk,hlo,hhi⟩
  case ist=>
   rintro x c v _ hxk ⟨rfl,l,r,rfl,hlr,hrk,hm,hlo,hhi⟩
   dsimp only
   by_cases hge:l>=r
   · rw [if_pos hge];have:l=r:=by lia
     subst this;exact wpS_pure ⟨rfl,l,l,rfl,hrk,hlo,hhi⟩
   · rw [if_neg hge];refine wpS_bind (kO zX h0 (by lia) (by lia) ?_);by_cases hz:K (arrOf z) (lo+k)<K (arrOf z) (lo+(l+r) / 2)
     · simp only [hz,decide_true,if_true];exact wpS_pure ⟨rfl,l,(l+r) / 2,rfl,by lia,by lia,by lia,hlo,fun i g1 g2=>Int.lt_of_lt_of_le hz (zs _ _ g1 g2)⟩
     · simp only [hz,decide_false,zC0,if_false];exact wpS_pure ⟨rfl,(l+r) / 2+1,r,rfl,by lia,by lia,by lia,fun i g1=>zD4 (zs i ((l+r) / 2) (by lia) (by lia)) (Int.not_lt.mp hz),hhi⟩
  case ipo=>
   rintro c v ⟨rfl,l,r,rfl,hlk,hlo,hhi⟩
   show wpS _ _ _ _ (do moveDown' (lo+k) (lo+l);pure (ForInStep.yield (none,()))) _ _
   rw [moveDown'_eq]
   have hks:lo+k<(arrOf z).size:=by rw [zX.size];lia
   have hd:lo+k - (lo+k - (lo+l))=lo+l:=by lia
   refine wpS_bind (wpS_modify (wpS_pure ⟨rfl,zX.setA (bubble_perm _ _ _) fun q hq=>?_,?_⟩))
   · rw [getElem?_bubble hks _ (by lia),hd,if_neg (by lia),if_neg (by lia)]
   · rw [show min (k+1) n=k+1 by lia];intro i j hij hj;show K (bubble (arrOf z) (lo+k) (lo+k - (lo+l))) (lo+i)<=K (bubble (arrOf z) (lo+k) (lo+k - (lo+l))) (lo+j);rw [K_bubble hks (by lia),K_bubble hks (by lia),hd];have back:∀ q,0<q->lo+q - 1=lo+(q - 1):=fun q hq=>by lia
     repeat' split
     all_goals first
      | (exfalso;lia)
      | exact zE5 _
      | exact hlo _ (by lia)
      | (rw [back j (by lia)];exact zD7 (hhi _ (by lia) (by lia)))
      | exact zD7 (hhi _ (by lia) (by lia))
      | (rw [back i (by lia),back j (by lia)];exact zs _ _ (by lia) (by lia))
      | (rw [back i (by lia)];exact zs _ _ (by lia) (by lia))
      | (rw [back j (by lia)];exact zs _ _ (by lia) (by lia))
      | exact zs _ _ (by lia) (by lia)
end
open PyProof.Rows hiding K SortedTo K_bubble K_mirror K_congr K_mirror_equal
variable [KV]
def upL (lo a m:Nat):StateT SortSt Sem (Option (Option Nat)×Nat):=
 forIn [a:m] ((none,a):Option (Option Nat)×Nat) fun _ c=>do
  let t ← ltAt' (lo+c.snd) (lo+c.snd - 1)
  match t with
  | some b=>if b=true then pure (.done (none,c.snd)) else pure (.yield (none,c.snd+1))
  | _=>pure (.done (some none,c.snd))
def dnL (lo a m:Nat):StateT SortSt Sem (Option (Option Nat)×Nat×Nat):=
 forIn [a:m] ((none,a,0):Option (Option Nat)×Nat×Nat) fun _ c=>do
  let t ← ltAt' (lo+c.snd.fst) (lo+c.snd.fst - 1)
  match t with
  | some b=>
    if b=true then
     if c.snd.snd > 0 then do
      reverseSlice' (lo+c.snd.fst - (c.snd.snd+1)) (lo+c.snd.fst)
      pure (.yield (none,c.snd.fst+1,0))
     else pure (.yield (none,c.snd.fst+1,0))
    else do
     let u ← ltAt' (lo+c.snd.fst - 1) (lo+c.snd.fst)
     match u with
     | some d=>if d=true then pure (.done (none,c.snd.fst,c.snd.snd)) else pure (.yield (none,c.snd.fst+1,c.snd.snd+1))
     | _=>pure (.done (some none,c.snd.fst,c.snd.snd))
  | _=>pure (.done (some none,c.snd.fst,c.snd.snd))
def enL (lo a m:Nat):StateT SortSt Sem (Option Nat):=do
 reverseSlice' lo (lo+a)
 let c ← upL lo a m
 match c.fst with
 | some r=>pure r
 | none=>pure (some c.snd)
def faL (lo a m:Nat):StateT SortSt Sem (Option Nat):=do
 liftM (rule "list.sort.descending-run")
 let c ← dnL lo (a+1) m
 match c.fst with
 | some r=>pure r
 | none=>
   if c.snd.snd > 0 then do
    reverseSlice' (lo+c.snd.fst - (c.snd.snd+1)) (lo+c.snd.fst)
    enL lo c.snd.fst m
   else enL lo c.snd.fst m
theorem run_eq (lo m:Nat):countRun' lo m=(do
 let c ← upL lo 1 m
 match c.fst with
 | some r=>pure r
 | none=>
   if (c.snd == m)=true then pure (some c.snd)
   else if c.snd > 1 then do
    let t ← ltAt' lo (lo+c.snd - 1)
    match t with
    | some b=>if b=true then pure (some c.snd) else do
     reverseSlice' lo (lo+c.snd)
     faL lo c.snd m
    | _=>pure none
   else faL lo c.snd m):=by
 rw [countRun'_eq];dsimp only;unfold faL enL dnL upL;congr 1;funext c;obtain ⟨r,k⟩:=c
 cases r with
 | some r=>rfl
 | none=>
   dsimp only
   split
   · rfl
   · split
     · congr 1;funext t
       cases t with
       | none=>rfl
       | some b=>
         dsimp only
         split
         · rfl
         · congr 1;funext _y;congr 1;funext _x;congr 1;congr 1;funext y;obtain ⟨r,k,q⟩:=y
           cases r with
           | some r=>rfl
           | none=>
             dsimp only
             split
             · congr 1;funext _z;congr 1;funext _x;congr 1;funext y;obtain ⟨r,k⟩:=y
               cases r <;> rfl
             · congr 1;funext _x;congr 1;funext y;obtain ⟨r,k⟩:=y
               cases r <;> rfl
     · skip;congr 1;funext _x;congr 1;congr 1;funext y;obtain ⟨r,k,q⟩:=y
       cases r with
       | some r=>rfl
       | none=>
         dsimp only
         split
         · congr 1;funext _z;congr 1;funext _x;congr 1;funext y;obtain ⟨r,k⟩:=y
           cases r <;> rfl
         · congr 1;funext _x;congr 1;funext y;obtain ⟨r,k⟩:=y
           cases r <;> rfl
section
variable {prog:Program} {w:World} {A:Around} {E:Value->Shared->Prop} {a₀:Array Keyed} {lo:Nat} {st₀:SortSt}
theorem oG {st:SortSt} {i j:Nat} {Q:Unit->SortSt->Prop} (h:Q () (setArr st (mirror (arrOf st) i j ((j - i) / 2)))):wpS .(18) A E KV.sh (reverseSlice' i j) Q st:=by
 rw [reverseSlice'_eq];exact wpS_modify h
theorem ki {lo x:Nat} (h:1<=x):lo+x - 1=lo+(x - 1):=by lia
theorem s_up {st:SortSt} {a m:Nat} {Q:Option (Option Nat)×Nat->SortSt->Prop} (h0:AllI a₀) (hm:lo+m<=a₀.size) (ha:1<=a) (ham:a<=m) (hX:SX a₀ lo st₀ st)
 (hs:km (arrOf st) lo a)
 (h:∀ n,a<=n->n<=m->km (arrOf st) lo n->(n=m\/K (arrOf st) (lo+n)<K (arrOf st) (lo+(n - 1)))->Q (none,n) st):wpS .(18) A E KV.sh (upL lo a m) Q st:=by
 unfold upL;refine wpS_forRange (I:=fun x c v=>st=v/\c=(none,x)/\km (arrOf st) lo x) ?s1 ?f1 ⟨rfl,rfl,hs⟩
 case f1=>
  rintro c v ⟨rfl,rfl,g⟩
  rw [show max a m=m by lia] at g ⊢
  exact h m ham (zA1 _) g (.inl rfl)
 case s1=>
  rintro x c v hax hxm ⟨rfl,rfl,g⟩
  dsimp only
  rw [ki (by lia)]
  refine wpS_bind (kO hX h0 (by lia) (by lia) ?_)
  by_cases hl:K (arrOf st) (lo+x)<K (arrOf st) (lo+(x - 1))
  · simp only [hl,decide_true,if_true];exact wpS_pure (h x hax (by lia) g (.inr hl))
  · simp only [hl,decide_false,zC0,if_false];refine wpS_pure ⟨rfl,rfl,fun i j hij hj=>?_⟩;rcases Nat.lt_or_ge j x with q | q
    · exact g i j hij q
    · obtain rfl:j=x:=by lia
      rcases Nat.eq_or_lt_of_le hij with rfl | q2
      · exact zE5 _
      · exact zD4 (g i (j - 1) (by lia) (by lia)) (Int.not_lt.mp hl)
theorem s_en {st:SortSt} {a m:Nat} {Q:Option Nat->SortSt->Prop} (h0:AllI a₀) (hm:lo+m<=a₀.size) (ha:1<=a) (ham:a<=m) (hX:SX a₀ lo st₀ st)
 (hs:vi (arrOf st) lo a) (h:∀ n v,SX a₀ lo st₀ v->1<=n->n<=m->km (arrOf v) lo n->Q (some n) v):wpS .(18) A E KV.sh (enL lo a m) Q st:=by
 unfold enL;have hz:lo+a<=(arrOf st).size:=by rw [hX.size];lia
 refine wpS_bind (oG ?_);have hX':=c9 (i:=lo) (j:=lo+a) hX (zA1 _) (by lia);refine wpS_bind (s_up h0 hm ha ham hX' ?_ fun n g1 g2 g3 _=>wpS_pure (h n _ hX' (by lia) g2 g3));intro i j hij hj;show K (mirror (arrOf st) lo (lo+a) ((lo+a - lo) / 2)) _<=K (mirror (arrOf st) lo (lo+a) ((lo+a - lo) / 2)) _;rw [K_mirror hz,K_mirror hz,if_pos (by lia),if_pos (by lia),show lo+(lo+a) - 1 - (lo+i)=lo+(a - 1 - i) by lia,show lo+(lo+a) - 1 - (lo+j)=lo+(a - 1 - j) by lia];exact hs _ _ (by lia) (by lia)
def ve (xs:Array Keyed) (lo n q:Nat):Prop:=∀ i,lo+n - (q+1)<=i->i<lo+n->K xs i=K xs (lo+n - 1)
theorem nN {xs:Array Keyed} {n:Nat} (h:1<=n):ve xs lo n 0:=fun i a b=>by
 obtain rfl:i=lo+n - 1:=by lia
 rfl
theorem s_dn {st:SortSt} {a m:Nat} {Q:Option (Option Nat)×Nat×Nat->SortSt->Prop} (h0:AllI a₀) (hm:lo+m<=a₀.size) (ha:1<=a) (ham:a<=m) (hX:SX a₀ lo st₀ st)
 (hs:vi (arrOf st) lo a)
 (h:∀ n q v,SX a₀ lo st₀ v->a<=n->n<=m->vi (arrOf v) lo n->q+1<=n->ve (arrOf v) lo n q->Q (none,n,q) v):wpS .(18) A E KV.sh (dnL lo a m) Q st:=by
 unfold dnL;refine wpS_forRange (I:=fun x c v=>∃ q,c=(none,x,q)/\SX a₀ lo st₀ v/\vi (arrOf v) lo x/\q+1<=x/\ve (arrOf v) lo x q) ?s1 ?f1 ⟨0,rfl,hX,hs,by lia,nN ha⟩
 case f1=>
  rintro c v ⟨q,rfl,vX,vs,vq,va⟩
  rw [show max a m=m by lia] at vs vq va ⊢
  exact h m q v vX ham (zA1 _) vs vq va
 case s1=>
  rintro x c v hax hxm ⟨q,rfl,vX,vs,vq,va⟩
  dsimp only
  have hz:lo+x<=(arrOf v).size:=by rw [vX.size];lia
  have grow:∀ xs:Array Keyed,(∀ k,K xs k=K (arrOf v) k)->K (arrOf v) (lo+x)<=K (arrOf v) (lo+(x - 1))->vi xs lo (x+1):=by
   intro xs hk hl i j hij hj;rw [hk,hk];rcases Nat.lt_or_ge j x with g | g
   · exact vs i j hij g
   · obtain rfl:j=x:=by lia
     rcases Nat.eq_or_lt_of_le hij with rfl | g2
     · exact zE5 _
     · exact zD4 hl (vs i (j - 1) (by lia) (by lia))
  rw [ki (by lia)]
  refine wpS_bind (kO vX h0 (by lia) (by lia) ?_)
  by_cases hl:K (arrOf v) (lo+x)<K (arrOf v) (lo+(x - 1))
  · simp only [hl,decide_true,if_true];by_cases hq:q > 0
    · rw [if_pos hq];exact wpS_bind (oG (wpS_pure ⟨0,rfl,c9 vX (by lia) (by lia),grow _ (K_mirror_equal hz va) (zD7 hl),by lia,nN (by lia)⟩))
    · rw [if_neg hq];exact wpS_pure ⟨0,rfl,vX,grow _ (fun _=>rfl) (zD7 hl),by lia,nN (by lia)⟩
  · simp only [hl,decide_false,zC0,if_false];refine wpS_bind (kO vX h0 (by lia) (by lia) ?_);by_cases hg:K (arrOf v) (lo+(x - 1))<K (arrOf v) (lo+x)
    · simp only [hg,decide_true,if_true];exact wpS_pure (h x q v vX hax (by lia) vs vq va)
    · simp only [hg,decide_false,zC0,if_false];have he:K (arrOf v) (lo+x)=K (arrOf v) (lo+(x - 1)):=by lia
      refine wpS_pure ⟨q+1,rfl,vX,grow _ (fun _=>rfl) (by lia),by lia,fun i g1 g2=>?_⟩;rw [show lo+(x+1) - 1=lo+x by lia];by_cases hi:i=lo+x
      · rw [hi]
      · rw [he,← ki (by lia)];exact va i (by lia) (by lia)
theorem s_fa {st:SortSt} {a m:Nat} {Q:Option Nat->SortSt->Prop} (h0:AllI a₀) (hm:lo+m<=a₀.size) (ham:a+1<=m) (hX:SX a₀ lo st₀ st)
 (hs:vi (arrOf st) lo (a+1)) (h:∀ n v,SX a₀ lo st₀ v->1<=n->n<=m->km (arrOf v) lo n->Q (some n) v):wpS .(18) A E KV.sh (faL lo a m) Q st:=by
 unfold faL;refine wpS_bind (wpS_lift (wpAny_rule ⟨rfl,?_⟩));refine wpS_bind (s_dn h0 hm (by lia) ham hX hs fun n q v vX g1 g2 vs vq va=>?_);dsimp only;have hz:lo+n<=(arrOf v).size:=by rw [vX.size];lia
 by_cases hq:q > 0
 · rw [if_pos hq];refine wpS_bind (oG (s_en h0 hm (by lia) g2 (c9 vX (by lia) (by lia)) ?_ h));intro i j hij hj;show K (mirror (arrOf v) _ _ _) _<=K (mirror (arrOf v) _ _ _) _;rw [K_mirror_equal hz va,K_mirror_equal hz va];exact vs i j hij hj
 · rw [if_neg hq];exact s_en h0 hm (by lia) g2 vX vs h
theorem s_run {st:SortSt} {m:Nat} {Q:Option Nat->SortSt->Prop} (h0:AllI a₀) (hm:lo+m<=a₀.size) (h1:1<=m) (hX:SX a₀ lo st₀ st)
 (h:∀ n v,SX a₀ lo st₀ v->1<=n->n<=m->km (arrOf v) lo n->Q (some n) v):wpS .(18) A E KV.sh (countRun' lo m) Q st:=by
 rw [run_eq];have one:km (arrOf st) lo 1:=fun i j hij hj=>by
  obtain rfl:i=j:=by lia
  exact zE5 _
 refine wpS_bind (s_up h0 hm (zA1 1) h1 hX one fun n g1 g2 gs go=>?_);dsimp only;by_cases hn:n=m
 · rw [if_pos (by simpa using hn)];exact wpS_pure (h n st hX g1 g2 gs)
 · rw [if_neg (by simpa using hn)];have hl:=go.resolve_left hn;by_cases hg:n > 1
   · rw [if_pos hg];rw [ki (by lia)];refine wpS_bind (kO (i:=lo) hX h0 (by lia) (by lia) ?_);by_cases hr:K (arrOf st) lo<K (arrOf st) (lo+(n - 1))
     · simp only [hr,decide_true,if_true];exact wpS_pure (h n st hX g1 g2 gs)
     · simp only [hr,decide_false,zC0,if_false];have hz:lo+n<=(arrOf st).size:=by rw [hX.size];lia
       have al:∀ k,lo<=k->k<lo+n->K (arrOf st) k=K (arrOf st) (lo+n - 1):=by
        intro k k1 k2;obtain ⟨d,rfl⟩:=Nat.exists_eq_add_of_le k1;have e1:=gs 0 d (by lia) (by lia);have e2:=gs d (n - 1) (by lia) (by lia);rw [ki (by lia)];rw [Nat.add_zero] at e1;lia
       refine wpS_bind (oG (s_fa h0 hm (by lia) (c9 hX (zA1 _) (by lia)) ?_ h));intro i j hij hj;show K (mirror (arrOf st) _ _ _) _<=K (mirror (arrOf st) _ _ _) _;rw [K_mirror_equal hz al,K_mirror_equal hz al];rcases Nat.lt_or_ge j n with q | q
       · rw [al (lo+i) (by lia) (by lia),al (lo+j) (by lia) (by lia)];exact zE5 _
       · obtain rfl:j=n:=by lia
         rcases Nat.eq_or_lt_of_le hij with rfl | q2
         · exact zE5 _
         · rw [al (lo+i) (by lia) (by lia),ki (by lia)];exact zD7 hl
   · rw [if_neg hg];obtain rfl:n=1:=by lia
     refine s_fa h0 hm (by lia) hX ?_ h;intro i j hij hj;rcases Nat.eq_or_lt_of_le hij with rfl | q2
     · exact zE5 _
     · obtain rfl:i=0:=by lia
       obtain rfl:j=1:=by lia
       exact zD7 hl
end
open PyProof.Rows hiding K SortedTo K_bubble K_mirror K_congr K_mirror_equal
variable [KV]
structure RS (a₀:Array Keyed) (st:SortSt) (Ls:List (List Keyed)) (rest:List Keyed):Prop where
 kind:kindOf st=KV.kind
 fail:failedOf st=none
 perm:(arrOf st).Perm a₀
 arr:(arrOf st).toList=Ls.flatten++rest
 pm:PM (pendingOf st).toList Ls 0
 runs:∀ R∈Ls,R≠[]/\R.Pairwise Le
theorem AllI.perm {xs ys:Array Keyed} (h:AllI xs) (p:ys.Perm xs):AllI ys:=fun q hq=>h q ((zG3.mp p).mem_iff.mp hq)
theorem PM.alter:∀ {ps:List (Nat×Nat×Nat)} {ls:List (List Keyed)} {lo:Nat} (k:Nat) {f:Nat×Nat×Nat->Nat×Nat×Nat},(∀ p,(f p).1=p.1/\(f p).2.1=p.2.1)->PM ps ls lo->PM (ps.modify k f) ls lo
 | [],[],_,k,f,_,_=>by cases k <;> trivial
 | p::r,l::ls,lo,0,f,hf,h=>by
   show PM (f p::r) (l::ls) lo;exact ⟨(hf p).1.trans h.1,(hf p).2.trans h.2.1,h.2.2⟩
 | p::r,l::ls,lo,k+1,f,hf,h=>by
   show PM (p::r.modify k f) (l::ls) lo;exact ⟨h.1,h.2.1,PM.alter k hf h.2.2⟩
 | [],_::_,_,_,_,_,h=>h.elim
 | _::_,[],_,_,_,_,h=>h.elim
theorem PM.snoc:∀ {ps:List (Nat×Nat×Nat)} {ls:List (List Keyed)} {lo:Nat} {R:List Keyed} {k n:Nat},PM ps ls lo->k=lo+ls.flatten.length->n=R.length->PM (ps++[(k,n,0)]) (ls++[R]) lo
 | [],[],lo,R,k,n,_,e,e2=>⟨by simpa using e,e2,trivial⟩
 | p::r,l::ls,lo,R,k,n,h,e,e2=>by
   refine ⟨h.1,h.2.1,PM.snoc h.2.2 ?_ e2⟩;rw [e,zC7,zA4,zH2]
 | [],_::_,_,_,_,_,h,_,_=>h.elim
 | _::_,[],_,_,_,_,h,_,_=>h.elim
section
variable {prog:Program} {w:World} {A:Around} {E:Value->Shared->Prop} {a₀:Array Keyed}
theorem qL {st:SortSt} {Ls:List (List Keyed)} {rest:List Keyed} {i:Nat} {Q:Bool->SortSt->Prop} (h0:AllI a₀) (r:RS a₀ st Ls rest) (hi:i+1<Ls.length)
 (h:∀ v Ms,RS a₀ v Ms rest->Ms.length+1=Ls.length->Ms.flatten.length=Ls.flatten.length->Q true v):wpS .(18) A E KV.sh (mergeAt' i) Q st:=by
 obtain ⟨L1,R1,R2,L2,rfl,rfl⟩:∃ L1 R1 R2 L2,Ls=L1++R1::R2::L2/\i=L1.length:=by
  refine ⟨Ls.take i,Ls[i],Ls[i+1],Ls.drop (i+2),?_,by rw [zB3];lia⟩;rw [← zD0 hi,← zD0 (by lia),zD1]
 have m1:=r.runs R1 (by simp);have m2:=r.runs R2 (by simp);rw [mat_is];refine s_mat r.kind r.fail (h0.perm r.perm) r.arr r.pm m1.1 m2.1 m1.2 m2.2 fun v R hk hp hs ha hpm=>?_;have hl:=hp.length_eq;rw [zA4] at hl;refine h v (L1++R::L2) ⟨hk.kind.trans r.kind,hk.fail.trans r.fail,?_,ha,hpm,?_⟩ (by simp;lia) ?_
 · refine Array.Perm.trans ?_ r.perm;rw [zG3,ha,r.arr];refine List.Perm.append_right _ ?_;rw [zG5,zG5,zC7,zC7,zC7,← zC1 R1];exact zF4 _ (List.Perm.append_right _ hp)
 · intro T hT;rcases zB7.mp hT with g | g
   · exact r.runs T (by simp [g])
   · rcases zA8.mp g with rfl | g
     · refine ⟨fun e=>?_,hs⟩;rw [e] at hl;have:=zF1.mpr m1.1;simp at hl;lia
     · exact r.runs T (by simp [g])
 · simp only [zG5,zC7,zA4];lia
theorem ij:∀ {Ls:List (List Keyed)},(∀ R∈Ls,R≠[]/\R.Pairwise Le)->Ls.length<=Ls.flatten.length
 | [],_=>zA1 _
 | R::Ls,h=>by
   have:=ij (Ls:=Ls) fun T hT=>h T (zA5 _ hT);have:=zF1.mpr (h R (by simp)).1;rw [zB5,zC7,zA4];lia
theorem RS.psize {st:SortSt} {Ls:List (List Keyed)} {rest:List Keyed} (r:RS a₀ st Ls rest):(pendingOf st).size=Ls.length:=by
 rw [← zB6];exact r.pm.len
theorem RS.total {st:SortSt} {Ls:List (List Keyed)} {rest:List Keyed} (r:RS a₀ st Ls rest):Ls.flatten.length+rest.length=a₀.size:=by
 rw [← zA4,← r.arr,zB6,r.perm.size_eq]
theorem RS.cut {st v:SortSt} {Ls:List (List Keyed)} {rest:List Keyed} {n:Nat} (r:RS a₀ st Ls rest) (x:SX (arrOf st) Ls.flatten.length st v) (hn:Ls.flatten.length+n<=a₀.size) (hs:km (arrOf v) Ls.flatten.length n) :
 ∃ R rest',R.length=n/\R.Pairwise Le/\RS a₀ v Ls (R++rest'):=by
 have hz:(arrOf v).toList.length=a₀.size:=by rw [zB6,x.size,r.perm.size_eq]
 have ht:(arrOf v).toList.take Ls.flatten.length=Ls.flatten:=by
  have e:(arrOf v).toList.take Ls.flatten.length=(arrOf st).toList.take Ls.flatten.length:=by
   refine List.ext_getElem? fun k=>?_;rw [List.getElem?_take,List.getElem?_take];split
   · rename_i g
     rw [Array.getElem?_toList,Array.getElem?_toList];exact x.pre k g
   · rfl
  rw [e,r.arr,List.take_left]
 refine ⟨((arrOf v).toList.drop Ls.flatten.length).take n,((arrOf v).toList.drop Ls.flatten.length).drop n,?_,?_,x.kind,x.fail,x.perm.trans r.perm,?_,?_,r.runs⟩
 · rw [zB3,zE8,hz];lia
 · refine zE1.mpr fun i j hi hj hij=>?_;rw [zB3,zE8,hz] at hi hj;have:=hs i j (zH0 hij) (by lia);rw [nY (by lia),nY (by lia)] at this;rw [zF3,zF3,List.getElem_drop,List.getElem_drop];exact this
 · rw [zD1];conv=>lhs;rw [← zD1 Ls.flatten.length (arrOf v).toList,ht]
 · rw [x.pend];exact r.pm
theorem RS.add {st:SortSt} {Ls:List (List Keyed)} {R rest:List Keyed} {k n:Nat} (r:RS a₀ st Ls (R++rest)) (hR:R≠[]) (hs:R.Pairwise Le) (hk:k=Ls.flatten.length) (hn:n=R.length) :
 RS a₀ (setPending st ((pendingOf st).push (k,n,0))) (Ls++[R]) rest where
 kind:=r.kind
 fail:=r.fail
 perm:=r.perm
 arr:=by show (arrOf st).toList=_;rw [r.arr];simp
 pm:=by
  show PM ((pendingOf st).push (k,n,0)).toList _ 0;rw [zH7];exact r.pm.snoc (by lia) hn
 runs:=fun T hT=>by
  rcases zB7.mp hT with g | g
  · exact r.runs T g
  · rw [zC6.mp g];exact ⟨hR,hs⟩
theorem RS.alter {st:SortSt} {Ls:List (List Keyed)} {rest:List Keyed} {k:Nat} {f:Nat×Nat×Nat->Nat×Nat×Nat} (hf:∀ p,(f p).1=p.1/\(f p).2.1=p.2.1) (r:RS a₀ st Ls rest) :
 RS a₀ (setPending st ((pendingOf st).modify k f)) Ls rest where
 kind:=r.kind
 fail:=r.fail
 perm:=r.perm
 arr:=r.arr
 pm:=by
  show PM ((pendingOf st).modify k f).toList _ 0;rw [Array.toList_modify];exact r.pm.alter k hf
 runs:=r.runs
theorem RS.sorted {st:SortSt} {Ls:List (List Keyed)} (r:RS a₀ st Ls []) (h1:Ls.length<=1):SortedTo (arrOf st) a₀.size:=by
 have hz:(arrOf st).toList.length=a₀.size:=by rw [zB6,r.perm.size_eq]
 have hp:(arrOf st).toList.Pairwise Le:=by
  rw [r.arr];match Ls,h1,r.runs with
  | [],_,_=>simp
  | [R],_,g=>simpa using (g R (by simp)).2
 intro i j hij hj;rw [nY (by lia),nY (by lia)];rcases Nat.eq_or_lt_of_le hij with e | e
 · subst e;exact zE5 _
 · exact zE1.mp hp i j (by lia) (by lia) e
end
open PyProof.Rows hiding K SortedTo K_bubble K_mirror K_congr K_mirror_equal
variable [KV]
section
variable {prog:Program} {w:World} {A:Around} {E:Value->Shared->Prop} {a₀:Array Keyed}
def fU (sz lo n:Nat):StateT SortSt Sem (ForInStep (Option Unit×Nat)):=do
 let z ← get
 match (pendingOf z).back? with
 | some (p,k,_)=>do
   let c ← forIn [0:sz] ((none,()):Option Unit×Unit) fun _ _=>do
    let z ← get
    match if (pendingOf z).size > 1 then (pendingOf z)[(pendingOf z).size - 2]? else none with
    | some (_,_,o)=>
      if o<=power' sz (2*p+k) (2*p+k+k+n) sz then pure (.done (none,()))
      else do
       let b ← mergeAt' ((pendingOf z).size - 2)
       if (!b)=true then pure (.done (some (),())) else pure (.yield (none,()))
    | _=>pure (.done (none,()))
   match c.fst with
   | some r=>pure (.done (some r,lo))
   | none=>do
     modify fun s=>setPending s ((pendingOf s).modify ((pendingOf s).size - 1) fun x=>(x.fst,x.2.fst,power' sz (2*p+k) (2*p+k+k+n) sz))
     modify fun s=>setPending s ((pendingOf s).push (lo,n,0))
     pure (.yield (none,lo+n))
 | _=>do
   modify fun s=>setPending s ((pendingOf s).push (lo,n,0))
   pure (.yield (none,lo+n))
theorem s_put {st:SortSt} {Ls:List (List Keyed)} {R rest:List Keyed} {sz lo n:Nat} {Q:ForInStep (Option Unit×Nat)->SortSt->Prop} (h0:AllI a₀) (r:RS a₀ st Ls (R++rest)) (hlo:lo=Ls.flatten.length) (hn:n=R.length) (hR:R≠[]) (hs:R.Pairwise Le)
 (h:∀ v Ms,RS a₀ v Ms rest->Ms.flatten.length=lo+n->Q (.yield (none,lo+n)) v):wpS .(18) A E KV.sh (fU sz lo n) Q st:=by
 unfold fU;refine wpS_bind (wpS_get ?_);have fin:∀ {v:SortSt} {Ms:List (List Keyed)},RS a₀ v Ms (R++rest)->Ms.flatten.length=lo->Q (.yield (none,lo+n)) (setPending v ((pendingOf v).push (lo,n,0))):=fun {v Ms} g e=>
  h _ (Ms++[R]) (g.add hR hs e.symm hn) (by rw [zG5,zA4,e,zC7,List.flatten_nil,zC9,hn])
 split
 · rename_i p k _ _
   generalize power' sz (2*p+k) (2*p+k+k+n) sz=pw;refine wpS_bind (wpS_mono (wpS_forRange (I:=fun x c v=>c=(none,())/\∃ Ms,RS a₀ v Ms (R++rest)/\Ms.flatten.length=lo) (Q:=fun c v=>c=(none,())/\∃ Ms,RS a₀ v Ms (R++rest)/\Ms.flatten.length=lo) ?s2 (fun _ _ g=>g) ⟨rfl,Ls,r,hlo.symm⟩) ?p2)
   case p2=>
    rintro c v ⟨rfl,Ms,g,e⟩
    dsimp only
    refine wpS_bind (wpS_modify (wpS_bind (wpS_modify (wpS_pure ?_))))
    exact fin (g.alter (fun _=>⟨rfl,rfl⟩)) e
   case s2=>
    rintro x c v _ _ ⟨rfl,Ms,g,e⟩
    refine wpS_bind (wpS_get ?_)
    rw [g.psize]
    split
    · rename_i o ho
      by_cases h1:Ms.length > 1
      · by_cases h2:o<=pw
        · rw [if_pos h2];exact wpS_pure ⟨rfl,Ms,g,e⟩
        · rw [if_neg h2];refine wpS_bind (qL h0 g (by lia) fun u Ns g2 e1 e2=>?_);simp only [Bool.not_true,zC0,if_false];exact wpS_pure ⟨rfl,Ns,g2,e2.trans e⟩
      · rw [if_neg h1] at ho
        cases ho
    · exact wpS_pure ⟨rfl,Ms,g,e⟩
 · exact wpS_bind (wpS_modify (wpS_pure (fin r hlo.symm)))
theorem tE {c:Bool} {m:Nat} (h:¬ m<=1):(if c=true then m - 2 - 1 else m - 2)+1<m:=by
 split <;> lia
theorem s_all {st:SortSt} {Q:Unit->SortSt->Prop} (h0:AllI a₀) (hk:kindOf st=KV.kind) (hf:failedOf st=none) (hp:arrOf st=a₀) (he:pendingOf st=#[])
 (h:∀ v,(arrOf v).Perm a₀->failedOf v=none->SortedTo (arrOf v) a₀.size->Q () v):wpS .(18) A E KV.sh sortRuns' Q st:=by
 rw [sortRuns'_eq];refine wpS_bind (wpS_get ?_);dsimp only;rw [hp];generalize minRun' a₀.size a₀.size 0=mr;have r0:RS a₀ st [] a₀.toList:=⟨hk,hf,by rw [hp],by rw [hp];rfl,by rw [he];trivial,fun R hR=>by cases hR⟩
 refine wpS_bind (wpS_mono (wpS_forRange (I:=fun x c z=>∃ Ls rest,c=(none,Ls.flatten.length)/\RS a₀ z Ls rest/\x<=Ls.flatten.length)
  (Q:=fun c z=>∃ Ls k,c=(none,k)/\RS a₀ z Ls []) ?s1 ?f1 ⟨[],_,rfl,r0,zA1 _⟩) ?p1)
 case f1=>
  rintro c z ⟨Ls,rest,rfl,r,hx⟩
  have:=r.total
  have e:rest=[]:=List.length_eq_zero_iff.mp (by lia)
  subst e
  exact ⟨Ls,_,rfl,r⟩
 case p1=>
  rintro c z ⟨Ls,k,rfl,r⟩
  dsimp only
  refine wpS_bind (wpS_mono (wpS_forRange (I:=fun x c v=>c=(none,())/\∃ Ms,RS a₀ v Ms []/\Ms.length+x<=a₀.size) (Q:=fun c v=>c=(none,())/\∃ Ms,RS a₀ v Ms []/\Ms.length<=1) ?s2 ?f2 ?i2) ?p2)
  case i2=>
   have e1:=ij r.runs
   have e2:=r.total
   exact ⟨rfl,Ls,r,by simp only [List.length_nil] at e2;lia⟩
  case f2=>
   rintro c v ⟨rfl,Ms,g,hl⟩
   exact ⟨rfl,Ms,g,by lia⟩
  case p2=>
   rintro c v ⟨rfl,Ms,g,hl⟩
   exact wpS_pure (h v g.perm g.fail (g.sorted hl))
  case s2=>
   rintro x c v _ hx ⟨rfl,Ms,g,hl⟩
   refine wpS_bind (wpS_get ?_)
   rw [g.psize]
   by_cases h1:Ms.length<=1
   · rw [if_pos h1];exact wpS_pure ⟨rfl,Ms,g,h1⟩
   · rw [if_neg h1];refine wpS_bind (qL h0 g (tE h1) fun u Ns g2 e1 e2=>?_);simp only [Bool.not_true,zC0,if_false];exact wpS_pure ⟨rfl,Ns,g2,by lia⟩
 case s1=>
  rintro x c z _ hx ⟨Ls,rest,rfl,r,hxl⟩
  dsimp only
  have tot:=r.total
  by_cases hge:Ls.flatten.length>=a₀.size
  · rw [if_pos hge];have e:rest=[]:=List.length_eq_zero_iff.mp (by lia);subst e;exact wpS_pure ⟨Ls,_,rfl,r⟩
  · rw [if_neg hge];have hI:=h0.perm r.perm;have hsz:=r.perm.size_eq;have x0:SX (arrOf z) Ls.flatten.length z z:=⟨Array.Perm.refl _,r.kind,r.fail,rfl,fun _ _=>rfl⟩
    refine wpS_bind (s_run hI (by lia) (by lia) x0 fun n v vX g1 g2 gs=>?_);dsimp only;refine Eq.mp (congrArg (fun p=>wpS .(18) A E KV.sh p _ v) (?_:(if n<mr then do
     liftM (rule "list.sort.binary-insertion")
     let b ← binarySort' Ls.flatten.length (min (a₀.size - Ls.flatten.length) mr) n
     if (!b)=true then pure (ForInStep.done (some (),Ls.flatten.length)) else fU a₀.size Ls.flatten.length (min (a₀.size - Ls.flatten.length) mr)
     else fU a₀.size Ls.flatten.length n)=_)) ?_
    · unfold fU;congr 1
      · congr 1;funext _y;congr 1;funext b;congr 1;congr 1;funext z
        cases (pendingOf z).back? with
        | none=>rfl
        | some t=>
          obtain ⟨p,k,o⟩:=t
          dsimp only
          congr 1
          funext c
          obtain ⟨r,_⟩:=c
          cases r <;> rfl
      · congr 1;funext z
        cases (pendingOf z).back? with
        | none=>rfl
        | some t=>
          obtain ⟨p,k,o⟩:=t
          dsimp only
          congr 1
          funext c
          obtain ⟨r,_⟩:=c
          cases r <;> rfl
    have last:∀ {u:SortSt} {k:Nat},1<=k->k<=a₀.size - Ls.flatten.length->SX (arrOf z) Ls.flatten.length z u->km (arrOf u) Ls.flatten.length k->wpS .(18) A E KV.sh (fU a₀.size Ls.flatten.length k) (fun t st'=>∃ Ms rs,t=.yield (none,Ms.flatten.length)/\RS a₀ st' Ms rs/\x+1<=Ms.flatten.length) u:=fun {u k} k1 k2 uX us=>by
     obtain ⟨R,rest',e1,e2,e3⟩:=r.cut uX (by lia) us;refine s_put h0 e3 rfl e1.symm (fun e=>by rw [e] at e1;simp at e1;lia) e2 fun v2 Ms g e=>?_;exact ⟨Ms,rest',by rw [e],g,by lia⟩
    by_cases hm:n<mr
    · rw [if_pos hm];refine wpS_bind (wpS_lift (wpAny_rule ⟨rfl,?_⟩));refine wpS_bind (s_bin hI (by lia) (by lia) vX gs fun u uX us=>?_);simp only [Bool.not_true,zC0,if_false];refine wpS_mono (last (by lia) (by lia) uX us) ?_;rintro t u2 ⟨Ms,rs,rfl,g,e⟩;exact ⟨Ms,rs,rfl,g,e⟩
    · rw [if_neg hm];refine wpS_mono (last g1 g2 vX gs) ?_;rintro t u2 ⟨Ms,rs,rfl,g,e⟩;exact ⟨Ms,rs,rfl,g,e⟩
end
end SRV
namespace SRT
open PySem PyProof.Rows
abbrev kvI (s:Shared):SRV.KV where
 sh:=s
 kind:=oneType'
 kv:=fun p=>numOf p.1
 good:=fun p=>∃ t,p.1=.int (numOf p.1) t
 lt:=fun {prog w A E st x y Q} hk hx hy h=>by
  obtain ⟨t,e⟩:=hx;obtain ⟨u,e'⟩:=hy;rw [lt'_eq];refine wpS_bind (wpS_get ?_);rw [hk,keyLt'_oneType,e,e'];exact wpS_bind (wpS_lift (wpAny_attempt (oneLt_int ⟨rfl,wpS_pure h⟩)))
def AllI (xs:Array Keyed):Prop:=∀ p∈xs.toList,∃ t,p.1=.int (numOf p.1) t
theorem AllI.perm {xs ys:Array Keyed} (h:AllI xs) (p:ys.Perm xs):AllI ys:=fun q hq=>h q ((zG3.mp p).mem_iff.mp hq)
def core (a:Addr) (e1:Nat) (ar:Array Value) (b:Bool):Sem Fin:=do
 let knd ← if ar.size<2 then pure general' else keyKind' ar
 let ((),z) ← (if ar.size<2 then pure () else sortRuns').run (SortSt.mk' knd (if b then (ar.zip ar).reverse else ar.zip ar) #[] 7 none)
 let srt:=(arrOf z).map (·.2)
 let tch:=(← seqEpoch a) != e1
 Builtin.List.listUpdate (.ref a) fun _=>if b then srt.reverse else srt
 if let some e:=failedOf z then rule "list.sort.comparison-raised";throw e
 if tch then rule "list.sort.modified";raiseError "ValueError" "list modified during sort"
 ret .none
theorem plain_core (a:Addr):Builtin.«list.sort» ⟨[.ref a],[]⟩=(do
 let ar ← Builtin.List.listItems (.ref a)
 Builtin.List.listUpdate (.ref a) fun _=>#[]
 let e1 ← seqEpoch a
 let t ← newTuple ar.toList
 let l ← newList []
 holding [t,l] (core a e1 ar false)):=by rw [list_sort_plain];rfl
theorem oK (a:Addr):Builtin.«list.sort» ⟨[.ref a],[(Str.ofString "reverse",.bool true)]⟩=(do
 let ar ← Builtin.List.listItems (.ref a)
 Builtin.List.listUpdate (.ref a) fun _=>#[]
 let e1 ← seqEpoch a
 let t ← newTuple ar.toList
 let l ← newList []
 holding [t,l] (do let _ ← rule "list.sort.reverse";core a e1 ar true)):=by rw [list_sort_rev];rfl
theorem u5 {vs:List Value} {ns:List Int} (hI:IntsAre vs ns):AllI (pairsOf vs):=fun p hp=>by
 obtain ⟨n,t,e⟩:=hI.intKeys p hp;refine ⟨t,?_⟩;show p.1=.int (numOf p.1) t;rw [e];rfl
section
variable {prog:Program} {w:World} {A:Around} {E:Value->Shared->Prop} {s:Shared}
theorem qq {a:Addr} {e1:Nat} {vs:List Value} {ns:List Int} {b:Bool} {P:Fin->Shared->Prop} (hA:s.heap.get? a=some (seqObj "list" #[] e1)) (hI:IntsAre vs ns) (hz:vs.length<=sizeLine)
 (h:∀ (o:Array Value) (ns':List Int),IntsAre o.toList ns'->ns'.Perm ns->Ordered b ns'->P (.done (.ret .none)) { s with heap:=s.heap.update a (Obj.mapSeq fun _=>o) }):wpAny .(18) A (core a e1 vs.toArray b) P E s:=by
 unfold core;have fin:∀ z:SortSt,(arrOf z).Perm (pairsOf vs)->failedOf z=none->SortedTo (arrOf z) (pairsOf vs).size->wpAny .(18) A (do
  let tch:=(← seqEpoch a) != e1
  Builtin.List.listUpdate (.ref a) fun _=>if b then ((arrOf z).map (·.2)).reverse else (arrOf z).map (·.2)
  if let some e:=failedOf z then rule "list.sort.comparison-raised";throw e
  if tch then rule "list.sort.modified";raiseError "ValueError" "list modified during sort"
  ret .none) P E s:=fun z hp hf hs=>by
  obtain ⟨ns',q1,q2,q3⟩:=sorted_out_rev hI hp hs b;have hlen:((arrOf z).map (·.2)).size<=sizeLine+1:=by rw [Array.size_map,hp.size_eq,pairsOf_size];lia
  refine wpAny_bind (seqEpoch_at hA rfl (wpAny_bind (listUpdate_at hA rfl ?_ (hsz2:=?sz))))
  case sz=>
   split
   · rw [Array.size_reverse];exact hlen
   · exact hlen
  rw [hf];simp only [bne_self_eq_false,zC0,if_false];exact wpAny_pure (h _ ns' q1 q2 q3)
 have hst:(if b=true then (vs.toArray.zip vs.toArray).reverse else vs.toArray.zip vs.toArray).Perm (pairsOf vs):=by
  cases b
  · exact Array.Perm.refl _
  · rw [if_pos rfl,zG3,Array.toList_reverse];exact List.reverse_perm _
 by_cases h2:vs.toArray.size<2
 · rw [if_pos h2,if_pos h2];refine wpAny_bind (wpAny_pure ?_);dsimp only;rw [StateT.run_pure];refine wpAny_bind (wpAny_pure (fin (SortSt.mk' general' _ #[] 7 none) hst rfl fun i j hij hj=>?_));rw [pairsOf_size] at hj;rw [zA2] at h2;obtain rfl:i=j:=by lia
   exact zE5 _
 · rw [if_neg h2,if_neg h2];obtain ⟨x,y,r,rfl⟩:∃ x y r,vs=x::y::r:=by
    rw [zA2] at h2;match vs,h2 with
    | [],g=>simp at g
    | [_],g=>simp at g
    | x::y::r,_=>exact ⟨x,y,r,rfl⟩
   rw [keyKind_ints hI];refine wpAny_bind (wpAny_pure ?_);generalize hL:x::y::r=L at *;have ha0:AllI (if b=true then (L.toArray.zip L.toArray).reverse else L.toArray.zip L.toArray):=(u5 hI).perm hst;letI inst:SRV.KV:=kvI s;refine wpAny_bind (wpAny_mono (SRV.s_all (st:=SortSt.mk' oneType' (if b=true then (L.toArray.zip L.toArray).reverse else L.toArray.zip L.toArray) #[] 7 none)
    (Q:=fun _ z=>(arrOf z).Perm (pairsOf L)/\failedOf z=none/\SortedTo (arrOf z) (pairsOf L).size) ha0 rfl rfl rfl rfl fun z g1 g2 g3=>⟨g1.trans hst,g2,by rw [← hst.size_eq];exact g3⟩) ?_ fun _ _ e=>e)
   rintro ⟨⟨⟩,z⟩ s' ⟨rfl,g1,g2,g3⟩;exact fin z g1 g2 g3
theorem w_start {a:Addr} {vs:List Value} {n:Nat} {P:Fin->Shared->Prop} {f:Nat->Array Value->Sem Fin} (hA:s.heap.get? a=some (seqObj "list" vs.toArray n)) (hz:vs.length<=sizeLine)
 (h:∀ (s':Shared) e1,s'={ s with heap:=((s.heap.update a (Obj.mapSeq fun _=>#[])).push (seqObj "tuple" vs.toArray 0)).push (seqObj "list" #[] 0) }->s'.heap.get? a=some (seqObj "list" #[] e1)->wpAny .(18) A (f e1 vs.toArray) P E s') :
 wpAny .(18) A (do
  let ar ← Builtin.List.listItems (.ref a)
  Builtin.List.listUpdate (.ref a) fun _=>#[]
  let e1 ← seqEpoch a
  let t ← newTuple ar.toList
  let l ← newList []
  holding [t,l] (f e1 ar)) P E s:=by
 have ha:a<s.heap.objs.size:=Heap.lt_size hA;refine wpAny_bind (listItems_at hA rfl (wpAny_bind (listUpdate_at hA rfl ?_ (hsz:=by rw [zA2];exact hz))));obtain ⟨e1,hE⟩:∃ e1,(s.heap.update a (Obj.mapSeq fun _=>#[])).get? a=some (seqObj "list" #[] e1):=⟨_,get?_update_seq hA fun _=>#[]⟩
 refine wpAny_bind (seqEpoch_at hE rfl (wpAny_bind (wpAny_newTuple (wpAny_bind (wpAny_newList (wpAny_holding ?_)) ) ?hs)))
 case hs=>exact hz
 refine h _ e1 rfl ?_;show (((s.heap.update a (Obj.mapSeq fun _=>#[])).push (seqObj "tuple" vs.toArray 0)).push (seqObj "list" #[] 0)).get? a=_;rw [Heap.get?_push_ne _ _ _ (by rw [size_push',Heap.size_update];exact fun e=>absurd ha (by rw [e];exact Nat.not_lt.mpr (zF7 _))),Heap.get?_push_ne _ _ _ (by rw [Heap.size_update];exact fun e=>absurd ha (by rw [e];exact zD8 _))];exact hE
def kwOf (b:Bool):List (Str×Value):=if b then [(Str.ofString "reverse",.bool true)] else []
theorem w_sort {a:Addr} {vs:List Value} {ns:List Int} {n:Nat} {b:Bool} {P:Fin->Shared->Prop} (hA:s.heap.get? a=some (seqObj "list" vs.toArray n)) (hI:IntsAre vs ns) (hz:vs.length<=sizeLine)
 (h:∀ (o:Array Value) (ns':List Int),IntsAre o.toList ns'->ns'.Perm ns->Ordered b ns'->P (.done (.ret .none)) { s with heap:=sortedHeap s.heap a vs o }):wpAny .(18) A (Builtin.«list.sort» ⟨[.ref a],kwOf b⟩) P E s:=by
 cases b with
 | false=>
   show wpAny _ _ (Builtin.«list.sort» ⟨[.ref a],[]⟩) _ _ _
   rw [plain_core]
   refine w_start hA hz fun s' e1 e hA'=>qq hA' hI hz fun o ns' g1 g2 g3=>?_
   subst e
   exact h o ns' g1 g2 g3
 | true=>
   show wpAny _ _ (Builtin.«list.sort» ⟨[.ref a],[(Str.ofString "reverse",.bool true)]⟩) _ _ _
   rw [oK]
   refine w_start hA hz fun s' e1 e hA'=>wpAny_bind (wpAny_rule (qq hA' hI hz fun o ns' g1 g2 g3=>?_))
   subst e
   exact h o ns' g1 g2 g3
theorem w_collect {l:Addr} {vs:List Value} {o:Obj} {T:String} {n:Nat} {Q:List Value->Shared->Prop} (ho:s.heap.get? l=some o) (hc:o.cls=.type T) (hd:o.data=.seq vs.toArray n) (hT:T="list"\/T="tuple") (hz:vs.length<=sizeLine)
 (h:Q vs { s with heap:=(s.heap.push (seqObj "list" #[] 0)).update s.heap.objs.size (Obj.mapSeq (·++vs.toArray)) }):wpAny .(18) A (collect (.ref l)) Q E s:=by
 unfold collect;refine wpAny_bind (wpAny_runValue (codeAny_builtin entry_proto_collect' ?mk))
 case mk=>
 show wpAny _ _ (do again (.builtin "list.__iadd__" ⟨[← newList [],.ref l],[]⟩)) _ _ _;refine wpAny_bind (wpAny_newList (wpAny_pure (And.intro (Code.quiet_builtin _ (by decide +kernel)) (codeAny_builtin entry_list_iadd' ?_))));show wpAny .(18) _ (Builtin.List.listExtendWith (.ref s.heap.objs.size) (.ref l) (.ref s.heap.objs.size)) _ _ { s with heap:=s.heap.push (seqObj "list" #[] 0) };unfold Builtin.List.listExtendWith;have hO':(s.heap.push (seqObj "list" #[] 0)).get? l=some o:=Heap.get?_push_of_some _ ho;have hN:(s.heap.push (seqObj "list" #[] 0)).get? s.heap.objs.size=some (seqObj "list" #[] 0):=Heap.get?_push_size _ rfl;refine wpAny_bind (wpAny_typeOf (T:=T) ⟨o,hO',hc⟩ ?_);have e1:(Value.type "list" == Value.type "list")=true:=by rfl
 have e2:(Value.type "tuple" == Value.type "tuple")=true:=by rfl
 rw [if_pos (by rcases hT with rfl | rfl <;> simp [e1,e2])];refine wpAny_bind (listItems_at hO' hd (wpAny_bind (listItems_at hN rfl ?_)));rw [if_neg (by simp)];refine wpAny_bind (listUpdate_at hN rfl (wpAny_pure ?_) (zB0 _) (by rw [Array.size_append,zA2];show 0+vs.length<=_;lia));show wpAny .(18) A (do
  let z ← load s.heap.objs.size
  match z.data with
  | .seq xs _=>pure xs.toList
  | _=>unsupported "internal:collect") Q E ⟨(s.heap.push (seqObj "list" #[] 0)).update s.heap.objs.size (Obj.mapSeq (·++vs.toArray)),s.gens,s.drawn,s.toks,s.os⟩
 refine wpAny_bind (wpAny_load (get?_update_seq hN _) ?_);show wpAny .(18) _ (pure ((#[]:Array Value)++vs.toArray).toList) Q E _;have e3:((#[]:Array Value)++vs.toArray).toList=vs:=by simp
 rw [e3];exact wpAny_pure h
theorem w_sorted {l:Addr} {vs:List Value} {ns:List Int} {o:Obj} {T:String} {n:Nat} {b:Bool} {Q:.(21)} (ho:s.heap.get? l=some o) (hc:o.cls=.type T) (hd:o.data=.seq vs.toArray n) (hT:T="list"\/T="tuple") (hI:IntsAre vs ns) (hz:vs.length<=sizeLine)
 (h:∀ (r:Array Value) (ns':List Int),IntsAre r.toList ns'->ns'.Perm ns->Ordered b ns'->Q (.ref .(16)) { s with heap:=sortedAll s.heap vs r }):wpAny .(18) A (call (.builtin "sorted") [.ref l] (kwOf b)) Q E s:=by
 have ha:argsOk "sorted" ⟨[.ref l],kwOf b⟩:=by cases b;exact args_sorted1 _;exact args_sorted_rev _ _
 refine call_function_entry_kw kind_sorted plain_sorted entry_sorted ha ?_;unfold Builtin.«sorted»;refine wpAny_bind (m:=checkCount "sorted" 1 1 _) (wpAny_pure (wpAny_bind (w_collect ho hc hd hT hz (wpAny_bind (wpAny_newList ?_ ?hs)))))
 case hs=>exact hz
 generalize hG:(s.heap.push (seqObj "list" #[] 0)).update s.heap.objs.size (Obj.mapSeq (·++vs.toArray))=G;have sG:G.objs.size=s.heap.objs.size+1:=by rw [← hG,Heap.size_update,size_push']
 have hL:(G.push (seqObj "list" vs.toArray 0)).get? .(16)=some (seqObj "list" vs.toArray 0):=by rw [← sG];exact Heap.get?_push_size _ rfl
 show wpAny _ _ _ _ _ { s with heap:=G.push (seqObj "list" vs.toArray 0) };rw [show ({ s with heap:=G }:Shared).heap.objs.size=s.heap.objs.size+1 from sG];have hs:argsOk "list.sort" ⟨[.ref .(16)],kwOf b⟩:=by cases b;exact args_list_sort _;exact args_list_sort_rev _ _
 refine wpAny_bind (wpAny_holding (wpAny_call_entry_kw slot_list_sort ⟨_,hL,rfl⟩ entry_list_sort (w_sort hL hI hz fun r ns' g1 g2 g3=>⟨_,rfl,wpAny_pure ⟨_,rfl,?_⟩⟩) hs));have:=h r ns' g1 g2 g3;unfold sortedAll at this;rw [hG] at this;exact this
end
end SRT
namespace L2
open PySem PySem.Spec PyProof.Rows
section
variable {X:Cx}
def jt (K:PySem.W.Frag) (b:Bool):List V->Hp->VK->Prop:=fun xs H Q=>match xs with
 | [.ref p]=>∃ ns:List Int,(SqL K H p (ns.map V.int)\/SqT K H p (ns.map V.int))/\∀ l ns',H l=none->List.Perm ns' ns->Ordered b ns'->Q (.ref l) (upd H l (.lst (ns'.map V.int)))
 | _=>False
theorem oC {b:Bool} (pins:.(31)) (s:Shared) (σ:St) (H:Hp) (xs:List V) (us:List Value) (Q:VK) (I:.(14)) (r:Vals xs us) (h:jt X.K b xs H Q) :
 wpAny .(15) X.A (call (.builtin "sorted") us (SRT.kwOf b)) (EP X pins σ Q) X.xe s:=by
 unfold jt at h;split at h
 · rename_i p
   obtain ⟨ns,hq,q⟩:=h;obtain ⟨u,rfl,rx⟩:=cx r
   cases rx
   obtain ⟨its,T,o,n,hI,hz,hz2,ho,hc,hd,hT⟩:∃ (its:List Value) (T:String) (o:Obj) (n:Nat),IntsAre its ns/\its.length<=sizeLine/\ns.length<=sizeLine/\s.heap.get? p=some o/\o.cls=.type T/\o.data=.seq its.toArray n/\(T="list"\/T="tuple"):=by
    rcases hq with hq | hq
    · obtain ⟨its,rv,pl,hz⟩:=I.list hq;obtain ⟨o,ho,hc,n,hd⟩:=id pl.isList;exact ⟨its,"list",o,n,cM rv,by rw [← rv.length];exact hz,by rw [zA0] at hz;exact hz,ho,hc,hd,.inl rfl⟩
    · obtain ⟨its,rv,pl,hz⟩:=I.tuple hq;obtain ⟨o,ho,hc,n,hd⟩:=id pl;exact ⟨its,"tuple",o,n,cM rv,by rw [← rv.length];exact hz,by rw [zA0] at hz;exact hz,ho,hc,hd,.inr rfl⟩
   refine SRT.w_sorted ho hc hd hT hI hz fun out ns' a1 a2 a3=>?_;obtain ⟨e,he⟩:=sortedAll_at s.heap its out;refine ⟨.ref .(16),_,I.laid (t':=s.toks) (a:=s.heap.objs.size+1) (o:=.lst (ns'.map V.int)) (fun c ob q=>sortedAll_old q) (zF7 _) ?_,rfl,q _ ns' (I.hok.fresh (zF7 _)) a2 a3⟩;refine ⟨?_,out.toList,e,eK a1,he⟩;rw [zA0,a2.length_eq];exact hz2
 · exact h.elim
variable {e:Expr} {es:List Expr} {t:TA} {p pos:Pos}
theorem lQ {k:Nat} {p2 p3:Pos} (hg:Gl X "sorted") (hm:X.mg "sorted" = none) (ha:PA X [e] t) (he:starEach [e] X.env=[.(9)]) :
 PE X (.Call (.Name "sorted" p) [e] [⟨some "reverse",.Constant (.bool true) k p2,p3⟩] pos) (tCB (jt X.K true) t):=by
 intro pins s σ H Q I h;refine wpAny_Call_Name_kw (fe I hg hm dU ?_ (by decide) (by decide));refine callWith_kw (thn (ha pos pins s σ H _ I h) fun us s1 ⟨vs,H1,I1,r1,q1⟩=>?_) ?_ ?_ rfl rfl
 · refine kws_cons (wpAny_Constant_bool (kws_nil ?_));exact oC (b:=true) pins s1 σ H1 vs us Q I1 r1 q1
 · rw [he];rfl
 · rw [he];rfl
theorem kB {k:Nat} {p2 p3:Pos} (hg:Gl X "sorted") (hm:X.mg "sorted" = none) (ha:ZA X [e] t) (he:starEach [e] X.env=[.(9)]) :
 ZE X (.Call (.Name "sorted" p) [e] [⟨some "reverse",.Constant (.bool true) k p2,p3⟩] pos) (tCB (jt X.K true) t):=by with_unfolding_all exact lQ hg hm ha he
variable {o:Expr} {to:TE} {apos cpos:Pos}
end
end L2
namespace L2
open PySem PySem.Spec PyProof.Rows
section
variable {X:Cx}
variable {e:Expr} {es:List Expr} {t:TA} {p pos:Pos}
def oX:List V->Hp->VK->Prop:=fun xs H Q=>match xs with
 | [.str x]=>∃ n,intText? x=some n/\x.length<=640/\Q (.int n) H
 | _=>False
theorem nC:CallR X (.type "int") oX:=by
 sleep 1;unfold oX at h;split at h
 · obtain ⟨n,h1,h2,q⟩:=h;obtain ⟨u,rfl,r1⟩:=cx r;obtain ⟨t,rfl⟩:=r1;exact PySem.W.KIN.call_text h1 h2 ⟨.int n,H,I.tok _,⟨_,rfl⟩,q⟩
 · exact h.elim
theorem pE (hg:Gl X "int") (hm:X.mg "int" = none) (ha:PA X (e::es) t) (he:.(1)) (hpl:.(3)) :
 PE X (.Call (.Name "int" p) (e::es) [] pos) (tCB oX t):=bP nC hg hm iz ha (by decide) (by decide) he hpl
theorem gi (hg:Gl X "int") (hm:X.mg "int" = none) (ha:ZA X (e::es) t) (he:.(1)) (hpl:.(3)) :
 ZE X (.Call (.Name "int" p) (e::es) [] pos) (tCB oX t):=by with_unfolding_all exact pE hg hm ha he hpl
def oY:V->List V->Hp->VK->Prop:=fun x vs H Q=>match x,vs with
 | .ref l,[.ref b]=>∃ xs zs,H l=some (.lst xs)/\H b=some (.lst zs)/\xs.length+zs.length<=sizeLine/\Q .non (upd H l (.lst (xs++zs)))
 | _,_=>False
theorem uu:MtM X "list.extend" oY:=fun pins s σ H x vs v us Q I rx rv h=>by
 unfold oY at h;split at h
 · obtain ⟨xs,zs,h1,h2,h3,q⟩:=h;exact mv pins s σ H _ _ v us Q I rx rv ⟨_,_,xs,zs,rfl,rfl,h1,h2,h3,q⟩
 · exact h.elim
variable {o:Expr} {to:TE} {apos cpos:Pos}
theorem lI (ho:PE X o to) (ha:PA X (e::es) t) (hbase:attributeBase o "extend" X.env (eval o X.env)=eval o X.env:=by rfl)
 (hfew:(.(23).all (fun x=>!x.1)&&.(22).all (fun x=>x.1.isSome)
   && decide .(7))=true:=by rfl)
 (hline:(apos.endLine == cpos.line)=true:=by rfl) (hs:starEach (e::es) X.env=.(9)::starEach es X.env:=by rfl) (hplain:(backTo cpos .(13)).any (·.1)=false:=by rfl) :
 PE X (.Call (.Attribute o "extend" apos) (e::es) [] cpos) (fun σ H Q=>to σ H fun x H1=>tyV X.K "list" x H1/\t σ H1 fun xs H2=>oY x xs H2 Q):=
 j0 PySem.F.plainAttrs_list PySem.F.slot_list_extend PySem.F.type_list_extend uu ho ha hbase hfew hline hs hplain
theorem gP (ho:ZE X o to) (ha:ZA X (e::es) t) (hbase:attributeBase o "extend" X.env (eval o X.env)=eval o X.env:=by rfl)
 (hfew:(.(23).all (fun x=>!x.1)&&.(22).all (fun x=>x.1.isSome)
   && decide .(7))=true:=by rfl)
 (hline:(apos.endLine == cpos.line)=true:=by rfl) (hs:starEach (e::es) X.env=.(9)::starEach es X.env:=by rfl) (hplain:(backTo cpos .(13)).any (·.1)=false:=by rfl) :
 ZE X (.Call (.Attribute o "extend" apos) (e::es) [] cpos) (fun σ H Q=>to σ H fun x H1=>tyV X.K "list" x H1/\t σ H1 fun xs H2=>oY x xs H2 Q):=by with_unfolding_all exact lI ho ha hbase hfew hline hs hplain
end
section
variable {X:Cx} {e:Expr} {es:List Expr} {t:TA} {p pos:Pos}
theorem sX (hg:Gl X "str") (hm:X.mg "str" = none):PE X (.Name "str" pos) (tC (.ty "str")):=pd hg hm iw (by decide) (by decide)
theorem kn (hg:Gl X "str") (hm:X.mg "str" = none):ZE X (.Name "str" pos) (tC (.ty "str")):=by with_unfolding_all exact sX hg hm
end
theorem jr (j:Nat):(List.replicate j true).map V.bl++[V.bl true]=(List.replicate (j+1) true).map V.bl:=by
 rw [List.replicate_succ',zA7];rfl
theorem lv (n:Nat):(List.replicate n true).all id=true:=by
 rw [zB8];intro x hx;exact List.eq_of_mem_replicate hx
def seqT (c:Bool):String:=match c with | true=>"tuple" | false=>"list"
theorem SqK.ty {H:Hp} {c:Bool} {a:Addr} {xs:List V} (h:SqK H c a xs):dP H (.ref a)=some (seqT c):=by
 cases c with
 | true=>unfold dP;dsimp only;rw [show H a=some (.tup xs) from h];rfl
 | false=>unfold dP;dsimp only;rw [show H a=some (.lst xs) from h];rfl
theorem jf:∀ {ys:List Str} {its:List Value},Vals (ys.map V.str) its->StrsAre its ys
 | [],_,r=>by cases r;exact .nil
 | y::ys,_,r=>by
   cases r with
   | cons a b=>
     obtain ⟨t,rfl⟩:=(show ∃ t,_=Value.str y t from a)
     exact .cons y t (jf b)
theorem gV:∀ (tk:Nat) (ys:List Str),Vals (ys.map V.str) (strsFrom tk ys)
 | _,[]=>.nil
 | tk,y::ys=>.cons ⟨tk,rfl⟩ (gV (tk+1) ys)
section
variable {X:Cx} {e:Expr} {es:List Expr} {t:TA} {p pos:Pos} {o:Expr} {to:TE} {apos cpos:Pos}
def jw (K:PySem.W.Frag):V->List V->Hp->VK->Prop:=fun x vs H Q=>match x,vs with
 | .str z,[.ref a]=>∃ ys:List Str,SqL K H a (ys.map V.str)/\(ys.map (·.length)).sum+ys.length*z.length<=16777216/\Q (.str (Txt.join z ys)) H
 | _,_=>False
theorem ut:MtR X "str.join" (jw X.K):=by
 intro pins s σ H x xs v us Q I rx rs h;unfold jw at h;split at h
 · obtain ⟨ys,hq,hz,q⟩:=h;obtain ⟨tk,rfl⟩:=rx;obtain ⟨u,rfl,ru⟩:=cx rs
   cases ru
   obtain ⟨its,rv,pl,_⟩:=I.list hq;exact join_list pl.isList (by simpa using jf rv) hz fun t' k=>⟨.str _,H,I.tok k,⟨_,rfl⟩,q⟩
 · exact h.elim
def gy:V->List V->Hp->VK->Prop:=fun x vs H Q=>match x,vs with
 | .str z,[.str y]=>z.length<=10000/\(y.length == 0)=false/\∀ a,H a=none->Q (.ref a) (upd H a (.lst ((Txt.split z y).map V.str)))
 | _,_=>False
theorem pR:MtR X "str.split" gy:=by
 intro pins s σ H x xs v us Q I rx rs h;unfold gy at h;split at h
 · rename_i z y
   obtain ⟨hz,hy,q⟩:=h;obtain ⟨tk,rfl⟩:=rx;obtain ⟨u,rfl,ru⟩:=cx rs;obtain ⟨tk2,rfl⟩:=ru;have hn:H s.heap.objs.size=none:=I.hok.fresh (zA1 _);have sl:(10000:Nat)+2<=sizeLine:=by rw [sizeLine_eq];decide
   have lay:∀ (ys:List Str) (its:List Value) (k:Nat),Txt.split z y=ys->Vals (ys.map V.str) its->EP X pins σ Q (.ref s.heap.objs.size) { s with heap:=s.heap.push { cls:=.type "list",data:=.seq its.toArray },toks:=k }:=by
    intro ys its k e rv;have hl:(ys.map V.str).length<=sizeLine:=by
     rw [zA0,← e];exact zE6 (split_le z y) (by lia)
    refine ⟨.ref s.heap.objs.size,_,I.laid (t':=k) (o:=.lst (ys.map V.str)) (fun b ob q=>Heap.get?_push_of_some _ q) (zA1 _) ⟨hl,its,0,rv,Heap.get?_push_size _ rfl⟩,rfl,?_⟩;have:=q _ hn;rw [e] at this;exact this
   cases h1:(decide (z.length<y.length)||decide (Builtin.Str.strKind z<Builtin.Str.strKind y))
   · cases hf:(Builtin.Str.occurrences z y 0 z.length (z.length+1)).isEmpty
     · have e:Txt.split z y=Builtin.Str.partsBetween z (Builtin.Str.occurrences z y 0 z.length (z.length+1)) y.length:=(if_neg (ne_true_of_eq_false h1)).trans (if_neg (ne_true_of_eq_false hf));have hn2:(Builtin.Str.partsBetween z (Builtin.Str.occurrences z y 0 z.length (z.length+1)) y.length).length<=sizeLine:=by rw [← e];exact zE6 (split_le z y) (by lia)
       exact call_meets F.slot_str_split (typeIs_str _ _ _) F.entry_str_split (F.args_str_split_2 _ _) (meets_str_split_sep z y tk tk2 h1 hy hf (by lia) hn2) (lay _ _ _ e (gV _ _))
     · have e:Txt.split z y=[z]:=(if_neg (ne_true_of_eq_false h1)).trans (if_pos hf);exact call_meets F.slot_str_split (typeIs_str _ _ _) F.entry_str_split (F.args_str_split_2 _ _) (meets_str_split_not_found z y tk tk2 h1 hy hf) (lay [z] [.str z tk] s.toks e (.cons ⟨tk,rfl⟩ .nil))
   · have e:Txt.split z y=[z]:=if_pos h1;exact call_meets F.slot_str_split (typeIs_str _ _ _) F.entry_str_split (F.args_str_split_2 _ _) (meets_str_split_cannot_occur z y tk tk2 h1) (lay [z] [.str z tk] s.toks e (.cons ⟨tk,rfl⟩ .nil))
 · exact h.elim
theorem tz (ho:PE X o to) (ha:PA X (e::es) t) (hbase:attributeBase o "join" X.env (eval o X.env)=eval o X.env:=by rfl)
 (hfew:(.(23).all (fun x=>!x.1)&&.(22).all (fun x=>x.1.isSome)
   && decide .(7))=true:=by rfl)
 (hline:(apos.endLine == cpos.line)=true:=by rfl) (hs:starEach (e::es) X.env=.(9)::starEach es X.env:=by rfl) (hplain:(backTo cpos .(13)).any (·.1)=false:=by rfl) :
 PE X (.Call (.Attribute o "join" apos) (e::es) [] cpos) (fun σ H Q=>to σ H fun x H1=>tyV X.K "str" x H1/\t σ H1 fun xs H2=>jw X.K x xs H2 Q):=
 j0 PySem.F.plainAttrs_str PySem.F.slot_str_join PySem.F.type_str_join ut ho ha hbase hfew hline hs hplain
theorem bm (ho:ZE X o to) (ha:ZA X (e::es) t) (hbase:attributeBase o "join" X.env (eval o X.env)=eval o X.env:=by rfl)
 (hfew:(.(23).all (fun x=>!x.1)&&.(22).all (fun x=>x.1.isSome)
   && decide .(7))=true:=by rfl)
 (hline:(apos.endLine == cpos.line)=true:=by rfl) (hs:starEach (e::es) X.env=.(9)::starEach es X.env:=by rfl) (hplain:(backTo cpos .(13)).any (·.1)=false:=by rfl) :
 ZE X (.Call (.Attribute o "join" apos) (e::es) [] cpos) (fun σ H Q=>to σ H fun x H1=>tyV X.K "str" x H1/\t σ H1 fun xs H2=>jw X.K x xs H2 Q):=by with_unfolding_all exact tz ho ha hbase hfew hline hs hplain
theorem o8 (ho:PE X o to) (ha:PA X (e::es) t) (hbase:attributeBase o "split" X.env (eval o X.env)=eval o X.env:=by rfl)
 (hfew:(.(23).all (fun x=>!x.1)&&.(22).all (fun x=>x.1.isSome)
   && decide .(7))=true:=by rfl)
 (hline:(apos.endLine == cpos.line)=true:=by rfl) (hs:starEach (e::es) X.env=.(9)::starEach es X.env:=by rfl) (hplain:(backTo cpos .(13)).any (·.1)=false:=by rfl) :
 PE X (.Call (.Attribute o "split" apos) (e::es) [] cpos) (fun σ H Q=>to σ H fun x H1=>tyV X.K "str" x H1/\t σ H1 fun xs H2=>gy x xs H2 Q):=
 j0 PySem.F.plainAttrs_str PySem.F.slot_str_split PySem.F.type_str_split pR ho ha hbase hfew hline hs hplain
theorem dZ (ho:ZE X o to) (ha:ZA X (e::es) t) (hbase:attributeBase o "split" X.env (eval o X.env)=eval o X.env:=by rfl)
 (hfew:(.(23).all (fun x=>!x.1)&&.(22).all (fun x=>x.1.isSome)
   && decide .(7))=true:=by rfl)
 (hline:(apos.endLine == cpos.line)=true:=by rfl) (hs:starEach (e::es) X.env=.(9)::starEach es X.env:=by rfl) (hplain:(backTo cpos .(13)).any (·.1)=false:=by rfl) :
 ZE X (.Call (.Attribute o "split" apos) (e::es) [] cpos) (fun σ H Q=>to σ H fun x H1=>tyV X.K "str" x H1/\t σ H1 fun xs H2=>gy x xs H2 Q):=by with_unfolding_all exact o8 ho ha hbase hfew hline hs hplain
def oP:V->List V->Hp->VK->Prop:=fun x vs H Q=>match x,vs with
 | .ref l,[.int i]=>∃ xs k y,H l=some (.lst xs)/\(-(2 ^ 63)<=i/\i<2 ^ 63)/\seqIndex? i xs.length=some k/\xs[k]? = some y/\Q y (upd H l (.lst (xs.eraseIdx k)))
 | _,_=>False
theorem ur:MtM X "list.pop" oP:=fun pins s σ H x vs v us Q I rx rv h=>by
 unfold oP at h;split at h
 · obtain ⟨xs,k,y,h1,⟨h2,h3⟩,h4,h5,q⟩:=h;exact pS pins s σ H _ _ v us Q I rx rv ⟨_,xs,_,k,y,rfl,rfl,h1,h2,h3,h4,h5,q⟩
 · exact h.elim
theorem tx (ho:PE X o to) (ha:PA X (e::es) t) (hbase:attributeBase o "pop" X.env (eval o X.env)=eval o X.env:=by rfl)
 (hfew:(.(23).all (fun x=>!x.1)&&.(22).all (fun x=>x.1.isSome)
   && decide .(7))=true:=by rfl)
 (hline:(apos.endLine == cpos.line)=true:=by rfl) (hs:starEach (e::es) X.env=.(9)::starEach es X.env:=by rfl) (hplain:(backTo cpos .(13)).any (·.1)=false:=by rfl) :
 PE X (.Call (.Attribute o "pop" apos) (e::es) [] cpos) (fun σ H Q=>to σ H fun x H1=>tyV X.K "list" x H1/\t σ H1 fun xs H2=>oP x xs H2 Q):=
 j0 PySem.F.plainAttrs_list PySem.F.slot_list_pop PySem.F.type_list_pop ur ho ha hbase hfew hline hs hplain
theorem rY (ho:ZE X o to) (ha:ZA X (e::es) t) (hbase:attributeBase o "pop" X.env (eval o X.env)=eval o X.env:=by rfl)
 (hfew:(.(23).all (fun x=>!x.1)&&.(22).all (fun x=>x.1.isSome)
   && decide .(7))=true:=by rfl)
 (hline:(apos.endLine == cpos.line)=true:=by rfl) (hs:starEach (e::es) X.env=.(9)::starEach es X.env:=by rfl) (hplain:(backTo cpos .(13)).any (·.1)=false:=by rfl) :
 ZE X (.Call (.Attribute o "pop" apos) (e::es) [] cpos) (fun σ H Q=>to σ H fun x H1=>tyV X.K "list" x H1/\t σ H1 fun xs H2=>oP x xs H2 Q):=by with_unfolding_all exact tx ho ha hbase hfew hline hs hplain
def oU:List V->Hp->VK->Prop:=fun xs H Q=>match xs with
 | [.str z]=>z.length<=sizeLine/\Q (.int z.length) H
 | _=>False
theorem ny:CallR X (.builtin "len") oU:=call_len_str.imp fun xs H Q h=>by
 unfold oU at h;split at h
 · exact ⟨_,rfl,h⟩
 · exact h.elim
theorem pA (hg:Gl X "len") (hm:X.mg "len" = none) (ha:PA X (e::es) t) (he:.(1)) (hpl:.(3)) :
 PE X (.Call (.Name "len" p) (e::es) [] pos) (tCB oU t):=bt ny hg hm PySem.boot_len ha (by decide) (by decide) he hpl
theorem gh (hg:Gl X "len") (hm:X.mg "len" = none) (ha:ZA X (e::es) t) (he:.(1)) (hpl:.(3)) :
 ZE X (.Call (.Name "len" p) (e::es) [] pos) (tCB oU t):=by with_unfolding_all exact pA hg hm ha he hpl
def inT (y z:Str):Bool:=!(Builtin.Str.occurrences z y 0 z.length 1).isEmpty
def rInT:R2:=fun x y H Q=>match x,y with
 | .str i,.str j=>Q (.bl (inT i j)) H
 | _,_=>False
theorem op_inT:OpR X (compareOp .In) rInT:=op_in_str.imp fun x y H Q h=>by
 unfold rInT at h;split at h
 · exact ⟨_,_,rfl,rfl,h⟩
 · exact h.elim
def rIxTx:R2:=fun x y H Q=>match x,y with
 | .str z,.int i=>∃ c:Nat,z.length<=sizeLine/\atI z.cps.toList i=some c/\Q (.str ⟨#[c]⟩) H
 | _,_=>False
theorem ix_T:IxR X rIxTx:=by
 intro value slice pins s σ H x y v u Q I rx ry h hs;unfold rIxTx at h;split at h
 · obtain ⟨c,h1,h2,q⟩:=h;exact ix_str value slice pins s σ H _ _ v u Q I rx ry ⟨_,_,c,rfl,rfl,h1,h2,q⟩ hs
 · exact h.elim
def ItS (z:Str):It:=⟨fun i _=>i<z.cps.size,fun i H x H'=>H'=H/\∃ c,z.cps[i]? = some c/\x=.str ⟨#[c]⟩,fun i _=>z.cps.size<=i⟩
def StI (h:Heap) (it:Addr) (z:Str) (t:Tok) (i:Nat):Prop:=h.IsStrIter it "str_ascii_iterator" z t i\/h.IsStrIter it "str_iterator" z t i
theorem jc {P:Program} {w:World} {K:PySem.W.Frag} {tg:Expr} (z:Str) (tk:Tok) (it:Addr):Turn P w K tg (ItS z) [it] it (fun i h=>StI h it z tk i) where
 mem:=by simp
 obj:=fun i h st b hb=>by
  have e:b=it:=by simpa using hb
  subst e;rcases st with ⟨o,e,c,d⟩ | ⟨o,e,c,d⟩ <;> exact ⟨o,e,fun v z=>by rw [d] at z;cases z⟩
 keep:=fun i h h' st k=>by
  rcases st with ⟨o,e,c⟩ | ⟨o,e,c⟩
  · exact .inl ⟨o,k it (by simp) o e,c⟩
  · exact .inr ⟨o,k it (by simp) o e,c⟩
 item:=by
  sleep 4;subst hP hw hK;have hi:i<z.cps.size:=hg;sleep 3;rcases st with st | st
  · refine wpAny_pyNext_ascii_item st (c:=z.cps[i]) (by simp [hi]) fun h' st' sb=>?_;have I1:Inv X pins σ H { s with heap:=h',toks:=s.toks+1 }:=I.turned (t':=s.toks+1) (fun b o hb e=>(sb.2 b hb).trans e) f0 f1 f3 f4 f5;obtain ⟨o,e,c,d⟩:=id st';exact ⟨_,rfl,j9 (s:={ s with heap:=h',toks:=s.toks+1 }) e c d (by decide) ⟨.str _,H,I1,⟨_,rfl⟩,⟨rfl,_,by simp [hi],rfl⟩,.inl st',fun b hb=>(hf b hb).1⟩⟩
  · refine wpAny_pyNext_wide_item st (c:=z.cps[i]) (by simp [hi]) fun h' st' sb=>?_;have I1:Inv X pins σ H { s with heap:=h',toks:=s.toks+1 }:=I.turned (t':=s.toks+1) (fun b o hb e=>(sb.2 b hb).trans e) f0 f1 f3 f4 f5;obtain ⟨o,e,c,d⟩:=id st';exact ⟨_,rfl,j9 (s:={ s with heap:=h',toks:=s.toks+1 }) e c d (by decide) ⟨.str _,H,I1,⟨_,rfl⟩,⟨rfl,_,by simp [hi],rfl⟩,.inr st',fun b hb=>(hf b hb).1⟩⟩
 done:=by
  sleep 4;subst hP hw hK;have hi:z.cps.size<=i:=hg;sleep 3;rcases st with st | st
  · exact wpAny_pyNext_ascii_end (I.ok.hd hc) st (by simp;lia) fun h' eb=>⟨rfl,I.turned (t':=s.toks) (fun b o hb e=>eb b o hb e) f0 f1 f3 f4 f5⟩
  · exact wpAny_pyNext_wide_end (I.ok.hd hc) st (by simp;lia) fun h' eb=>⟨rfl,I.turned (t':=s.toks) (fun b o hb e=>eb b o hb e) f0 f1 f3 f4 f5⟩
 self:=fun _ _ _ _ _ st h=>by
  rcases st with st | st
  · exact wpAny_pyIter_striter_ascii st h
  · exact wpAny_pyIter_striter_wide st h
def iStr (tl:TE):TI:=fun σ H R=>tl σ H fun x H1=>match x with
 | .str z=>R (ItS z) H1
 | _=>False
theorem pi_str {tg l:Expr} {tl:TE} (hl:PE X l tl):PI X tg l (iStr tl):=by
 intro pins s σ H R I h;refine thn (hl pins s σ H _ I h) fun v s1 ⟨x,H1,I1,r1,q1⟩=>?_;dsimp only at q1;split at q1
 · rename_i z
   obtain ⟨tk,rfl⟩:=r1;have fp:∀ b∈[s1.heap.objs.size],fD X pins H1 b:=fun b hb=>by
    have e:b=s1.heap.objs.size:=by simpa using hb
    subst e;exact I1.fpOk (zA1 _) (I1.hok.fresh (zA1 _))
   cases ha:z.cps.all (· < 128)
   · exact wpAny_pyIter_wide ha ⟨s1.heap.objs.size,[s1.heap.objs.size],_,_,H1,rfl,I1.kept (t':=s1.toks) fun b o e=>Heap.get?_push_of_some _ e,jc z tk _,.inr ⟨_,Heap.get?_push_size _ rfl,rfl,rfl⟩,fp,q1⟩
   · exact wpAny_pyIter_ascii ha ⟨s1.heap.objs.size,[s1.heap.objs.size],_,_,H1,rfl,I1.kept (t':=s1.toks) fun b o e=>Heap.get?_push_of_some _ e,jc z tk _,.inl ⟨_,Heap.get?_push_size _ rfl,rfl,rfl⟩,fp,q1⟩
 · exact q1.elim
theorem zi_str {tg l:Expr} {tl:TE} (hl:ZE X l tl):ZI X tg l (iStr tl):=by with_unfolding_all exact pi_str hl
theorem uS {nv:List Str} {ix:List (Str×Nat)} {σ:St} {H:Hp} {g:TG} {ti:TT} {te:TE} {Fin:List V->Hp->Prop} {z:Str} (Pv:Nat->List V->Hp->Prop) (h0:Pv 0 [] H)
 (hs:∀ i c zs H,z.cps[i]? = some c->Pv i zs H->zs.length<sizeLine/\g (.str ⟨#[c]⟩) (st0 nv ix σ) H fun σ2 H2=>ti σ2 H2 fun b H3=>if b=true then te σ2 H3 fun y H4=>Pv (i+1) (zs++[y]) H4 else Pv (i+1) zs H3)
 (hd:∀ zs H,Pv z.cps.size zs H->Fin zs H):rW nv ix g ti te σ (ItS z) Fin H:=by
 refine ⟨fun i m zs H=>m=z.cps.size - i/\i<=z.cps.size/\Pv i zs H,⟨_,rfl,zB0 _,h0⟩,?_⟩;rintro i m zs H ⟨rfl,hi,p⟩;by_cases hlt:i<z.cps.size
 · refine .inr ⟨hlt,(hs i z.cps[i] zs H (by simp [hlt]) p).1,Pv (i+1),fun σ' H' p'=>⟨_,by lia,rfl,hlt,p'⟩,fun x H' y=>?_⟩;obtain ⟨rfl,c,hc,rfl⟩:=y;exact (hs i c zs _ hc p).2
 · have e:i=z.cps.size:=by lia
   subst e;exact .inl ⟨zA1 _,hd zs H p⟩
def StrG (mg:.(32)) (x:Str) (z:Str):Prop:=∃ t,mg x=some (.str z t)
theorem pe_sg {x z:Str} {pos:Pos} (hg:Gl X x) (hm:StrG X.mg x z) (hd:.(25)=false:=by decide):PE X (.Name x pos) (tC (.str z)):=by
 obtain ⟨t,hm⟩:=hm;exact gA hg hm ⟨t,rfl⟩ hd
theorem ze_sg {x z:Str} {pos:Pos} (hg:Gl X x) (hm:StrG X.mg x z) (hd:.(25)=false:=by decide):ZE X (.Name x pos) (tC (.str z)):=by with_unfolding_all exact pe_sg hg hm hd
def tNo:TS:=fun _ _ _=>False
theorem ps_no {st:Stmt}:PS X st tNo:=fun _ _ _ _ _ _ h=>h.elim
theorem dW {st:Stmt}:ZS X st tNo:=by with_unfolding_all exact ps_no
end
end L2
namespace K73
open PySem L2
def top (i:Nat):Stmt:=PySem.Challenge.pw_partrests_k73_ranks_and_claims_answered.main.body.getD i (.Pass ⟨0,0,0,0⟩)
def Hand (H:Hp) (a L:Addr) (n:Nat):Prop:=∃ (gs:List Int) (s c:Int),H a=some (.lst [.ref L,.int s,.int c])/\H L=some (.lst (gs.map V.int))/\(∀ g∈gs,(0:Int)<=g)/\gs.length<=63/\0<=s/\s<2305843009213693951/\0<=c/\c<=n/\a≠L
def Step (a L:Addr) (n:Nat) (H H':Hp):Prop:=(∀ b o,b≠a->b≠L->H b=some o->H' b=some o)/\Hand H' a L n
theorem Hand.mono {H:Hp} {a L:Addr} {n m:Nat} (h:Hand H a L n) (k:n<=m):Hand H a L m:=let ⟨g,s,c,e,e2,h1,h2,h3,h4,h5,h6,h7⟩:=h;⟨g,s,c,e,e2,h1,h2,h3,h4,h5,by lia,h7⟩
theorem Hand.same {H H':Hp} {a L:Addr} {n:Nat} (h:Hand H a L n) (y:Same H H'):Hand H' a L n:=let ⟨g,s,c,e,e2,r⟩:=h;⟨g,s,c,y _ _ e,y _ _ e2,r⟩
theorem Hand.ne {H:Hp} {a L b:Addr} {n:Nat} (h:Hand H a L n) (hb:H b=none):b≠a/\b≠L:=by
 obtain ⟨g,s,c,e,e2,_⟩:=h;exact ⟨fun z=>(by rw [z,e] at hb;cases hb),fun z=>(by rw [z,e2] at hb;cases hb)⟩
theorem Step.trans {a L:Addr} {n m:Nat} {H H1 H2:Hp} (x:Step a L n H H1) (y:Step a L m H1 H2):Step a L m H H2:=⟨fun b o k k2 e=>y.1 b o k k2 (x.1 b o k k2 e),y.2⟩
theorem Step.same {a L:Addr} {n:Nat} {H H1 H2:Hp} (x:Step a L n H H1) (y:Same H1 H2):Step a L n H H2:=⟨fun b o k k2 e=>y b o (x.1 b o k k2 e),x.2.same y⟩
theorem Step.mono {a L:Addr} {n m:Nat} {H H':Hp} (x:Step a L n H H') (k:n<=m):Step a L m H H':=⟨x.1,x.2.mono k⟩
theorem Step.tup {a L b:Addr} {n m:Nat} {H H1:Hp} {xs:List V} (h:Hand H a L m) (x:Step a L n H H1) (e:H b=some (.tup xs)):H1 b=some (.tup xs):=by
 obtain ⟨g,s,c,e',e2,_⟩:=h;exact x.1 b _ (ne_of e e' (by intro z;cases z)) (ne_of e e2 (by intro z;cases z)) e
theorem Step.updN {a L D:Addr} {n:Nat} {H H1:Hp} {o:HO} (x:Step a L n H H1) (k:D≠a/\D≠L) (e:H D=none):Step a L n H (upd H1 D o):=by
 refine ⟨fun b u nb nL eb=>?_,?_⟩
 · rw [aH (bo eb e)];exact x.1 b u nb nL eb
 · obtain ⟨g,s,c,e1,e2,r⟩:=x.2;exact ⟨g,s,c,by rw [aH (Ne.symm k.1)];exact e1,by rw [aH (Ne.symm k.2)];exact e2,r⟩
theorem Step.lst {a L b:Addr} {n:Nat} {H H1:Hp} {xs:List V} (x:Step a L n H H1) (k:b≠a/\b≠L) (e:H b=some (.lst xs)):H1 b=some (.lst xs):=x.1 b _ k.1 k.2 e
theorem Step.none {a L b:Addr} {n:Nat} {H H1:Hp} (x:Step a L n H H1) (k:b≠a/\b≠L) (e:H1 b=none):H b=none:=by
 cases q:H b with
 | none=>rfl
 | some o=>have:=x.1 b o k.1 k.2 q;rw [e] at this;cases this
theorem aN {xs:List V} {k:Int} {j:Nat} {v:V} (h:k=(j:Int)) (hx:xs[j]? = some v):atI xs k=some v:=by subst h;exact uZ hx
theorem iF {ns:List Int} {j:Nat} (h:j<ns.length):(ns.map V.int)[j]? = some (.int ns[j]):=by rw [List.getElem?_map,List.getElem?_eq_getElem h];rfl
theorem cJ (n:Nat) (x:Int):(List.replicate n [V.int x]).flatten=(List.replicate n x).map V.int:=by
 induction n with
 | zero=>rfl
 | succ n ih=>rw [zF2,zC7,ih,zF2,zC5];rfl
theorem cT {n:Nat} (h:n<=1000):n<=sizeLine:=zH0 (aE h)
theorem mulR {a b:Int} (h1:-(2 ^ 64)<b) (h2:b<2 ^ 64):IntMulOk a b:=IntMulOk.of_right (intBits_le_64 h1 h2)
theorem vg {a b:Int} (h1:-(2 ^ 64)<a) (h2:a<2 ^ 64):IntMulOk a b:=IntMulOk.of_left (intBits_le_64 h1 h2)
theorem ix0 {n:Nat} (h:0<n):ixN n 0=some 0:=by
 unfold ixN;rw [if_pos (zE5 _),if_pos (by lia)];rfl
theorem qg (ns:List Int) (k:Int):∃ ms:List Int,fu (ns.map V.int) none (some k)=ms.map V.int/\ms.length<=ns.length:=by
 refine ⟨(ns.drop (HT.sIx (ns.map V.int).length 0 none)).take (HT.sIx (ns.map V.int).length (ns.map V.int).length (some k) - HT.sIx (ns.map V.int).length 0 none),?_,?_⟩
 · unfold fu;rw [List.map_take,List.map_drop]
 · rw [zB3,zE8];lia
theorem cH:∀ {ns:List Int},(∀ n∈ns,(1:Int)<=n)->(ns.length:Int)<=ns.sum
 | [],_=>by simp
 | x::r,h=>by
   have:=cH (ns:=r) fun n hn=>h n (zA5 _ hn);have:=h x zA3;rw [zB5,zE0];lia
theorem jy {a b:List Int} (h:a.Perm b):a.sum=b.sum:=by
 induction h with
 | nil=>rfl
 | cons x _ ih=>rw [zE0,zE0,ih]
 | swap x y l=>simp only [zE0];lia
 | trans _ _ i1 i2=>exact i1.trans i2
theorem fY:∀ {ns:List Int} {x:Int},(∀ n∈ns,(1:Int)<=n)->x∈ns->x<=ns.sum
 | y::r,x,h,hx=>by
   have h1:∀ n∈r,(1:Int)<=n:=fun n hn=>h n (zA5 _ hn);have:=cH h1;have:=h y zA3;rw [zE0];rcases zA8.mp hx with rfl | hx
   · lia
   · have:=fY h1 hx;lia
section
variable {P:Program} {w:World} {K:PySem.W.Frag} {mg:Str->Option Value} {base:Heap} {f:Addr} {fd:FuncData}
theorem sc_spool:FnScope ["_law_script","_law_seed","_law_cell"] ["_law_script"] (ap (top 157)):=.(0)
def jg (K:PySem.W.Frag):Sp:=fun vs H Q _=>∃ (a:Addr) (ns:List Int),vs=[.ref a]/\SqL K H a (ns.map V.int)/\ns.length<=63/\∀ p L H',Same H H'->Hand H' p L 0->Q (.ref p) H'
theorem pJ (F:Fun K "_law_spool" "_law_spool" (top 157) f fd) (m_abs:mg "abs" = none) (m_len:mg "len" = none):FnOk P w K mg base CX0 1 f fd ["_law_script"] (jg K):=by
 refine F.okz sc_spool .(10) .(2)
 · obtain ⟨a,ns,rfl,_⟩:=h;rfl
 obtain ⟨a,ns,rfl,hS,hl,q⟩:=h;have nd:=sc_spool.nd;have hu:=hr.units;obtain ⟨ms,em,lm⟩:=qg ns 63;refine ⟨_,(ae (ay (i:=1) nd rfl .(8) (aA aB (aA ba ah .(28)) ah))
  (ae (bi PassesOwn.never rfl (bG (bB nW (zn 0) cz (bF ah))) (az (i:=2) nd rfl .(8)) (ai (ay (i:=1) nd rfl .(8) (aA bn (aA aB (aA ba (zn 1) ah) (zn 2)) ah))))
  (ai (aq (aO (aa (aQ ["_law_cell"] [] rfl .(5) (bG (bB nW (zn 0) cz (bF ah))) aG (fun _ _ _ _=>az (i:=0) (show List.Nodup (["_law_cell"]:List Str) by decide +kernel) rfl .(8)) (fun _ _ _ _=>(bX (aj lY (iG rfl m_abs (aa (zn 0) ab) rfl rfl) (aA lW ah ah) (ao _)))) (fun _ _ _ _=>(iG rfl m_abs (aa (zn 0) ab) rfl rfl))) (aa (zn 1) (aa ah ab)))))))),?_⟩
 refine ⟨_,.inl hS,vg (by decide) (by decide),?_⟩;rw [zA0];refine ⟨_,rfl,a,rfl,.inr ⟨_,hS,fun d hd=>?_⟩⟩;rw [em];have yd:=Same.new hd (.lst (ms.map V.int));refine ⟨d,rfl,⟨_,SqL.of af⟩,eD (xs:=ms.map V.int) (fun i σ H'=>H'=upd H d (.lst (ms.map V.int))/\∃ (z:Int) (x2:Option V),σ=[some (.ref a),some (.int z),x2]/\0<=z/\z<2305843009213693951) ⟨rfl,_,_,rfl,by lia,by lia⟩ ?_ ?_ ?_⟩
 · rintro i σ H' _ ⟨rfl,_⟩;exact SqL.of af
 · rintro i x σ H' hx ⟨rfl,z,x2,rfl,z0,z1⟩;have hi:i<ms.length:=by
    have:=(List.getElem?_eq_some_iff.mp hx).1;rw [zA0] at this;exact this
   have ex:x=.int ms[i]:=by rw [iF hi] at hx;exact (Option.some.inj hx).symm
   subst ex;refine ⟨mulR (by decide) (by decide),(show (0:Int)<2305843009213693951 by decide),?_⟩;exact ⟨rfl,_,_,rfl,Int.emod_nonneg _ (by decide),Int.emod_lt_of_pos _ (by decide)⟩
 · rintro σ H' ⟨rfl,z,x2,rfl,z0,z1⟩;refine ⟨_,rfl,a,rfl,.inr ⟨_,SqL.same yd hS,fun d2 hd2=>?_⟩⟩;rw [em];have y2:=Same.new hd2 (.lst (ms.map V.int));refine ⟨d2,rfl,⟨_,SqL.of af⟩,bW (xs:=ms.map V.int) (fun i ys H'=>H'=upd (upd H d (.lst (ms.map V.int))) d2 (.lst (ms.map V.int))/\∃ gs:List Int,ys=gs.map V.int/\gs.length<=i/\∀ g∈gs,(0:Int)<=g) ⟨rfl,[],rfl,zA1 _,by simp⟩ ?_ ?_ ?_⟩
   · rintro i ys H' _ ⟨rfl,_⟩;exact SqL.of af
   · rintro i x ys H' hx ⟨rfl,gs,rfl,hg,h0⟩;have hi:i<ms.length:=by
      have:=(List.getElem?_eq_some_iff.mp hx).1;rw [zA0] at this;exact this
     have ex:x=.int ms[i]:=by rw [iF hi] at hx;exact (Option.some.inj hx).symm
     subst ex;refine ⟨by rw [zA0];exact aE (by lia),?_⟩;refine ⟨⟨by decide,by decide,by decide⟩,?_⟩;refine bK (fun c=>?_) (fun c=>?_)
     · refine ⟨rfl,gs++[if ms[i]<0 then -ms[i] else ms[i]],by rw [zA7];rfl,by rw [zA4];show gs.length+1<=i+1;lia,fun g hg'=>?_⟩;rcases zB7.mp hg' with hg' | hg'
       · exact h0 g hg'
       · have:g=if ms[i]<0 then -ms[i] else ms[i]:=by simpa using hg'
         rw [this];split <;> lia
     · exact ⟨rfl,gs,rfl,by lia,h0⟩
   · rintro ys H' ⟨rfl,gs,rfl,hg,h0⟩ L hL;rw [zA0] at hg;refine ⟨by show 3<=sizeLine;decide,fun p hp=>?_⟩;have yL:=Same.new hL (.lst (gs.map V.int));have yp:=Same.new hp (.lst [V.ref L,.int z,.int 0]);have hpL:p≠L:=fun e=>by rw [e,af] at hp;cases hp
     exact q p L _ (((yd.trans y2).trans yL).trans yp) ⟨gs,z,0,af,yp _ _ af,h0,by lia,z0,z1,by decide,by decide,hpL⟩
theorem sc_take:FnScope ["_law_spool_here","_law_many","_law_digit","_law_once","_law_twice"] ["_law_spool_here","_law_many"] (ap (top 158)):=.(0)
def dD:Sp:=fun vs H Q _=>∃ (a L:Addr) (m:Int) (n:Nat),vs=[.ref a,.int m]/\Hand H a L n/\n<1000000000/\0<m/\m<1073741824/\∀ r H',0<=r->r<m->Step a L (n+1) H H'->Q (.int r) H'
theorem ub (F:Fun K "_law_take" "_law_take" (top 158) f fd):FnOk P w K mg base CX0 1 f fd ["_law_spool_here","_law_many"] dD:=by
 refine F.okz sc_take .(10) .(2)
 · obtain ⟨a,L,m,n,rfl,_⟩:=h;rfl
 obtain ⟨a,L,m,n,rfl,hh,n1,m0,m1,q⟩:=h;have nd:=sc_take.nd;have hu:=hr.units;obtain ⟨gs,z,c,ha,hL,g0,gl,z0,z1,c0,c1,aL⟩:=hh;have rest:∃ t,ZSs (qe CX0 P w K mg base ["_law_spool_here","_law_many","_law_digit","_law_once","_law_twice"] "_law_take" (ap (top 158)) f cdv A outer s H E).nox ((bh (top 158)).drop 1) t /\
  ∀ (H1:Hp) (gs:List Int),(∀ b o,b≠a->b≠L->H b=some o->H1 b=some o)->H1 a=some (.lst [.ref L,.int z,.int c])->H1 L=some (.lst (gs.map V.int))->(∀ g∈gs,(0:Int)<=g)->gs.length<=63->t { nx:=fun _ H'=>Q .non H',rt:=Q } [some (.ref a),some (.int m),none,none,none] H1:=by
  refine ⟨_,(ae (aC (aj (bg hu) .(6) (aO ab) (ao _)) (ae (ay (i:=2) nd rfl .(8) (aA bn (aD aS .(6) ah .(11)) (zn 1)))
   (ae (dO (aA cK (aD aS .(6) ah .(11)) (zn 1)) (kw .(6) ah eh))
   (ai (aq (zn 2))))) ak)
   (ae (dO (aA aB .(6) ah) (kw (zn 0) ah eh))
   (ae (ay (i:=3) nd rfl .(8) (aA bn (aA aB .(6) (aA ba ah .(6))) ah))
   (ae (ay (i:=4) nd rfl .(8) (aA bn (aA aB (aA lW (zn 3) ah) (aA ba ah .(6))) ah))
   (ai (aq (aA bn (aA cK (zn 4) ah) (zn 1)))))))),?_⟩
  intro H1 gs kp ha hL g0 gl;refine ⟨_,.inl (SqL.of ha),.ref L,rfl,?_⟩;refine ⟨zB0 _,fun d hd=>?_⟩;have yd:=Same.new hd (.lst []);refine ⟨_,_,.lst (yd _ _ hL) (DatAll.ints gs),.lst (xs:=[]) af .nil,aU _,aU [],?_⟩;have ha':=yd _ _ ha;have hL':=yd _ _ hL;have kp':∀ b o,b≠a->b≠L->H b=some o->upd H1 d (.lst []) b=some o:=fun b o n1 n2 e=>yd _ _ (kp b o n1 n2 e);generalize upd H1 d (.lst [])=H2 at ha' hL' kp'
  cases gs with
  | nil=>
    refine ⟨_,.inl (SqL.of ha'),.int c,rfl,?_⟩
    refine ⟨a,_,_,_,rfl,rfl,ha',rfl,?_⟩
    refine ⟨_,.inl (SqL.of af),.int z,rfl,?_⟩
    refine ⟨_,.inl (SqL.of af),.int (c+1),rfl,vg (by decide) (by decide),(show (0:Int)<2305843009213693951 by decide),?_⟩
    have e1:0<=(z+104729*(c+1)) % 2305843009213693951:=Int.emod_nonneg _ (by decide)
    have e2:(z+104729*(c+1)) % 2305843009213693951<2305843009213693951:=Int.emod_lt_of_pos _ (by decide)
    refine ⟨⟨by decide,by decide,by lia⟩,?_⟩
    refine ⟨_,.inl (SqL.of af),.int (c+1),rfl,vg (by decide) (by decide),(show (0:Int)<2305843009213693951 by decide),?_⟩
    refine ⟨⟨by decide,by decide⟩,m0,?_⟩
    refine q _ _ (Int.emod_nonneg _ (by lia)) (Int.emod_lt_of_pos _ m0) ⟨fun b o k1 k2 e=>?_,[],z,c+1,af,?_,g0,gl,z0,z1,by lia,by lia,aL⟩
    · rw [aH k1];exact kp' b o k1 k2 e
    · rw [aH (Ne.symm aL)];exact hL'
  | cons g r=>
    refine ⟨_,.inl (SqL.of ha'),.ref L,rfl,?_⟩
    refine ⟨_,.inl (SqL.of hL'),.int g,aN (j:=0) rfl rfl,m0,?_⟩
    refine ⟨_,.inl (SqL.of ha'),.ref L,rfl,?_⟩
    refine ⟨_,.inl (SqL.of hL'),.int g,aN (j:=0) rfl rfl,⟨m0,m1⟩,?_⟩
    refine ⟨_,.inl (SqL.of ha'),.ref L,rfl,?_⟩
    refine ⟨L,_,_,0,rfl,rfl,hL',ix0 (by rw [zA0];exact Nat.succ_pos _),?_⟩
    have hg0:=g0 g zA3
    refine q _ _ (Int.emod_nonneg _ (by lia)) (Int.emod_lt_of_pos _ m0) ⟨fun b o k1 k2 e=>?_,(g / m)::r,z,c,?_,af,fun x hx=>?_,gl,z0,z1,c0,by lia,aL⟩
    · rw [aH k2];exact kp' b o k1 k2 e
    · rw [aH aL];exact ha'
    · rcases zA8.mp hx with rfl | hx
      · exact Int.ediv_nonneg hg0 (by lia)
      · exact g0 x (zA5 _ hx)
 obtain ⟨t2,ht2,rest⟩:=rest;refine ⟨_,(ae (gf PassesOwn.never (ZW.zt (eE (aj (bg hu) .(6) (aO ab) (ao _)) (dB (aj (av hu) (aD aS .(6) ah .(11)) ah (ao _))))) (ai (cy (rY .(6) (aa ah ab)))))
  ht2),?_⟩
 refine eJ (fun k σ H'=>∃ gs:List Int,k=gs.length/\σ=[some (.ref a),some (.int m),none,none,none]/\(∀ b o,b≠a->b≠L->H b=some o->H' b=some o)/\H' a=some (.lst [.ref L,.int z,.int c])/\H' L=some (.lst (gs.map V.int))/\(∀ g∈gs,(0:Int)<=g)/\gs.length<=63) gs.length ⟨gs,rfl,rfl,fun _ _ _ _ e=>e,ha,hL,g0,gl⟩ ?_;rintro k σ H' ⟨gs,rfl,rfl,kp,ha,hL,g0,gl⟩;refine ⟨_,.inl (SqL.of ha),.ref L,rfl,?_⟩;refine ⟨zB0 _,fun d hd=>?_⟩;have yd:=Same.new hd (.lst []);refine ⟨_,_,.lst (yd _ _ hL) (DatAll.ints gs),.lst (xs:=[]) af .nil,aU _,aU [],?_⟩;have ha':=yd _ _ ha;have hL':=yd _ _ hL;have kp':∀ b o,b≠a->b≠L->H b=some o->upd H' d (.lst []) b=some o:=fun b o n1 n2 e=>yd _ _ (kp b o n1 n2 e);generalize upd H' d (.lst [])=H2 at ha' hL' kp'
 cases gs with
 | nil=>exact rest H2 [] kp' ha' hL' g0 gl
 | cons g r=>
   refine ⟨_,.inl (SqL.of ha'),.ref L,rfl,?_⟩
   refine ⟨_,.inl (SqL.of hL'),.int g,aN (j:=0) rfl rfl,?_⟩
   refine bK (fun cc=>?_) (fun cc=>?_)
   · refine ⟨fun σ' H'=>∃ gs':List Int,gs'.length<(g::r).length/\σ'=[some (.ref a),some (.int m),none,none,none]/\(∀ b o,b≠a->b≠L->H b=some o->H' b=some o)/\H' a=some (.lst [.ref L,.int z,.int c])/\H' L=some (.lst (gs'.map V.int))/\(∀ g∈gs',(0:Int)<=g)/\gs'.length<=63,?_,?_⟩
     · rintro σ' H' ⟨gs',hlt,r'⟩;exact ⟨_,hlt,gs',rfl,r'⟩
     refine ⟨_,.inl (SqL.of ha'),.ref L,rfl,?_⟩;refine ⟨tyL hL',_,0,.int g,hL',⟨by decide,by decide⟩,(iV (ix0 (by rw [zA0];exact Nat.succ_pos _))).1,rfl,?_⟩;refine ⟨r,zF0 _,rfl,fun b o k1 k2 e=>?_,?_,af,fun x hx=>g0 x (zA5 _ hx),by have:(g::r).length=r.length+1:=rfl;lia⟩
     · rw [aH k2];exact kp' b o k1 k2 e
     · rw [aH aL];exact ha'
   · exact rest H2 (g::r) kp' ha' hL' g0 gl
end
section
variable {P:Program} {w:World} {K:PySem.W.Frag} {mg:Str->Option Value} {base:Heap} {f:Addr} {fd:FuncData}
def Prt (ns:List Int):Prop:=(∀ n∈ns,(1:Int)<=n)/\ns.Pairwise (·>=·)
theorem pick4 {k a b c d:Int} (h0:0<=k) (h1:k<4) {lo hi:Int} (ha:lo<=a/\a<=hi) (hb:lo<=b/\b<=hi) (hc:lo<=c/\c<=hi) (hd:lo<=d/\d<=hi):∃ m:Int,atI [V.int a,.int b,.int c,.int d] k=some (.int m)/\lo<=m/\m<=hi:=by
 have:k=0\/k=1\/k=2\/k=3:=by lia
 rcases this with rfl | rfl | rfl | rfl
 · exact ⟨a,rfl,ha⟩
 · exact ⟨b,rfl,hb⟩
 · exact ⟨c,rfl,hc⟩
 · exact ⟨d,rfl,hd⟩
theorem sc_parting:FnScope ["_law_spool_here","_law_most","_law_left","_law_way","_law_parts","_law_far","_law_part","_law_again"] ["_law_spool_here","_law_most"] (ap (top 162)):=.(0)
def fO:Sp:=fun vs H Q _=>∃ (a L:Addr) (most:Int) (n:Nat),vs=[.ref a,.int most]/\Hand H a L n/\n<900000000/\0<=most/\most<=300 /\
 ∀ r H' (ns:List Int),Step a L (n+1000) H H'->H' r=some (.tup (ns.map V.int))->Prt ns->ns.sum<=most->Q (.ref r) H'
theorem j4 (F:Fun K "_law_parting" "_law_parting" (top 162) f fd) (m_max:mg "max" = none) (m_min:mg "min" = none) (m_sorted:mg "sorted" = none) (m_tuple:mg "tuple" = none) (F_law_take:FnA P w K mg base "_law_take" 1 ["_law_spool_here","_law_many"] dD):FnOk P w K mg base CX0 2 f fd ["_law_spool_here","_law_most"] fO:=by
 refine F.okz sc_parting .(10) .(2)
 · obtain ⟨a,L,most,n,rfl,_⟩:=h;rfl
 obtain ⟨a,L,most,n,rfl,hh,hn,f0,f1,q⟩:=h;have nd:=sc_parting.nd;have hu:=hr.units;refine ⟨_,(ae (kq (i:=2) (j:=3) (k:=4) rfl nd rfl rfl rfl (by decide) (by decide) (by decide) rfl rfl rfl (aa (au F_law_take hr (by decide) rfl (aa (zn 0) (aa (aA aB (zn 1) ah) ab))) (aa .(12) (aa (aO ab) ab))) rfl)
  (ae (gf PassesOwn.never (aj cw (zn 2) ah (ao _)) (ae (ay (i:=5) nd rfl .(8) (aD aS (aO (aa (zn 2) (aa (dC rfl rfl m_min (aa (zn 2) (aa ah ab)) rfl rfl) (aa (dC rfl rfl m_min (aa (zn 2) (aa ah ab)) rfl rfl) (aa (kC rfl rfl m_max (aa ah (aa (aA cK (zn 2) ah) ab)) rfl rfl) ab))))) (zn 3) .(11)))
  (ae (ay (i:=6) nd rfl .(8) (aA aB ah (au F_law_take hr (by decide) rfl (aa (zn 0) (aa (zn 5) ab)))))
  (ae (ay (i:=7) nd rfl .(8) (dC rfl rfl m_min (aa (aA cK (zn 2) (zn 6)) (aa (aA aB ah (au F_law_take hr (by decide) rfl (aa (zn 0) (aa (aD aS (aO (aa ah (aa ah (aa ah (aa ah ab))))) (zn 3) .(11)) ab)))) ab)) rfl rfl))
  (ae (cy (gP (zn 4) (aa (aA ba (aO (aa (zn 6) ab)) (zn 7)) ab)))
  (ai (ay (i:=2) nd rfl .(8) (aA aP (zn 2) (aA ba (zn 6) (zn 7))))))))))
  (ai (aq (bD rfl m_tuple (aa (kB rfl m_sorted (aa (zn 4) ab) rfl) ab) rfl rfl))))),?_⟩
 refine ⟨a,L,most+1,n,rfl,hh,by lia,by lia,by lia,fun left H1 l0 l1 s1=>?_⟩;refine ⟨a,L,4,n+1,rfl,s1.2,by lia,by decide,by decide,fun way H2 w0 w1 s2=>?_⟩;have st2:=s1.trans s2;refine ⟨zB0 _,fun D hD=>?_⟩;have Dne:=st2.2.ne hD;have Dnone:H D=none:=st2.none Dne hD;have st4:Step a L (n+2) H (upd H2 D (.lst [])):=st2.same (Same.new hD _);have hD4:(upd H2 D (.lst [])) D=some (.lst (([]:List Int).map V.int)):=af;generalize upd H2 D (.lst [])=H4 at st4 hD4;refine eJ (fun m σ H'=>∃ (lf:Int) (ns:List Int) (p5 p6 p7:Option V),Step a L (n+2+2*(left - lf).toNat) H H'/\H' D=some (.lst (ns.map V.int))/\σ=[some (.ref a),some (.int most),some (.int lf),some (.int way),some (.ref D),p5,p6,p7]/\m=lf.toNat/\0<=lf/\lf<=left/\(∀ x∈ns,(1:Int)<=x)/\ns.sum+lf<=most)
  left.toNat ⟨left,[],none,none,none,st4.mono (by lia),hD4,rfl,rfl,l0,zE5 _,by simp,by simp;lia⟩ ?_
 rintro m σ H' ⟨lf,ns,p5,p6,p7,st,hDn,rfl,rfl,lf0,lfl,h1,hsum⟩;have hlen:=cH h1;refine bK (fun c=>?_) (fun c=>?_)
 · refine ⟨fun σ' H'=>∃ (lf':Int) (ns:List Int) (p5 p6 p7:Option V),Step a L (n+2+2*(left - lf').toNat) H H'/\H' D=some (.lst (ns.map V.int))/\σ'=[some (.ref a),some (.int most),some (.int lf'),some (.int way),some (.ref D),p5,p6,p7]/\lf' < lf/\0<=lf'/\lf'<=left/\(∀ x∈ns,(1:Int)<=x)/\ns.sum+lf'<=most,?_,?_⟩
   · rintro σ' H' ⟨lf',ns,p5,p6,p7,st,hDn,rfl,hlt,r⟩;exact ⟨lf'.toNat,by lia,lf',ns,p5,p6,p7,st,hDn,rfl,rfl,r⟩
   refine ⟨⟨by decide,by decide⟩,?_⟩;refine ⟨by show 4<=sizeLine;decide,fun d5 hd5=>?_⟩;have hhalf:lf / 2<=lf/\0<=lf / 2:=by lia
   obtain ⟨fr,ef,fr0,fr1⟩:=pick4 (k:=way) (a:=lf) (b:=if 6<lf then 6 else lf) (c:=if 2<lf then 2 else lf) (d:=if lf / 2 > 1 then lf / 2 else 1) (lo:=1) (hi:=lf) w0 w1 (by lia) (by split <;> lia) (by split <;> lia) (by split <;> lia);have y5:=Same.new hd5 (.lst [V.int lf,.int (if 6<lf then 6 else lf),.int (if 2<lf then 2 else lf),.int (if lf / 2 > 1 then lf / 2 else 1)]);refine ⟨_,.inl (SqL.of af),.int fr,ef,?_⟩;have st5:=st.same y5;have hD5:=y5 _ _ hDn;generalize upd H' d5 (.lst [V.int lf,.int (if 6<lf then 6 else lf),.int (if 2<lf then 2 else lf),.int (if lf / 2 > 1 then lf / 2 else 1)])=H5 at st5 hD5;refine ⟨a,L,fr,_,rfl,st5.2,by lia,by lia,by lia,fun pr H6 pr0 pr1 st6=>?_⟩;have hD6:=st6.lst Dne hD5;refine ⟨⟨by lia,by lia⟩,?_⟩;refine ⟨by show 4<=sizeLine;decide,fun d7 hd7=>?_⟩;obtain ⟨tm,et,tm0,tm1⟩:=pick4 (k:=way) (a:=1) (b:=2) (c:=9) (d:=2) (lo:=1) (hi:=9) w0 w1 (by decide) (by decide) (by decide) (by decide);have y7:=Same.new hd7 (.lst [V.int 1,.int 2,.int 9,.int 2]);refine ⟨_,.inl (SqL.of af),.int tm,et,?_⟩;have st7:=(st5.trans st6).same y7;have hD7:=y7 _ _ hD6;generalize upd H6 d7 (.lst [V.int 1,.int 2,.int 9,.int 2])=H7 at st7 hD7;refine ⟨a,L,tm,_,rfl,st7.2,by lia,by lia,by lia,fun ag H8 ag0 ag1 st8=>?_⟩;have hD8:=st8.lst Dne hD7;have st9:=st7.trans st8;have hdiv1:1<=lf / (1+pr):=(Int.le_ediv_iff_mul_le (by lia)).mpr (by lia);have hdiv2:(1+pr)*(lf / (1+pr))<=lf:=Int.mul_ediv_self_le (by lia);have hA:1<=(if 1+ag<lf / (1+pr) then 1+ag else lf / (1+pr))/\(if 1+ag<lf / (1+pr) then 1+ag else lf / (1+pr))<=lf / (1+pr):=by split <;> lia
   have hA9:(if 1+ag<lf / (1+pr) then 1+ag else lf / (1+pr))<=10:=by split <;> lia
   have eA:∃ A':Int,A'=(if 1+ag<lf / (1+pr) then 1+ag else lf / (1+pr)):=⟨_,rfl⟩
   obtain ⟨A',eA⟩:=eA;rw [← eA] at hA hA9;have hmul:(1+pr)*A'<=lf:=zD4 (Int.mul_le_mul_of_nonneg_left hA.2 (by lia)) hdiv2;have hmul0:1<=(1+pr)*A':=by
    have:=Int.mul_le_mul (show (1:Int)<=1+pr by lia) hA.1 (by decide) (by lia);lia
   refine ⟨tyL hD8,by show 1<=sizeLine;decide,fun d9 hd9=>?_⟩;have y9:=Same.new hd9 (.lst [V.int (1+pr)]);have eN:((if 1+ag<lf / (1+pr) then 1+ag else lf / (1+pr)):Int).toNat=A'.toNat:=by rw [eA]
   refine ⟨⟨by rw [← eA];lia,by rw [← eA];lia⟩,.inl ⟨_,af,cT (by rw [eN];show 1*A'.toNat<=1000;lia),fun d10 hd10=>?_⟩⟩;rw [eN,cJ];have y10:=Same.new hd10 (.lst ((List.replicate A'.toNat (1+pr)).map V.int));refine ⟨_,_,y10 _ _ (y9 _ _ hD8),af,cT (by rw [zA0,zA0,zC8];lia),?_⟩;refine ⟨mulR (by rw [← eA];lia) (by rw [← eA];lia),?_⟩;have e8:ns.map V.int++(List.replicate A'.toNat (1+pr)).map V.int=(ns++List.replicate A'.toNat (1+pr)).map V.int:=by rw [zA7]
   rw [e8];refine ⟨lf - (1+pr)*A',ns++List.replicate A'.toNat (1+pr),some (.int fr),some (.int (1+pr)),some (.int (if 1+ag<lf / (1+pr) then 1+ag else lf / (1+pr))),(((st9.same y9).same y10).updN Dne Dnone).mono (by lia),af,?_,by lia,by lia,by lia,fun x hx=>?_,?_⟩
   · rw [eA];rfl
   · rcases zB7.mp hx with hx | hx
     · exact h1 x hx
     · have:=List.eq_of_mem_replicate hx;lia
   · rw [List.sum_append,List.sum_replicate_int];have:((A'.toNat:Nat):Int)=A':=by lia
     rw [this,Int.mul_comm A' (1+pr)];lia
 · refine ⟨ns,.inl (SqL.of hDn),fun l ns' hl perm ord=>?_⟩;refine ⟨_,.inl (SqL.of af),fun r H9 y9 hr9=>?_⟩;refine q r H9 ns' (((st.mono (by lia)).same (Same.new hl _)).same y9) hr9 ⟨fun x hx=>h1 x (perm.mem_iff.mp hx),ord⟩ ?_;have:ns'.sum=ns.sum:=jy perm;lia
end
end K73
namespace M67
open PySem
def jl (c:Nat):List (List Nat)->List Nat
 | []=>[]
 | [x]=>x
 | x::y::r=>x++c::jl c (y::r)
theorem bO (a b:Str):(a++b).cps.toList=a.cps.toList++b.cps.toList:=by
 show (a.cps++b.cps).toList=_;exact zG4
theorem join_list (c:Nat):∀ ys:List Str,(Str.join ⟨#[c]⟩ ys).cps.toList=jl c (ys.map fun y=>y.cps.toList)
 | []=>rfl
 | [x]=>rfl
 | x::y::r=>by
   show ((x++⟨#[c]⟩++Str.join ⟨#[c]⟩ (y::r):Str)).cps.toList=_;rw [bO,bO,join_list c (y::r)];show x.cps.toList++[c]++_=x.cps.toList++c::_;simp
theorem rB {c:Nat}:∀ {a b r s:List Nat},c∉a->c∉b->a++c::r=b++c::s->a=b/\r=s
 | [],[],_,_,_,_,e=>⟨rfl,(List.cons.inj e).2⟩
 | [],y::b,_,_,_,hb,e=>absurd (by rw [(List.cons.inj e).1];exact zA3) hb
 | x::a,[],_,_,ha,_,e=>absurd (by rw [← (List.cons.inj e).1];exact zA3) ha
 | x::a,y::b,_,_,ha,hb,e=>by
   obtain ⟨e1,e2⟩:=List.cons.inj e;obtain ⟨h1,h2⟩:=rB (fun h=>ha (zA5 _ h)) (fun h=>hb (zA5 _ h)) e2;exact ⟨by rw [e1,h1],h2⟩
theorem rc {c:Nat}:∀ {xs ys:List (List Nat)},xs≠[]->ys≠[]->(∀ x∈xs,c∉x)->(∀ y∈ys,c∉y)->jl c xs=jl c ys->xs=ys
 | [],_,h,_,_,_,_=>absurd rfl h
 | _::_,[],_,h,_,_,_=>absurd rfl h
 | [x],[y],_,_,_,_,e=>by rw [show x=y from e]
 | [x],y::z::r,_,_,hx,_,e=>by
   have:c∈x:=by rw [show x=y++c::jl c (z::r) from e];simp
   exact absurd this (hx x zA3)
 | x::w::q,[y],_,_,_,hy,e=>by
   have:c∈y:=by rw [← show x++c::jl c (w::q)=y from e];simp
   exact absurd this (hy y zA3)
 | x::w::q,y::z::r,_,_,hx,hy,e=>by
   obtain ⟨e1,e2⟩:=rB (hx x zA3) (hy y zA3) (show x++c::jl c (w::q)=y++c::jl c (z::r) from e);rw [e1,rc (zE2 _ _) (zE2 _ _) (fun u hu=>hx u (zA5 _ hu)) (fun u hu=>hy u (zA5 _ hu)) e2]
theorem kP {a b:Str} (h:a.cps.toList=b.cps.toList):a=b:=by
 cases a;cases b
 congr 1;exact Array.toList_inj.mp h
theorem e9:∀ {xs ys:List Str},xs.map (fun y=>y.cps.toList)=ys.map (fun y=>y.cps.toList)->xs=ys
 | [],[],_=>rfl
 | [],_::_,e=>by cases e
 | _::_,[],e=>by cases e
 | x::xs,y::ys,e=>by
   obtain ⟨e1,e2⟩:=List.cons.inj e;rw [kP e1,e9 e2]
theorem cI {c:Nat} {ys:List Str} (hn:ys≠[]) (h:∀ y∈ys,c∉y.cps.toList):Txt.split (Txt.join ⟨#[c]⟩ ys) ⟨#[c]⟩=ys:=by
 have e0:Txt.join ⟨#[c]⟩ ys=Str.join ⟨#[c]⟩ ys:=StrLaws.glued_eq_join _ _;rw [e0];have e1:=StrLaws.join_split (Str.join ⟨#[c]⟩ ys) ⟨#[c]⟩;have hf:=StrLaws.split_free (Str.join ⟨#[c]⟩ ys) c;have hp:=PyProof.Rows.split_pos (Str.join ⟨#[c]⟩ ys) ⟨#[c]⟩;generalize Txt.split (Str.join ⟨#[c]⟩ ys) ⟨#[c]⟩=zs at e1 hf hp;have hz:zs≠[]:=fun z=>by rw [z] at hp;exact absurd hp (by decide)
 refine e9 (rc (c:=c) (by simpa using hz) (by simpa using hn) ?_ ?_ ?_)
 · intro x hx;obtain ⟨y,hy,rfl⟩:=zD2.mp hx;exact hf y hy
 · intro x hx;obtain ⟨y,hy,rfl⟩:=zD2.mp hx;exact h y hy
 · rw [← join_list,← join_list,e1]
def nt (n:Int):Str:=Str.ofString (toString n)
theorem er (m:Nat):(nt (m:Int)).cps.toList=(Nat.toDigits 10 m).map Char.toNat:=PySem.W.KIN.signs_num m
theorem mT {ch:Char} (h:ch.isDigit=true):48<=ch.toNat/\ch.toNat<=57:=by
 unfold Char.isDigit at h;rw [zD6,decide_eq_true_iff,decide_eq_true_iff] at h;exact ⟨h.1,h.2⟩
theorem gE {n:Int} (h0:0<=n):∀ c∈(nt n).cps.toList,48<=c/\c<=57:=by
 obtain ⟨m,rfl⟩:=Int.eq_ofNat_of_zero_le h0;intro c hc;rw [er] at hc;obtain ⟨ch,hch,rfl⟩:=zD2.mp hc;exact mT (Nat.isDigit_of_mem_toDigits (by decide) (by decide) hch)
theorem kJ {m:Nat} (h:10<=m):Nat.toDigits 10 m=Nat.toDigits 10 (m / 10)++[Nat.digitChar (m % 10)]:=by
 have hm:m % 10<10:=Nat.mod_lt m (by decide);have t:Nat.toDigits 10 (m / 10)++Nat.toDigits 10 (m % 10)=Nat.toDigits 10 (10*(m / 10)+m % 10):=Nat.toDigits_append_toDigits (by decide) (by lia) hm;rw [Nat.div_add_mod] at t;rw [← t,Nat.toDigits_of_lt_base hm]
theorem kK:∀ (k m:Nat),m<10 ^ (k+1)->1<=(Nat.toDigits 10 m).length/\(Nat.toDigits 10 m).length<=k+1
 | 0,m,h=>by rw [Nat.toDigits_of_lt_base (by simpa using h)];exact ⟨zA1 1,zA1 1⟩
 | k+1,m,h=>by
   by_cases hm:m<10
   · rw [Nat.toDigits_of_lt_base hm];exact ⟨zA1 1,by show 1<=_;lia⟩
   · rw [kJ (by lia),zA4];have hlt:m / 10<10 ^ (k+1):=by
      rw [Nat.pow_succ] at h;lia
     have:=kK k (m / 10) hlt;show 1<=_+1/\_+1<=_;lia
theorem ot:∀ (m:Nat),1<=m->∃ ch r,Nat.toDigits 10 m=ch::r/\ch.toNat≠48:=by
 intro m;induction m using Nat.strongRecOn with
 | _ m ih=>
   intro h
   by_cases hm:m<10
   · rw [Nat.toDigits_of_lt_base hm];refine ⟨_,_,rfl,?_⟩;have:∀ d:Nat,d<10->1<=d->(Nat.digitChar d).toNat≠48:=by decide
     exact this m hm h
   · obtain ⟨ch,r,e,hc⟩:=ih (m / 10) (by lia) (by lia);rw [kJ (by lia),e];exact ⟨ch,_,rfl,hc⟩
theorem bu {n:Int} (h0:0<=n) (h1:n<1000000):1<=(nt n).length/\(nt n).length<=6:=by
 obtain ⟨m,rfl⟩:=Int.eq_ofNat_of_zero_le h0;have t6:(10:Nat) ^ (5+1)=1000000:=by decide
 have:=kK 5 m (by lia);have e:(nt (m:Int)).length=(Nat.toDigits 10 m).length:=by
  show (nt (m:Int)).cps.size=_;rw [← zB6,er,zA0]
 lia
theorem jz {n:Int} (h:1<=n):∃ c,(nt n).cps.toList[0]? = some c/\c≠48:=by
 obtain ⟨m,rfl⟩:=Int.eq_ofNat_of_zero_le (show 0<=n by lia);obtain ⟨ch,r,e,hc⟩:=ot m (by lia);refine ⟨ch.toNat,?_,hc⟩;rw [er,e];rfl
theorem ten10:(10:Int) ^ 10=10000000000:=by decide
theorem gC {n:Int} (h0:0<=n) (h1:n<1000000):intText? (nt n)=some n:=PySem.W.KIN.num_reads h0 (by rw [ten10];lia)
theorem bM {n:Int} {c:Nat} (h0:0<=n) (hc:c<48):c∉(nt n).cps.toList:=fun h=>by
 have:=gE h0 c h;lia
end M67
namespace M68
open PySem M67
inductive Kd where
 | bare (w:Str)
 | one (w:Str) (n:Int)
 | box (a b:Int)
 | rests (m:Int) (rs:List Int)
def Kd.Ok:Kd->Prop
 | .bare w=>w=Str.ofString "all"\/w=Str.ofString "own"
 | .one w n=>((w=Str.ofString "most"\/w=Str.ofString "few"\/w=Str.ofString "off")/\1<=n/\n<=600)\/(w=Str.ofString "times"/\2<=n/\n<=60)
 | .box a b=>(1<=a/\a<=600)/\1<=b/\b<=600
 | .rests m rs=>(2<=m/\m<=60)/\rs≠[]/\rs.Pairwise (· < ·)/\(∀ r∈rs,0<=r/\r<m)/\rs.length<=60
def Kd.words:Kd->List Str
 | .bare w=>[w]
 | .one w n=>[w,nt n]
 | .box a b=>[Str.ofString "box",nt a,nt b]
 | .rests m rs=>[Str.ofString "rests",nt m,Txt.join (Str.ofString ",") (rs.map nt)]
def Kd.text (k:Kd):Str:=Txt.join .(19) k.words
theorem sp_is:.(19)=⟨#[32]⟩:=by decide +kernel
theorem gN:(Str.ofString ",")=⟨#[44]⟩:=by decide +kernel
theorem joinE (z:Str) (ys:List Str):Txt.join z ys=Str.join z ys:=StrLaws.glued_eq_join _ _
theorem ra {c d:Nat}:∀ {xs:List (List Nat)},d∈jl c xs->d=c\/∃ x∈xs,d∈x
 | [],h=>by cases h
 | [x],h=>.inr ⟨x,zA3,h⟩
 | x::y::r,h=>by
   have h':d∈x++c::jl c (y::r):=h;rcases zB7.mp h' with h1 | h1
   · exact .inr ⟨x,zA3,h1⟩
   · rcases zA8.mp h1 with h2 | h2
     · exact .inl h2
     · rcases ra h2 with h3 | ⟨z,hz,h3⟩
       · exact .inl h3
       · exact .inr ⟨z,zA5 _ hz,h3⟩
theorem sO {rs:List Int} (h:∀ r∈rs,(0:Int)<=r):32∉(Txt.join (Str.ofString ",") (rs.map nt)).cps.toList:=fun z=>by
 rw [gN,joinE,join_list] at z;rcases ra z with z | ⟨x,hx,z⟩
 · exact absurd z (by decide)
 · rw [zI1] at hx;obtain ⟨r,hr,rfl⟩:=zD2.mp hx;exact bM (h r hr) (by decide) z
theorem fN {k:Kd} (h:k.Ok):∀ y∈k.words,32∉y.cps.toList:=by
 intro y hy
 cases k with
 | bare w=>
   have e:y=w:=by simpa [Kd.words] using hy
   subst e
   rcases h with rfl | rfl <;> decide +kernel
 | one w n=>
   have e:y=w\/y=nt n:=by simpa [Kd.words] using hy
   rcases e with rfl | rfl
   · rcases h with ⟨rfl | rfl | rfl,_⟩ | ⟨rfl,_⟩ <;> decide +kernel
   · exact bM (by rcases h with ⟨_,h,_⟩ | ⟨_,h,_⟩ <;> lia) (by decide)
 | box a b=>
   have e:y=Str.ofString "box"\/y=nt a\/y=nt b:=by simpa [Kd.words] using hy
   obtain ⟨⟨h1,_⟩,h2,_⟩:=h
   rcases e with rfl | rfl | rfl
   · decide +kernel
   · exact bM (by lia) (by decide)
   · exact bM (by lia) (by decide)
 | rests m rs=>
   obtain ⟨⟨h1,_⟩,_,_,h4,_⟩:=h
   have e:y=Str.ofString "rests"\/y=nt m\/y=Txt.join (Str.ofString ",") (rs.map nt):=by simpa [Kd.words] using hy
   rcases e with rfl | rfl | rfl
   · decide +kernel
   · exact bM (by lia) (by decide)
   · exact sO fun r hr=>(h4 r hr).1
theorem jU {k:Kd} (h:k.Ok):Txt.split k.text .(19)=k.words:=by
 unfold Kd.text;rw [sp_is];refine cI ?_ (fN h)
 cases k <;> exact zE2 _ _
theorem oH {rs:List Int} (hn:rs≠[]) (h:∀ r∈rs,(0:Int)<=r):Txt.split (Txt.join (Str.ofString ",") (rs.map nt)) (Str.ofString ",")=rs.map nt:=by
 rw [gN];refine cI (by simpa using hn) fun y hy=>?_;obtain ⟨r,hr,rfl⟩:=zD2.mp hy;exact bM (h r hr) (by decide)
theorem app_len (a b:Str):(a++b).length=a.length+b.length:=by
 show (a.cps++b.cps).size=_;rw [Array.size_append];rfl
theorem join_len (c:Nat):∀ ys:List Str,(Str.join ⟨#[c]⟩ ys).length<=(ys.map (·.length)).sum+ys.length
 | []=>zB0 _
 | [x]=>by show x.length<=_;simp
 | x::y::r=>by
   have:=join_len c (y::r);show ((x++⟨#[c]⟩++Str.join ⟨#[c]⟩ (y::r):Str)).length<=_;rw [app_len,app_len,show (⟨#[c]⟩:Str).length=1 from rfl];simp only [zC5,zE0,zB5] at this ⊢;lia
theorem nts_sum {ns:List Int} {k:Nat} (h:∀ n∈ns,(nt n).length<=k):((ns.map nt).map (·.length)).sum<=ns.length*k:=by
 induction ns with
 | nil=>simp
 | cons x r ih=>
   have:=ih fun n hn=>h n (zA5 _ hn)
   have:=h x zA3
   simp only [zC5,zE0,zB5]
   rw [Nat.add_mul,Nat.one_mul]
   lia
theorem qO {rs:List Int} (h:∀ r∈rs,0<=r/\r<1000000):(Txt.join (Str.ofString ",") (rs.map nt)).length<=rs.length*7:=by
 rw [gN,joinE];have h1:=join_len 44 (rs.map nt);have h2:=nts_sum (ns:=rs) (k:=6) fun r hr=>(bu (h r hr).1 (h r hr).2).2;rw [zA0] at h1;lia
theorem gS {k:Kd} (h:k.Ok):(k.words.map (·.length)).sum<=440/\k.words.length<=3:=by
 cases k with
 | bare w=>
   refine ⟨?_,by show 1<=3;decide⟩
   show w.length+0<=440
   have:w.length<=3:=by rcases h with rfl | rfl <;> decide +kernel
   lia
 | one w n=>
   refine ⟨?_,by show 2<=3;decide⟩
   show w.length+((nt n).length+0)<=440
   have:w.length<=5:=by rcases h with ⟨rfl | rfl | rfl,_⟩ | ⟨rfl,_⟩ <;> decide +kernel
   have:=(bu (n:=n) (by rcases h with ⟨_,h,_⟩ | ⟨_,h,_⟩ <;> lia) (by rcases h with ⟨_,_,h⟩ | ⟨_,_,h⟩ <;> lia)).2
   lia
 | box a b=>
   obtain ⟨⟨h1,h2⟩,h3,h4⟩:=h
   refine ⟨?_,by show 3<=3;decide⟩
   show (Str.ofString "box").length+((nt a).length+((nt b).length+0))<=440
   have:(Str.ofString "box").length=3:=by decide +kernel
   have:=(bu (n:=a) (by lia) (by lia)).2
   have:=(bu (n:=b) (by lia) (by lia)).2
   lia
 | rests m rs=>
   obtain ⟨⟨h1,h2⟩,h3,h4,h5,h6⟩:=h
   refine ⟨?_,by show 3<=3;decide⟩
   show (Str.ofString "rests").length+((nt m).length+((Txt.join (Str.ofString ",") (rs.map nt)).length+0))<=440
   have:(Str.ofString "rests").length=5:=by decide +kernel
   have:=(bu (n:=m) (by lia) (by lia)).2
   have:=qO (rs:=rs) fun r hr=>⟨(h5 r hr).1,by have:=(h5 r hr).2;lia⟩
   lia
theorem gp {k:Kd} (h:k.Ok):k.text.length<=443:=by
 obtain ⟨h1,h2⟩:=gS h;have h3:=join_len 32 k.words;unfold Kd.text;rw [sp_is,joinE];lia
theorem ip {k:Kd} (h:k.Ok):(k.words.map (·.length)).sum+k.words.length*.(19).length<=16777216:=by
 obtain ⟨h1,h2⟩:=gS h;have:.(19).length=1:=by decide +kernel
 rw [this];lia
theorem sP {rs:List Int} (h:∀ r∈rs,0<=r/\r<1000000) (hl:rs.length<=60):((rs.map nt).map (·.length)).sum+(rs.map nt).length*(Str.ofString ",").length<=16777216:=by
 have h2:=nts_sum (ns:=rs) (k:=6) fun r hr=>(bu (h r hr).1 (h r hr).2).2;have:(Str.ofString ",").length=1:=by decide +kernel
 rw [this,zA0];lia
theorem uk:nt 0=Str.ofString "0":=by decide +kernel
end M68
namespace K73
open PySem L2 M67 M68
def KdAt (H:Hp) (c:Addr):Kd->Prop
 | .bare w=>H c=some (.tup [.str w])
 | .one w n=>H c=some (.tup [.str w,.int n])
 | .box a b=>H c=some (.tup [.str (Str.ofString "box"),.int a,.int b])
 | .rests m rs=>∃ d,H c=some (.tup [.str (Str.ofString "rests"),.int m,.ref d])/\H d=some (.tup (rs.map V.int))
theorem KdAt.same {H H':Hp} {c:Addr} {k:Kd} (h:KdAt H c k) (y:Same H H'):KdAt H' c k:=by
 cases k with
 | bare w=>exact y _ _ h
 | one w n=>exact y _ _ h
 | box a b=>exact y _ _ h
 | rests m rs=>obtain ⟨d,h1,h2⟩:=h;exact ⟨d,y _ _ h1,y _ _ h2⟩
theorem tF {k a b c:Int} (h0:0<=k) (h1:k<3) {lo hi:Int} (ha:lo<=a/\a<=hi) (hb:lo<=b/\b<=hi) (hc:lo<=c/\c<=hi):∃ m:Int,atI [V.int a,.int b,.int c] k=some (.int m)/\lo<=m/\m<=hi:=by
 have:k=0\/k=1\/k=2:=by lia
 rcases this with rfl | rfl | rfl
 · exact ⟨a,rfl,ha⟩
 · exact ⟨b,rfl,hb⟩
 · exact ⟨c,rfl,hc⟩
section
variable {P:Program} {w:World} {K:PySem.W.Frag} {mg:Str->Option Value} {base:Heap} {f:Addr} {fd:FuncData}
theorem sc_kind:FnScope ["_law_spool_here","_law_most","_law_way","_law_far","_law_number","_law_word","_law_m","_law_some"] ["_law_spool_here","_law_most"] (ap (top 159)):=.(0)
def iO:Sp:=fun vs H Q _=>∃ (a L:Addr) (most:Int) (n:Nat),vs=[.ref a,.int most]/\Hand H a L n/\n<900000000/\1<=most/\most<=8 /\
 ∀ c H' (k:Kd),Step a L (n+100) H H'->KdAt H' c k->k.Ok->Q (.ref c) H'
theorem ug (F:Fun K "_law_kind" "_law_kind" (top 159) f fd) (m_range:mg "range" = none) (m_tuple:mg "tuple" = none) (F_law_take:FnA P w K mg base "_law_take" 1 ["_law_spool_here","_law_many"] dD):FnOk P w K mg base CX0 2 f fd ["_law_spool_here","_law_most"] iO:=by
 refine F.okz sc_kind .(10) .(2)
 · obtain ⟨a,L,m,n,rfl,_⟩:=h;rfl
 obtain ⟨a,L,most,n,rfl,hh,hn,m0,m1,q⟩:=h;have nd:=sc_kind.nd;have hu:=hr.units;refine ⟨_,(ae (fL (i:=2) (j:=3) rfl nd rfl rfl (by decide) rfl rfl (aa (au F_law_take hr (by decide) rfl (aa (zn 0) .(29))) (aa .(12) ab)) rfl)
  (ae (ay (i:=4) nd rfl .(8) (aA aB ah (au F_law_take hr (by decide) rfl (aa (zn 0) (aa (aD aS (aO (aa ah (aa ah (aa ah ab)))) (zn 3) .(11)) ab)))))
  (ae (aC (aj (av hu) (zn 2) ah (ao _)) (ai (aq (aK (aa am ab)))) ak)
  (ae (aC (aj fW (zn 2) ah (ao _)) (ae (ay (i:=5) nd rfl .(8) (aD aS (aO (aa am (aa am (aa am (aa am ab))))) (zn 2) .(11)))
  (ai (aq (aK (aa (zn 5) (aa (zn 4) ab)))))) ak)
  (ae (aC (aj (av hu) (zn 2) ah (ao _)) (ai (aq (aK (aa am (aa (zn 4) (aa (aA aB ah (au F_law_take hr (by decide) rfl (aa (zn 0) (aa (aD aS (aO (aa ah (aa ah (aa ah ab)))) .(12) .(11)) ab)))) ab)))))) ak)
  (ae (aC (aj (av hu) (zn 2) ah (ao _)) (ai (aq (aK (aa am ab)))) ak)
  (ae (ay (i:=6) nd rfl .(8) (aA aB ah (au F_law_take hr (by decide) rfl (aa (zn 0) (aa (aD aS (aO (aa ah (aa ah (aa ah ab)))) (zn 3) .(11)) ab)))))
  (ae (aC (aj (av hu) (zn 2) ah (ao _)) (ai (aq (aK (aa am (aa (zn 6) ab))))) ak)
  (ae (fK (i:=7) ["_law_rest"] [("_law_spool_here",0)] rfl nd rfl .(8) .(5) (c6 rfl m_range (aa (zn 6) ab)) aG (fun _ _ _ _=>az (i:=0) (show List.Nodup (["_law_rest","_law_spool_here"]:List Str) by decide +kernel) rfl .(8)) (fun _ _ _ _=>(bX (aj (av hu) (au F_law_take hr (by decide) rfl (aa (zn 1) (aa ah ab))) ah (ao _)))) (fun _ _ _ _=>(zn 0)))
  (ai (aq (aK (aa am (aa (zn 6) (aa (aW (aj (bg hu) (zn 7) (aO ab) (ao _)) (bD rfl m_tuple (aa (zn 7) ab) rfl rfl) (aK (aa (aA bn (zn 4) (zn 6)) ab))) ab))))))))))))))),?_⟩
 refine ⟨a,L,most,n,rfl,hh,by lia,by lia,by lia,fun way H1 w0 w1 st1=>?_⟩;refine ⟨a,L,3,n+1,rfl,st1.2,by lia,by decide,by decide,fun far H2 f0 f1 st2=>?_⟩;refine ⟨_,_,rfl,?_⟩;have t2:=st1.trans st2;refine ⟨by show 3<=sizeLine;decide,fun d3 hd3=>?_⟩;have y3:=Same.new hd3 (.lst [V.int 6,.int 30,.int 600]);obtain ⟨x,ex,x0,x1⟩:=tF (a:=6) (b:=30) (c:=600) f0 f1 (lo:=1) (hi:=600) (by decide) (by decide) (by decide);refine ⟨_,.inl (SqL.of af),.int x,ex,?_⟩;refine ⟨a,L,x,n+1+1,rfl,(t2.same y3).2,by lia,by lia,by lia,fun nr H4 n0 n1 st4=>?_⟩;have t4:=(t2.same y3).trans st4;have hnum:1<=1+nr/\1+nr<=600:=by lia
 refine bK (fun c=>?_) (fun c0=>?_)
 · refine ⟨by show 1<=sizeLine;decide,fun d5 hd5=>?_⟩;exact q d5 _ (.bare (Str.ofString "all")) ((t4.same (Same.new hd5 _)).mono (by lia)) af (.inl rfl)
 refine bK (fun c=>?_) (fun c4=>?_)
 · refine ⟨by show 4<=sizeLine;decide,fun d5 hd5=>?_⟩;have y5:=Same.new hd5 (.lst [V.str (Str.ofString "all"),.str (Str.ofString "most"),.str (Str.ofString "few"),.str (Str.ofString "off")]);have:way=1\/way=2\/way=3:=by
    have:way≠0:=fun z=>c0 (by rw [z]);lia
   obtain ⟨wd,ewd,hwd⟩:∃ wd:Str,atI [V.str (Str.ofString "all"),.str (Str.ofString "most"),.str (Str.ofString "few"),.str (Str.ofString "off")] way=some (.str wd)/\(wd=Str.ofString "most"\/wd=Str.ofString "few"\/wd=Str.ofString "off"):=by
    rcases this with rfl | rfl | rfl
    · exact ⟨_,rfl,.inl rfl⟩
    · exact ⟨_,rfl,.inr (.inl rfl)⟩
    · exact ⟨_,rfl,.inr (.inr rfl)⟩
   refine ⟨_,.inl (SqL.of af),.str wd,ewd,?_⟩;refine ⟨by show 2<=sizeLine;decide,fun d6 hd6=>?_⟩;exact q d6 _ (.one wd (1+nr)) (((t4.same y5).same (Same.new hd6 _)).mono (by lia)) af (.inl ⟨hwd,hnum⟩)
 refine bK (fun c=>?_) (fun c5=>?_)
 · refine ⟨by show 3<=sizeLine;decide,fun d5 hd5=>?_⟩;have y5:=Same.new hd5 (.lst [V.int 6,.int 30,.int 600]);have t5:=t4.same y5;have ne5:=t4.2.ne hd5;refine ⟨a,L,3,_,rfl,t5.2,by lia,by decide,by decide,fun far2 H6 g0 g1 st6=>?_⟩;obtain ⟨u,eu,u0,u1⟩:=tF (a:=6) (b:=30) (c:=600) g0 g1 (lo:=1) (hi:=600) (by decide) (by decide) (by decide);refine ⟨_,.inl (SqL.of (st6.lst ne5 af)),.int u,eu,?_⟩;refine ⟨a,L,u,_,rfl,st6.2,by lia,by lia,by lia,fun v H7 v0 v1 st7=>?_⟩;refine ⟨by show 3<=sizeLine;decide,fun d8 hd8=>?_⟩;exact q d8 _ (.box (1+nr) (1+v)) ((((t5.trans st6).trans st7).same (Same.new hd8 _)).mono (by lia)) af ⟨hnum,by lia,by lia⟩
 refine bK (fun c=>?_) (fun c7=>?_)
 · refine ⟨by show 1<=sizeLine;decide,fun d5 hd5=>?_⟩;exact q d5 _ (.bare (Str.ofString "own")) ((t4.same (Same.new hd5 _)).mono (by lia)) af (.inr rfl)
 refine ⟨by show 3<=sizeLine;decide,fun d5 hd5=>?_⟩;have y5:=Same.new hd5 (.lst [V.int 4,.int 12,.int 59]);obtain ⟨z,ez,z0,z1⟩:=tF (a:=4) (b:=12) (c:=59) f0 f1 (lo:=1) (hi:=59) (by decide) (by decide) (by decide);refine ⟨_,.inl (SqL.of af),.int z,ez,?_⟩;refine ⟨a,L,z,_,rfl,(t4.same y5).2,by lia,by lia,by lia,fun mr H6 r0 r1 st6=>?_⟩;have t6:=(t4.same y5).trans st6;have hm:2<=2+mr/\2+mr<=60:=by lia
 refine bK (fun c=>?_) (fun c8=>?_)
 · refine ⟨by show 2<=sizeLine;decide,fun d7 hd7=>?_⟩;exact q d7 _ (.one (Str.ofString "times") (2+mr)) ((t6.same (Same.new hd7 _)).mono (by lia)) af (.inr ⟨rfl,hm⟩)
 refine ⟨(2+mr),rfl,by lia,by lia,cj (fun i ys H'=>Step a L (n+1+1+1+1+i) H H'/\∃ rs:List Int,ys=rs.map V.int/\rs.length<=i/\rs.Pairwise (· < ·)/\∀ r∈rs,0<=r/\r<i) ⟨t6,[],rfl,zB0 _,List.Pairwise.nil,fun r hr=>(nomatch hr)⟩ ?_ ?_⟩
 · rintro i ys H' hi ⟨st,rs,rfl,rl,rp,rb⟩;refine ⟨by rw [zA0];exact aE (by lia),?_⟩;refine ⟨a,L,2,_,rfl,st.2,by lia,by decide,by decide,fun b H7 b0 b1 st7=>?_⟩;refine bK (fun c=>?_) (fun c=>?_)
   · refine ⟨(st.trans st7).mono (by lia),rs++[0+(i:Int)],by rw [zA7];rfl,by rw [zA4];show rs.length+1<=i+1;lia,?_,fun r hr'=>?_⟩
     · refine zC4.mpr ⟨rp,zF9 _ _,fun u hu v hv=>?_⟩;have:v=0+(i:Int):=by simpa using hv
       have:=rb u hu;lia
     · rcases zB7.mp hr' with h | h
       · have:=rb r h;lia
       · have:r=0+(i:Int):=by simpa using h
         lia
   · refine ⟨(st.trans st7).mono (by lia),rs,rfl,by lia,rp,fun r hr'=>?_⟩;have:=rb r hr';lia
 · rintro ys H' ⟨st,rs,rfl,rl,rp,rb⟩ D hD;have yD:=Same.new hD (.lst (rs.map V.int));refine ⟨zB0 _,fun e he=>?_⟩;have ye:=Same.new he (.lst []);refine ⟨_,_,.lst (ye _ _ af) (DatAll.ints rs),.lst (xs:=[]) af .nil,aU _,aU [],?_⟩;have hD1:=ye _ _ (show (upd H' D (.lst (rs.map V.int))) D=some (.lst (rs.map V.int)) from af);have t7:=(st.same yD).same ye;have hm':((2+mr).toNat:Int)=2+mr:=Int.toNat_of_nonneg (by lia);generalize upd (upd H' D (.lst (rs.map V.int))) e (.lst [])=H7 at hD1 t7
   cases rs with
   | nil=>
     refine ⟨by show (0:Int)<(2+mr);lia,?_⟩
     refine ⟨by show 1<=sizeLine;decide,fun g hg=>?_⟩
     have yg:=Same.new hg (.tup [V.int ((1+nr) % (2+mr))])
     refine ⟨by show 3<=sizeLine;decide,fun c hc=>?_⟩
     have yc:=Same.new hc (.tup [V.str (Str.ofString "rests"),.int (2+mr),.ref g])
     refine q c _ (.rests (2+mr) [(1+nr) % (2+mr)]) (((t7.same yg).same yc).mono (by lia)) ⟨g,af,yc _ _ af⟩ ⟨hm,zE2 _ _,zF9 _ _,fun r hr'=>?_,by show 1<=60;decide⟩
     have:r=(1+nr) % (2+mr):=by simpa using hr'
     rw [this]
     exact ⟨Int.emod_nonneg _ (by lia),Int.emod_lt_of_pos _ (by lia)⟩
   | cons r0 rr=>
     refine ⟨_,.inl (SqL.of hD1),fun g H8 y8 hg=>?_⟩
     refine ⟨by show 3<=sizeLine;decide,fun c hc=>?_⟩
     have yc:=Same.new hc (.tup [V.str (Str.ofString "rests"),.int (2+mr),.ref g])
     refine q c _ (.rests (2+mr) (r0::rr)) (((t7.same y8).same yc).mono (by lia)) ⟨g,af,yc _ _ hg⟩ ⟨hm,zE2 _ _,rp,fun r hr'=>?_,by lia⟩
     have:=rb r hr'
     lia
end
end K73
namespace L2
open PySem PySem.Spec PyProof.Rows
def NoSl (i:Expr):Prop:=∀ ov iv,subscripted i false ov iv=operate [ov,iv] (getItem ov iv)
theorem sA {prog:Program} {w:World} {A:Around} {E:.(21)} {s:Shared} {env:Env} {value slice:Expr} {pos:Pos} {T id:String} {Q:.(21)}
 (hl:typeLookup (.type T) "__getitem__" = pure (some (.builtin id))) (hs:NoSl slice)
 (h:wpAny .(18) A (eval value env) (fun o s₁=>wpAny .(18) A (eval slice env) (fun i s₂=>s₂.TypeIs o T/\wpAny .(18) A (getItem o i) Q E s₂) E s₁) E s) :
 wpAny .(18) A (eval (.Subscript value slice pos) env) Q E s:=by
 refine Subscript_ (wpAny_mono h (fun o s₁ h₁=>wpAny_mono h₁ (fun i s₂ h₂=>?_) fun _ _ x=>x) fun _ _ x=>x);obtain ⟨hT,h₂⟩:=h₂;unfold subscriptTail;refine wpAny_bind ?_;rw [getitemInPython_of_ne hT.not_modules];refine wpAny_bind (wpAny_specialOf hT hl ?_);have fin:wpAny .(18) A (subscripted slice false o i) (fun r s₃=>wpAny .(18) A (letTemporaryGo value o r >>= fun _=>pure r) Q E s₃) E s₂:=by
  rw [hs o i];exact wpAny_operating (wpAny_mono h₂ (fun r s₃ h₃=>wpAny_bind (wpAny_letTemporaryGo (wpAny_pure h₃))) fun _ _ x=>x)
 first
  | exact wpAny_pure (wpAny_bind fin)
  | exact wpAny_bind (wpAny_pure (wpAny_bind fin))
  | exact wpAny_bind fin
end L2
namespace L2
open PySem PySem.Spec PyProof.Rows
section
variable {X:Cx}
theorem pU {ns:List Int} (h:ns≠[]):ns.getD (argBest (fun i j=>decide (ns.getD i 0<ns.getD j 0)) (ns.length - 1)) 0∈ns/\∀ n∈ns,ns.getD (argBest (fun i j=>decide (ns.getD i 0<ns.getD j 0)) (ns.length - 1)) 0<=n:=by
 have hp:0<ns.length:=zF1.mpr h;obtain ⟨h1,h2⟩:=argBest_lt (fun i=>ns.getD i 0) (ns.length - 1);have hlt:argBest (fun i j=>decide (ns.getD i 0<ns.getD j 0)) (ns.length - 1)<ns.length:=by lia
 refine ⟨?_,fun n hn=>?_⟩
 · rw [zA9,List.getElem?_eq_getElem hlt];exact zB4 hlt
 · obtain ⟨i,hi,rfl⟩:=zD5.mp hn;have:=h2 i (by lia);have e:ns.getD i 0=ns[i]:=by rw [zA9,List.getElem?_eq_getElem hi];rfl
   rw [e] at this;exact this
def oQ:List V->Hp->VK->Prop:=fun xs H Q=>match xs with
 | [.ref p]=>∃ ns:List Int,H p=some (.tup (ns.map V.int))/\ns≠[]/\∀ M,M∈ns->(∀ n∈ns,M<=n)->Q (.int M) H
 | _=>False
theorem nj (hc:X.calm=true):CallR X (.builtin "min") oQ:=by
 sleep 1;unfold oQ at h;split at h
 · rename_i p
   obtain ⟨ns,hq,hne,q⟩:=h;obtain ⟨u,rfl,rx⟩:=cx r
   cases rx
   have hh:X.A.in1.handled=none:=I.ok.hd hc;have hb:=pU hne;obtain ⟨its,rv,pl,hz⟩:=I.tuple (SqT.of hq);have hlen:its.length=ns.length:=by rw [← rv.length,zA0]
   have hlt:p<s.heap.objs.size:=pl.lt;refine call_min_walk (wpAny_pyIter_tuple pl ?_);refine ⟨s.heap.objs.size,_,_,_,_,_,_,rfl,Walks.tuple hh s.heap.objs.size p (zC2 hlt) its.toArray,⟨⟨_,Heap.get?_push_size _ rfl,rfl,rfl⟩,pl.push _⟩,?_,?_,CmpOf.ints_lt (fun i=>ns.getD i 0) (fun i v hv=>cm rv hv),fun v h' tk hv hk=>?_⟩
   · intro b hb;rw [Heap.size_push];rcases zA8.mp hb with rfl | hb
     · exact zF0 _
     · rcases zA8.mp hb with rfl | hb
       · exact zG2 hlt
       · cases hb
   · rw [zA2,hlen];exact zF1.mpr hne
   · obtain ⟨t,rfl⟩:=cm rv hv;refine ⟨.int _,H,I.kept fun b o e=>hk b o (by simpa using zC2 (Heap.lt_size e)) (Heap.get?_push_of_some _ e),⟨t,rfl⟩,?_⟩;rw [zA2,hlen];exact q _ hb.1 hb.2
 · exact h.elim
variable {e:Expr} {es:List Expr} {t:TA} {p pos:Pos}
theorem pq (hc:X.calm=true) (hg:Gl X "min") (hm:X.mg "min" = none) (ha:PA X (e::es) t) (he:.(1)) (hpl:.(3)) :
 PE X (.Call (.Name "min" p) (e::es) [] pos) (tCB oQ t):=bt (nj hc) hg hm iy ha (by decide) (by decide) he hpl
theorem oh (hc:X.calm=true) (hg:Gl X "min") (hm:X.mg "min" = none) (ha:ZA X (e::es) t) (he:.(1)) (hpl:.(3)) :
 ZE X (.Call (.Name "min" p) (e::es) [] pos) (tCB oQ t):=by with_unfolding_all exact pq hc hg hm ha he hpl
end
section
variable {X:Cx}
theorem n5 {pos:Pos}:ZS X (.Break pos) qA:=by with_unfolding_all exact o7
variable {e:Expr} {es:List Expr} {t:TA} {p pos:Pos}
end
theorem cq (ds:List PyData):PyData.eqv (.tuple ds) (.tuple [])=ds.isEmpty:=by cases ds <;> simp [PyData.eqv,PyData.eqvAll]
end L2
namespace L2
open PySem PySem.Spec PyProof.Rows
section
variable {X:Cx}
theorem fX {K:PySem.W.Frag} (h:X.K=K):OpR X (compareOp .In) (rIn K false):=by subst h;exact cF
variable {e:Expr} {es:List Expr} {t:TA} {p pos:Pos}
end
end L2
namespace MRow
def sV:Nat->(Nat->Int)->Nat->Nat->Int
 | 0,f,_,n=>f n
 | k+1,f,s,n=>f n+(if s<=n then sV k f s (n - s) else 0)
def put (f:Nat->Int) (s n:Nat):Int:=sV n f s n
theorem de {f:Nat->Int} {s:Nat} (hs:0<s):∀ (k n:Nat),n<=k->sV k f s n=sV n f s n
 | 0,n,h=>by have:n=0:=(by lia); subst this;rfl
 | k+1,0,_=>by
   show f 0+(if s<=0 then _ else 0)=f 0;rw [if_neg (by lia)];lia
 | k+1,n+1,h=>by
   show f (n+1)+(if s<=n+1 then sV k f s (n+1 - s) else 0)=f (n+1)+(if s<=n+1 then sV n f s (n+1 - s) else 0)
   by_cases hn:s<=n+1
   · rw [if_pos hn,if_pos hn,de hs k _ (by lia),de hs n _ (by lia)]
   · rw [if_neg hn,if_neg hn]
theorem cv (f:Nat->Int) {s:Nat} (hs:0<s) (n:Nat):put f s n=f n+(if s<=n then put f s (n - s) else 0):=by
 unfold put;rw [← de hs (n+1) n (by lia)];show f n+(if s<=n then sV n f s (n - s) else 0)=_;by_cases hn:s<=n
 · rw [if_pos hn,if_pos hn,de hs n _ (by lia)]
 · rw [if_neg hn,if_neg hn]
def dl:Nat->Int:=fun n=>if n=0 then 1 else 0
def R:Nat->Nat->Int
 | 0=>dl
 | s+1=>put (R s) (s+1)
def tb (f:Nat->Int) (L:Nat):List Int:=(List.range L).map f
theorem br (f:Nat->Int) (L:Nat):(tb f L).length=L:=by simp [tb]
theorem iJ {f:Nat->Int} {L j:Nat} (h:j<(tb f L).length):(tb f L)[j]=f j:=by simp [tb]
theorem dR {f:Nat->Int} {L j:Nat} (h:j<L):(tb f L)[j]? = some (f j):=by
 rw [List.getElem?_eq_getElem (by rw [br];exact h),iJ]
theorem eM {f g:Nat->Int} {L:Nat} (h:∀ j,j<L->f j=g j):tb f L=tb g L:=by
 unfold tb;exact List.map_congr_left fun j hj=>h j (zE7.mp hj)
theorem tb_dl (n:Nat):tb dl (n+1)=1::List.replicate n 0:=by
 refine zG9 (by simp [tb]) fun i h1 h2=>?_;rw [iJ]
 cases i with
 | zero=>rfl
 | succ i=>simp [dl]
def up (f g:Nat->Int) (k:Nat):Nat->Int:=fun j=>if j<k then g j else f j
theorem qw {f g:Nat->Int} {L k:Nat} (h:k<L):(tb (up f g k) L).set k (g k)=tb (up f g (k+1)) L:=by
 refine zG9 (by rw [List.length_set,br,br]) fun i h1 h2=>?_;rw [List.getElem_set,iJ h2];unfold up;by_cases hk:k=i
 · subst hk;simp
 · rw [if_neg hk,iJ];by_cases hi:i<k
   · rw [if_pos hi,if_pos (by lia)]
   · rw [if_neg hi,if_neg (by lia)]
theorem eV (f:Nat->Int) {s n:Nat} (hs:0<s) (h:n<s):put f s n=f n:=by rw [cv f hs,if_neg (by lia)];lia
theorem oo (f:Nat->Int) {s:Nat} (hs:0<s) (L:Nat):tb (up f (put f s) s) L=tb f L:=eM fun j _=>by
 unfold up;by_cases h:j<s
 · rw [if_pos h,eV f hs h]
 · rw [if_neg h]
theorem qt (f g:Nat->Int) {k L:Nat} (h:L<=k):tb (up f g k) L=tb g L:=eM fun j hj=>by
 unfold up;rw [if_pos (by lia)]
end MRow
set_option exponentiation.threshold 3000
namespace M27
open PySem L2 MRow
def Bad (ns:List Int) (m a q:Int) (j:Nat):Prop:=∃ x,ns[j]? = some x/\(j:Int) % m=a/\x % q≠0
def IsF (ns:List Int) (m a q:Int) (v:V):Prop:=(v=.non/\∀ j,¬ Bad ns m a q j)\/∃ p:Nat,p<ns.length/\v=.int p/\Bad ns m a q p/\∀ j,j<p->¬ Bad ns m a q j
theorem IsF.one {ns:List Int} {m a q:Int} {v u:V} (h:IsF ns m a q v) (k:IsF ns m a q u):v=u:=by
 rcases h with ⟨rfl,h⟩ | ⟨p,_,rfl,h1,h2⟩ <;> rcases k with ⟨rfl,k⟩ | ⟨p',_,rfl,k1,k2⟩
 · rfl
 · exact absurd k1 (h _)
 · exact absurd h1 (k _)
 · have:p=p':=by
    by_cases l:p<p'
    · exact absurd h1 (k2 _ l)
    · by_cases l2:p' < p
      · exact absurd k1 (h2 _ l2)
      · lia
   rw [this]
def CB (m a q:Int):Prop:=1<=m/\m<=600/\0<=a/\a<m/\2<=q/\q<=1000000
theorem eR {a b m:Int} (hm:1<=m):Builtin.Range.rangeSize a b m=if a<b then (b - a - 1) / m+1 else 0:=by
 unfold Builtin.Range.rangeSize;rw [if_pos (by lia)]
theorem size_lt {a b m:Int} {i:Nat} (hm:1<=m) (h:i<(Builtin.Range.rangeSize a b m).toNat):a+(i:Int)*m<b:=by
 rw [eR hm] at h;by_cases hab:a<b
 · rw [if_pos hab] at h;have h0:0<=(b - a - 1) / m:=Int.ediv_nonneg (by lia) (by lia);have h1:(i:Int)<=(b - a - 1) / m:=by lia
   have h2:(i:Int)*m<=(b - a - 1) / m*m:=Int.mul_le_mul_of_nonneg_right h1 (by lia);have h3:=Int.ediv_mul_le (b - a - 1) (b:=m) (by lia);lia
 · rw [if_neg hab] at h;simp at h
theorem jk {a b m:Int} (hm:1<=m) {j:Int} (h:j<b):j<a+((Builtin.Range.rangeSize a b m).toNat:Int)*m:=by
 rw [eR hm];by_cases hab:a<b
 · rw [if_pos hab];have h0:0<=(b - a - 1) / m:=Int.ediv_nonneg (by lia) (by lia);have e:(((b - a - 1) / m+1).toNat:Int)=(b - a - 1) / m+1:=by lia
   rw [e];have:=Int.lt_ediv_add_one_mul_self (b - a - 1) (b:=m) (by lia);lia
 · rw [if_neg hab];simp;lia
theorem small_up {a b m:Int} (hm:1<=m) (hm':m<=1000000) (ha:0<=a) (ha':a<=1000000) (hb:0<=b) (hb':b<=1000000):Builtin.Range.small a b m=true:=by
 have e:=eR (a:=a) (b:=b) hm;unfold Builtin.Range.small;rw [e];by_cases hab:a<b
 · rw [if_pos hab];have h0:0<=(b - a - 1) / m:=Int.ediv_nonneg (by lia) (by lia);have h1:(b - a - 1) / m<=b - a - 1:=Int.ediv_le_self _ (by lia);simp only [Builtin.Range.rangeFitsLong,zD6,Bool.or_eq_true,decide_eq_true_eq,beq_iff_eq,show m > 0 by lia,if_true];generalize (b - a - 1) / m=k at h0 h1;lia
 · rw [if_neg hab];simp only [Builtin.Range.rangeFitsLong,zD6,Bool.or_eq_true,decide_eq_true_eq,beq_iff_eq,show m > 0 by lia,if_true];lia
theorem uo {ns:List Int} {m a q:Int} (hm:1<=m) {i P:Nat} (hP:(P:Int)=a+(i:Int)*m) (h:∀ j:Nat,(j:Int)<a+(i:Int)*m->¬ Bad ns m a q j) (hb:¬ Bad ns m a q P) :
 ∀ j:Nat,(j:Int)<a+((i+1:Nat):Int)*m->¬ Bad ns m a q j:=by
 intro j hj hB;by_cases hl:(j:Int)<a+(i:Int)*m
 · exact h j hl hB
 · have hc:(j:Int) % m=a:=by obtain ⟨_,_,e,_⟩:=hB;exact e
   have e:=Int.mul_ediv_add_emod (j:Int) m;rw [hc] at e;have h1:m*(i:Int)<=m*((j:Int) / m):=by rw [Int.mul_comm m (i:Int)];lia
   have h2:m*((j:Int) / m)<m*((i:Int)+1):=by
    rw [Int.mul_comm m ((i:Int)+1)];have:(((i+1:Nat):Int))=(i:Int)+1:=by lia
    rw [this] at hj;lia
   have h3:=Int.le_of_mul_le_mul_left h1 (by lia);have h4:=Int.lt_of_mul_lt_mul_left h2 (by lia);have h5:(j:Int) / m=i:=by lia
   rw [h5,Int.mul_comm] at e;have:j=P:=by lia
   subst this;exact hb hB
theorem m7 {m a:Int} (h0:0<=a) (h1:a<m) (i:Int):(a+i*m) % m=a:=by
 rw [Int.add_mul_emod_self_right];exact Int.emod_eq_of_lt h0 h1
end M27
namespace M80
open MRow
def off (g:Nat->Int) (s n:Nat):Int:=g n - if s<=n then g (n - s) else 0
theorem lE {F c:Nat->Int} {s:Nat} (hs:0<s) (h:off F s=c):F=put c s:=by
 funext n;induction n using Nat.strongRecOn with
 | ind n ih=>
   have e:=congrFun h n
   unfold off at e
   rw [cv c hs]
   by_cases hn:s<=n
   · rw [if_pos hn] at e ⊢;rw [← ih (n - s) (by lia)];lia
   · rw [if_neg hn] at e ⊢;lia
theorem gB (g:Nat->Int) {s:Nat} (hs:0<s):off (put g s) s=g:=by
 funext n;unfold off;rw [cv g hs n];lia
theorem lD (g:Nat->Int) {s:Nat} (hs:0<s):put (off g s) s=g:=(lE hs rfl).symm
theorem eo (g:Nat->Int) (a b:Nat):off (off g a) b=off (off g b) a:=by
 funext n;unfold off;by_cases ha:a<=n
 · by_cases hb:b<=n
   · by_cases hab:a+b<=n
     · rw [if_pos hb,if_pos ha,if_pos (show a<=n - b by lia),if_pos (show b<=n - a by lia),show n - b - a=n - a - b by lia];lia
     · rw [if_pos hb,if_pos ha,if_neg (show ¬ a<=n - b by lia),if_neg (show ¬ b<=n - a by lia)];lia
   · rw [if_neg hb,if_pos ha,if_neg (show ¬ b<=n - a by lia)];lia
 · by_cases hb:b<=n
   · rw [if_pos hb,if_neg ha,if_neg (show ¬ a<=n - b by lia)];lia
   · simp only [if_neg hb,if_neg ha]
theorem dS (g:Nat->Int) {a:Nat} (b:Nat) (ha:0<a):off (put g a) b=put (off g b) a:=by
 refine lE ha ?_;rw [eo,gB g ha]
theorem put_comm (g:Nat->Int) {a b:Nat} (ha:0<a) (hb:0<b):put (put g a) b=put (put g b) a:=by
 refine lE ha ?_;rw [dS _ _ hb,gB _ ha]
def PL (g:Nat->Int) (ss:List Nat):Nat->Int:=ss.foldl put g
def OL (g:Nat->Int) (ss:List Nat):Nat->Int:=ss.foldl off g
theorem PL_cons (g:Nat->Int) (s:Nat) (ss:List Nat):PL g (s::ss)=PL (put g s) ss:=rfl
theorem i5 (g:Nat->Int) (s:Nat) (ss:List Nat):OL g (s::ss)=OL (off g s) ss:=rfl
theorem dA (g:Nat->Int) (a b:List Nat):PL g (a++b)=PL (PL g a) b:=by unfold PL;rw [List.foldl_append]
theorem rT (g:Nat->Int) (a b:List Nat):OL g (a++b)=OL (OL g a) b:=by unfold OL;rw [List.foldl_append]
theorem jR:∀ (ss:List Nat) (g:Nat->Int) (s:Nat),(∀ x∈ss,0<x)->PL (off g s) ss=off (PL g ss) s
 | [],_,_,_=>rfl
 | x::ss,g,s,h=>by rw [PL_cons,PL_cons,← dS g s (h x zA3),jR ss (put g x) s fun y hy=>h y (zA5 _ hy)]
theorem nT {a b:List Nat} (p:a.Perm b):∀ (g:Nat->Int),(∀ x∈a,0<x)->PL g a=PL g b:=by
 induction p with
 | nil=>intro g _;rfl
 | cons x _ ih=>intro g h;rw [PL_cons,PL_cons];exact ih _ fun y hy=>h y (zA5 _ hy)
 | swap x y l=>intro g h;rw [PL_cons,PL_cons,PL_cons,PL_cons,put_comm g (h _ zA3) (h _ (zA5 _ zA3))]
 | trans p1 _ ih1 ih2=>intro g h;rw [ih1 g h];exact ih2 g fun x hx=>h x (p1.mem_iff.mpr hx)
theorem m8:∀ (ss:List Nat) (g:Nat->Int),(∀ x∈ss,0<x)->OL (PL g ss) ss=g
 | [],_,_=>rfl
 | x::ss,g,h=>by
   have h':∀ y∈ss,0<y:=fun y hy=>h y (zA5 _ hy);rw [PL_cons,i5,← jR ss _ _ h',gB g (h x zA3)];exact m8 ss g h'
def ups (n:Nat):List Nat:=(List.range n).map (· + 1)
theorem bf (n:Nat):ups (n+1)=ups n++[n+1]:=by unfold ups;rw [List.range_succ,zA7];rfl
theorem bv {n x:Nat} (h:x∈ups n):0<x/\x<=n:=by
 obtain ⟨i,hi,rfl⟩:=zD2.mp h;have:=zE7.mp hi;lia
theorem iE:∀ n,PL dl (ups n)=R n
 | 0=>rfl
 | n+1=>by rw [bf,dA,iE n];rfl
theorem fi {α:Type} (p:α->Bool):∀ l:List α,List.Perm (l.filter (fun x=>!p x)++l.filter p) l
 | []=>.nil
 | x::l=>by
   by_cases h:p x=true
   · rw [zG0 (by simp [h]),zG1 h];exact List.perm_middle.trans (.cons x (fi p l))
   · rw [zG1 (by simp [h]),zG0 h];exact .cons x (fi p l)
theorem R_less (far:Nat) (p:Nat->Bool):OL (R far) ((ups far).filter p)=PL dl ((ups far).filter fun x=>!p x):=by
 have h:=nT (fi p (ups far)) dl fun x hx=>by
  rcases zB7.mp hx with h | h
  · exact (bv (List.mem_filter.mp h).1).1
  · exact (bv (List.mem_filter.mp h).1).1
 rw [← iE,← h,dA];exact m8 _ _ fun x hx=>(bv (List.mem_filter.mp hx).1).1
def below (m:Nat) (ss:List Nat) (g:Nat->Int):Nat->Int:=ss.foldl (fun g s=>off (put g s) (m*s)) g
theorem jP (m:Nat):∀ (ss:List Nat) (g:Nat->Int),(∀ x∈ss,0<x)->below m ss g=OL (PL g ss) (ss.map (m * ·))
 | [],_,_=>rfl
 | s::ss,g,h=>by
   have h':∀ y∈ss,0<y:=fun y hy=>h y (zA5 _ hy);show below m ss (off (put g s) (m*s))=OL (PL (put g s) ss) (m*s::ss.map (m * ·));rw [jP m ss _ h',jR ss _ _ h',i5]
def Al (N:Nat) (f g:Nat->Int):Prop:=∀ j,j<=N->f j=g j
theorem Al.great {N:Nat} {f g:Nat->Int} (h:Al N f g) {s:Nat} (hs:N<s):Al N (M80.off f s) g:=fun j hj=>by
 unfold M80.off;rw [if_neg (by lia),h j hj,Int.sub_zero]
theorem gO {N:Nat}:∀ (ss:List Nat) {f g:Nat->Int},Al N f g->(∀ x∈ss,N<x)->Al N (OL f ss) g
 | [],_,_,h,_=>h
 | s::ss,f,g,h,hs=>gO ss (h.great (hs s zA3)) fun y hy=>hs y (zA5 _ hy)
theorem Al.refl (N:Nat) (f:Nat->Int):Al N f f:=fun _ _=>rfl
theorem mults {m k far:Nat} (hm:0<m) (h1:m*k<=far) (h2:far<m*(k+1)):(ups far).filter (fun x=>decide (x % m=0))=(ups k).map (m * ·):=by
 have key:∀ far k,m*k<=far->far<m*(k+1)->(ups far).filter (fun x=>decide (x % m=0))=(ups k).map (m * ·):=by
  intro far;induction far with
  | zero=>
    intro k h1 h2
    have hk:k=0:=by
     cases k with
     | zero=>rfl
     | succ k=>rw [Nat.mul_succ] at h1;lia
    subst hk;rfl
  | succ far ih=>
    intro k h1 h2
    rw [bf,zF6]
    by_cases e:m*k=far+1
    · obtain ⟨k',rfl⟩:∃ k',k=k' + 1:=⟨k - 1,by cases k with
       | zero=>rw [Nat.mul_zero] at e;lia
       | succ k=>lia⟩
      rw [ih k' (by rw [Nat.mul_succ] at e;lia) (by lia),bf,zA7,← e];congr 1;rw [zG1 (by simp)];rfl
    · rw [ih k (by lia) (by lia),zG0,List.filter_nil,zC9];intro z;have z':=of_decide_eq_true z;have:far+1=m*((far+1) / m):=by have:=Nat.div_add_mod (far+1) m;lia
      have h3:(far+1) / m=k:=by
       have a1:m*((far+1) / m)<m*(k+1):=by lia
       have a2:(far+1) / m<k+1:=Nat.lt_of_mul_lt_mul_left a1;have a3:m*k<m*((far+1) / m+1):=by rw [Nat.mul_succ];lia
       have a4:k<(far+1) / m+1:=Nat.lt_of_mul_lt_mul_left a3;lia
      rw [h3] at this;exact e this.symm
 exact key far k h1 h2
theorem sieve0 {m k far:Nat} (hm:0<m) (h1:m*k<=far) (h2:far<m*(k+1)):OL (R far) ((ups k).map (m * ·))=PL dl ((ups far).filter fun x=>!decide (x % m=0)):=by
 rw [← mults hm h1 h2,R_less]
theorem sieve1 {m k far:Nat} (hm:0<m) (hk:k<=far) (h2:far<m*(k+1)):Al far (below m (ups far) dl) (OL (R far) ((ups k).map (m * ·))):=by
 rw [jP m (ups far) dl fun x hx=>(bv hx).1,iE];have e:ups far=ups k++(List.range (far - k)).map fun i=>k+(i+1):=by
  obtain ⟨d,rfl⟩:∃ d,far=k+d:=⟨far - k,by lia⟩
  rw [zE9];clear h2 hk;induction d with
  | zero=>simp [ups]
  | succ d ih=>rw [show k+(d+1)=(k+d)+1 by lia,bf,ih,List.range_succ,zA7,← zC1];rfl
 rw [e,zA7,rT];refine gO _ (Al.refl _ _) fun x hx=>?_;obtain ⟨y,hy,rfl⟩:=zD2.mp hx;obtain ⟨i,_,rfl⟩:=zD2.mp hy;have:m*(k+1)<=m*(k+(i+1)):=Nat.mul_le_mul_left _ (by lia);lia
end M80
namespace K73
open PySem L2 MRow M27 M80
section
variable {P:Program} {w:World} {K:PySem.W.Frag} {mg:Str->Option Value} {base:Heap} {f:Addr} {fd:FuncData}
theorem sc_begun:FnScope ["most"] ["most"] (ap (top 30)):=.(0)
def db:Sp:=fun vs H Q _=>∃ n:Nat,vs=[.int n]/\n<=1000/\∀ p H',H p=none->Same H H'->H' p=some (.lst ((tb dl (n+1)).map V.int))->Q (.ref p) H'
theorem bp {H H':Hp} {p:Addr} (y:Same H H') (h:H' p=none):H p=none:=by
 cases e:H p with
 | none=>rfl
 | some o=>
   have:=y _ _ e
   rw [h] at this
   cases this
theorem pM (F:Fun K "begun" "begun" (top 30) f fd)  : FnOk P w K mg base CX0 1 f fd ["most"] db:=by
 refine F.okz sc_begun .(10) .(2)
 · obtain ⟨n,rfl,_⟩:=h;rfl
 obtain ⟨n,rfl,hn,q⟩:=h;have nd:=sc_begun.nd;refine ⟨_,(ai (aq (aA aB (aO (aa ah ab)) (aA ba (aO (aa ah ab)) (zn 0))))),?_⟩;refine ⟨by show 1<=sizeLine;decide,fun d hd=>?_⟩;have g1:=Same.new hd (.lst [.int 1]);refine ⟨by show 1<=sizeLine;decide,fun d2 hd2=>?_⟩;have g2:=Same.new hd2 (.lst [.int 0]);refine ⟨⟨by lia,by lia⟩,.inl ⟨_,af,cT (by show 1*(n:Int).toNat<=1000;lia),fun d3 hd3=>?_⟩⟩;have g3:=Same.new hd3 (.lst (List.replicate (n:Int).toNat [V.int 0]).flatten);refine .inl ⟨_,_,g3 _ _ (g2 _ _ af),af,?_,fun d4 hd4=>?_⟩
 · rw [gI,sizeLine_eq];show 1+_*1<=_;lia
 · refine q d4 _ (bp ((g1.trans g2).trans g3) hd4) (((g1.trans g2).trans g3).trans (Same.new hd4 _)) ?_;rw [af,cJ,tb_dl];rfl
theorem sc_put_on:FnScope ["row","size","told","n"] ["row","size"] (ap (top 31)):=.(0)
def cE:Sp:=fun vs H Q _=>∃ (a:Addr) (s L:Nat) (g:Nat->Int),vs=[.ref a,.int s]/\0<s/\s<=1000000/\L<=1000/\H a=some (.lst ((tb g L).map V.int))/\∀ p H',H p=none->Same H H'->H' p=some (.lst ((tb (put g s) L).map V.int))->Q (.ref p) H'
theorem l5 (F:Fun K "put_on" "put_on" (top 31) f fd) (m_len:mg "len" = none) (m_list:mg "list" = none) (m_range:mg "range" = none):FnOk P w K mg base CX0 1 f fd ["row","size"] cE:=by
 refine F.okz sc_put_on .(10) .(2)
 · obtain ⟨a,z,L,g,rfl,_⟩:=h;rfl
 obtain ⟨a,z,L,g,rfl,hz,hz2,hL,ha,q⟩:=h;have nd:=sc_put_on.nd;refine ⟨_,(ae (ay (i:=2) nd rfl .(8) (i7 rfl m_list (aa (zn 0) ab) rfl rfl))
  (ae (bi PassesOwn.never rfl (bj rfl m_range (aa (zn 1) (aa .(28) ab))) (az (i:=3) nd rfl .(8)) (ai (gg (zn 2) (zn 3) eC (aD aS (zn 2) (aA aP (zn 3) (zn 1)) .(11)) dI dc)))
  (ai (aq (zn 2))))),?_⟩
 refine ⟨_,.inl (SqL.of ha),fun p hp=>?_⟩;have y0:=Same.new hp (.lst ((tb g L).map V.int));refine ⟨_,.inl (SqL.of (y0 _ _ ha)),?_⟩;rw [zA0,br];refine ⟨(z:Int),(L:Int),rfl,⟨by lia,by lia,by lia,by lia⟩,?_⟩;refine bE (fun i σ H'=>Same H H'/\H' p=some (.lst ((tb (up g (put g z) (z+i)) L).map V.int))/\∃ pp,σ=[some (.ref a),some (.int z),some (.ref p),pp]) ⟨y0,by rw [Nat.add_zero,oo g hz];exact af,none,rfl⟩ ?_ ?_
 · rintro i σ H' hi ⟨y,hp',pp,rfl⟩;have hn:z+i<L:=by lia
   have hget:∀ j,j<L->((tb (up g (put g z) (z+i)) L).map V.int)[j]? = some (.int (up g (put g z) (z+i) j)):=fun j hj=>by rw [List.getElem?_map,dR hj];rfl
   have e1:((z:Int)+(i:Int)).toNat=z+i:=by lia
   refine ⟨_,_,SqL.of hp',by lia,by rw [e1];exact hget _ hn,?_⟩;refine ⟨_,.inl (SqL.of hp'),.int (up g (put g z) (z+i) i),aN (j:=i) (by lia) (hget i (by lia)),?_⟩;refine ⟨_,hp',by lia,by rw [e1,zA0,br];exact hn,Same.updN y hp,?_,_,rfl⟩;rw [af,e1];have e2:up g (put g z) (z+i) (z+i)+up g (put g z) (z+i) i=put g z (z+i):=by
    unfold up;rw [if_neg (zD8 _),if_pos (by lia),cv g hz (z+i),if_pos (by lia),zE9]
   dsimp only;rw [e2,← List.map_set,qw hn];rfl
 · rintro σ H' ⟨y,hp',pp,rfl⟩;refine q p H' hp y ?_;rw [hp',qt _ _ (by lia)]
end
theorem tb_put {f:Nat->Int} {L n:Nat} (v:Int) (h:n<L):(tb f L).set n v=tb (fun j=>if j=n then v else f j) L:=by
 refine zG9 (by rw [List.length_set,br,br]) fun j h1 h2=>?_;rw [List.getElem_set];by_cases e:n=j
 · rw [if_pos e,iJ h2,if_pos e.symm]
 · rw [if_neg e,iJ,iJ,if_neg (Ne.symm e)]
section
variable {P:Program} {w:World} {K:PySem.W.Frag} {mg:Str->Option Value} {base:Heap} {f:Addr} {fd:FuncData}
theorem sc_to:FnScope ["row","size","told","n"] ["row","size"] (ap (top 32)):=.(0)
def sE:Sp:=fun vs H Q _=>∃ (a:Addr) (s L:Nat) (g:Nat->Int),vs=[.ref a,.int s]/\0<s/\s<=1000000/\L<=1000/\(H a=some (.lst ((tb g L).map V.int))\/H a=some (.tup ((tb g L).map V.int)))/\∀ p H',H p=none->Same H H'->H' p=some (.lst ((tb (off g s) L).map V.int))->Q (.ref p) H'
theorem ok_to (F:Fun K "taken_off" "taken_off" (top 32) f fd) (m_len:mg "len" = none) (m_list:mg "list" = none) (m_range:mg "range" = none):FnOk P w K mg base CX0 1 f fd ["row","size"] sE:=by
 refine F.okz sc_to .(10) .(2)
 · obtain ⟨a,z,L,g,rfl,_⟩:=h;rfl
 obtain ⟨a,z,L,g,rfl,hz,hz2,hL,ha,q⟩:=h;have nd:=sc_to.nd;refine ⟨_,(ae (ay (i:=2) nd rfl .(8) (i7 rfl m_list (aa (zn 0) ab) rfl rfl))
  (ae (bi PassesOwn.never rfl (cA rfl m_range (aa (aA aP .(28) ah) (aa (aA aP (zn 1) ah) (aa (dX cu ah) ab)))) (az (i:=3) nd rfl .(8)) (ai (gg (zn 2) (zn 3) eC (aD aS (zn 2) (aA aP (zn 3) (zn 1)) .(11)) mJ dc)))
  (ai (aq (zn 2))))),?_⟩
 refine ⟨_,ha.elim (fun h=>.inl (SqL.of h)) .inr,fun p hp=>?_⟩;have y0:=Same.new hp (.lst ((tb g L).map V.int));refine ⟨_,ha.elim (fun h=>.inl (SqL.of (y0 _ _ h))) (fun h=>.inr (y0 _ _ h)),?_⟩;rw [zA0,br];refine ⟨1,rfl,?_⟩;refine ⟨(L:Int) - 1,(z:Int) - 1,-1,rfl,⟨by decide,⟨by decide,by decide⟩,dE (by lia) (by lia) (by lia) (by lia)⟩,?_⟩;rw [eT];have eN:((L:Int) - 1 - ((z:Int) - 1)).toNat=L - z:=by lia
 rw [eN];refine ci (fun i σ H'=>i<=L - z/\Same H H'/\H' p=some (.lst ((tb (fun n=>if L<=n+i then off g z n else g n) L).map V.int))/\∃ pp,σ=[some (.ref a),some (.int z),some (.ref p),pp]) ⟨zB0 _,y0,?_,none,rfl⟩ ?_ ?_
 · rw [af];congr 3;exact eM fun j hj=>by rw [if_neg (by lia)]
 · rintro i σ H' hi ⟨_,y,hp',pp,rfl⟩;obtain ⟨n,en⟩:∃ n,L=n+1+i:=⟨L - 1 - i,by lia⟩
   have e0:(L:Int) - 1+(i:Int) * -1=(n:Int):=by lia
   rw [e0];have hnz:z<=n:=by lia
   have hget:∀ j,j<L->((tb (fun n=>if L<=n+i then off g z n else g n) L).map V.int)[j]? = some (.int (if L<=j+i then off g z j else g j)):=fun j hj=>by rw [List.getElem?_map,dR hj];rfl
   have e1:((n:Int)).toNat=n:=Int.toNat_natCast n;refine ⟨_,_,SqL.of hp',by lia,by rw [e1];exact hget n (by lia),?_⟩;refine ⟨_,.inl (SqL.of hp'),.int (if L<=(n - z)+i then off g z (n - z) else g (n - z)),aN (j:=n - z) (by lia) (hget (n - z) (by lia)),?_⟩;refine ⟨_,hp',by lia,by rw [e1,zA0,br];lia,by lia,Same.updN y hp,?_,_,rfl⟩;rw [af,e1];dsimp only;rw [if_neg (by lia),if_neg (by lia),← List.map_set,tb_put _ (by lia)];congr 3;refine eM fun j hj=>?_;by_cases ej:j=n
   · rw [if_pos ej,if_pos (by lia),ej];unfold off;rw [if_pos hnz]
   · rw [if_neg ej];by_cases h:L<=j+i
     · rw [if_pos h,if_pos (by lia)]
     · rw [if_neg h,if_neg (by lia)]
 · rintro σ H' ⟨_,y,hp',pp,rfl⟩;refine q p H' hp y ?_;rw [hp'];congr 3;refine eM fun j hj=>?_;by_cases h:L<=j+(L - z)
   · rw [if_pos h]
   · rw [if_neg h];unfold off;rw [if_neg (by lia),Int.sub_zero]
def nI (ss:List Nat):List V:=(ss.map fun (k:Nat)=>(k:Int)).map V.int
theorem cO (ss:List Nat):(nI ss).length=ss.length:=by unfold nI;rw [zA0,zA0]
theorem mq {ss:List Nat} {i:Nat} {x:V} (h:(nI ss)[i]? = some x):∃ s,ss[i]? = some s/\x=.int (s:Int):=by
 unfold nI at h;rw [List.getElem?_map,List.getElem?_map] at h
 cases e:ss[i]? with
 | none=>rw [e] at h;cases h
 | some s=>rw [e] at h;exact ⟨s,rfl,(Option.some.inj h).symm⟩
theorem sc_of_sizes:FnScope ["some","most","row","size"] ["some","most"] (ap (top 34)):=.(0)
def eP:Sp:=fun vs H Q _=>∃ (l:Addr) (ss:List Nat) (n:Nat),vs=[.ref l,.int n]/\(∀ x∈ss,0<x/\x<=1000000)/\n<=600/\H l=some (.lst (nI ss))/\∀ p H',Same H H'->H' p=some (.lst ((tb (PL dl ss) (n+1)).map V.int))->Q (.ref p) H'
theorem iS (F:Fun K "of_sizes" "of_sizes" (top 34) f fd)  (F_begun:FnA P w K mg base "begun" 1 ["most"] db) (F_put_on:FnA P w K mg base "put_on" 1 ["row","size"] cE):FnOk P w K mg base CX0 2 f fd ["some","most"] eP:=by
 refine F.okz sc_of_sizes .(10) .(2)
 · obtain ⟨l,ss,n,rfl,_⟩:=h;rfl
 obtain ⟨l,ss,n,rfl,hk,hn,hl,q⟩:=h;have nd:=sc_of_sizes.nd;refine ⟨_,(ae (ay (i:=2) nd rfl .(8) (au F_begun hr (by decide) rfl .(29)))
  (ae (bi PassesOwn.never rfl (bG (zn 0)) (az (i:=3) nd rfl .(8)) (ai (ay (i:=2) nd rfl .(8) (au F_put_on hr (by decide) rfl (aa (zn 2) (aa (zn 3) ab))))))
  (ai (aq (zn 2))))),?_⟩
 refine ⟨n,rfl,by lia,fun p H1 hp y1 hp1=>?_⟩;refine ⟨l,rfl,⟨_,SqL.of (y1 _ _ hl)⟩,eD (xs:=nI ss) (fun i σ H'=>Same H H'/\∃ r p3,σ=[some (.ref l),some (.int n),some (.ref r),p3]/\H' r=some (.lst ((tb (PL dl (ss.take i)) (n+1)).map V.int))) ⟨y1,p,_,rfl,hp1⟩ ?_ ?_ ?_⟩
 · rintro i σ H' _ ⟨y,_⟩;exact SqL.of (y _ _ hl)
 · rintro i x σ H' hx ⟨y,r,p3,rfl,hr'⟩;obtain ⟨z,hz,rfl⟩:=mq hx;have hz2:=hk z (zD3 hz);refine ⟨r,z,n+1,PL dl (ss.take i),rfl,hz2.1,hz2.2,by lia,hr',fun p2 H2 hp2 y2 hp2'=>?_⟩;refine ⟨y.trans y2,p2,_,rfl,?_⟩;rw [zC3,hz,dA];exact hp2'
 · rintro σ H' ⟨y,r,p3,rfl,hr'⟩;rw [cO,zA6 (zA1 _)] at hr';exact q r H' y hr'
theorem sc_osb:FnScope ["some","m","most","row","size"] ["some","m","most"] (ap (top 35)):=.(0)
def qE:Sp:=fun vs H Q _=>∃ (l:Addr) (ss:List Nat) (m n:Nat),vs=[.ref l,.int m,.int n]/\0<m/\m<=1000/\(∀ x∈ss,0<x/\x<=1000)/\n<=600/\H l=some (.lst (nI ss))/\∀ p H',Same H H'->H' p=some (.lst ((tb (below m ss dl) (n+1)).map V.int))->Q (.ref p) H'
theorem below_app (m:Nat) (g:Nat->Int) (a b:List Nat):below m (a++b) g=below m b (below m a g):=by unfold below;rw [List.foldl_append]
theorem ok_osb (F:Fun K "of_sizes_below" "of_sizes_below" (top 35) f fd)  (F_begun:FnA P w K mg base "begun" 1 ["most"] db) (F_put_on:FnA P w K mg base "put_on" 1 ["row","size"] cE) (F_taken_off:FnA P w K mg base "taken_off" 1 ["row","size"] sE):FnOk P w K mg base CX0 2 f fd ["some","m","most"] qE:=by
 refine F.okz sc_osb .(10) .(2)
 · obtain ⟨l,ss,m,n,rfl,_⟩:=h;rfl
 obtain ⟨l,ss,m,n,rfl,hm,hm2,hk,hn,hl,q⟩:=h;have nd:=sc_osb.nd;refine ⟨_,(ae (ay (i:=3) nd rfl .(8) (au F_begun hr (by decide) rfl (aa (zn 2) ab)))
  (ae (bi PassesOwn.never rfl (bG (zn 0)) (az (i:=4) nd rfl .(8)) (ai (ay (i:=3) nd rfl .(8) (au F_taken_off hr (by decide) rfl (aa (au F_put_on hr (by decide) rfl (aa (zn 3) (aa (zn 4) ab))) (aa (aA ba (zn 1) (zn 4)) ab))))))
  (ai (aq (zn 3))))),?_⟩
 refine ⟨n,rfl,by lia,fun p H1 hp y1 hp1=>?_⟩;refine ⟨l,rfl,⟨_,SqL.of (y1 _ _ hl)⟩,eD (xs:=nI ss) (fun i σ H'=>Same H H'/\∃ r p4,σ=[some (.ref l),some (.int m),some (.int n),some (.ref r),p4]/\H' r=some (.lst ((tb (below m (ss.take i) dl) (n+1)).map V.int))) ⟨y1,p,_,rfl,hp1⟩ ?_ ?_ ?_⟩
 · rintro i σ H' _ ⟨y,_⟩;exact SqL.of (y _ _ hl)
 · rintro i x σ H' hx ⟨y,r,p4,rfl,hr'⟩;obtain ⟨z,hz,rfl⟩:=mq hx;have hz2:=hk z (zD3 hz);refine ⟨r,z,n+1,_,rfl,hz2.1,by lia,by lia,hr',fun p2 H2 hp2 y2 hp2'=>?_⟩;refine ⟨vg (by lia) (by lia),?_⟩;have e3:(m:Int)*(z:Int)=((m*z:Nat):Int):=by rw [zF5]
   have h1:m*z<=1000*1000:=Nat.mul_le_mul hm2 hz2.2;refine ⟨p2,m*z,n+1,_,by rw [← e3],Nat.mul_pos hm hz2.1,by lia,by lia,.inl hp2',fun p3 H3 hp3 y3 hp3'=>?_⟩;refine ⟨y.trans (y2.trans y3),p3,_,rfl,?_⟩;rw [zC3,hz,below_app];exact hp3'
 · rintro σ H' ⟨y,r,p4,rfl,hr'⟩;rw [cO,zA6 (zA1 _)] at hr';exact q r H' y hr'
end
end K73
namespace L2
open PySem PySem.Spec PyProof.Rows
theorem iP {n:Nat} (h:n<=6000):n<sizeLine:=by rw [sizeLine_eq];lia
end L2
namespace M03
def cn (ns:List Int) (j:Int):Nat:=ns.countP fun n=>decide (j<n)
def tab (ns:List Int) (g:Nat):List Int:=(List.range g).map fun (j:Nat)=>(cn ns j:Int)
theorem tab_len (ns:List Int) (g:Nat):(tab ns g).length=g:=by unfold tab;rw [zA0,List.length_range]
theorem tab_succ (ns:List Int) (g:Nat):tab ns (g+1)=tab ns g++[(cn ns g:Int)]:=by
 unfold tab;rw [List.range_succ,zA7];rfl
def hd (ns:List Int):Int:=ns.headD 0
def tn (ns:List Int):List Int:=tab ns (hd ns).toNat
end M03
namespace M17
open MRow M80
def bx (l k:Nat):Nat->Int:=(ups k).foldl (fun g i=>off (put g i) (l+i)) dl
theorem iZ (l k:Nat):bx l (k+1)=off (put (bx l k) (k+1)) (l+(k+1)):=by unfold bx;rw [bf,List.foldl_append];rfl
theorem mN (f:Nat->Nat):∀ (ss:List Nat) (g:Nat->Int),(∀ x∈ss,0<x)->ss.foldl (fun g s=>off (put g s) (f s)) g=OL (PL g ss) (ss.map f)
 | [],_,_=>rfl
 | s::ss,g,h=>by
   have h1:=fun x hx=>h x (zA5 s hx);rw [zH9,mN f ss _ h1,PL_cons,zC5,i5,jR ss _ _ h1]
theorem bx_is (l k:Nat):bx l k=OL (PL dl (ups k)) ((ups k).map (l + ·)):=mN (l + ·) (ups k) dl fun x hx=>(bv hx).1
theorem kE (l:Nat):∀ k,ups (l+k)=ups l++(ups k).map (l + ·)
 | 0=>by simp [ups]
 | k+1=>by rw [← zH2,bf,kE l k,bf,zA7,zC1];rfl
theorem nG (l k:Nat):bx l k=OL (PL (PL dl (ups k)) (ups l)) (ups (l+k)):=by
 rw [kE,rT,m8 (ups l) _ fun x hx=>(bv hx).1,bx_is]
theorem cY (l k:Nat):bx l k=bx k l:=by
 rw [nG,nG,← dA,← dA,nT List.perm_append_comm dl fun x hx=>?_,Nat.add_comm];rcases zB7.mp hx with h | h <;> exact (bv h).1
theorem off_lo {g:Nat->Int} {s n:Nat} (h:n<s):off g s n=g n:=by unfold off;rw [if_neg (by lia)];lia
theorem bx_low {l k j:Nat} (h:j<=k):bx l (k+1) j=bx l k j:=by
 rw [iZ,off_lo (by lia),eV _ (by lia) (by lia)]
theorem rH {l n j:Nat} (h:j<=n):∀ e,bx l (n+e) j=bx l n j
 | 0=>rfl
 | e+1=>by rw [← zH2,bx_low (by lia),rH h e]
theorem rG {l k n j:Nat} (h:j<=n):bx l (min k n) j=bx l k j:=by
 by_cases c:k<=n
 · rw [zI0 c]
 · rw [zI3 (by lia),← rH (l:=l) h (k - n),show n+(k - n)=k by lia]
theorem rJ {l k j:Nat} (h:j<=l):bx l k j=PL dl (ups k) j:=by
 rw [bx_is];exact gO _ (Al.refl l _) (fun x hx=>by obtain ⟨y,hy,rfl⟩:=zD2.mp hx;have:=bv hy;show l<l+y;lia) j h
theorem rR (k:Nat):PL dl (ups (k+1))=put (PL dl (ups k)) (k+1):=by rw [bf,dA];rfl
theorem R_low {k j:Nat} (h:j<=k):PL dl (ups (k+1)) j=PL dl (ups k) j:=by rw [rR,eV _ (by lia) (by lia)]
theorem R_far {n j:Nat} (h:j<=n):∀ e,PL dl (ups (n+e)) j=PL dl (ups n) j
 | 0=>rfl
 | e+1=>by rw [← zH2,R_low (by lia),R_far h e]
theorem nP {k n j:Nat} (h:j<=n):PL dl (ups (min k n)) j=PL dl (ups k) j:=by
 by_cases c:k<=n
 · rw [zI0 c]
 · rw [zI3 (by lia),← R_far h (k - n),show n+(k - n)=k by lia]
def Ls (d:Nat):Nat->Nat
 | 0=>0
 | m+1=>Ls d m+1+d*m
theorem vc (d:Nat):∀ m,m<=Ls d m
 | 0=>zA1 _
 | m+1=>by have:=vc d m;show m+1<=Ls d m+1+d*m;lia
theorem Ls_up (d:Nat) (m:Nat):∀ e,Ls d m<=Ls d (m+e)
 | 0=>zA1 _
 | e+1=>zE6 (Ls_up d m e) (by show Ls d (m+e)<=Ls d (m+e)+1+d*(m+e);lia)
def fq (d:Nat):Nat->Nat->Int
 | 0,_=>0
 | m+1,j=>fq d m j+if Ls d m<=j then PL dl (ups m) (j - Ls d m) else 0
theorem rf {d m n j:Nat} (hm:n<Ls d m) (h:j<=n):∀ e,fq d (m+e) j=fq d m j
 | 0=>rfl
 | e+1=>by
   show (fq d (m+e) j+if Ls d (m+e)<=j then PL dl (ups (m+e)) (j - Ls d (m+e)) else 0)=_;have:=Ls_up d m e;rw [if_neg (show ¬ Ls d (m+e)<=j by lia),rf hm h e,Int.add_zero]
def fow (d:Nat):Nat->Int:=fq d 602
theorem rg {d m n j:Nat} (hm:n<Ls d m) (hm2:m<=602) (h:j<=n):fq d m j=fow d j:=by
 have:=rf hm h (602 - m);rw [show m+(602 - m)=602 by lia] at this;exact this.symm
def rsz (m:Nat) (rs:List Int) (n:Nat):List Nat:=(ups n).filter fun s=>decide ((s:Int) % (m:Int)∈rs)
theorem lr {m:Nat} {rs:List Int} {n j:Nat} (h:j<=n):∀ e,PL dl (rsz m rs (n+e)) j=PL dl (rsz m rs n) j
 | 0=>rfl
 | e+1=>by
   have:rsz m rs (n+(e+1))=rsz m rs (n+e)++[n+e+1].filter (fun (s:Nat)=>decide ((s:Int) % (m:Int)∈rs)):=by
    unfold rsz;rw [← zH2,bf,zF6]
   rw [this,dA,← lr h e];by_cases c:(((n+e+1:Nat):Int) % (m:Int)∈rs)
   · rw [zG1 (p:=fun s:Nat=>decide ((s:Int) % (m:Int)∈rs)) (decide_eq_true c)];show put (PL dl (rsz m rs (n+e))) (n+e+1) j=_;rw [eV _ (by lia) (by lia)]
   · rw [zG0 (p:=fun s:Nat=>decide ((s:Int) % (m:Int)∈rs)) (by simpa using c)];rfl
theorem oq {m n:Nat} (hm:0<m) {rs:List Int} (hrs:∀ x:Nat,(((x:Int) % (m:Int))∈rs↔¬ x % m=0)) {j:Nat} (h:j<=n):below m (ups n) dl j=PL dl (rsz m rs n) j:=by
 have h1:m*(n / m)<=n:=Nat.mul_div_le n m;have h2:n<m*(n / m+1):=by have:=Nat.lt_mul_div_succ n hm;lia
 have s1:=sieve1 hm (Nat.div_le_self n m) h2 j h;rw [s1,show R n=R n from rfl,sieve0 hm h1 h2];have e:((ups n).filter fun x=>!decide (x % m=0))=rsz m rs n:=by
  unfold rsz;refine List.filter_congr fun x _=>?_;by_cases c:x % m=0
  · rw [decide_eq_true c,decide_eq_false (fun z=>((hrs x).mp z) c)];rfl
  · rw [decide_eq_false c,decide_eq_true ((hrs x).mpr c)];rfl
 rw [e]
end M17
namespace M12
open MRow M80 M17
def sh (e:Nat) (g:Nat->Int) (i:Nat):Int:=if e<=i then g (i - e) else 0
theorem oF (a b:Nat) (g:Nat->Int) (i:Nat):sh a (sh b g) i=sh (a+b) g i:=by
 unfold sh;by_cases h1:a<=i
 · rw [if_pos h1];by_cases h2:a+b<=i
   · rw [if_pos (by lia),if_pos h2,Nat.sub_sub]
   · rw [if_neg (by lia),if_neg h2]
 · rw [if_neg h1,if_neg (by lia)]
def ex (d m j:Nat):Nat:=m*j+d*(m*(m - 1) / 2)
theorem tri (m:Nat):(m+1)*(m+1 - 1) / 2=m*(m - 1) / 2+m:=by
 cases m with
 | zero=>rfl
 | succ k=>
   rw [Nat.add_sub_cancel,Nat.add_sub_cancel]
   have:(k+1+1)*(k+1)=(k+1)*k+(k+1)*2:=by grind
   rw [this,Nat.add_mul_div_right _ _ (by decide)]
theorem ex_up (d m j:Nat):ex d m (j+1)=ex d m j+m:=by unfold ex;rw [Nat.mul_add];lia
theorem ex_in (d m j:Nat):ex d (m+1) j=j+ex d m (j+d):=by
 unfold ex;rw [tri,Nat.mul_add d,Nat.mul_add m,Nat.add_mul,Nat.mul_comm m d];lia
theorem ls_ex (d:Nat):∀ m,Ls d m=ex d m 1
 | 0=>by unfold ex;simp [Ls]
 | m+1=>by
   show Ls d m+1+d*m=_;rw [ls_ex d m];unfold ex;rw [tri,Nat.mul_add d];lia
end M12
namespace M17
open MRow M80
def blk (s:Nat):Nat->List Int->List Int->List Int
 | 0,_,_=>[]
 | f+1,prev,l=>match l with
   | []=>[]
   | _=>List.zipWith (· + ·) (l.take s) prev++blk s f (List.zipWith (· + ·) (l.take s) prev) (l.drop s)
def putL (L s:Nat) (l:List Int):List Int:=blk s (L / s+1) (List.replicate s 0) l
def tbf (g:Nat->Int) (p L:Nat):List Int:=(List.range L).map fun j=>g (p+j)
theorem cQ (g:Nat->Int) (p L:Nat):(tbf g p L).length=L:=by unfold tbf;simp
theorem dQ {g:Nat->Int} {p L i:Nat} (h:i<(tbf g p L).length):(tbf g p L)[i]=g (p+i):=by simp [tbf]
theorem ow (g:Nat->Int) (p L s:Nat):(tbf g p L).take s=tbf g p (min s L):=by
 unfold tbf;rw [← List.map_take,List.take_range]
theorem ox (g:Nat->Int) (p L s:Nat):(tbf g p L).drop s=tbf g (p+s) (L - s):=by
 refine zG9 (by simp [tbf]) fun i h1 h2=>?_;rw [List.getElem_drop,dQ,dQ,zH2]
theorem sw (g:Nat->Int) (p a b:Nat):tbf g p a++tbf g (p+a) b=tbf g p (a+b):=by
 refine zG9 (by simp [tbf]) fun i h1 h2=>?_;rw [List.getElem_append];split
 · rw [dQ,dQ]
 · rename_i c
   have c':¬ i<a:=by rw [cQ] at c;exact c
   rw [dQ,dQ];congr 1;rw [cQ];lia
theorem zip_is {g:Nat->Int} {s p k:Nat} {prev:List Int} (hs:0<s) (hk:k<=s) (hl:prev.length=s) (hp:∀ j,j<k->prev.getD j 0=if s<=p+j then put g s (p+j - s) else 0) :
 List.zipWith (· + ·) (tbf g p k) prev=tbf (put g s) p k:=by
 refine zG9 (by rw [List.length_zipWith,cQ,cQ];lia) fun i h1 h2=>?_;have hi:i<k:=by rw [cQ] at h2;exact h2
 rw [List.getElem_zipWith];have e:=hp i hi;rw [zA9,List.getElem?_eq_getElem (by lia)] at e;have e:prev[i]=if s<=p+i then put g s (p+i - s) else 0:=e
 rw [e,dQ,dQ,cv g hs (p+i)]
theorem rK {g:Nat->Int} {s:Nat} (hs:0<s):∀ (f p L:Nat) (prev:List Int),L<f*s->prev.length=s->(∀ j,j<min s L->prev.getD j 0=if s<=p+j then put g s (p+j - s) else 0)->blk s f prev (tbf g p L)=tbf (put g s) p L
 | 0,p,L,prev,h,_,_=>by lia
 | f+1,p,0,prev,_,_,_=>rfl
 | f+1,p,L+1,prev,h,hl,hp=>by
   have e0:∃ x r,tbf g p (L+1)=x::r:=by
    cases e:tbf g p (L+1) with
    | nil=>have:=cQ g p (L+1);rw [e] at this;cases this
    | cons x r=>exact ⟨x,r,rfl⟩
   obtain ⟨x,r,e0⟩:=e0;have e1:blk s (f+1) prev (tbf g p (L+1))=List.zipWith (· + ·) ((tbf g p (L+1)).take s) prev++blk s f (List.zipWith (· + ·) ((tbf g p (L+1)).take s) prev) ((tbf g p (L+1)).drop s):=by rw [e0];rfl
   rw [e1,ow,ox,zip_is hs (Nat.min_le_left _ _) hl hp];by_cases c:L+1<=s
   · have z:L+1 - s=0:=by lia
     rw [z,zI3 c];have:blk s f (tbf (put g s) p (L+1)) (tbf g (p+s) 0)=[]:=by cases f <;> rfl
     rw [this,zC9]
   · rw [zI0 (by lia),rK hs f (p+s) (L+1 - s) (tbf (put g s) p s) (by rw [Nat.succ_mul] at h;lia) (cQ _ _ _) fun j hj=>?_,sw,show s+(L+1 - s)=L+1 by lia];have hj':j<s:=by lia
     unfold tbf;rw [zA9,List.getElem?_map,List.getElem?_range hj',if_pos (by lia),show p+s+j - s=p+j by lia];rfl
theorem qv (g:Nat->Int) (L:Nat):tb g L=tbf g 0 L:=by unfold tb tbf;exact List.map_congr_left fun j _=>by rw [zH1]
theorem sW (g:Nat->Int) {s:Nat} (hs:0<s) (L:Nat):putL L s (tb g L)=tb (put g s) L:=by
 unfold putL;rw [qv,qv];refine rK hs _ 0 L _ ?_ (zC8 ..) fun j hj=>?_
 · have:=Nat.lt_mul_div_succ L hs;rw [Nat.mul_comm];exact this
 · rw [if_neg (by lia),zA9,List.getElem?_replicate,if_pos (by lia)];rfl
def PLL (L:Nat) (l:List Int) (ss:List Nat):List Int:=ss.foldl (fun l s=>putL L s l) l
theorem rS (L:Nat):∀ (ss:List Nat) (g:Nat->Int),(∀ x∈ss,0<x)->PLL L (tb g L) ss=tb (PL g ss) L
 | [],_,_=>rfl
 | s::ss,g,h=>by
   show PLL L (putL L s (tb g L)) ss=_;rw [sW g (h s zA3),rS L ss _ fun x hx=>h x (zA5 s hx)];rfl
end M17
namespace M12
open MRow M80 M17
def nX (n:Nat):List Nat:=(List.range ((n+1) / 2)).map fun k=>2*k+1
theorem pO {n x:Nat} (h:x∈nX n):0<x/\x<=n:=by
 unfold nX at h;obtain ⟨k,hk,rfl⟩:=zD2.mp h;have:=zE7.mp hk;lia
theorem below_app (m:Nat) (a b:List Nat) (g:Nat->Int):below m (a++b) g=below m b (below m a g):=by unfold below;rw [List.foldl_append]
def fl (p:Nat->Bool) (n:Nat):List Nat:=(ups n).filter p
theorem iW (p:Nat->Bool) (n:Nat):fl p (n+1)=fl p n++if p (n+1)=true then [n+1] else []:=by
 unfold fl;rw [bf,zF6];congr 1;by_cases h:p (n+1)=true
 · rw [if_pos h,zG1 h];rfl
 · rw [if_neg h,zG0 h];rfl
theorem mP (k:Nat):∀ n,fl (fun s=>decide (s<=k)) n=ups (min k n)
 | 0=>by rw [Nat.min_zero];rfl
 | n+1=>by
   rw [iW,mP k n];by_cases h:n+1<=k
   · rw [if_pos (decide_eq_true h),zI3 h,zI3 (by lia),bf]
   · rw [if_neg (by simpa using h),zC9,zI0 (by lia),zI0 (by lia)]
theorem rh (n:Nat):fl (fun _=>true) n=ups n:=by
 unfold fl;exact List.filter_eq_self.mpr fun _ _=>rfl
theorem jI {m n:Nat} (hm:0<m) {j:Nat} (h:j<=n):below m (ups n) dl j=PL dl (fl (fun s=>decide (0<(s:Int) % (m:Int))) n) j:=by
 have hrs:∀ x:Nat,(((x:Int) % (m:Int))∈(List.range (m - 1)).map (fun k:Nat=>((k:Int)+1))↔¬ x % m=0):=fun x=>by
  have e:(x:Int) % (m:Int)=((x % m:Nat):Int):=(Int.natCast_emod x m).symm;have hl:=Nat.mod_lt x hm;rw [e];constructor
  · intro h h0;obtain ⟨k,_,hk⟩:=zD2.mp h;lia
  · intro h0;exact zD2.mpr ⟨x % m - 1,zE7.mpr (by lia),by lia⟩
 rw [oq hm hrs h];congr 2;unfold rsz fl;refine List.filter_congr fun x _=>?_;have e:(x:Int) % (m:Int)=((x % m:Nat):Int):=(Int.natCast_emod x m).symm;have:=hrs x;by_cases h0:x % m=0
 · have a:¬ ((x:Int) % (m:Int))∈(List.range (m - 1)).map (fun k:Nat=>((k:Int)+1)):=fun z=>this.mp z h0;have b:¬ 0<(x:Int) % (m:Int):=by rw [e];lia
   rw [decide_eq_false a,decide_eq_false b]
 · have a:=this.mpr h0;have b:0<(x:Int) % (m:Int):=by rw [e];lia
   rw [decide_eq_true a,decide_eq_true b]
end M12
namespace M24
open MRow M80 M17 M12
theorem ma (g:Nat->Int) (s n:Nat):off g s n=g n - sh s g n:=rfl
theorem qJ (e:Nat) (f g:Nat->Int) (n:Nat):sh e (fun i=>f i - g i) n=sh e f n - sh e g n:=by
 unfold sh;by_cases h:e<=n
 · rw [if_pos h,if_pos h,if_pos h]
 · rw [if_neg h,if_neg h,if_neg h];lia
theorem ic (e m:Nat) (g:Nat->Int):off (sh e g) m=sh e (off g m):=by
 funext n;rw [ma,oF];show _=sh e (fun i=>g i - sh m g i) n;rw [qJ,oF,Nat.add_comm]
theorem mf (f g:Nat->Int) (m:Nat):off (fun n=>f n+g n) m=fun n=>off f m n+off g m n:=by
 funext n;unfold off;split <;> dsimp only <;> lia
theorem bx_a (l k:Nat):off (bx l (k+1)) (k+1)=off (bx l k) (l+(k+1)):=by rw [iZ,eo,gB _ (by lia)]
theorem bx_b (l k:Nat):off (bx (l+1) k) (l+1)=off (bx l k) (l+(k+1)):=by
 rw [cY (l+1) k,bx_a k l,cY k l,show k+(l+1)=l+(k+1) by lia]
theorem md {f g:Nat->Int} {s:Nat} (hs:0<s) (h:off f s=off g s):f=g:=by rw [← lD f hs,h,lD g hs]
theorem qT (k l:Nat):bx (l+1) (k+1)=fun n=>bx (l+1) k n+sh (k+1) (bx l (k+1)) n:=by
 refine md (s:=k+1) (by lia) (md (s:=l+1) (by lia) ?_);rw [bx_a,eo,bx_b,mf,mf,eo (bx (l+1) k),bx_b,ic,bx_a,ic];generalize off (bx l k) (l+(k+1))=Y;funext n;rw [ma,ma];show _=Y n - sh (k+1) Y n+sh (k+1) (fun i=>Y i - sh (l+1) Y i) n;rw [qJ,oF,show k+1+(l+1)=l+1+(k+1) by lia];lia
theorem bx_none (l:Nat):bx l 0=dl:=rfl
theorem dw (k:Nat):bx 0 k=dl:=by rw [cY];rfl
end M24
namespace M11
open MRow M80 M17 M12 M24
def lsN (prev:Nat->List (List Nat)) (s:Nat):Nat->Nat->List (List Nat)
 | 0,n=>prev n
 | f+1,n=>(if s<=n then (lsN prev s f (n - s)).map (s::·) else [])++prev n
def Lst:Nat->Nat->List (List Nat)
 | 0=>fun n=>if n=0 then [[]] else []
 | m+1=>fun n=>lsN (Lst m) (m+1) n n
theorem eB {f:Nat->List (List Nat)} {s:Nat} (hs:0<s):∀ (k n:Nat),n<=k->lsN f s k n=lsN f s n n
 | 0,n,h=>by have:n=0:=(by lia); subst this;rfl
 | k+1,0,_=>by
   show (if s<=0 then _ else [])++f 0=f 0;rw [if_neg (by lia)];rfl
 | k+1,n+1,h=>by
   show (if s<=n+1 then (lsN f s k (n+1 - s)).map (s::·) else [])++f (n+1)=(if s<=n+1 then (lsN f s n (n+1 - s)).map (s::·) else [])++f (n+1);by_cases hn:s<=n+1
   · rw [if_pos hn,if_pos hn,eB hs k _ (by lia),eB hs n _ (by lia)]
   · rw [if_neg hn,if_neg hn]
theorem uy (m n:Nat):Lst (m+1) n=(if m+1<=n then (Lst (m+1) (n - (m+1))).map ((m+1)::·) else [])++Lst m n:=by
 show lsN (Lst m) (m+1) n n=(if m+1<=n then (lsN (Lst m) (m+1) (n - (m+1)) (n - (m+1))).map ((m+1)::·) else [])++Lst m n;rw [← eB (by lia) (n+1) n (by lia)];show (if m+1<=n then (lsN (Lst m) (m+1) n (n - (m+1))).map ((m+1)::·) else [])++Lst m n=_;by_cases hn:m+1<=n
 · rw [if_pos hn,if_pos hn,eB (by lia) n _ (by lia)]
 · rw [if_neg hn,if_neg hn]
def cn (m n:Nat) (p:List Nat->Bool):Int:=((Lst m n).countP p:Nat)
theorem cn_zero (n:Nat) (p:List Nat->Bool):cn 0 n p=if p []=true then dl n else 0:=by
 unfold cn;show ((List.countP p (if n=0 then [[]] else []):Nat):Int)=_;unfold dl;by_cases h:n=0
 · rw [if_pos h,if_pos h]
   cases hp:p [] with
   | true=>rw [List.countP_cons_of_pos hp];rfl
   | false=>rw [List.countP_cons_of_neg (by rw [hp];decide)];rfl
 · rw [if_neg h,if_neg h]
   cases p [] <;> rfl
theorem cr (m n:Nat) (p:List Nat->Bool):cn (m+1) n p=(if m+1<=n then cn (m+1) (n - (m+1)) (fun l=>p ((m+1)::l)) else 0)+cn m n p:=by
 unfold cn;rw [uy,List.countP_append,zE3];congr 1;by_cases h:m+1<=n
 · rw [if_pos h,if_pos h,List.countP_map];rfl
 · rw [if_neg h,if_neg h];rfl
theorem bC {m n:Nat} {p q:List Nat->Bool} (h:∀ l∈Lst m n,p l=q l):cn m n p=cn m n q:=by
 unfold cn;rw [List.countP_congr fun l hl=>by rw [h l hl]]
theorem dJ {m n:Nat} {p:List Nat->Bool} (h:∀ l∈Lst m n,p l=false):cn m n p=0:=by
 rw [bC (q:=fun _=>false) h];unfold cn;rw [List.countP_false];rfl
theorem dk:∀ m n l,l∈Lst m n->(∀ x∈l,1<=x/\x<=m)/\l.sum=n:=by
 intro m;induction m with
 | zero=>
   intro n l h
   have h:l∈(if n=0 then [[]] else []):=h
   by_cases e:n=0
   · rw [if_pos e] at h;rw [zC6.mp h];exact ⟨fun x hx=>(nomatch hx),e.symm⟩
   · rw [if_neg e] at h;cases h
 | succ m ih=>
   intro n
   induction n using Nat.strongRecOn with
   | _ n ihn=>
     intro l h
     rw [uy] at h
     rcases zB7.mp h with h | h
     · by_cases e:m+1<=n
       · rw [if_pos e] at h;obtain ⟨y,hy,rfl⟩:=zD2.mp h;obtain ⟨a,b⟩:=ihn (n - (m+1)) (by lia) y hy;refine ⟨fun x hx=>?_,by rw [zE0,b];lia⟩;rcases zA8.mp hx with e | e
         · lia
         · exact a x e
       · rw [if_neg e] at h;cases h
     · obtain ⟨a,b⟩:=ih n l h;exact ⟨fun x hx=>by have:=a x hx;lia,b⟩
theorem ls_len {m n:Nat} {l:List Nat} (h:l∈Lst m n):l.length<=n:=by
 obtain ⟨a,b⟩:=dk m n l h;rw [← b];clear b h;induction l with
 | nil=>exact zA1 _
 | cons x l ih=>
   rw [zB5,zE0]
   have:=a x zA3
   have:=ih fun y hy=>a y (zA5 _ hy)
   lia
theorem jM (p:Nat->Bool):∀ m n,cn m n (fun l=>l.all p)=PL dl (fl p m) n:=by
 intro m;induction m with
 | zero=>intro n;rw [cn_zero];rfl
 | succ m ih=>
   intro n
   rw [iW]
   cases hp:p (m+1) with
   | false=>
     rw [if_neg (by decide),zC9,← ih n,cr]
     rw [show (if m+1<=n then cn (m+1) (n - (m+1)) (fun l=>((m+1)::l).all p) else 0)=0 from ?_]
     · lia
     · split
       · exact dJ fun l _=>by rw [List.all_cons,hp];rfl
       · rfl
   | true=>
     rw [if_pos rfl,dA]
     show _=put (PL dl (fl p m)) (m+1) n
     induction n using Nat.strongRecOn with
     | _ n ihn=>
       rw [cr,cv _ (by lia),ih n]
       by_cases h:m+1<=n
       · rw [if_pos h,if_pos h,← ihn (n - (m+1)) (by lia)];have:cn (m+1) (n - (m+1)) (fun l=>((m+1)::l).all p)=cn (m+1) (n - (m+1)) (fun l=>l.all p):=bC fun l _=>by rw [List.all_cons,hp];rfl
         rw [this];lia
       · rw [if_neg h,if_neg h];lia
def inb (k l:Nat) (x:List Nat):Bool:=decide (x.length<=l)&&x.all fun a=>decide (a<=k)
theorem rF (k:Nat):∀ m l n,cn m n (inb k l)=bx l (min m k) n:=by
 intro m;induction m with
 | zero=>intro l n;rw [cn_zero,if_pos (by unfold inb;simp),Nat.zero_min,bx_none]
 | succ m ih=>
   intro l
   induction l with
   | zero=>
     intro n
     rw [cr,ih 0 n,dw,dw]
     rw [show (if m+1<=n then cn (m+1) (n - (m+1)) (fun l=>inb k 0 ((m+1)::l)) else 0)=0 from ?_]
     · lia
     · split
       · exact dJ fun l _=>by unfold inb;simp
       · rfl
   | succ l ihl=>
     intro n
     rw [cr,ih (l+1) n]
     by_cases hk:m+1<=k
     · rw [zI0 hk,zI0 (by lia),qT];dsimp only;have:(if m+1<=n then cn (m+1) (n - (m+1)) (fun x=>inb k (l+1) ((m+1)::x)) else 0)=sh (m+1) (bx l (m+1)) n:=by
        unfold sh;by_cases h:m+1<=n
        · rw [if_pos h,if_pos h];have e:=ihl (n - (m+1));rw [zI0 hk] at e;rw [← e];refine bC fun x _=>?_;unfold inb;rw [List.all_cons,decide_eq_true hk,zB5];simp
        · rw [if_neg h,if_neg h]
       rw [this];lia
     · rw [zI3 (by lia),zI3 (by lia)];rw [show (if m+1<=n then cn (m+1) (n - (m+1)) (fun x=>inb k (l+1) ((m+1)::x)) else 0)=0 from ?_]
       · lia
       · split
         · refine dJ fun x _=>?_;unfold inb;rw [List.all_cons,decide_eq_false hk];simp
         · rfl
theorem cn_few {n l:Nat}:cn n n (fun x=>decide (x.length<=l))=PL dl (ups l) n:=by
 have e:cn n n (fun x=>decide (x.length<=l))=cn n n (inb n l):=bC fun x hx=>by
  unfold inb;rw [show (x.all fun a=>decide (a<=n))=true from zB8.mpr fun a ha=>decide_eq_true ((dk n n x hx).1 a ha).2,Bool.and_true]
 rw [e,rF,Nat.min_self,cY,rJ (zA1 n)]
def cts (t:Nat) (x:List Nat):Bool:=x.all fun a=>decide (x.count a<t)
def ctj (t M j:Nat) (x:List Nat):Bool:=decide (x.count M<j)&&x.all fun a=>decide (a=M)||decide (x.count a<t)
theorem ctj_t {t:Nat} (ht:0<t) (M:Nat) (x:List Nat):ctj t M t x=cts t x:=by
 unfold ctj cts;by_cases h:x.count M<t
 · rw [decide_eq_true h,zH3];rw [zH8,zB8,zB8];refine ⟨fun g a ha=>?_,fun g a ha=>by rw [g a ha,Bool.or_true]⟩;have:=g a ha;by_cases e:a=M
   · rw [e];exact decide_eq_true h
   · rw [decide_eq_false e,Bool.false_or] at this;exact this
 · rw [decide_eq_false h,Bool.false_and];refine (Bool.eq_false_iff.mpr fun g=>?_).symm;have hm:M∈x:=by
    refine List.count_pos_iff.mp ?_;lia
   exact h (of_decide_eq_true (zB8.mp g M hm))
theorem uP {t j m:Nat} {x:List Nat} (hx:∀ a∈x,a<=m):ctj t (m+1) (j+1) x=cts t x:=by
 unfold ctj cts;have c0:x.count (m+1)=0:=List.count_eq_zero.mpr fun h=>by have:=hx _ h;lia
 rw [c0,decide_eq_true (by lia),zH3];rw [zH8,zB8,zB8];refine ⟨fun g a ha=>?_,fun g a ha=>by rw [g a ha,Bool.or_true]⟩;have:=g a ha;rw [decide_eq_false (by have:=hx a ha;lia),Bool.false_or] at this;exact this
theorem qh (t M j:Nat) (x:List Nat):ctj t M (j+1) (M::x)=ctj t M j x:=by
 unfold ctj;rw [List.count_cons_self,List.all_cons,decide_eq_true (rfl:M=M),Bool.true_or,zH3];congr 1
 · exact decide_eq_decide.mpr (by lia)
 · refine List.all_congr rfl fun a=>?_;by_cases e:a=M
   · rw [decide_eq_true e,Bool.true_or,Bool.true_or]
   · rw [decide_eq_false e,Bool.false_or,Bool.false_or,List.count_cons_of_ne (Ne.symm e)]
theorem offput (g:Nat->Int) {s:Nat} (hs:0<s) (j n:Nat):off (put g s) ((j+1)*s) n=(if s<=n then off (put g s) (j*s) (n - s) else 0)+g n:=by
 unfold off;rw [cv g hs n];have e:(j+1)*s=j*s+s:=by grind
 by_cases h:s<=n
 · rw [if_pos h,if_pos h];by_cases h2:(j+1)*s<=n
   · rw [if_pos h2,if_pos (by lia),show n - s - j*s=n - (j+1)*s by lia];lia
   · rw [if_neg h2,if_neg (by lia)];lia
 · rw [if_neg h,if_neg h,if_neg (by lia)];lia
theorem qi {t:Nat} (ht:0<t):∀ m n,cn m n (cts t)=below t (ups m) dl n:=by
 intro m;induction m with
 | zero=>intro n;rw [cn_zero,if_pos (by unfold cts;rfl)];rfl
 | succ m ih=>
   have key:∀ j n,cn (m+1) n (ctj t (m+1) j)=off (put (below t (ups m) dl) (m+1)) (j*(m+1)) n:=by
    intro j;induction j with
    | zero=>
      intro n
      rw [dJ fun x _=>by unfold ctj;rw [decide_eq_false (Nat.not_lt_zero _),Bool.false_and],Nat.zero_mul]
      unfold off
      rw [if_pos (zB0 _),Nat.sub_zero]
      lia
    | succ j ihj=>
      intro n
      rw [cr,offput _ (by lia),← ih n]
      congr 1
      · by_cases h:m+1<=n
        · rw [if_pos h,if_pos h,← ihj];exact bC fun x _=>qh _ _ _ _
        · rw [if_neg h,if_neg h]
      · exact bC fun x hx=>uP fun a ha=>((dk m n x hx).1 a ha).2
   intro n
   rw [bC (q:=ctj t (m+1) t) fun x _=>(ctj_t ht _ x).symm,key,bf,below_app]
   rfl
def vd (d:Nat):List Nat->Bool
 | []=>true
 | [_]=>true
 | a::b::r=>decide (b+d<=a)&&vd d (b::r)
def hdle (M:Nat):List Nat->Bool
 | []=>true
 | a::_=>decide (a<=M)
theorem uR (q:List Nat->Bool) (M:Nat):∀ e n,cn (M+e) n (fun x=>hdle M x&&q x)=cn M n q:=by
 intro e;induction e with
 | zero=>
   intro n
   refine bC fun x hx=>?_
   cases x with
   | nil=>rfl
   | cons a x=>show (decide (a<=M)&&q (a::x))=_;rw [decide_eq_true ((dk M n _ hx).1 a zA3).2,zH3]
 | succ e ih=>
   intro n
   show cn (M+e+1) n _=_
   rw [cr,ih n]
   rw [show (if M+e+1<=n then cn (M+e+1) (n - (M+e+1)) (fun l=>hdle M ((M+e+1)::l)&&q ((M+e+1)::l)) else 0)=0 from ?_]
   · lia
   · split
     · refine dJ fun l _=>?_;show (decide (M+e+1<=M)&&_)=false;rw [decide_eq_false (by lia),Bool.false_and]
     · rfl
def vk (d k:Nat) (x:List Nat):Bool:=vd d x&&decide (x.length=k)
theorem sj {d k m:Nat} (hd:1<=d) (x:List Nat) (hx:∀ a∈x,1<=a):vk d (k+1) ((m+1)::x)=(hdle (m+1 - d) x&&vk d k x):=by
 unfold vk
 cases x with
 | nil=>
   show (true&&decide (1=k+1))=(true&&(true&&decide (0=k)))
   rw [zH3,zH3,zH3]
   exact decide_eq_decide.mpr (by lia)
 | cons b r=>
   show ((decide (b+d<=m+1)&&vd d (b::r))&&decide ((b::r).length+1=k+1))=(decide (b<=m+1 - d)&&(vd d (b::r)&&decide ((b::r).length=k)))
   have h1:=hx b zA3
   rw [show decide ((b::r).length+1=k+1)=decide ((b::r).length=k) from decide_eq_decide.mpr (by lia),show decide (b+d<=m+1)=decide (b<=m+1 - d) from decide_eq_decide.mpr (by lia),Bool.and_assoc]
def vE (d k m:Nat) (n:Nat):Int:=cn m n (vk d k)
theorem kD (d m n:Nat):vE d 0 m n=dl n:=by
 unfold vE;induction m generalizing n with
 | zero=>rw [cn_zero,if_pos (by unfold vk;rfl)]
 | succ m ih=>
   rw [cr,ih n]
   rw [show (if m+1<=n then cn (m+1) (n - (m+1)) (fun l=>vk d 0 ((m+1)::l)) else 0)=0 from ?_]
   · lia
   · split
     · refine dJ fun l _=>?_;unfold vk;rw [zB5,decide_eq_false (by lia),Bool.and_false]
     · rfl
theorem vE_zero (d k n:Nat):vE d (k+1) 0 n=0:=by
 unfold vE;rw [cn_zero,if_neg];unfold vk;simp
theorem eL {d:Nat} (hd:1<=d) (k m:Nat):vE d (k+1) (m+1)=fun n=>vE d (k+1) m n+sh (m+1) (vE d k (m+1 - d)) n:=by
 funext n;show cn (m+1) n (vk d (k+1))=_;rw [cr];have:(if m+1<=n then cn (m+1) (n - (m+1)) (fun l=>vk d (k+1) ((m+1)::l)) else 0)=sh (m+1) (vE d k (m+1 - d)) n:=by
  unfold sh;by_cases h:m+1<=n
  · rw [if_pos h,if_pos h];have e:=uR (vk d k) (m+1 - d) (m+1 - (m+1 - d)) (n - (m+1));rw [show m+1 - d+(m+1 - (m+1 - d))=m+1 by lia] at e;show _=cn (m+1 - d) (n - (m+1)) (vk d k);rw [← e];exact bC fun x hx=>sj hd x fun a ha=>((dk _ _ x hx).1 a ha).1
  · rw [if_neg h,if_neg h]
 rw [this];show _=cn m n (vk d (k+1))+_;lia
theorem qK (e:Nat) (f g:Nat->Int):sh e (fun i=>f i+g i)=fun n=>sh e f n+sh e g n:=by
 funext n;unfold sh;by_cases h:e<=n
 · rw [if_pos h,if_pos h,if_pos h]
 · rw [if_neg h,if_neg h,if_neg h];rfl
theorem jm (a b:Nat) (g:Nat->Int):sh a (sh b g)=sh (a+b) g:=funext fun i=>oF a b g i
theorem fj (d k:Nat):ex d (k+1) 1=d*k+1+ex d k 1:=by
 rw [ex_in];have e:∀ e,ex d k (1+e)=ex d k 1+k*e:=by
  intro e;induction e with
  | zero=>rw [Nat.mul_zero];rfl
  | succ e ih=>rw [show 1+(e+1)=(1+e)+1 by lia,ex_up,ih];grind
 rw [e d];grind
theorem qr {d:Nat} (hd:1<=d):∀ k m,m<=d*k->vE d (k+1) m=fun _=>0:=by
 intro k;induction k with
 | zero=>intro m h;rw [show m=0 by lia];funext n;exact vE_zero d 0 n
 | succ k ih=>
   intro m
   induction m with
   | zero=>intro _;funext n;exact vE_zero d _ n
   | succ m ihm=>
     intro h
     have e:d*(k+1)=d*k+d:=by grind
     rw [eL hd,ihm (by lia),ih (m+1 - d) (by lia)]
     funext n
     unfold sh
     split <;> rfl
theorem lU (k l:Nat):bx (l+1) (k+1)=fun n=>bx l (k+1) n+sh (l+1) (bx (l+1) k) n:=by
 rw [cY,qT l k];funext n;rw [cY l (k+1),cY (l+1) k]
theorem vE_is {d:Nat} (hd:1<=d):∀ k l,vE d (k+1) (d*k+1+l)=sh (ex d (k+1) 1) (bx l (k+1)):=by
 intro k;induction k with
 | zero=>
   intro l
   have z:∀ m,vE d 0 m=dl:=fun m=>funext fun n=>kD d m n
   induction l with
   | zero=>
     rw [show d*0+1+0=0+1 by lia,eL hd,z,dw,fj]
     funext n
     rw [vE_zero]
     show 0+sh 1 dl n=sh (d*0+1+ex d 0 1) dl n
     rw [show d*0+1+ex d 0 1=1 by unfold ex;simp]
     lia
   | succ l ih=>
     rw [show d*0+1+(l+1)=(d*0+1+l)+1 by lia,eL hd,ih,z,lU 0 l,qK,jm,bx_none]
     funext n
     congr 2
 | succ k ihk=>
   intro l
   have e:d*(k+1)=d*k+d:=by grind
   induction l with
   | zero=>
     rw [show d*(k+1)+1+0=d*(k+1)+1 by lia,eL hd,qr hd (k+1) _ (zA1 _),show d*(k+1)+1 - d=d*k+1+0 by lia,ihk 0,dw,dw,jm,← fj]
     funext n
     show 0+_=_
     lia
   | succ l ih=>
     rw [show d*(k+1)+1+(l+1)=(d*(k+1)+1+l)+1 by lia,eL hd,ih,show d*(k+1)+1+l+1 - d=d*k+1+(l+1) by lia,ihk (l+1),lU (k+1) l,qK,jm,jm]
     funext n
     congr 2
     rw [fj d (k+1)]
     lia
theorem vE_at {d:Nat} (hd:1<=d) (k n:Nat):vE d k n n=if Ls d k<=n then PL dl (ups k) (n - Ls d k) else 0:=by
 rw [ls_ex]
 cases k with
 | zero=>
   rw [kD,if_pos (by unfold ex;simp)]
   show dl n=dl (n - ex d 0 1)
   rw [show ex d 0 1=0 by unfold ex;simp]
   rfl
 | succ k=>
   by_cases h:d*k+1<=n
   · obtain ⟨l,e⟩:∃ l,n=d*k+1+l:=⟨n - (d*k+1),by lia⟩
     have v:=congrFun (vE_is hd k l) n;rw [← e] at v;rw [v];unfold sh;by_cases g:ex d (k+1) 1<=n
     · rw [if_pos g,if_pos g,rJ (by rw [fj] at g ⊢;lia)]
     · rw [if_neg g,if_neg g]
   · have v:=congrFun (qr hd k n (by lia)) n;rw [v,if_neg (by rw [fj];lia)]
theorem qj (p:List Nat->Bool) (m n:Nat):∀ K,(∀ x∈Lst m n,x.length<K)->cn m n p=((List.range K).map fun k=>cn m n fun x=>p x&&decide (x.length=k)).sum:=by
 have key:∀ (L:List (List Nat)) K,((List.range K).map fun k=>((L.countP fun x=>p x&&decide (x.length=k):Nat):Int)).sum=((L.countP fun x=>p x&&decide (x.length<K):Nat):Int):=by
  intro L K;induction K with
  | zero=>
    show (0:Int)=_
    rw [List.countP_congr (q:=fun _=>false) fun x _=>by simp,List.countP_false]
    rfl
  | succ K ih=>
    rw [List.range_succ,zA7,List.sum_append_int,ih]
    show _+(((L.countP fun x=>p x&&decide (x.length=K):Nat):Int)+0)=_
    rw [Int.add_zero,← zE3]
    congr 1
    clear ih
    induction L with
    | nil=>rfl
    | cons x L ihL=>
      rw [List.countP_cons,List.countP_cons,List.countP_cons]
      have:(if (p x&&decide (x.length<K))=true then 1 else 0)+(if (p x&&decide (x.length=K))=true then 1 else 0)=(if (p x&&decide (x.length<K+1))=true then 1 else 0):=by
       cases p x with
       | false=>rfl
       | true=>
         rw [zH3,zH3,zH3]
         by_cases h1:x.length<K
         · rw [decide_eq_true h1,decide_eq_false (by lia:¬ x.length=K),decide_eq_true (by lia:x.length<K+1)];rfl
         · by_cases h2:x.length=K
           · rw [decide_eq_false h1,decide_eq_true h2,decide_eq_true (by lia:x.length<K+1)];rfl
           · rw [decide_eq_false h1,decide_eq_false h2,decide_eq_false (by lia:¬ x.length<K+1)];rfl
      lia
 intro K h;unfold cn;rw [key (Lst m n) K];congr 1;exact List.countP_congr fun x hx=>by rw [decide_eq_true (h x hx),Bool.and_true]
theorem cn_off {d n:Nat} (hd:1<=d) (hn:n<=600):cn n n (vd d)=fow d n:=by
 rw [qj (vd d) n n (n+1) fun x hx=>by have:=ls_len hx;lia];have e:∀ K,((List.range K).map fun k=>cn n n fun x=>vd d x&&decide (x.length=k)).sum=fq d K n:=by
  intro K;induction K with
  | zero=>rfl
  | succ K ih=>
    rw [List.range_succ,zA7,List.sum_append_int,ih]
    show _+(vE d K n n+0)=fq d K n+if Ls d K<=n then PL dl (ups K) (n - Ls d K) else 0
    rw [vE_at hd,Int.add_zero]
 rw [e];exact rg (n:=n) (by have:=vc d (n+1);lia) (by lia) (zA1 n)
def gr:List Nat->Nat
 | []=>0
 | a::r=>if gr r<=a then a else gr r
def cols (x:List Nat):List Nat:=(List.range (gr x)).map fun k=>(x.filter fun a=>decide (k<a)).length
def own (x:List Nat):Bool:=decide (cols x=x)
end M11
namespace M66
open MRow M80 M17 M12 M24 M11
theorem cn_pos (m n:Nat) (p:List Nat->Bool):0<=cn m n p:=by unfold cn;lia
theorem cn_up (m n:Nat) (p:List Nat->Bool):cn m n p<=cn (m+1) n p:=by
 rw [cr];have:0<=(if m+1<=n then cn (m+1) (n - (m+1)) (fun l=>p ((m+1)::l)) else 0):=by
  split
  · exact cn_pos _ _ _
  · decide
 lia
theorem rE {m:Nat} (n:Nat) (p:List Nat->Bool):∀ e,cn m n p<=cn (m+e) n p
 | 0=>zE5 _
 | e+1=>zD4 (rE n p e) (cn_up (m+e) n p)
theorem cn_le {a b:Nat} (n:Nat) (p:List Nat->Bool) (h:a<=b):cn a n p<=cn b n p:=by
 have:=rE (m:=a) n p (b - a);rw [show a+(b - a)=b by lia] at this;exact this
def Fl:List Nat->Prop
 | []=>True
 | [a]=>1<=a
 | a::b::r=>b<=a/\Fl (b::r)
theorem Fl.head {b:Nat}:∀ {r:List Nat},Fl (b::r)->∀ a∈b::r,a<=b
 | [],_,a,ha=>by rw [zC6.mp ha];exact zA1 _
 | c::r,h,a,ha=>by
   rcases zA8.mp ha with e | e
   · lia
   · have:=Fl.head h.2 a e;have:=h.1;lia
end M66
namespace SRV
open PySem PySem.W PySem.Calls
open PyProof.Rows hiding K SortedTo K_bubble K_mirror K_congr K_mirror_equal
def lexb:List Int->List Int->Bool
 | [],[]=>false
 | [],_::_=>true
 | _::_,[]=>false
 | a::as,b::bs=>if a=b then lexb as bs else decide (a<b)
theorem lexb_irr:∀ a,lexb a a=false
 | []=>rfl
 | a::as=>by rw [lexb,if_pos rfl];exact lexb_irr as
theorem lexb_trans:∀ {a b c:List Int},lexb a b=true->lexb b c=true->lexb a c=true
 | [],[],_,h,_=>by cases h
 | [],_::_,[],_,h=>by cases h
 | [],_::_,_::_,_,_=>rfl
 | _::_,[],_,h,_=>by cases h
 | _::_,_::_,[],_,h=>by cases h
 | a::as,b::bs,c::cs,h1,h2=>by
   rw [lexb] at h1 h2 ⊢;by_cases e1:a=b
   · rw [if_pos e1] at h1;subst e1;by_cases e2:a=c
     · rw [if_pos e2] at h2 ⊢;exact lexb_trans h1 h2
     · rw [if_neg e2] at h2 ⊢;exact h2
   · rw [if_neg e1] at h1;have l1:=of_decide_eq_true h1;by_cases e2:b=c
     · subst e2;rw [if_neg e1];exact h1
     · rw [if_neg e2] at h2;have l2:=of_decide_eq_true h2;rw [if_neg (by lia)];exact decide_eq_true (by lia)
def fm (h:Heap):Value->List Int
 | .ref a=>match h.get? a with
   | some o=>match o.data with
     | .seq xs _=>xs.toList.map numOf
     | _=>[]
   | none=>[]
 | _=>[]
def TI (h:Heap) (v:Value) (ns:List Int):Prop:=∃ a o its n,v=.ref a/\h.get? a=some o/\o.cls=.type "tuple"/\o.data=.seq (List.toArray its) n/\IntsAre its ns
theorem jF:∀ {its:List Value} {ns:List Int},IntsAre its ns->its.map numOf=ns
 | _,_,.nil=>rfl
 | _,_,.cons _ _ h=>by rw [zC5,jF h];rfl
theorem TI.dat {h:Heap} {v:Value} {ns:List Int} (t:TI h v ns):fm h v=ns:=by
 obtain ⟨a,o,its,n,rfl,ho,hc,hd,hI⟩:=t;unfold fm;dsimp only;rw [ho];dsimp only;rw [hd];exact jF hI
section
variable {prog:Program} {w:World} {A:Around} {E:Value->Shared->Prop} {s:Shared}
theorem mF {b fin:Bool} {Q:Bool->Shared->Prop}:∀ {xs ys:List Value} {ns ms:List Int} (i:Nat),IntsAre xs ns->IntsAre ys ms->(b=true->i=0\/True)->fin=decide (ns.length<ms.length)->Q (lexb ns ms) s->KatLex prog w A b fin Q (xs.zip ys) i s
 | _,_,_,_,i,.nil,.nil,_,e,h=>by
   subst e;exact kat_nil h
 | _,_,_,_,i,.nil,.cons _ _ _,_,e,h=>by
   subst e;refine kat_nil ?_;rw [decide_eq_true (by simp)];exact h
 | _,_,_,_,i,.cons _ _ _,.nil,_,e,h=>by
   subst e;refine kat_nil ?_;rw [decide_eq_false (by simp)];exact h
 | _,_,_,_,i,.cons n _ hx,.cons m _ hy,_,e,h=>by
   refine kat_cons (wpAny_eqBool_int ?_);by_cases hn:n=m
   · rw [show (n == m)=true by simpa using hn];refine kat_yes (mF (i+1) hx hy (fun _=>.inr trivial) (by rw [e,zB5,zB5];exact decide_eq_decide.mpr (by lia)) ?_);rw [lexb,if_pos hn] at h;exact h
   · rw [show (n == m)=false by simpa using hn];rw [lexb,if_neg hn] at h;refine kat_no ?_
     cases hb:(b&&i == 0) with
     | true=>exact oneLt_int h
     | false=>exact kat_one _ _ (PyProof.Rows.lt_int h)
theorem tup_lt {st:SortSt} {x y:Keyed} {b:Bool} {ns ms:List Int} {Q:Option Bool->SortSt->Prop} (hk:kindOf st=tuples' b) (hx:TI s.heap x.1 ns) (hy:TI s.heap y.1 ms) (h:Q (some (lexb ns ms)) st):wpS .(18) A E s (lt' x y) Q st:=by
 obtain ⟨a,o,its,n,e1,ho,hc,hd,hI⟩:=hx;obtain ⟨a',o',its',n',e1',ho',hc',hd',hI'⟩:=hy;rw [lt'_eq];refine wpS_bind (wpS_get ?_);rw [hk,e1,e1'];refine wpS_bind (wpS_lift (wpAny_attempt (kat_lt ho hd ho' hd' (mF 0 hI hI' (fun _=>.inr trivial) ?_ ⟨rfl,wpS_pure h⟩))));rw [zA2,zA2,hI.length,hI'.length]
theorem gY {h:Heap}:∀ {vs:List Value},(∀ v∈vs,∃ ns,ns≠[]/\TI h v ns)->∃ fs,KatTups h vs fs/\fs.length=vs.length/\∀ v∈fs,∃ k t,v=Value.int k t
 | [],_=>⟨[],trivial,rfl,fun v hv=>nomatch hv⟩
 | v::vs,g=>by
   obtain ⟨fs,a,b,c⟩:=gY (vs:=vs) fun v hv=>g v (zA5 _ hv);obtain ⟨ns,hne,x,o,its,n,rfl,ho,hc,hd,hI⟩:=g v zA3
   cases hI with
   | nil=>exact absurd rfl hne
   | cons k t hI=>
     refine ⟨.int k t::fs,KatTups.cons ho hc hd rfl a,by simp [b],fun w hw=>?_⟩
     rcases zA8.mp hw with rfl | hw
     · exact ⟨_,_,rfl⟩
     · exact c w hw
end
end SRV
namespace M63
open M11 M66 SRV
def toI (x:List Nat):List Int:=x.map fun (k:Nat)=>(k:Int)
def Asc (m n:Nat):List (List Nat):=(Lst m n).reverse
theorem dy (n:Nat):Asc 0 n=if n=0 then [[]] else []:=by
 unfold Asc;show (if n=0 then [[]] else []:List (List Nat)).reverse=_;split <;> rfl
theorem gb (m n:Nat):Asc (m+1) n=Asc m n++(if m+1<=n then (Asc (m+1) (n - (m+1))).map ((m+1)::·) else []):=by
 unfold Asc;rw [uy,List.reverse_append];congr 1;split
 · rw [List.map_reverse]
 · rfl
theorem asc_mem {m n:Nat} {x:List Nat}:x∈Asc m n↔x∈Lst m n:=List.mem_reverse
theorem u4 {m n:Nat} (h:n<=m):Asc m n=Asc n n:=by
 obtain ⟨e,rfl⟩:∃ e,m=n+e:=⟨m - n,by lia⟩
 induction e with
 | zero=>rfl
 | succ e ih=>rw [show n+(e+1)=(n+e)+1 by lia,gb,if_neg (by lia),zC9];exact ih (by lia)
theorem ls_fl:∀ (m n:Nat) (x:List Nat),x∈Asc m n->Fl x:=by
 intro m;induction m with
 | zero=>
   intro n x hx
   rw [dy] at hx
   split at hx
   · rw [zC6.mp hx];trivial
   · cases hx
 | succ m ih=>
   intro n
   induction n using Nat.strongRecOn with
   | ind n ihn=>
     intro x hx
     rw [gb] at hx
     rcases zB7.mp hx with hx | hx
     · exact ih n x hx
     · split at hx
       · rename_i hn
         obtain ⟨y,hy,rfl⟩:=zD2.mp hx;have fy:=ihn _ (by lia) y hy;have by':=(dk _ _ y (asc_mem.mp hy)).1
         cases y with
         | nil=>show 1<=m+1;lia
         | cons b r=>exact ⟨(by' b zA3).2,fy⟩
       · cases hx
theorem asc_up:∀ (m n:Nat),(Asc m n).Pairwise (fun a b=>lexb (toI a) (toI b)=true):=by
 intro m;induction m with
 | zero=>
   intro n
   rw [dy]
   split
   · exact zF9 _ _
   · exact .nil
 | succ m ih=>
   intro n
   induction n using Nat.strongRecOn with
   | ind n ihn=>
     rw [gb]
     refine zC4.mpr ⟨ih n,?_,fun a ha b hb=>?_⟩
     · split
       · rename_i hn
         rw [List.pairwise_map];refine (ihn _ (by lia)).imp fun {a b} h=>?_;show lexb (((m+1:Nat):Int)::toI a) (((m+1:Nat):Int)::toI b)=true;rw [lexb,if_pos rfl];exact h
       · exact .nil
     · split at hb
       · obtain ⟨y,hy,rfl⟩:=zD2.mp hb;show lexb (toI a) (((m+1:Nat):Int)::toI y)=true
         cases a with
         | nil=>rfl
         | cons c r=>
           have:=((dk _ _ _ (asc_mem.mp ha)).1 c zA3).2
           show lexb ((c:Int)::toI r) (((m+1:Nat):Int)::toI y)=true
           rw [lexb,if_neg (by lia)]
           exact decide_eq_true (by lia)
       · cases hb
end M63
namespace M05
open MRow M80 M17 M12 M11 M66 M63
theorem row30:PLL 31 (tb dl 31) (ups 30)=[1,1,2,3,5,7,11,15,22,30,42,56,77,101,135,176,231,297,385,490,627,792,1002,1255,1575,1958,2436,3010,3718,4565,5604]:=by decide +kernel
theorem uA {n:Nat} (h:n<=30):((Lst 30 n).length:Int)=([1,1,2,3,5,7,11,15,22,30,42,56,77,101,135,176,231,297,385,490,627,792,1002,1255,1575,1958,2436,3010,3718,4565,5604]:List Int).getD n 0:=by
 have e1:cn 30 n (fun l=>l.all fun _=>true)=PL dl (fl (fun _=>true) 30) n:=jM _ 30 n;rw [rh] at e1;have e2:PLL 31 (tb dl 31) (ups 30)=tb (PL dl (ups 30)) 31:=rS 31 _ dl (by decide);rw [row30] at e2;have e3:cn 30 n (fun l=>l.all fun _=>true)=((Lst 30 n).length:Int):=by
  unfold cn;congr 1;rw [List.countP_eq_length];exact fun x _=>zB8.mpr fun _ _=>rfl
 rw [← e3,e1,e2,zA9,dR (by lia)];rfl
theorem len30 {n:Nat} (h:n<=30):(Lst 30 n).length<=6000:=by
 have e:=uA h;have key:((List.range 31).all fun n=>decide (([1,1,2,3,5,7,11,15,22,30,42,56,77,101,135,176,231,297,385,490,627,792,1002,1255,1575,1958,2436,3010,3718,4565,5604]:List Int).getD n 0<=6000))=true:=by decide +kernel
 have:=of_decide_eq_true (zB8.mp key n (zE7.mpr (by lia)));lia
theorem dz {m n:Nat} (hn:n<=30):(Asc m n).length<=6000:=by
 have key:∀ m,m<=30->(Asc m n).length<=6000:=fun m hm=>by
  unfold Asc;rw [List.length_reverse];have h30:=len30 hn;have le:=cn_le n (fun _=>true) hm;unfold cn at le;rw [List.countP_true] at le;lia
 by_cases hm:m<=30
 · exact key m hm
 · rw [u4 (by lia)];exact key n hn
end M05
namespace K73
open PySem L2 MRow M27 M80 M17 M12
theorem ax {X:Cx} {sts:List Stmt}:ZSs X sts qx:=by with_unfolding_all exact lG
inductive Kn where
 | all
 | most (k:Nat)
 | times (m:Nat)
 | rests (m:Nat) (rs:List Int)
 | few (k:Nat)
 | box (k l:Nat)
 | off (d:Nat)
 | own
def Kn.Ok:Kn->Prop
 | .all=>True
 | .most k=>k<=600
 | .times m=>0<m/\m<=1000
 | .rests m _=>0<m/\m<=1000
 | .few k=>k<=600
 | .box k l=>k<=600/\l<=600
 | .off d=>1<=d/\d<=600
 | .own=>True
def KnAt (H:Hp) (c:Addr):Kn->Prop
 | .all=>H c=some (.tup [.str "all"])
 | .most k=>H c=some (.tup [.str "most",.int k])
 | .times m=>H c=some (.tup [.str "times",.int m])
 | .few k=>H c=some (.tup [.str "few",.int k])
 | .box k l=>H c=some (.tup [.str "box",.int k,.int l])
 | .off d=>H c=some (.tup [.str "off",.int d])
 | .own=>H c=some (.tup [.str "own"])
 | .rests m rs=>∃ d,H c=some (.tup [.str "rests",.int m,.ref d])/\H d=some (.tup (rs.map V.int))
theorem KnAt.same {H H':Hp} {c:Addr} {k:Kn} (h:KnAt H c k) (y:Same H H'):KnAt H' c k:=by
 cases k with
 | all=>exact y _ _ h
 | most k=>exact y _ _ h
 | times m=>exact y _ _ h
 | rests m rs=>obtain ⟨d,h1,h2⟩:=h;exact ⟨d,y _ _ h1,y _ _ h2⟩
 | few k=>exact y _ _ h
 | box k l=>exact y _ _ h
 | off d=>exact y _ _ h
 | own=>exact y _ _ h
def cf:Kn->Nat->Nat->Int
 | .all,n=>PL dl (ups n)
 | .most k,n=>PL dl (ups (min k n))
 | .times m,n=>below m (ups n) dl
 | .rests m rs,n=>PL dl (rsz m rs n)
 | .few k,n=>PL dl (ups (min k n))
 | .box k l,n=>bx l (min k n)
 | .off d,_=>fow d
 | .own,n=>below 2 (nX n) dl
theorem mL (p:Int) (ns:List Int):inV (.int p) (ns.map V.int)=decide (p∈ns):=by
 unfold inV;rw [List.any_map];induction ns with
 | nil=>rfl
 | cons n r ih=>
   rw [List.any_cons,ih]
   show (n == p||decide (p∈r))=_
   by_cases h:n=p
   · subst h;simp
   · have:(n == p)=false:=by simpa using h
     rw [this,Bool.false_or];have h':¬ p=n:=fun e=>h e.symm;simp [h']
theorem ir (ns:List Int):(ns.map V.int).all gL=true:=by
 rw [List.all_map];exact zB8.mpr fun _ _=>rfl
theorem jb (n:Nat):((List.range n).map fun (k:Nat)=>(1:Int)+(k:Int)*1).map V.int=nI (ups n):=by
 unfold nI ups;rw [zI1,zI1,zI1];refine List.map_congr_left fun k _=>?_;show V.int (1+(k:Int)*1)=V.int ((k+1:Nat):Int);congr 1;lia
theorem so (n:Nat):(ups n).length=n:=by unfold ups;simp
theorem jo (m:Nat) (rs:List Int) (n:Nat):rsz m rs (n+1)=rsz m rs n++if ((n+1:Nat):Int) % (m:Int)∈rs then [n+1] else []:=by
 unfold rsz;rw [bf,zF6];congr 1;by_cases h:((n+1:Nat):Int) % (m:Int)∈rs
 · rw [if_pos h,zG1 (p:=fun s:Nat=>decide ((s:Int) % (m:Int)∈rs)) (decide_eq_true h)];rfl
 · rw [if_neg h,zG0 (p:=fun s:Nat=>decide ((s:Int) % (m:Int)∈rs)) (by simpa using h)];rfl
theorem sN (m:Nat) (rs:List Int) (n:Nat):(rsz m rs n).length<=n:=by
 have:=zG8 (fun s:Nat=>decide ((s:Int) % (m:Int)∈rs)) (ups n);rw [so] at this;exact this
theorem uj (n:Nat):((List.range ((n+1) / 2)).map fun (k:Nat)=>(1:Int)+(k:Int)*2).map V.int=nI (nX n):=by
 unfold nI nX;rw [zI1,zI1,zI1];refine List.map_congr_left fun k _=>?_;show V.int (1+(k:Int)*2)=V.int ((2*k+1:Nat):Int);congr 1;lia
theorem jj (n:Nat):(Builtin.Range.rangeSize 1 ((n:Int)+1) 2).toNat=(n+1) / 2:=by
 rw [eR (by decide)];split <;> lia
theorem bT (c:Nat):(Builtin.Range.rangeSize 1 ((c:Int)+1) 1).toNat=c:=by
 rw [eR (by decide)];by_cases h:(1:Int)<(c:Int)+1
 · rw [if_pos h,Int.ediv_one];lia
 · rw [if_neg h];lia
section
variable {P:Program} {w:World} {K:PySem.W.Frag} {mg:Str->Option Value} {base:Heap} {f:Addr} {fd:FuncData}
theorem sc_ib:FnScope ["k","l","most","row","i"] ["k","l","most"] (ap (top 36)):=.(0)
def sp_ib:Sp:=fun vs H Q _=>∃ k l n:Nat,vs=[.int k,.int l,.int n]/\k<=600/\l<=600/\n<=600/\∀ p H',Same H H'->H' p=some (.lst ((tb (bx l (min k n)) (n+1)).map V.int))->Q (.ref p) H'
theorem ok_ib (F:Fun K "in_box" "in_box" (top 36) f fd) (m_min:mg "min" = none) (m_range:mg "range" = none) (F_begun:FnA P w K mg base "begun" 1 ["most"] db) (F_put_on:FnA P w K mg base "put_on" 1 ["row","size"] cE) (F_taken_off:FnA P w K mg base "taken_off" 1 ["row","size"] sE):FnOk P w K mg base CX0 2 f fd ["k","l","most"] sp_ib:=by
 refine F.okz sc_ib .(10) .(2)
 · obtain ⟨k,l,n,rfl,_⟩:=h;rfl
 obtain ⟨k,l,n,rfl,hk,hl,hn,q⟩:=h;have nd:=sc_ib.nd;refine ⟨_,(ae (ay (i:=3) nd rfl .(8) (au F_begun hr (by decide) rfl (aa (zn 2) ab)))
  (ae (bi PassesOwn.never rfl (bj rfl m_range (aa ah (aa (aA aB (dC rfl rfl m_min (aa (zn 0) (aa (zn 2) ab)) rfl rfl) ah) ab))) (az (i:=4) nd rfl .(8)) (ai (ay (i:=3) nd rfl .(8) (au F_taken_off hr (by decide) rfl (aa (au F_put_on hr (by decide) rfl (aa (zn 3) (aa (zn 4) ab))) (aa (aA aB (zn 1) (zn 4)) ab))))))
  (ai (aq (zn 3))))),?_⟩
 refine ⟨n,rfl,by lia,fun p0 H1 hp0 y1 hr1=>?_⟩;have ec:.(30)=((min k n:Nat):Int):=by split <;> lia
 refine ⟨1,.(30)+1,rfl,⟨by lia,by lia,by lia,by lia⟩,?_⟩;have eN:(.(30)+1 - 1).toNat=min k n:=by lia
 rw [eN];refine bE (fun i σ H'=>i<=min k n/\Same H H'/\∃ (r:Addr) (x4:Option V),σ=[some (.int k),some (.int l),some (.int n),some (.ref r),x4]/\H' r=some (.lst ((tb (bx l i) (n+1)).map V.int))) ⟨zB0 _,y1,p0,_,rfl,hr1⟩ ?_ ?_
 · rintro i σ H' hi ⟨_,y,r,x4,rfl,hr'⟩;have ek:(1:Int)+(i:Int)=((i+1:Nat):Int):=by lia
   rw [ek];refine ⟨r,i+1,n+1,bx l i,rfl,by lia,by lia,by lia,hr',fun p2 H2 _ y2 hp2=>?_⟩;refine ⟨p2,l+(i+1),n+1,_,congrArg (fun z=>[V.ref p2,V.int z]) (zE3 l (i+1)).symm,by lia,by lia,by lia,.inl hp2,fun p3 H3 _ y3 hp3=>?_⟩;exact ⟨by lia,(y.trans y2).trans y3,p3,_,rfl,by rw [iZ];exact hp3⟩
 · rintro σ H' ⟨_,y,r,x4,rfl,hr'⟩;exact q r H' y hr'
theorem sc_fb:FnScope ["d","most","told","row","many","least","n"] ["d","most"] (ap (top 37)):=.(0)
def sp_fb:Sp:=fun vs H Q _=>∃ d n:Nat,vs=[.int d,.int n]/\d<=600/\n<=600/\∀ p H',Same H H'->H' p=some (.lst ((tb (fow d) (n+1)).map V.int))->Q (.ref p) H'
theorem ok_fb (F:Fun K "falling_by" "falling_by" (top 37) f fd) (m_range:mg "range" = none) (F_begun:FnA P w K mg base "begun" 1 ["most"] db) (F_put_on:FnA P w K mg base "put_on" 1 ["row","size"] cE):FnOk P w K mg base CX0 2 f fd ["d","most"] sp_fb:=by
 refine F.okz sc_fb .(10) .(2)
 · obtain ⟨d,n,rfl,_⟩:=h;rfl
 obtain ⟨dd,n,rfl,hd6,hn,q⟩:=h;have nd:=sc_fb.nd;refine ⟨_,(ae (ay (i:=2) nd rfl .(8) (aA ba (aO (aa ah ab)) (aA aB (zn 1) ah)))
  (ae (ay (i:=3) nd rfl .(8) (au F_begun hr (by decide) rfl .(29)))
  (ae (ay (i:=4) nd rfl .(8) ah)
  (ae (ay (i:=5) nd rfl .(8) ah)
  (ae (gf PassesOwn.never (aj hV (zn 5) (zn 1) (ao _)) (ae (bi PassesOwn.never rfl (bj rfl m_range (aa (zn 5) (aa (aA aB (zn 1) ah) ab))) (az (i:=6) nd rfl .(8)) (ai (gg (zn 2) (zn 6) eC (aD aS (zn 3) (aA aP (zn 6) (zn 5)) .(11)) dI dc)))
  (ae (i6 (i:=5) nd rfl .(8) (aA aB ah (aA ba (zn 0) (zn 4))) dI)
  (ae (i6 (i:=4) nd rfl .(8) ah dI)
  (ai (ay (i:=3) nd rfl .(8) (au F_put_on hr (by decide) rfl (aa (zn 3) (aa (zn 4) ab)))))))))
  (ai (aq (zn 2)))))))),?_⟩
 refine ⟨by show 1<=sizeLine;decide,fun d hd=>?_⟩;have yd:=Same.new hd (.lst [V.int 0]);have e1:((n:Int)+1).toNat=n+1:=by lia
 refine ⟨⟨by lia,by lia⟩,.inl ⟨_,af,cT (by show 1*((n:Int)+1).toNat<=1000;lia),fun T hT=>?_⟩⟩;rw [cJ,e1];have yT:=Same.new hT (.lst ((List.replicate (n+1) (0:Int)).map V.int));have hTH:H T=none:=bp yd hT;have yT2:=yd.trans yT;have gT:upd (upd H d (.lst [V.int 0])) T (.lst ((List.replicate (n+1) (0:Int)).map V.int)) T=some (.lst ((tb (fq dd 0) (n+1)).map V.int)):=by
  rw [af];congr 3;show _=(List.range (n+1)).map fun _=>(0:Int)
  rw [List.map_const',List.length_range]
 generalize upd (upd H d (.lst [V.int 0])) T (.lst ((List.replicate (n+1) (0:Int)).map V.int))=H1 at yT yT2 gT;refine ⟨n,rfl,by lia,fun R0 H2 hR0 y2 hR2=>?_⟩;have RT:R0≠T:=fun z=>by rw [z,gT] at hR0;cases hR0
 refine eJ (fun m σ H'=>∃ (k:Nat) (R:Addr) (x6:Option V),m=n+1 - Ls dd k/\k<=602/\Same H H'/\R≠T/\H' T=some (.lst ((tb (fq dd k) (n+1)).map V.int))/\H' R=some (.lst ((tb (PL dl (ups k)) (n+1)).map V.int))/\σ=[some (.int dd),some (.int n),some (.ref T),some (.ref R),some (.int k),some (.int (Ls dd k)),x6]) (n+1)
  ⟨0,R0,none,rfl,by decide,yT2.trans y2,RT,y2 _ _ gT,hR2,rfl⟩ ?_
 rintro m σ H' ⟨k,R,x6,rfl,hk,y,RT',hT',hR',rfl⟩;have lk:=vc dd k;refine bK (fun c=>?_) (fun c=>?_)
 · have hl:Ls dd k<=n:=by have c':(Ls dd k:Int)<=(n:Int):=c;lia
   refine ⟨fun σ' H'=>∃ m',m' < n+1 - Ls dd k/\∃ (k:Nat) (R:Addr) (x6:Option V),m'=n+1 - Ls dd k/\k<=602/\Same H H'/\R≠T/\H' T=some (.lst ((tb (fq dd k) (n+1)).map V.int))/\H' R=some (.lst ((tb (PL dl (ups k)) (n+1)).map V.int))/\σ'=[some (.int dd),some (.int n),some (.ref T),some (.ref R),some (.int k),some (.int (Ls dd k)),x6],fun σ' H' h=>h,?_⟩;have eft:∀ j,fq dd (k+1) j=fq dd k j+if Ls dd k<=j then PL dl (ups k) (j - Ls dd k) else 0:=fun j=>rfl
   have el1:Ls dd (k+1)=Ls dd k+1+dd*k:=rfl;generalize Ls dd k=l at hl lk eft el1;generalize fq dd k=ft at hT' eft;generalize eft2:fq dd (k+1)=ft2 at eft;refine ⟨(l:Int),(n:Int)+1,rfl,⟨by lia,by lia,by lia,by lia⟩,?_⟩;have eN:((n:Int)+1 - (l:Int)).toNat=n+1 - l:=by lia
   rw [eN];refine bE (fun i σ H'=>i<=n+1 - l/\Same H H'/\H' T=some (.lst ((tb (up ft ft2 (l+i)) (n+1)).map V.int))/\H' R=some (.lst ((tb (PL dl (ups k)) (n+1)).map V.int))/\∃ x6,σ=[some (.int dd),some (.int n),some (.ref T),some (.ref R),some (.int k),some (.int l),x6]) ⟨zB0 _,y,?_,hR',_,rfl⟩ ?_ ?_
   · rw [hT'];congr 3;refine eM fun j _=>?_;unfold up;rw [Nat.add_zero];split
     · rw [eft,if_neg (by lia),Int.add_zero]
     · rfl
   · rintro i σ H3 hi ⟨_,y3,hT3,hR3,x6,rfl⟩;have e2:((l:Int)+(i:Int)).toNat=l+i:=by lia
     have hli:l+i<n+1:=by lia
     refine ⟨_,.int (up ft ft2 (l+i) (l+i)),SqL.of hT3,by lia,by rw [e2,List.getElem?_map,dR hli];rfl,?_⟩;refine ⟨_,.inl (SqL.of hR3),.int (PL dl (ups k) i),aN (j:=i) (by lia) (by rw [List.getElem?_map,dR (by lia)];rfl),?_⟩;refine ⟨_,hT3,by lia,by rw [e2,zA0,br];exact hli,by lia,Same.updN y3 hTH,?_,by rw [aH RT'];exact hR3,_,rfl⟩;rw [af,e2];have e3:up ft ft2 (l+i) (l+i)+PL dl (ups k) i=ft2 (l+i):=by
      unfold up;rw [if_neg (zD8 _),eft,if_pos (by lia),zE9]
     dsimp only;rw [e3,← List.map_set,qw hli];rfl
   · rintro σ H3 ⟨_,y3,hT3,hR3,x6,rfl⟩;rw [qt _ _ (by lia)] at hT3;refine ⟨_,rfl,vg (by lia) (by lia),?_⟩;refine ⟨_,rfl,?_⟩;have ek:(k:Int)+1=((k+1:Nat):Int):=by lia
     refine ⟨R,k+1,n+1,PL dl (ups k),by rw [← ek],by lia,by lia,by lia,hR3,fun R2 H4 hR2' y4 hR4=>?_⟩;have e5:(l:Int)+(1+(dd:Int)*(k:Int))=((Ls dd (k+1):Nat):Int):=by rw [el1,zE3,zE3,zF5];lia
     refine ⟨n+1 - Ls dd (k+1),by rw [el1];lia,k+1,R2,x6,rfl,by lia,y3.trans y4,(fun z=>by rw [z,hT3] at hR2';cases hR2'),by rw [eft2];exact y4 _ _ hT3,by rw [rR];exact hR4,?_⟩;show [some (V.int dd),some (.int n),some (.ref T),some (.ref R2),some (.int ((k:Int)+1)),some (.int ((l:Int)+(1+(dd:Int)*(k:Int)))),x6]=_;rw [e5,ek]
 · refine q T H' y ?_;rw [hT'];congr 3;exact eM fun j hj=>rg (n:=n) (by have c':¬ ((Ls dd k:Nat):Int)<=(n:Int):=c;lia) hk (by lia)
theorem sc_counted:FnScope ["kind","most","word"] ["kind","most"] (ap (top 38)):=.(0)
def fP:Sp:=fun vs H Q _=>∃ (c:Addr) (n:Nat) (k:Kn),vs=[.ref c,.int n]/\n<=600/\KnAt H c k/\k.Ok/\∀ p H',Same H H'->H' p=some (.lst ((tb (cf k n) (n+1)).map V.int))->Q (.ref p) H'
theorem j5 (F:Fun K "counted" "counted" (top 38) f fd) (m_list:mg "list" = none) (m_min:mg "min" = none) (m_range:mg "range" = none) (F_falling_by:FnA P w K mg base "falling_by" 2 ["d","most"] sp_fb) (F_in_box:FnA P w K mg base "in_box" 2 ["k","l","most"] sp_ib) (F_of_sizes:FnA P w K mg base "of_sizes" 2 ["some","most"] eP) (F_of_sizes_below:FnA P w K mg base "of_sizes_below" 2 ["some","m","most"] qE):FnOk P w K mg base CX0 3 f fd ["kind","most"] fP:=by
 refine F.okz sc_counted .(10) .(2)
 · obtain ⟨k,n,kd,rfl,_⟩:=h;rfl
 obtain ⟨c,n,k,rfl,hn,hk,hok,q⟩:=h;have nd:=sc_counted.nd;have hu:=hr.units
 cases k with
 | all=>
   refine ⟨_,(ae (ay (i:=2) nd rfl .(8) .(6))
    (ae .(4)
    (ae .(4)
    (ae .(4)
    (ae .(4)
    (ae .(4)
    (ae (aC (aj (av hu) (zn 2) am (ao _)) (ai (aq (au F_of_sizes hr (by decide) rfl (aa (bY rfl rfl m_list (aa (cD rfl m_range (aa ah (aa (aA aB (zn 1) ah) ab)) rfl rfl) ab) rfl rfl) .(29))))) ak)
    ax))))))),?_⟩
   refine ⟨_,.inr hk,.str "all",rfl,?_⟩
   refine fun rp hrp=>?_
   have g1:=Same.new hrp (oJ rp 1 ((n:Int)+1) 1)
   refine ⟨1,(n:Int)+1,1,af,small_up (by decide) (by decide) (by decide) (by decide) (by lia) (by lia),by decide,by rw [bT];lia,fun l hl=>?_⟩
   rw [bT,jb]
   have g2:=Same.new hl (.lst (nI (ups n)))
   exact ⟨l,ups n,n,rfl,fun x hx=>by have:=bv hx;lia,hn,af,fun p H' y hp=>q p H' ((g1.trans g2).trans y) hp⟩
 | times m=>
   refine ⟨_,(ae (ay (i:=2) nd rfl .(8) .(6))
    (ae .(4)
    (ae .(4)
    (ae .(4)
    (ae (aC (aj (av hu) (zn 2) am (ao _)) (ai (aq (au F_of_sizes_below hr (by decide) rfl (aa (bY rfl rfl m_list (aa (cD rfl m_range (aa ah (aa (aA aB (zn 1) ah) ab)) rfl rfl) ab) rfl rfl) (aa .(6) .(29)))))) ak)
    (ae .(4)
    (ae .(4)
    ax))))))),?_⟩
   refine ⟨_,.inr hk,.str "times",rfl,?_⟩
   refine fun rp hrp=>?_
   have g1:=Same.new hrp (oJ rp 1 ((n:Int)+1) 1)
   refine ⟨1,(n:Int)+1,1,af,small_up (by decide) (by decide) (by decide) (by decide) (by lia) (by lia),by decide,by rw [bT];lia,fun l hl=>?_⟩
   rw [bT,jb]
   have g2:=Same.new hl (.lst (nI (ups n)))
   refine ⟨_,.inr ((g1.trans g2) _ _ hk),.int m,rfl,?_⟩
   exact ⟨l,ups n,m,n,rfl,hok.1,hok.2,fun x hx=>by have:=bv hx;lia,hn,af,fun p H' y hp=>q p H' ((g1.trans g2).trans y) hp⟩
 | rests m rs=>
   obtain ⟨d,hk,hd⟩:=hk
   refine ⟨_,(ae (ay (i:=2) nd rfl .(8) .(6))
    (ae .(4)
    (ae .(4)
    (ae .(4)
    (ae .(4)
    (ae (aC (aj (av hu) (zn 2) am (ao _)) (ai (aq (au F_of_sizes hr (by decide) rfl (aa (aQ ["size"] [("kind",0)] rfl .(5) (bj rfl m_range (aa ah (aa (aA aB (zn 1) ah) ab))) aG (fun _ _ _ _=>az (i:=0) (show List.Nodup (["size","kind"]:List Str) by decide +kernel) rfl .(8)) (fun _ _ _ _=>(bX (aj (fX rfl) (aA bn (zn 0) (aD (iq rfl) (zn 1) ah .(11))) (aD (iq rfl) (zn 1) ah .(11)) (by with_unfolding_all rfl)))) (fun _ _ _ _=>(zn 0))) .(29))))) ak)
    (ae .(4)
    ax))))))),?_⟩
   refine ⟨_,.inr hk,.str "rests",rfl,?_⟩
   refine ⟨1,(n:Int)+1,rfl,⟨by lia,by lia,by lia,by lia⟩,?_⟩
   have eN:((n:Int)+1 - 1).toNat=n:=by lia
   rw [eN]
   refine cj (fun i zs H'=>i<=n/\H'=H/\zs=nI (rsz m rs i)) ⟨zB0 _,rfl,rfl⟩ ?_ ?_
   · rintro i zs H' hi ⟨_,rfl,rfl⟩;have e1:(1:Int)+(i:Int)=((i+1:Nat):Int):=by lia
     have:=sN m rs i;refine ⟨by rw [cO];exact aE (by lia),?_⟩;refine ⟨_,.inr hk,.int m,rfl,(show (0:Int)<(m:Int) by have:=hok.1;lia),?_⟩;refine ⟨_,.inr hk,.ref d,rfl,?_⟩;refine ⟨d,_,rfl,.inr (SqT.of hd),rfl,ir rs,?_⟩;rw [mL,e1];show if (decide (((i+1:Nat):Int) % (m:Int)∈rs))=true then _ else _
     refine cU (fun c=>?_) (fun c=>?_)
     · refine ⟨by lia,rfl,?_⟩;rw [jo,if_pos (of_decide_eq_true c)];unfold nI;rw [zA7,zA7];rfl
     · refine ⟨by lia,rfl,?_⟩;rw [jo,if_neg (by simpa using c),zC9]
   · rintro zs H' ⟨_,rfl,rfl⟩ D hD;exact ⟨D,rsz m rs n,n,rfl,fun x hx=>by have:=bv (List.mem_filter.mp hx).1;lia,hn,af,fun p H2 y hp=>q p H2 ((Same.new hD _).trans y) hp⟩
 | most k=>
   refine ⟨_,(ae (ay (i:=2) nd rfl .(8) .(6))
    (ae .(4)
    (ae .(4)
    (ae .(4)
    (ae .(4)
    (ae .(4)
    (ae .(4)
    (ai (aq (au F_of_sizes hr (by decide) rfl (aa (bY rfl rfl m_list (aa (cD rfl m_range (aa ah (aa (aA aB (dC rfl rfl m_min (aa .(6) .(29)) rfl rfl) ah) ab)) rfl rfl) ab) rfl rfl) .(29)))))))))))),?_⟩
   refine ⟨_,.inr hk,.str "most",rfl,?_⟩
   refine ⟨_,.inr hk,.int k,rfl,?_⟩
   have ec:.(30)=((min k n:Nat):Int):=by split <;> lia
   refine fun rp hrp=>?_
   have g1:=Same.new hrp (oJ rp 1 (.(30)+1) 1)
   refine ⟨1,.(30)+1,1,af,by rw [ec];exact small_up (by decide) (by decide) (by decide) (by decide) (by lia) (by lia),by decide,by rw [ec,bT];lia,fun l hl=>?_⟩
   rw [ec] at g1 hl
   rw [ec,bT,jb]
   have g2:=Same.new hl (.lst (nI (ups (min k n))))
   exact ⟨l,ups (min k n),n,rfl,fun x hx=>by have:=bv hx;lia,hn,af,fun p H' y hp=>q p H' ((g1.trans g2).trans y) hp⟩
 | few k=>
   refine ⟨_,(ae (ay (i:=2) nd rfl .(8) .(6))
    (ae .(4)
    (ae .(4)
    (ae .(4)
    (ae .(4)
    (ae .(4)
    (ae .(4)
    (ai (aq (au F_of_sizes hr (by decide) rfl (aa (bY rfl rfl m_list (aa (cD rfl m_range (aa ah (aa (aA aB (dC rfl rfl m_min (aa .(6) .(29)) rfl rfl) ah) ab)) rfl rfl) ab) rfl rfl) .(29)))))))))))),?_⟩
   refine ⟨_,.inr hk,.str "few",rfl,?_⟩
   refine ⟨_,.inr hk,.int k,rfl,?_⟩
   have ec:.(30)=((min k n:Nat):Int):=by split <;> lia
   refine fun rp hrp=>?_
   have g1:=Same.new hrp (oJ rp 1 (.(30)+1) 1)
   refine ⟨1,.(30)+1,1,af,by rw [ec];exact small_up (by decide) (by decide) (by decide) (by decide) (by lia) (by lia),by decide,by rw [ec,bT];lia,fun l hl=>?_⟩
   rw [ec] at g1 hl
   rw [ec,bT,jb]
   have g2:=Same.new hl (.lst (nI (ups (min k n))))
   exact ⟨l,ups (min k n),n,rfl,fun x hx=>by have:=bv hx;lia,hn,af,fun p H' y hp=>q p H' ((g1.trans g2).trans y) hp⟩
 | box k l=>
   refine ⟨_,(ae (ay (i:=2) nd rfl .(8) .(6))
    (ae (aC (aj (av hu) (zn 2) am (ao _)) (ai (aq (au F_in_box hr (by decide) rfl (aa .(6) (aa .(6) .(29)))))) ak)
    (ae .(4)
    (ae .(4)
    (ae .(4)
    (ae .(4)
    (ae .(4)
    ax))))))),?_⟩
   refine ⟨_,.inr hk,.str "box",rfl,?_⟩
   refine ⟨_,.inr hk,.int k,rfl,?_⟩
   refine ⟨_,.inr hk,.int l,rfl,?_⟩
   exact ⟨k,l,n,rfl,hok.1,hok.2,hn,q⟩
 | off d=>
   refine ⟨_,(ae (ay (i:=2) nd rfl .(8) .(6))
    (ae .(4)
    (ae (aC (aj (av hu) (zn 2) am (ao _)) (ai (aq (au F_falling_by hr (by decide) rfl (aa .(6) .(29))))) ak)
    (ae .(4)
    (ae .(4)
    (ae .(4)
    (ae .(4)
    ax))))))),?_⟩
   refine ⟨_,.inr hk,.str "off",rfl,?_⟩
   refine ⟨_,.inr hk,.int d,rfl,?_⟩
   exact ⟨d,n,rfl,hok.2,hn,q⟩
 | own=>
   refine ⟨_,(ae (ay (i:=2) nd rfl .(8) .(6))
    (ae .(4)
    (ae .(4)
    (ae (aC (aj (av hu) (zn 2) am (ao _)) (ai (aq (au F_of_sizes_below hr (by decide) rfl (aa (bY rfl rfl m_list (aa (cD rfl m_range (aa ah (aa (aA aB (zn 1) ah) (aa ah ab))) rfl rfl) ab) rfl rfl) (aa ah .(29)))))) ak)
    (ae .(4)
    (ae .(4)
    (ae .(4)
    ax))))))),?_⟩
   refine ⟨_,.inr hk,.str "own",rfl,?_⟩
   refine ⟨by decide,fun rp hrp=>?_⟩
   have g1:=Same.new hrp (oJ rp 1 ((n:Int)+1) 2)
   refine ⟨1,(n:Int)+1,2,af,small_up (by decide) (by decide) (by decide) (by decide) (by lia) (by lia),by decide,by rw [jj];lia,fun l hl=>?_⟩
   rw [jj,uj]
   have g2:=Same.new hl (.lst (nI (nX n)))
   exact ⟨l,nX n,2,n,rfl,by decide,by decide,fun x hx=>by have:=pO hx;lia,hn,af,fun p H' y hp=>q p H' ((g1.trans g2).trans y) hp⟩
theorem sc_counts:FnScope ["kind","most"] ["kind","most"] (ap (top 39)):=.(0)
def ca:Sp:=fun vs H Q _=>∃ (c:Addr) (n:Nat) (k:Kn),vs=[.ref c,.int n]/\n<=600/\KnAt H c k/\k.Ok/\∀ p H',Same H H'->H' p=some (.tup ((tb (cf k n) (n+1)).map V.int))->Q (.ref p) H'
theorem l8 (F:Fun K "counts" "counts" (top 39) f fd) (m_tuple:mg "tuple" = none) (F_counted:FnA P w K mg base "counted" 3 ["kind","most"] fP):FnOk P w K mg base CX0 4 f fd ["kind","most"] ca:=by
 refine F.okz sc_counts .(10) .(2)
 · obtain ⟨k,n,kd,rfl,_⟩:=h;rfl
 obtain ⟨c,n,k,rfl,hn,hk,hok,q⟩:=h;have nd:=sc_counts.nd;refine ⟨_,(ai (aq (bD rfl m_tuple (aa (au F_counted hr (by decide) rfl (aa (zn 0) .(29))) ab) rfl rfl))),?_⟩;refine ⟨c,n,k,rfl,hn,hk,hok,fun p H1 y1 hp1=>?_⟩;exact ⟨_,.inl (SqL.of hp1),fun r2 H2 y2 hr2=>q r2 H2 (y1.trans y2) hr2⟩
end
end K73
namespace K73
open PySem L2 MRow M27 M80 M17 M12 M24 M11 M66
theorem cut1 (x:V) (xs:List V):fu (x::xs) (some 1) none=xs:=by
 unfold fu;rw [HT.sIx_none,show (1:Int)=((1:Nat):Int) from rfl,HT.sIx_nat,zB5,show min 1 (xs.length+1)=1 by lia];show xs.take (xs.length+1 - 1)=xs;rw [Nat.add_sub_cancel,zA6 (zA1 _)]
def zb (d:Nat) (x:List Nat):List Bool:=List.zipWith (fun a b=>decide (b+d<=a)) x x.tail
theorem vd_zb (d:Nat):∀ x,vd d x=(zb d x).all id
 | []=>rfl
 | [_]=>rfl
 | a::b::r=>by
   show (decide (b+d<=a)&&vd d (b::r))=(decide (b+d<=a)&&(zb d (b::r)).all id)
   rw [vd_zb d (b::r)]
def isf:Kn->List Nat->Bool
 | .all=>fun _=>true
 | .most k=>fun x=>x.all fun a=>decide (a<=k)
 | .few k=>fun x=>decide (x.length<=k)
 | .times m=>cts m
 | .rests m rs=>fun x=>x.all fun a=>decide ((a:Int) % (m:Int)∈rs)
 | .box k l=>inb k l
 | .off d=>vd d
 | .own=>own
theorem qW {x:List Nat} {i a:Nat} (h:x[i]? = some a):(nI x)[i]? = some (.int (a:Int)):=by unfold nI;rw [List.getElem?_map,List.getElem?_map,h];rfl
theorem gZ {α β:Type} (f:α->β) {x:List α} {i:Nat} {a:α} (h:x[i]? = some a):(x.take (i+1)).map f=(x.take i).map f++[f a]:=by rw [zC3,h,zA7];rfl
theorem countI (x:List Nat) (a:Nat):(x.map fun (k:Nat)=>(k:Int)).count (a:Int)=x.count a:=by
 induction x with
 | nil=>rfl
 | cons b x ih=>
   rw [zC5,List.count_cons,List.count_cons,ih]
   congr 1
   by_cases h:b=a
   · rw [h];simp
   · rw [if_neg (by simpa using fun e:(b:Int)=(a:Int)=>h (Int.ofNat_inj.mp e)),if_neg (by simpa using h)]
theorem jJ:∀ (as bs:List Int),PyData.eqvAll (as.map PyData.int) (bs.map PyData.int)=decide (as=bs)
 | [],[]=>by simp [PyData.eqvAll]
 | [],b::bs=>by simp [PyData.eqvAll]
 | a::as,[]=>by simp [PyData.eqvAll]
 | a::as,b::bs=>by
   have ih:=jJ as bs;simp only [zC5,PyData.eqvAll,ih,PyData.eqv];by_cases h:a=b
   · subst h;simp
   · simp [h]
theorem uM (as bs:List Int):PyData.eqv (.tuple (as.map PyData.int)) (.tuple (bs.map PyData.int))=decide (as=bs):=by
 show PyData.eqvAll _ _=_;exact jJ as bs
def isg:Kn->List Nat->Bool
 | .own=>fun x=>decide (M03.tn (M63.toI x)=M63.toI x)
 | k=>isf k
theorem Fl.all_le {x:List Nat} {a:Nat} {r:List Nat} (h:x=a::r) (f:Fl x) (k:Nat):(x.all fun a=>decide (a<=k))=decide (a<=k):=by
 subst h;by_cases c:a<=k
 · rw [decide_eq_true c,zB8];intro b hb;have:=Fl.head f b hb;exact decide_eq_true (by lia)
 · rw [decide_eq_false c];refine Bool.eq_false_iff.mpr fun g=>?_;exact c (of_decide_eq_true (zB8.mp g a zA3))
section
variable {P:Program} {w:World} {K:PySem.W.Frag} {mg:Str->Option Value} {base:Heap} {f:Addr} {fd:FuncData}
theorem zb_get {d:Nat} {x:List Nat} {i a b:Nat} (ha:x[i]? = some a) (hb:x[i+1]? = some b):(zb d x)[i]? = some (decide (b+d<=a)):=by
 unfold zb;rw [List.getElem?_zipWith,ha,List.getElem?_tail,hb]
end
section
variable {P:Program} {w:World} {K:PySem.W.Frag} {mg:Str->Option Value} {base:Heap} {f:Addr} {fd:FuncData}
theorem sc_io:FnScope ["_law_kind_here","_law_parting_here","_law_word"] ["_law_kind_here","_law_parting_here"] (ap (top 160)):=.(0)
def sp_io:Sp:=fun vs H Q _=>∃ (c p:Addr) (k:Kn) (x:List Nat),vs=[.ref c,.ref p]/\KnAt H c k/\k.Ok/\H p=some (.tup (nI x))/\x.length<=30/\(∀ a∈x,a<=30)/\Fl x/\∀ H',Same H H'->Q (.bl (isg k x)) H'
theorem ok_io (F:Fun K "_law_is_of" "_law_is_of" (top 160) f fd) (m_all:mg "all" = none) (m_len:mg "len" = none) (m_range:mg "range" = none) (m_tuple:mg "tuple" = none)  : FnOk P w K mg base CX0 1 f fd ["_law_kind_here","_law_parting_here"] sp_io:=by
 refine F.okz sc_io .(10) .(2)
 · obtain ⟨c,p,k,x,rfl,_⟩:=h;rfl
 obtain ⟨c,p,k,x,rfl,hk,hok,hp,hl,hx,hf,q⟩:=h;have nd:=sc_io.nd;have hu:=hr.units;refine ⟨_,(ae (ay (i:=2) nd rfl .(8) .(6))
  (ae (aC (ZW.zt (eE (aj cF (zn 2) (aK (aa am (aa am ab))) (by with_unfolding_all rfl)) (eE (aj (bg hu) (zn 1) (aK ab) (ao _)) (dB (aj cw (aD aS (zn 1) ah .(11)) .(6) (ao _)))))) (ai (aq bR)) ak)
  (ae (aC (ZW.zt (eE (aj cF (zn 2) (aK (aa am (aa am ab))) (by with_unfolding_all rfl)) (dB (aj cw (aI rfl m_len .(29) rfl rfl) (aD aS (zn 0) (dX cu ah) .(11)) (ao _))))) (ai (aq bR)) ak)
  (ae (aC (aj (av hu) (zn 2) am (ao _)) (ai (aq (eI rfl rfl m_all (aa (aQ ["_law_k"] [("_law_parting_here",1),("_law_kind_here",0)] rfl .(5) (c6 rfl m_range (aa (aA aP (aI rfl m_len .(29) rfl rfl) ah) ab)) aG (fun _ _ _ _=>az (i:=0) (show List.Nodup (["_law_k","_law_parting_here","_law_kind_here"]:List Str) by decide +kernel) rfl .(8)) (fun _ _ _ _=>aY) (fun _ _ _ _=>(aZ lY (aA aP (aD (iq rfl) (zn 1) (zn 0) .(11)) (aD (iq rfl) (zn 1) (aA aB (zn 0) ah) .(11))) (aD (iq rfl) (zn 2) ah .(11)) (ao _)))) ab) rfl rfl))) ak)
  (ae (aC (aj (av hu) (zn 2) am (ao _)) (ai (aq (eI rfl rfl m_all (aa (aQ ["_law_part"] [("_law_parting_here",1),("_law_kind_here",0)] rfl .(5) (bJ (zn 1)) aG (fun _ _ _ _=>az (i:=0) (show List.Nodup (["_law_part","_law_parting_here","_law_kind_here"]:List Str) by decide +kernel) rfl .(8)) (fun _ _ _ _=>aY) (fun _ _ _ _=>(aZ fW (ku (zn 1) (aa (zn 0) ab) rfl) (aD (iq rfl) (zn 2) ah .(11)) (ao _)))) ab) rfl rfl))) ak)
  (ae (aC (aj (av hu) (zn 2) am (ao _)) (ai (aq (eI rfl rfl m_all (aa (aQ ["_law_part"] [("_law_kind_here",0)] rfl .(5) (bJ (zn 1)) aG (fun _ _ _ _=>az (i:=0) (show List.Nodup (["_law_part","_law_kind_here"]:List Str) by decide +kernel) rfl .(8)) (fun _ _ _ _=>aY) (fun _ _ _ _=>(aZ (fX rfl) (aA bn (zn 0) (aD (iq rfl) (zn 1) ah .(11))) (aD (iq rfl) (zn 1) ah .(11)) (by with_unfolding_all rfl)))) ab) rfl rfl))) ak)
  (ae (aC (ZW.zt (eE (aj (av hu) (zn 2) am (ao _)) (dB (aj (bg hu) (zn 1) (aK ab) (ao _))))) (ai (aq (aZ (av hu) (zn 1) (bD rfl m_tuple (aa (n9 "_law_k" ["_law_k"] [("_law_parting_here",1)] rfl ⟨rfl,by decide +kernel,rfl,rfl,fun _ _=>rfl,fun _=>rfl,rfl⟩ (bj rfl m_range (aa ah (aa (aA aB (aD aS (zn 1) ah .(11)) ah) ab))) aG (fun _ _ _ _=>az (i:=0) (show List.Nodup (["_law_k","_law_parting_here"]:List Str) by decide +kernel) rfl (Or.inr rfl)) (fun _ _ _ _=>aY) (fun _ _ _ _=>(oj rfl m_len (aa (aQ ["_law_part"] [("_law_k",0)] rfl .(5) (r9 (zn 1) rfl) aG (fun _ _ _ _=>az (i:=0) (show List.Nodup (["_law_part","_law_k"]:List Str) by decide +kernel) rfl .(8)) (fun _ _ _ _=>(bX (aj lY (zn 0) (zn 1) (ao _)))) (fun _ _ _ _=>ah)) ab) rfl rfl rfl))) ab) rfl rfl) (ao _)))) ak)
  (ai (aq bR))))))))),?_⟩
 cases k with
 | all=>
   refine ⟨_,.inr hk,.str "all",rfl,?_⟩
   refine ⟨by show 2<=sizeLine;decide,fun w1 hw1=>?_⟩
   have y1:=Same.new hw1 .(26)
   refine ⟨w1,_,rfl,.inr (SqT.of af),rfl,rfl,?_⟩
   generalize upd H w1 .(26)=H1 at y1
   refine ⟨by show 2<=sizeLine;decide,fun w2 hw2=>?_⟩
   have yb:=Same.new hw2 .(17)
   refine ⟨w2,_,rfl,.inr (SqT.of af),rfl,rfl,?_⟩
   generalize upd H1 w2 .(17)=H2 at yb
   have y2:=y1.trans yb
   have hp2:=y2 _ _ hp
   exact q _ y2
 | most k=>
   refine ⟨_,.inr hk,.str "most",rfl,?_⟩
   refine ⟨by show 2<=sizeLine;decide,fun w1 hw1=>?_⟩
   have y1:=Same.new hw1 .(26)
   refine ⟨w1,_,rfl,.inr (SqT.of af),rfl,rfl,?_⟩
   generalize upd H w1 .(26)=H1 at y1
   refine ⟨zB0 _,fun e he=>?_⟩
   have ye:=y1.trans (Same.new he (HO.tup []))
   refine ⟨_,_,.ints (ye _ _ hp),.tup (xs:=[]) af .nil,aJ _,aJ [],?_⟩
   generalize upd H1 e (HO.tup [])=H2 at ye
   have hp2:=ye _ _ hp
   have hk2:=ye _ _ hk
   rw [if_pos rfl,cq]
   cases x with
   | nil=>
     refine ⟨by show 2<=sizeLine;decide,fun w3 hw3=>?_⟩
     have y3:=Same.new hw3 .(17)
     refine ⟨w3,_,rfl,.inr (SqT.of af),rfl,rfl,?_⟩
     generalize upd H2 w3 .(17)=H3 at y3
     exact q _ (ye.trans y3)
   | cons a r=>
     have al:=Fl.all_le rfl hf k
     refine ⟨_,.inr hp2,.int (a:Int),aN (j:=0) rfl rfl,?_⟩
     refine ⟨_,.inr hk2,.int k,rfl,?_⟩
     refine bK (fun c=>?_) (fun c=>?_)
     · have c':(k:Int)<(a:Int):=c;have e:isg (.most k) (a::r)=false:=by show ((a::r).all fun a=>decide (a<=k))=_;rw [al];exact decide_eq_false (by lia)
       rw [e] at q;exact q _ ye
     · have c':¬ (k:Int)<(a:Int):=c;have e:isg (.most k) (a::r)=true:=by show ((a::r).all fun a=>decide (a<=k))=_;rw [al];exact decide_eq_true (by lia)
       rw [e] at q;refine ⟨by show 2<=sizeLine;decide,fun w3 hw3=>?_⟩;have y3:=Same.new hw3 .(17);refine ⟨w3,_,rfl,.inr (SqT.of af),rfl,rfl,?_⟩;generalize upd H2 w3 .(17)=H3 at y3;exact q _ (ye.trans y3)
 | few k=>
   refine ⟨_,.inr hk,.str "few",rfl,?_⟩
   refine ⟨by show 2<=sizeLine;decide,fun w1 hw1=>?_⟩
   have y1:=Same.new hw1 .(26)
   refine ⟨w1,_,rfl,.inr (SqT.of af),rfl,rfl,?_⟩
   generalize upd H w1 .(26)=H1 at y1
   refine ⟨by show 2<=sizeLine;decide,fun w2 hw2=>?_⟩
   have yb:=Same.new hw2 .(17)
   refine ⟨w2,_,rfl,.inr (SqT.of af),rfl,rfl,?_⟩
   generalize upd H1 w2 .(17)=H2 at yb
   have y2:=y1.trans yb
   have hp2:=y2 _ _ hp
   have hk2:=y2 _ _ hk
   refine ⟨_,.inr hp2,?_⟩
   refine ⟨1,rfl,_,.inr hk2,.int k,rfl,?_⟩
   rw [cO]
   refine bK (fun c=>?_) (fun c=>?_)
   · have c':(k:Int)<(x.length:Int):=c;have e:isg (.few k) x=false:=decide_eq_false (p:=x.length<=k) (by lia);rw [e] at q;exact q _ y2
   · have c':¬ (k:Int)<(x.length:Int):=c;have e:isg (.few k) x=true:=decide_eq_true (p:=x.length<=k) (by lia);rw [e] at q;exact q _ y2
 | box k l=>
   refine ⟨_,.inr hk,.str "box",rfl,?_⟩
   refine ⟨by show 2<=sizeLine;decide,fun w1 hw1=>?_⟩
   have y1:=Same.new hw1 .(26)
   refine ⟨w1,_,rfl,.inr (SqT.of af),rfl,rfl,?_⟩
   generalize upd H w1 .(26)=H1 at y1
   refine ⟨zB0 _,fun e he=>?_⟩
   have ye:=y1.trans (Same.new he (HO.tup []))
   refine ⟨_,_,.ints (ye _ _ hp),.tup (xs:=[]) af .nil,aJ _,aJ [],?_⟩
   generalize upd H1 e (HO.tup [])=H2 at ye
   have hp2:=ye _ _ hp
   have hk2:=ye _ _ hk
   rw [if_pos rfl,cq]
   cases x with
   | nil=>
     refine ⟨by show 2<=sizeLine;decide,fun w3 hw3=>?_⟩
     have y3:=Same.new hw3 .(17)
     refine ⟨w3,_,rfl,.inr (SqT.of af),rfl,rfl,?_⟩
     generalize upd H2 w3 .(17)=H3 at y3
     have hk3:=y3 _ _ hk2
     obtain ⟨xs0,hx0,hp3⟩:∃ xs0:List V,xs0.length=0/\H3 p=some (.tup xs0):=⟨nI [],rfl,y3 _ _ hp2⟩
     refine ⟨_,.inr hp3,?_⟩
     refine ⟨1,rfl,_,.inr hk3,.int l,rfl,?_⟩
     refine bK (fun c=>?_) (fun c=>?_)
     · have c':(l:Int)<(xs0.length:Int):=c;lia
     · exact q _ (ye.trans y3)
   | cons a r=>
     have al:=Fl.all_le rfl hf k
     have eb:isg (.box k l) (a::r)=(decide ((a::r).length<=l)&&decide (a<=k)):=by rw [← al];rfl
     rw [eb] at q
     refine ⟨_,.inr hp2,.int (a:Int),aN (j:=0) rfl rfl,?_⟩
     refine ⟨_,.inr hk2,.int k,rfl,?_⟩
     refine bK (fun c=>?_) (fun c=>?_)
     · have c':(k:Int)<(a:Int):=c;rw [show decide (a<=k)=false from decide_eq_false (by lia),Bool.and_false] at q;exact q _ ye
     · have c':¬ (k:Int)<(a:Int):=c;rw [show decide (a<=k)=true from decide_eq_true (by lia),Bool.and_true] at q;refine ⟨by show 2<=sizeLine;decide,fun w3 hw3=>?_⟩;have y3:=Same.new hw3 .(17);refine ⟨w3,_,rfl,.inr (SqT.of af),rfl,rfl,?_⟩;generalize upd H2 w3 .(17)=H3 at y3;have hp3:=y3 _ _ hp2;have hk3:=y3 _ _ hk2;refine ⟨_,.inr hp3,?_⟩;refine ⟨1,rfl,_,.inr hk3,.int l,rfl,?_⟩;rw [cO];refine bK (fun c=>?_) (fun c=>?_)
       · have c':(l:Int)<((a::r).length:Int):=c;rw [show decide ((a::r).length<=l)=false from decide_eq_false (by lia)] at q;exact q _ (ye.trans y3)
       · have c':¬ (l:Int)<((a::r).length:Int):=c;rw [show decide ((a::r).length<=l)=true from decide_eq_true (by lia)] at q;exact q _ (ye.trans y3)
 | times m=>
   refine ⟨_,.inr hk,.str "times",rfl,?_⟩
   refine ⟨by show 2<=sizeLine;decide,fun w1 hw1=>?_⟩
   have y1:=Same.new hw1 .(26)
   refine ⟨w1,_,rfl,.inr (SqT.of af),rfl,rfl,?_⟩
   generalize upd H w1 .(26)=H1 at y1
   refine ⟨by show 2<=sizeLine;decide,fun w2 hw2=>?_⟩
   have yb:=Same.new hw2 .(17)
   refine ⟨w2,_,rfl,.inr (SqT.of af),rfl,rfl,?_⟩
   generalize upd H1 w2 .(17)=H2 at yb
   have y2:=y1.trans yb
   have hp2:=y2 _ _ hp
   have hk2:=y2 _ _ hk
   refine ⟨p,rfl,⟨_,SqT.of hp2⟩,bQ (xs:=nI x) (fun i ys H'=>H'=H2/\i<=x.length/\ys=((x.take i).map fun a:Nat=>decide (x.count a<m)).map V.bl) ⟨rfl,zB0 _,rfl⟩ ?_ ?_ ?_⟩
   · rintro i ys H' _ ⟨rfl,_⟩;exact SqT.of hp2
   · rintro i v ys H' hv ⟨rfl,hi,rfl⟩;obtain ⟨a,ha,rfl⟩:=mq hv;have hi':=(List.getElem?_eq_some_iff.mp ha).1;sleep 2;refine ⟨tyT hp2,_,hp2,?_⟩;refine ⟨_,.inr hk2,.int m,rfl,?_⟩;refine ⟨rfl,hi',?_⟩;rw [gZ _ ha,zA7];rw [show decide (x.count a<m)=decide (((x.map fun (k:Nat)=>(k:Int)).count (a:Int):Int)<(m:Int)) from decide_eq_decide.mpr (by rw [countI];lia)];rfl
   · rintro ys H' ⟨rfl,hi,rfl⟩ D hD;refine ⟨_,SqL.of af,?_⟩;rw [cO,zA6 (zA1 _),List.all_map];exact q _ (y2.trans (Same.new hD _))
 | rests m rs=>
   obtain ⟨d,hk,hd⟩:=hk
   refine ⟨_,.inr hk,.str "rests",rfl,?_⟩
   refine ⟨by show 2<=sizeLine;decide,fun w1 hw1=>?_⟩
   have y1:=Same.new hw1 .(26)
   refine ⟨w1,_,rfl,.inr (SqT.of af),rfl,rfl,?_⟩
   generalize upd H w1 .(26)=H1 at y1
   refine ⟨by show 2<=sizeLine;decide,fun w2 hw2=>?_⟩
   have yb:=Same.new hw2 .(17)
   refine ⟨w2,_,rfl,.inr (SqT.of af),rfl,rfl,?_⟩
   generalize upd H1 w2 .(17)=H2 at yb
   have y2:=y1.trans yb
   have hp2:=y2 _ _ hp
   have hk2:=y2 _ _ hk
   have hd2:=y2 _ _ hd
   have hm:=hok.1
   refine ⟨p,rfl,⟨_,SqT.of hp2⟩,bQ (xs:=nI x) (fun i ys H'=>H'=H2/\i<=x.length/\ys=((x.take i).map fun a:Nat=>decide ((a:Int) % (m:Int)∈rs)).map V.bl) ⟨rfl,zB0 _,rfl⟩ ?_ ?_ ?_⟩
   · rintro i ys H' _ ⟨rfl,_⟩;exact SqT.of hp2
   · rintro i v ys H' hv ⟨rfl,hi,rfl⟩;obtain ⟨a,ha,rfl⟩:=mq hv;have hi':=(List.getElem?_eq_some_iff.mp ha).1;sleep 2;refine ⟨_,.inr hk2,.int m,rfl,(show (0:Int)<(m:Int) by lia),?_⟩;refine ⟨_,.inr hk2,.ref d,rfl,?_⟩;refine ⟨d,_,rfl,.inr (SqT.of hd2),rfl,ir rs,?_⟩;rw [mL];refine ⟨rfl,hi',?_⟩;rw [gZ _ ha,zA7];rfl
   · rintro ys H' ⟨rfl,hi,rfl⟩ D hD;refine ⟨_,SqL.of af,?_⟩;rw [cO,zA6 (zA1 _),List.all_map];exact q _ (y2.trans (Same.new hD _))
 | off d=>
   refine ⟨_,.inr hk,.str "off",rfl,?_⟩
   refine ⟨by show 2<=sizeLine;decide,fun w1 hw1=>?_⟩
   have y1:=Same.new hw1 .(26)
   refine ⟨w1,_,rfl,.inr (SqT.of af),rfl,rfl,?_⟩
   generalize upd H w1 .(26)=H1 at y1
   refine ⟨by show 2<=sizeLine;decide,fun w2 hw2=>?_⟩
   have yb:=Same.new hw2 .(17)
   refine ⟨w2,_,rfl,.inr (SqT.of af),rfl,rfl,?_⟩
   generalize upd H1 w2 .(17)=H2 at yb
   have y2:=y1.trans yb
   have hp2:=y2 _ _ hp
   have hk2:=y2 _ _ hk
   have zl:(zb d x).length=x.length - 1:=by unfold zb;rw [List.length_zipWith,List.length_tail];lia
   rw [show isg (.off d) x=(zb d x).all id from vd_zb d x] at q
   refine ⟨_,.inr hp2,?_⟩
   rw [cO]
   have eN:((x.length:Int) - 1).toNat=x.length - 1:=by lia
   refine ⟨(x.length:Int) - 1,rfl,by lia,by lia,?_⟩
   rw [eN]
   refine cj (fun i ys H'=>H'=H2/\i<=x.length - 1/\ys=((zb d x).take i).map V.bl) ⟨rfl,zB0 _,rfl⟩ ?_ ?_
   · rintro i ys H' hi ⟨rfl,_,rfl⟩;have h0:i<x.length:=by lia
     have h1:i+1<x.length:=by lia
     have g0:x[i]? = some x[i]:=List.getElem?_eq_getElem h0;have g1:x[i+1]? = some x[i+1]:=List.getElem?_eq_getElem h1;have hz:=zb_get (d:=d) g0 g1;generalize x[i]=a at g0 hz;generalize x[i+1]=b at g1 hz;refine ⟨by rw [zA0,zB3];exact aE (by lia),?_⟩;refine ⟨_,.inr hp2,.int (a:Int),aN (j:=i) (by lia) (qW g0),?_⟩;refine ⟨_,.inr hp2,.int (b:Int),aN (j:=i+1) (by lia) (qW g1),?_⟩;refine ⟨_,.inr hk2,.int d,rfl,?_⟩;refine ⟨rfl,by lia,?_⟩;rw [zC3,hz,zA7];rw [show decide (b+d<=a)=decide ((d:Int)<=(a:Int) - (b:Int)) from decide_eq_decide.mpr (by lia)];rfl
   · rintro ys H' ⟨rfl,hi,rfl⟩ D hD;refine ⟨_,SqL.of af,?_⟩;rw [← zl,zA6 (zA1 _)];exact q _ (y2.trans (Same.new hD _))
 | own=>
   refine ⟨_,.inr hk,.str "own",rfl,?_⟩
   refine ⟨by show 2<=sizeLine;decide,fun w1 hw1=>?_⟩
   have y1:=Same.new hw1 .(26)
   refine ⟨w1,_,rfl,.inr (SqT.of af),rfl,rfl,?_⟩
   generalize upd H w1 .(26)=H1 at y1
   refine ⟨by show 2<=sizeLine;decide,fun w2 hw2=>?_⟩
   have yb:=Same.new hw2 .(17)
   refine ⟨w2,_,rfl,.inr (SqT.of af),rfl,rfl,?_⟩
   generalize upd H1 w2 .(17)=H2 at yb
   have y2:=y1.trans yb
   refine ⟨zB0 _,fun e he=>?_⟩
   have y3:=y2.trans (Same.new he (HO.tup []))
   have hp3:=y3 _ _ hp
   refine ⟨_,_,.ints hp3,.tup (xs:=[]) af .nil,aJ _,aJ [],?_⟩
   generalize upd H2 e (HO.tup [])=H3 at y3 hp3
   rw [if_pos rfl,cq]
   cases x with
   | nil=>exact q _ y3
   | cons a r=>
     have ha:=hx a zA3
     refine ⟨_,.inr hp3,.int (a:Int),aN (j:=0) rfl rfl,?_⟩
     refine ⟨1,(a:Int)+1,rfl,⟨by lia,by lia,by lia,by lia⟩,?_⟩
     rw [show ((a:Int)+1 - 1).toNat=a by lia]
     generalize hx0:a::r=x0 at hp3 hl q hf
     refine cj (fun i zs H'=>i<=a/\Same H3 H'/\zs=(M03.tab (M63.toI x0) i).map V.int) ⟨zB0 _,Same.refl _,rfl⟩ ?_ ?_
     · rintro i zs H' hi ⟨_,y,rfl⟩;have hp4:=y _ _ hp3;refine ⟨by rw [zA0,M03.tab_len];exact aE (by lia),?_⟩;refine ⟨p,rfl,⟨_,SqT.of hp4⟩,bQ (xs:=nI x0) (fun m ys H5=>H5=H'/\m<=x0.length/\ys=(List.replicate ((x0.take m).countP fun b=>decide (i<b)) (1:Int)).map V.int) ⟨rfl,zB0 _,rfl⟩ ?_ ?_ ?_⟩
       · rintro m ys H5 _ ⟨rfl,_⟩;exact SqT.of hp4
       · rintro m v ys H5 hv ⟨rfl,hm,rfl⟩;obtain ⟨b,hb,rfl⟩:=mq hv;have hm':=(List.getElem?_eq_some_iff.mp hb).1;have cp:(x0.take (m+1)).countP (fun b=>decide (i<b))=(x0.take m).countP (fun b=>decide (i<b))+if i<b then 1 else 0:=by
          rw [zC3,hb,List.countP_append];show _+List.countP _ [b]=_;rw [List.countP_singleton];simp
         have lc:=List.countP_le_length (p:=fun b=>decide (i<b)) (l:=x0.take m);have lt:=List.length_take_le m x0;refine ⟨by rw [zA0,zC8];exact aE (by lia),?_⟩;refine bK (fun c=>?_) (fun c=>?_)
         · have c':(1:Int)+(i:Int)<=(b:Int):=c;refine ⟨rfl,hm',?_⟩;rw [cp,if_pos (by lia),List.replicate_succ',zA7];rfl
         · have c':¬ (1:Int)+(i:Int)<=(b:Int):=c;refine ⟨rfl,hm',?_⟩;rw [cp,if_neg (by lia),Nat.add_zero]
       · rintro ys H5 ⟨rfl,_,rfl⟩ D hD;rw [cO,zA6 (zA1 _)];refine ⟨_,.inl (SqL.of af),?_⟩;refine ⟨hi,y.trans (Same.new hD _),?_⟩;rw [M03.tab_succ,zA7,zA0,zC8];have:M03.cn (M63.toI x0) (i:Int)=x0.countP fun b=>decide (i<b):=by
          unfold M03.cn M63.toI;rw [List.countP_map];refine List.countP_congr fun b _=>?_;simp
         rw [this];rfl
     · rintro zs H' ⟨_,y,rfl⟩ D hD;refine ⟨_,.inl (SqL.of af),fun t H6 y6 ht=>?_⟩;have y7:=(y.trans (Same.new hD _)).trans y6;refine ⟨_,_,.ints (ns:=M63.toI x0) (y7 _ _ hp3),.ints ht,aJ _,aJ _,?_⟩;rw [if_neg (by decide),uM];have e1:M03.tn (M63.toI x0)=M03.tab (M63.toI x0) a:=by
        rw [← hx0];rfl
       have e2:decide (M63.toI x0=M03.tab (M63.toI x0) a)=isg .own x0:=by
        show _=decide (M03.tn (M63.toI x0)=M63.toI x0);rw [e1];exact decide_eq_decide.mpr ⟨Eq.symm,Eq.symm⟩
       rw [e2];exact q _ (y3.trans y7)
end
end K73
namespace SRV
open PySem PySem.W PySem.Calls
open PyProof.Rows hiding K SortedTo K_bubble K_mirror K_congr K_mirror_equal
section
variable {prog:Program} {w:World} {A:Around} {E:Value->Shared->Prop} {s:Shared}
theorem TI.keep {h h':Heap} {v:Value} {ns:List Int} (t:TI h v ns) (k:∀ a o,v=.ref a->h.get? a=some o->h'.get? a=some o):TI h' v ns:=by
 obtain ⟨a,o,its,n,rfl,ho,hc,hd,hI⟩:=t;exact ⟨a,o,its,n,rfl,k a o rfl ho,hc,hd,hI⟩
def Up (h:Heap) (u v:Value):Prop:=lexb (fm h v) (fm h u)=false
end
end SRV
namespace L2
open PySem PySem.Spec PyProof.Rows
section
variable {X:Cx}
theorem i9:∀ {ps:List (Addr×List Int)} {its:List Value},Vals (ps.map fun q=>V.ref q.1) its->its=ps.map fun q=>Value.ref q.1
 | [],_,.nil=>rfl
 | _::_,_,.cons h r=>by rw [zC5,← i9 r];cases h;rfl
theorem jq:∀ (ps:List (Addr×List Int)),Vals (ps.map fun q=>V.ref q.1) (ps.map fun q=>Value.ref q.1)
 | []=>.nil
 | _::ps=>.cons rfl (jq ps)
variable {e:Expr} {es:List Expr} {t:TA} {p pos:Pos}
end
end L2
namespace SRV
open PySem PySem.W PySem.Calls
open PyProof.Rows hiding K SortedTo K_bubble K_mirror K_congr K_mirror_equal
section
variable {prog:Program} {w:World} {A:Around} {E:Value->Shared->Prop} {s:Shared}
theorem ii:∀ (f n r:Nat),r<=1->minRun' f n r<=n+r
 | 0,n,r,_=>zA1 _
 | f+1,n,r,h=>by
   rw [minRun'_succ];split
   · exact zA1 _
   · have:=ii f (n / 2) (max r (n % 2)) (by lia);lia
theorem s_asc {st:SortSt} {n:Nat} {Q:Unit->SortSt->Prop} (hn:(arrOf st).size=n) (h1:1<=n) (he:pendingOf st=#[])
 (hlt:∀ x,1<=x->x<n->∀ Q':Option Bool->SortSt->Prop,Q' (some false) st->wpS .(18) A E s (ltAt' x (x - 1)) Q' st)
 (h:∀ v,arrOf v=arrOf st->failedOf v=failedOf st->Q () v):wpS .(18) A E s sortRuns' Q st:=by
 rw [sortRuns'_eq];refine wpS_bind (wpS_get ?_);dsimp only;rw [hn];have hmr:=ii n n 0 (by lia);generalize minRun' n n 0=mr at hmr;refine wpS_bind (wpS_mono (wpS_forRange
  (I:=fun x c v=>(x=0/\c=(none,0)/\v=st)\/(1<=x/\c=(none,n)/\v=setPending st #[(0,n,0)]))
  (Q:=fun c v=>c=(none,n)/\v=setPending st #[(0,n,0)]) ?step ?fin (.inl ⟨rfl,rfl,rfl⟩)) ?post)
 case fin=>
  rintro c v (⟨hx,_,_⟩ | ⟨_,hc,hD⟩)
  · lia
  · exact ⟨hc,hD⟩
 case step=>
  rintro x c v _ hx (⟨rfl,rfl,rfl⟩ | ⟨hx1,rfl,rfl⟩)
  · dsimp only;rw [if_neg (by lia)];simp only [Nat.sub_zero,zH1];rw [countRun0_eq];refine wpS_bind (wpS_bind ?_);unfold ascLoop;refine wpS_forRange (I:=fun x c v'=>v'=v/\c=(none,x)) ?s1 ?f1 ⟨rfl,rfl⟩
    case s1=>
     rintro y c v' hy1 hy2 ⟨rfl,rfl⟩
     dsimp only
     refine wpS_bind (hlt y hy1 hy2 _ ?_)
     exact wpS_pure ⟨rfl,rfl⟩
    case f1=>
     rintro c v' ⟨rfl,rfl⟩
     rw [show max 1 n=n by lia]
     dsimp only
     rw [if_pos (by simp)]
     refine wpS_pure ?_
     dsimp only
     rw [if_neg (by lia)]
     refine wpS_bind (wpS_get ?_)
     have hb:(pendingOf v').back? = none:=by rw [he];rfl
     rw [hb]
     dsimp only
     refine wpS_bind (wpS_modify (wpS_pure (.inr ⟨by lia,rfl,?_⟩)))
     rw [he]
     rfl
  · dsimp only;rw [if_pos (zA1 _)];exact wpS_pure ⟨rfl,rfl⟩
 case post=>
  rintro c v ⟨rfl,rfl⟩
  dsimp only
  refine wpS_bind (wpS_mono (wpS_forRange (I:=fun _ c v'=>v'=setPending st #[(0,n,0)]/\c=(none,())) (Q:=fun c v'=>v'=setPending st #[(0,n,0)]/\c=(none,())) ?_ (fun _ _ hh=>hh) ⟨rfl,rfl⟩) ?_)
  · rintro x c v' _ _ ⟨rfl,rfl⟩;refine wpS_bind (wpS_get ?_);rw [if_pos (show (pendingOf (setPending st #[(0,n,0)])).size<=1 from zA1 1)];exact wpS_pure ⟨rfl,rfl⟩
  · rintro c v' ⟨rfl,rfl⟩;exact wpS_pure (h _ rfl rfl)
theorem qu {st:SortSt} {xs:Array Keyed} {i:Nat} {p:Keyed} {Q:Keyed->SortSt->Prop} (e:xs[i]? = some p) (h:Q p st):wpS .(18) A E s (elem' xs i) Q st:=by
 rw [elem'_eq,e];exact wpS_pure h
theorem u_core {a:Addr} {e1:Nat} {vs:List Value} {P:Fin->Shared->Prop} (hA:s.heap.get? a=some (seqObj "list" #[] e1)) (hT:∀ v∈vs,∃ ns,TI s.heap v ns) (hN:2<=vs.length->∀ v∈vs,fm s.heap v≠[]) (hz:vs.length<=sizeLine) (up:vs.Pairwise (Up s.heap))
 (h:P (.done (.ret .none)) { s with heap:=s.heap.update a (Obj.mapSeq fun _=>List.toArray vs) }):wpAny .(18) A (SRT.core a e1 vs.toArray false) P E s:=by
 unfold SRT.core;have e0:(vs.toArray.zip vs.toArray).map (·.2)=List.toArray vs:=by
  apply Array.ext';simp [List.map_snd_zip]
 have fin:∀ z:SortSt,arrOf z=vs.toArray.zip vs.toArray->failedOf z=none->wpAny .(18) A (do
  let tch:=(← seqEpoch a) != e1
  Builtin.List.listUpdate (.ref a) fun _=>if false then ((arrOf z).map (·.2)).reverse else (arrOf z).map (·.2)
  if let some e:=failedOf z then rule "list.sort.comparison-raised";throw e
  if tch then rule "list.sort.modified";raiseError "ValueError" "list modified during sort"
  ret .none) P E s:=fun z hp hf=>by
  rw [hp,e0,if_neg zB1];refine wpAny_bind (seqEpoch_at hA rfl (wpAny_bind (listUpdate_at hA rfl ?_ (hsz2:=by rw [zA2];lia))));rw [hf];simp only [bne_self_eq_false,zC0,if_false];exact wpAny_pure h
 rw [if_neg zB1];by_cases h2:vs.toArray.size<2
 · rw [if_pos h2,if_pos h2];refine wpAny_bind (wpAny_pure ?_);dsimp only;rw [StateT.run_pure];exact wpAny_bind (wpAny_pure (fin (SortSt.mk' general' _ #[] 7 none) rfl rfl))
 · rw [if_neg h2,if_neg h2];rw [zA2] at h2;obtain ⟨fs,t1,t2,t3⟩:=gY (h:=s.heap) (vs:=vs) fun v hv=>by
    obtain ⟨ns,t⟩:=hT v hv;refine ⟨ns,fun e=>hN (by lia) v hv ?_,t⟩;rw [t.dat,e]
   refine wpAny_bind (kat_kind t1 (by lia) (T:=.type "int") (fun v hv=>?_) rfl ?_)
   · obtain ⟨k,t,rfl⟩:=t3 v hv;exact .now
   refine wpAny_bind (wpAny_mono (s_asc (st:=SortSt.mk' (tuples' true) (vs.toArray.zip vs.toArray) #[] 7 none) (n:=vs.length) (s:=s)
    (Q:=fun _ z=>arrOf z=vs.toArray.zip vs.toArray/\failedOf z=none) (by show (vs.toArray.zip vs.toArray).size=_;simp) (by lia) rfl (fun x x1 x2 Q' q=>?_) fun z g1 g2=>⟨g1,g2⟩) ?_ fun _ _ e=>e)
   · have at_:∀ y (hy:y<vs.length),(vs.toArray.zip vs.toArray)[y]? = some (vs[y],vs[y]):=fun y hy=>by
      rw [Array.getElem?_eq_getElem (by simp;exact hy)];simp
     obtain ⟨ns,t⟩:=hT _ (zB4 x2);obtain ⟨ms,u⟩:=hT _ (zB4 (show x - 1<vs.length by lia));have z:=zE1.mp up (x - 1) x (by lia) x2 (by lia);unfold Up at z;rw [t.dat,u.dat] at z;rw [ltAt'_eq];refine wpS_bind (wpS_get (wpS_bind (qu (at_ x x2) (wpS_bind (qu (at_ (x - 1) (by lia)) (tup_lt rfl t u (by rw [z];exact q)))))))
   rintro ⟨⟨⟩,z⟩ s' ⟨e,g1,g2⟩;have e:s'=s:=e;rw [e];exact fin z g1 g2
theorem u_sort {a:Addr} {vs:List Value} {n:Nat} {P:Fin->Shared->Prop} (hA:s.heap.get? a=some (seqObj "list" vs.toArray n)) (hT:∀ v∈vs,∃ ns,TI s.heap v ns) (hne:∀ v∈vs,v≠.ref a) (hN:2<=vs.length->∀ v∈vs,fm s.heap v≠[]) (hz:vs.length<=sizeLine) (up:vs.Pairwise (Up s.heap))
 (h:P (.done (.ret .none)) { s with heap:=sortedHeap s.heap a vs (List.toArray vs) }):wpAny .(18) A (Builtin.«list.sort» ⟨[.ref a],[]⟩) P E s:=by
 rw [SRT.plain_core];refine SRT.w_start hA hz fun s' e1 e hA'=>?_;have keep:∀ v∈vs,∀ ns,TI s.heap v ns->TI s'.heap v ns:=fun v hv ns t=>t.keep fun b o eb ho=>by
  subst e;have hb:b≠a:=fun x=>hne v hv (by rw [eb,x]);refine Heap.get?_push_of_some _ (Heap.get?_push_of_some _ ?_);rw [Heap.get?_update_ne _ _ _ _ hb];exact ho
 have dat:∀ v∈vs,fm s'.heap v=fm s.heap v:=fun v hv=>by
  obtain ⟨ns,t⟩:=hT v hv;rw [t.dat,(keep v hv ns t).dat]
 refine u_core hA' (fun v hv=>?_) (fun h2 v hv=>?_) hz (up.imp_of_mem fun {u v} hu hv g=>?_) ?_
 · obtain ⟨ns,t⟩:=hT v hv;exact ⟨ns,keep v hv ns t⟩
 · rw [dat v hv];exact hN h2 v hv
 · unfold Up;rw [dat v hv,dat u hu];exact g
 · subst e;exact h
theorem u_sorted {l:Addr} {vs:List Value} {o:Obj} {T:String} {n:Nat} {Q:.(21)} (ho:s.heap.get? l=some o) (hc:o.cls=.type T) (hd:o.data=.seq vs.toArray n) (hT:T="list"\/T="tuple") (hI:∀ v∈vs,∃ ns,TI s.heap v ns) (hN:2<=vs.length->∀ v∈vs,fm s.heap v≠[]) (hz:vs.length<=sizeLine) (up:vs.Pairwise (Up s.heap))
 (h:Q (.ref .(16)) { s with heap:=sortedAll s.heap vs (List.toArray vs) }):wpAny .(18) A (call (.builtin "sorted") [.ref l]) Q E s:=by
 refine call_function_entry kind_sorted plain_sorted entry_sorted (args_sorted1 _) ?_;unfold Builtin.«sorted»;refine wpAny_bind (m:=checkCount "sorted" 1 1 _) (wpAny_pure (wpAny_bind (SRT.w_collect ho hc hd hT hz (wpAny_bind (wpAny_newList ?_ ?hs)))))
 case hs=>exact hz
 generalize hG:(s.heap.push (seqObj "list" #[] 0)).update s.heap.objs.size (Obj.mapSeq (·++vs.toArray))=G;have sG:G.objs.size=s.heap.objs.size+1:=by rw [← hG,Heap.size_update,size_push']
 have old:∀ b ob,s.heap.get? b=some ob->G.get? b=some ob:=fun b ob e=>by
  rw [← hG,Heap.get?_update_ne _ _ _ _ (zC2 (Heap.lt_size e))];exact Heap.get?_push_of_some _ e
 have hL:(G.push (seqObj "list" vs.toArray 0)).get? .(16)=some (seqObj "list" vs.toArray 0):=by rw [← sG];exact Heap.get?_push_size _ rfl
 show wpAny _ _ _ _ _ { s with heap:=G.push (seqObj "list" vs.toArray 0) };rw [show ({ s with heap:=G }:Shared).heap.objs.size=s.heap.objs.size+1 from sG];have keep:∀ v ns,TI s.heap v ns->TI (G.push (seqObj "list" vs.toArray 0)) v ns:=fun v ns t=>t.keep fun b o _ e=>Heap.get?_push_of_some _ (old b o e);have dat:∀ v∈vs,fm (G.push (seqObj "list" vs.toArray 0)) v=fm s.heap v:=fun v hv=>by
  obtain ⟨ns,t⟩:=hI v hv;rw [t.dat,(keep v ns t).dat]
 refine wpAny_bind (wpAny_holding (wpAny_call_entry slot_list_sort ⟨_,hL,rfl⟩ entry_list_sort (u_sort hL (fun v hv=>?_) (fun v hv=>?_) (fun h2 v hv=>?_) hz (up.imp_of_mem fun {u v} hu hv g=>?_) ⟨_,rfl,wpAny_pure ⟨_,rfl,?_⟩⟩) (args_list_sort _)))
 · obtain ⟨ns,t⟩:=hI v hv;exact ⟨ns,keep v ns t⟩
 · intro e;obtain ⟨ns,b,ob,its,k,e2,e3,_⟩:=hI v hv;rw [e2] at e
   cases e
   exact absurd (Heap.lt_size e3) (Nat.not_lt.mpr (zF7 _))
 · have:=hN h2 v hv;rw [← dat v hv] at this;exact this
 · unfold Up at g ⊢;rw [dat v hv,dat u hu];exact g
 · unfold sortedAll at h;rw [hG] at h;exact h
end
end SRV
namespace L2
open PySem PySem.Spec PyProof.Rows
section
variable {X:Cx}
def lB (K:PySem.W.Frag):List V->Hp->VK->Prop:=fun xs H Q=>match xs with
 | [.ref p]=>∃ ps:List (Addr×List Int),SqL K H p (ps.map fun q=>V.ref q.1)/\(∀ q∈ps,H q.1=some (.tup (q.2.map V.int)))/\(2<=ps.length->∀ q∈ps,q.2≠[])/\ps.Pairwise (fun a b=>SRV.lexb b.2 a.2=false)/\∀ l,H l=none->Q (.ref l) (upd H l (.lst (ps.map fun q=>V.ref q.1)))
 | _=>False
theorem ke:CallR X (.builtin "sorted") (lB X.K):=by
 sleep 1;unfold lB at h;split at h
 · rename_i p
   obtain ⟨ps,hq,hd,hne,up,q⟩:=h;obtain ⟨u,rfl,rx⟩:=cx r
   cases rx
   obtain ⟨its,rv,pl,hz⟩:=I.list hq;obtain ⟨o,ho,hc,n,hdd⟩:=id pl.isList;obtain rfl:=i9 rv;have ti:∀ x∈ps,SRV.TI s.heap (.ref x.1) x.2:=fun x hx=>by
    obtain ⟨its,rv,pl,hz⟩:=I.tuple (SqT.of (hd x hx));obtain ⟨o,ho,hc,n,hdd⟩:=id pl;exact ⟨_,o,its,n,rfl,ho,hc,hdd,cM rv⟩
   have hz2:ps.length<=sizeLine:=by rw [zA0] at hz;exact hz
   refine SRV.u_sorted ho hc hdd (.inl rfl) (fun v hv=>?_) (fun h2 v hv=>?_) (by rw [zA0];exact hz2) ?_ ?_
   · obtain ⟨x,hx,rfl⟩:=zD2.mp hv;exact ⟨_,ti x hx⟩
   · obtain ⟨x,hx,rfl⟩:=zD2.mp hv;rw [(ti x hx).dat];exact hne (by rw [zA0] at h2;exact h2) x hx
   · rw [List.pairwise_map];refine up.imp_of_mem fun {a b} ha hb g=>?_;unfold SRV.Up;rw [(ti a ha).dat,(ti b hb).dat];exact g
   · obtain ⟨e,he⟩:=sortedAll_at s.heap (ps.map fun q=>Value.ref q.1) (List.toArray (ps.map fun q=>Value.ref q.1));refine ⟨.ref .(16),_,I.laid (t':=s.toks) (a:=s.heap.objs.size+1) (o:=.lst (ps.map fun q=>V.ref q.1)) (fun c ob q=>sortedAll_old q) (zF7 _) ?_,rfl,q _ (I.hok.fresh (zF7 _))⟩;exact ⟨by rw [zA0];exact hz2,_,e,jq ps,he⟩
 · exact h.elim
variable {e:Expr} {es:List Expr} {t:TA} {p pos:Pos}
theorem kz (hg:Gl X "sorted") (hm:X.mg "sorted" = none) (ha:ZA X (e::es) t) (he:.(1)) (hpl:.(3)) :
 ZE X (.Call (.Name "sorted" p) (e::es) [] pos) (tCB (lB X.K) t):=by with_unfolding_all exact bt ke hg hm dU ha (by decide) (by decide) he hpl
end
end L2
namespace K73
open PySem L2 MRow M27 M80 M17 M12 M24 M11 M66 M63 M05
def TA (H:Hp) (as:List Addr) (xs:List (List Nat)):Prop:=as.length=xs.length/\∀ (j:Nat) a x,as[j]? = some a->xs[j]? = some x->H a=some (.tup (nI x))
theorem TA.keep {H H':Hp} {as:List Addr} {xs:List (List Nat)} (h:TA H as xs) (k:∀ a ys,H a=some (.tup ys)->H' a=some (.tup ys)):TA H' as xs:=⟨h.1,fun j a x e1 e2=>k _ _ (h.2 j a x e1 e2)⟩
theorem TA.same {H H':Hp} {as:List Addr} {xs:List (List Nat)} (h:TA H as xs) (y:Same H H'):TA H' as xs:=h.keep fun a ys e=>y _ _ e
theorem TA.app {H:Hp} {as bs:List Addr} {xs ys:List (List Nat)} (h:TA H as xs) (g:TA H bs ys):TA H (as++bs) (xs++ys):=by
 refine ⟨by rw [zA4,zA4,h.1,g.1],fun j a x e1 e2=>?_⟩;by_cases hj:j<as.length
 · rw [List.getElem?_append_left hj] at e1;rw [List.getElem?_append_left (by have:=h.1;lia)] at e2;exact h.2 j a x e1 e2
 · rw [List.getElem?_append_right (by lia)] at e1;rw [List.getElem?_append_right (by have:=h.1;lia),← h.1] at e2;exact g.2 _ a x e1 e2
theorem TA.at {H:Hp} {as:List Addr} {xs:List (List Nat)} (h:TA H as xs) {j:Nat} {v:V} (e:(as.map V.ref)[j]? = some v):∃ a x,as[j]? = some a/\xs[j]? = some x/\v=.ref a/\H a=some (.tup (nI x)):=by
 rw [List.getElem?_map] at e
 cases ea:as[j]? with
 | none=>rw [ea] at e;cases e
 | some a=>
   rw [ea] at e
   have hj:=(List.getElem?_eq_some_iff.mp ea).1
   have hx:xs[j]? = some (xs[j]'(by have:=h.1;lia)):=List.getElem?_eq_getElem _
   exact ⟨a,_,rfl,hx,(Option.some.inj e).symm,h.2 j a _ ea hx⟩
structure RowsAt (H0 H:Hp) (R:Addr) (ls:List Addr) (n:Nat) (g:Nat->Nat):Prop where
 same:Same H0 H
 hR:H R=some (.lst (ls.map V.ref))
 len:ls.length=n+1
 nd:ls.Nodup
 nR:R∉ls
 fr:∀ l∈ls,H0 l=none
 row:∀ (i:Nat) l,ls[i]? = some l->∃ as,H l=some (.lst (as.map V.ref))/\TA H as (Asc (g i) i)
theorem RowsAt.get {H0 H:Hp} {R:Addr} {ls:List Addr} {n:Nat} {g:Nat->Nat} (r:RowsAt H0 H R ls n g) {i:Nat} (hi:i<=n):∃ l as,ls[i]? = some l/\l∈ls/\(ls.map V.ref)[i]? = some (.ref l)/\H l=some (.lst (as.map V.ref))/\TA H as (Asc (g i) i):=by
 have h:i<ls.length:=by have:=r.len;lia
 have e:ls[i]? = some ls[i]:=List.getElem?_eq_getElem h;obtain ⟨as,h1,h2⟩:=r.row i _ e;exact ⟨ls[i],as,e,zB4 h,by rw [List.getElem?_map,e];rfl,h1,h2⟩
theorem RowsAt.congr {H0 H:Hp} {R:Addr} {ls:List Addr} {n:Nat} {g g':Nat->Nat} (r:RowsAt H0 H R ls n g) (h:∀ i,i<=n->Asc (g i) i=Asc (g' i) i):RowsAt H0 H R ls n g':=
 ⟨r.same,r.hR,r.len,r.nd,r.nR,r.fr,fun i l e=>by
  obtain ⟨as,h1,h2⟩:=r.row i l e;have hi:=(List.getElem?_eq_some_iff.mp e).1;rw [h i (by have:=r.len;lia)] at h2;exact ⟨as,h1,h2⟩⟩
theorem RowsAt.put {H0 H H2:Hp} {R:Addr} {ls:List Addr} {n:Nat} {g:Nat->Nat} (r:RowsAt H0 H R ls n g) (y:Same H H2) {i:Nat} {l:Addr} {as bs:List Addr} {m:Nat} (hl:ls[i]? = some l) (ha:TA H2 as (Asc (g i) i)) (hb:TA H2 bs (if m<=i then (Asc m (i - m)).map (m::·) else [])) (hm:m=g i+1) (hH:H2 l=some (.lst (as.map V.ref))) :
 RowsAt H0 (upd H2 l (.lst (as.map V.ref++bs.map V.ref))) R ls n (fun j=>if j=i then m else g j):=by
 have lm:l∈ls:=zD3 hl;have keepT:∀ a ys,H2 a=some (.tup ys)->upd H2 l (.lst (as.map V.ref++bs.map V.ref)) a=some (.tup ys):=fun a ys e=>by
  rw [aH fun z=>by rw [z,hH] at e;cases e];exact e
 refine ⟨Same.updN (r.same.trans y) (r.fr l lm),?_,r.len,r.nd,r.nR,r.fr,fun j l' e=>?_⟩
 · rw [aH fun z=>r.nR (by rw [z];exact lm)];exact y _ _ r.hR
 · by_cases hj:j=i
   · subst hj;rw [hl] at e
     cases e
     refine ⟨as++bs,by rw [af,zA7],?_⟩;rw [if_pos rfl];have:=(ha.app hb).keep keepT;rw [hm,gb];rw [hm] at this;exact this
   · obtain ⟨as',h1,h2⟩:=r.row j l' e;have ne:l'≠l:=fun z=>hj (by
      subst z;have e1:=List.getElem?_eq_some_iff.mp e;have e2:=List.getElem?_eq_some_iff.mp hl;exact (List.getElem_inj r.nd).mp (e1.2.trans e2.2.symm))
     refine ⟨as',by rw [aH ne];exact y _ _ h1,?_⟩;rw [if_neg hj];exact (h2.same y).keep keepT
theorem mE {a b:List Int} (h:SRV.lexb a b=true):SRV.lexb b a=false:=by
 cases e:SRV.lexb b a with
 | false=>rfl
 | true=>have:=SRV.lexb_trans h e;rw [SRV.lexb_irr] at this;cases this
theorem rZ {as:List Addr} {xs:List (List Int)} (h:as.length=xs.length):(as.zip xs).map (fun q=>V.ref q.1)=as.map V.ref:=by
 have:(as.zip xs).map (fun q=>V.ref q.1)=((as.zip xs).map Prod.fst).map V.ref:=by rw [zI1];rfl
 rw [this,List.map_fst_zip (by lia)]
section
variable {P:Program} {w:World} {K:PySem.W.Frag} {mg:Str->Option Value} {base:Heap} {f:Addr} {fd:FuncData}
theorem sc_ll:FnScope ["_law_n","_law_some","_law_size","_law_number"] ["_law_n"] (ap (top 161)):=.(0)
def sJ:Sp:=fun vs H Q _=>∃ n:Nat,vs=[.int n]/\n<=30/\∀ l as H',Same H H'->H' l=some (.lst (as.map V.ref))->TA H' as (Asc n n)->Q (.ref l) H'
theorem ok_ll (F:Fun K "_law_list" "_law_list" (top 161) f fd) (m_range:mg "range" = none) (m_sorted:mg "sorted" = none)  : FnOk P w K mg base CX0 1 f fd ["_law_n"] sJ:=by
 refine F.okz sc_ll .(10) .(2)
 · obtain ⟨n,rfl,_⟩:=h;rfl
 obtain ⟨n,rfl,hn,q⟩:=h;have nd:=sc_ll.nd;have hu:=hr.units;refine ⟨_,(ae (ay (i:=1) nd rfl .(8) (aA aB (aO (aa (aO (aa (aK ab) ab)) ab)) (aQ ["_law_number"] [] rfl .(5) (c6 rfl m_range (aa (zn 0) ab)) aG (fun _ _ _ _=>az (i:=0) (show List.Nodup (["_law_number"]:List Str) by decide +kernel) rfl .(8)) (fun _ _ _ _=>aY) (fun _ _ _ _=>(aO ab)))))
  (ae (bi PassesOwn.never rfl (bj rfl m_range (aa ah (aa (aA aB (zn 0) ah) ab))) (az (i:=2) nd rfl (Or.inr rfl)) (ai (bi PassesOwn.never rfl (bj rfl m_range (aa (zn 2) (aa (aA aB (zn 0) ah) ab))) (az (i:=3) nd rfl .(8)) (ai (cy (gP (aD aS (zn 1) (zn 3) .(11)) (aa (aQ ["_law_parting_here"] [("_law_size",2)] rfl .(5) (bG (aD aS (zn 1) (aA aP (zn 3) (zn 2)) .(11))) aG (fun _ _ _ _=>az (i:=0) (show List.Nodup (["_law_parting_here","_law_size"]:List Str) by decide +kernel) rfl .(8)) (fun _ _ _ _=>aY) (fun _ _ _ _=>(aA aB (aK .(29)) (zn 0)))) ab)))))))
  (ai (aq (kz rfl m_sorted (aa (aD aS (zn 1) (zn 0) .(11)) ab) rfl rfl))))),?_⟩
 refine ⟨zB0 _,fun t0 ht0=>?_⟩;have y0:=Same.new ht0 (.tup []);have g0:upd H t0 (.tup []) t0=some (.tup (nI [])):=af;generalize upd H t0 (.tup [])=H1 at y0 g0;refine ⟨by show 1<=sizeLine;decide,fun l0 hl0=>?_⟩;have y1:=Same.new hl0 (.lst [V.ref t0]);have g1:upd H1 l0 (.lst [V.ref t0]) l0=some (.lst (([t0]:List Addr).map V.ref)):=af;have fl0:H l0=none:=bp y0 hl0;have g0:=y1 _ _ g0;generalize upd H1 l0 (.lst [V.ref t0])=H2 at y1 g1 g0;refine ⟨by show 1<=sizeLine;decide,fun d0 hd0=>?_⟩;have y2:=Same.new hd0 (.lst [V.ref l0]);have g2:upd H2 d0 (.lst [V.ref l0]) d0=some (.lst [V.ref l0]):=af;have g1:=y2 _ _ g1;have g0:=y2 _ _ g0;have z2:=(y0.trans y1).trans y2;generalize upd H2 d0 (.lst [V.ref l0])=H3 at y2 g2 g1 g0 z2;refine ⟨(n:Int),rfl,by lia,by lia,?_⟩;rw [Int.toNat_natCast];refine cj (fun i ys H'=>∃ es:List Addr,es.length=i/\i<=n/\ys=es.map V.ref/\Same H3 H'/\es.Nodup/\∀ e∈es,H' e=some (.lst [])/\H3 e=none) ⟨[],rfl,zB0 _,rfl,Same.refl _,.nil,fun e he=>nomatch he⟩ ?_ ?_
 · rintro i ys H' hi ⟨es,le,_,rfl,y,nd,hes⟩;refine ⟨by rw [zA0,le];exact aE (by lia),?_⟩;refine ⟨zB0 _,fun e he=>?_⟩;have ye:=Same.new he (.lst []);refine ⟨es++[e],by rw [zA4,le];rfl,hi,by rw [zA7];rfl,y.trans ye,?_,fun e' he'=>?_⟩
   · refine List.nodup_append.mpr ⟨nd,zF9 _ _,fun a ha b hb=>?_⟩;rw [zC6.mp hb];intro z;have:=(hes a ha).1;rw [z,he] at this
     cases this
   · rcases zB7.mp he' with h | h
     · exact ⟨ye _ _ (hes e' h).1,(hes e' h).2⟩
     · rw [zC6.mp h];exact ⟨af,bp y he⟩
 · rintro ys H' ⟨es,le,_,rfl,y,nd,hes⟩ D hD;have yD:=Same.new hD (.lst (es.map V.ref));have gD:upd H' D (.lst (es.map V.ref)) D=some (.lst (es.map V.ref)):=af;have hes:∀ e∈es,upd H' D (.lst (es.map V.ref)) e=some (.lst [])/\H3 e=none:=fun e he=>⟨yD _ _ (hes e he).1,(hes e he).2⟩
   have z3:=y.trans yD;generalize upd H' D (.lst (es.map V.ref))=H4 at yD gD hes z3;refine .inl ⟨_,_,z3 _ _ g2,gD,?_,fun R hR=>?_⟩
   · rw [zA0,le];have:1+n<sizeLine:=aE (by lia);exact zH0 this
   have yR:=Same.new hR (.lst ([V.ref l0]++es.map V.ref));have gR:upd H4 R (.lst ([V.ref l0]++es.map V.ref)) R=some (.lst ((l0::es).map V.ref)):=af;have fR:H R=none:=bp (z2.trans z3) hR;have rows:RowsAt H (upd H4 R (.lst ([V.ref l0]++es.map V.ref))) R (l0::es) n (fun _=>0):=by
    refine ⟨(z2.trans z3).trans yR,gR,by rw [zB5,le],List.nodup_cons.mpr ⟨fun h=>?_,nd⟩,fun h=>?_,fun l h=>?_,fun i l e=>?_⟩
    · have:=(hes l0 h).2;rw [g1] at this
      cases this
    · rcases zA8.mp h with h | h
      · rw [h,z3 _ _ g1] at hR
        cases hR
      · rw [(hes R h).1] at hR
        cases hR
    · rcases zA8.mp h with h | h
      · rw [h];exact fl0
      · exact bp z2 (hes l h).2
    · cases i with
      | zero=>
        cases e
        refine ⟨[t0],yR _ _ (z3 _ _ g1),?_⟩
        rw [dy,if_pos rfl]
        refine ⟨rfl,fun j a x e1 e2=>?_⟩
        cases j with
        | zero=>cases e1;cases e2;exact yR _ _ (z3 _ _ g0)
        | succ j=>cases e1
      | succ i=>
        have e:es[i]? = some l:=e
        refine ⟨[],yR _ _ (hes l (zD3 e)).1,?_⟩
        rw [dy,if_neg (by lia)]
        exact ⟨rfl,fun j a x e1 _=>nomatch e1⟩
   generalize upd H4 R (.lst ([V.ref l0]++es.map V.ref))=H5 at rows;generalize l0::es=ls at rows;refine ⟨1,(n:Int)+1,rfl,⟨by lia,by lia,by lia,by lia⟩,?_⟩;rw [show ((n:Int)+1 - 1).toNat=n by lia];refine bE (fun i σ H'=>i<=n/\RowsAt H H' R ls n (fun _=>i)/\∃ x2 x3,σ=[some (.int n),some (.ref R),x2,x3]) ⟨zB0 _,rows,_,_,rfl⟩ ?_ ?_
   · rintro i σ H' hi ⟨_,rw',x2,x3,rfl⟩;rw [show (1:Int)+(i:Int)=((i+1:Nat):Int) by lia];refine ⟨((i+1:Nat):Int),(n:Int)+1,rfl,⟨by lia,by lia,by lia,by lia⟩,?_⟩;rw [show ((n:Int)+1 - ((i+1:Nat):Int)).toNat=n - i by lia];refine bE (fun j σ H'=>j<=n - i/\RowsAt H H' R ls n (fun r=>if r<i+1+j then i+1 else i)/\∃ x3,σ=[some (.int n),some (.ref R),some (.int ((i+1:Nat):Int)),x3]) ⟨zB0 _,rw'.congr fun r hr=>?_,_,rfl⟩ ?_ ?_
     · split
       · rw [gb,if_neg (by lia),zC9]
       · rfl
     · rintro j σ H' hj ⟨_,r6,x3,rfl⟩;rw [show ((i+1:Nat):Int)+(j:Int)=((i+1+j:Nat):Int) by lia];obtain ⟨l,as,hl,lm,ll,gl,ta⟩:=r6.get (i:=i+1+j) (by lia);obtain ⟨l2,as2,hl2,lm2,ll2,gl2,ta2⟩:=r6.get (i:=j) (by lia);rw [if_neg (by lia)] at ta;rw [if_pos (by lia)] at ta2;refine ⟨_,.inl (SqL.of r6.hR),.ref l,aN (j:=i+1+j) rfl ll,?_⟩;refine ⟨tyL gl,?_⟩;refine ⟨_,.inl (SqL.of r6.hR),.ref l2,aN (j:=j) (by lia) ll2,?_⟩;have al2:=dz (m:=i+1) (n:=j) (by lia);refine ⟨l2,rfl,⟨_,SqL.of gl2⟩,bW (xs:=as2.map V.ref) (fun m ys Hc=>m<=as2.length/\Same H' Hc/\∃ bs:List Addr,ys=bs.map V.ref/\TA Hc bs (((Asc (i+1) j).take m).map ((i+1)::·))) ⟨zB0 _,Same.refl _,[],rfl,rfl,fun j a x e1 _=>nomatch e1⟩ ?_ ?_ ?_⟩
       · rintro m ys Hc _ ⟨_,y,_⟩;exact SqL.of (y _ _ gl2)
       · rintro m v ys Hc hv ⟨_,y,bs,rfl,tb'⟩;obtain ⟨a,x,ea,ex,rfl,ha⟩:=ta2.at hv;have hm:=(List.getElem?_eq_some_iff.mp ea).1;have lb:=tb'.1;rw [zA0,zB3] at lb;refine ⟨by rw [zA0];exact iP (by lia),?_⟩;refine ⟨by show 1<=sizeLine;decide,fun t ht=>?_⟩;have yt:=Same.new ht (.tup [V.int ((i+1:Nat):Int)]);have gt:upd Hc t (.tup [V.int ((i+1:Nat):Int)]) t=some (.tup [V.int ((i+1:Nat):Int)]):=af;generalize upd Hc t (.tup [V.int ((i+1:Nat):Int)])=Hd at yt gt;have xl:x.length<=30:=by
          have hx:=zD3 ex;have:=ls_len (asc_mem.mp hx);lia
         refine .inr ⟨_,_,gt,yt _ _ (y _ _ ha),?_,fun r He ye hr=>?_⟩
         · rw [cO];have:1+x.length<sizeLine:=aE (by lia);exact zH0 this
         have z:=yt.trans ye;refine ⟨hm,(y.trans z),bs++[r],by rw [zA7];rfl,?_⟩;rw [zC3,ex,zA7];refine (tb'.same z).app ⟨rfl,fun j' a' x' e1 e2=>?_⟩
         cases j' with
         | zero=>cases e1;cases e2;exact hr
         | succ j'=>cases e1
       · rintro ys Hc ⟨_,y,bs,rfl,tb'⟩ D hD;rw [zA0,ta2.1,zA6 (zA1 _)] at tb';have yD:=Same.new hD (.lst (bs.map V.ref));have gD:upd Hc D (.lst (bs.map V.ref)) D=some (.lst (bs.map V.ref)):=af;have tb':=tb'.same yD;have z:=y.trans yD;generalize upd Hc D (.lst (bs.map V.ref))=Hd at gD tb' z;have al:=dz (m:=i+1) (n:=i+1+j) (by lia);rw [gb,if_pos (by lia),zA4,zA0,zE9] at al;have l1:=ta.1;have l3:=tb'.1;rw [zA0] at l3;refine ⟨_,_,z _ _ gl,gD,?_,?_⟩
         · rw [zA0,zA0];have:as.length+bs.length<sizeLine:=iP (by lia);exact zH0 this
         · refine ⟨by lia,(r6.put z (m:=i+1) hl (by rw [if_neg (by lia)];exact ta.same z) ?_ (by rw [if_neg (by lia)]) (z _ _ gl)).congr fun r hr=>?_,_,rfl⟩
           · rw [if_pos (by lia),zE9];exact tb'
           · by_cases h:r=i+1+j
             · rw [if_pos h,if_pos (by lia)]
             · rw [if_neg h];by_cases h2:r<i+1+j
               · rw [if_pos h2,if_pos (by lia)]
               · rw [if_neg h2,if_neg (by lia)]
     · rintro σ H' ⟨_,r6,x3,rfl⟩;refine ⟨hi,r6.congr fun r hr=>?_,_,_,rfl⟩;rw [if_pos (by lia)]
   · rintro σ H' ⟨_,r6,x2,x3,rfl⟩;obtain ⟨l,as,hl,lm,ll,gl,ta⟩:=r6.get (i:=n) (zA1 n);refine ⟨_,.inl (SqL.of r6.hR),.ref l,aN (j:=n) rfl ll,?_⟩;have lz:as.length=((Asc n n).map toI).length:=by rw [zA0];exact ta.1
     have ez:=rZ lz;have sn:(as.zip ((Asc n n).map toI)).map Prod.snd=(Asc n n).map toI:=List.map_snd_zip (by lia);have up:(as.zip ((Asc n n).map toI)).Pairwise (fun a b=>SRV.lexb a.2 b.2=true):=by
      have:((as.zip ((Asc n n).map toI)).map Prod.snd).Pairwise (fun a b=>SRV.lexb a b=true):=by
       rw [sn,List.pairwise_map];exact asc_up n n
      rw [List.pairwise_map] at this;exact this
     refine ⟨as.zip ((Asc n n).map toI),by rw [ez];exact SqL.of gl,fun p hp=>?_,fun h2 p hp=>?_,up.imp fun {a b} g=>mE g,fun l' hl'=>?_⟩
     · obtain ⟨j,hj⟩:=List.mem_iff_getElem?.mp hp;obtain ⟨e1,e2⟩:=List.getElem?_zip_eq_some.mp hj;rw [List.getElem?_map] at e2
       cases ex:(Asc n n)[j]? with
       | none=>rw [ex] at e2;cases e2
       | some x=>
         rw [ex] at e2
         have e2:toI x=p.2:=Option.some.inj e2
         rw [← e2]
         exact ta.2 j _ x e1 ex
     · have:p.2∈(Asc n n).map toI:=by rw [← sn];exact zD2.mpr ⟨p,hp,rfl⟩
       obtain ⟨x,hx,e⟩:=zD2.mp this;rw [← e];intro e0;have x0:x=[]:=List.map_eq_nil_iff.mp e0;subst x0;have s0:=(dk _ _ _ (asc_mem.mp hx)).2;have n0:n=0:=s0.symm;subst n0;rw [List.length_zip,zA0,dy,if_pos rfl] at h2;have:([[]]:List (List Nat)).length=1:=rfl;lia
     · rw [ez];have yl:=Same.new hl' (.lst (as.map V.ref));exact q l' as _ (r6.same.trans yl) af (ta.same yl)
end
end K73
namespace K73
open PySem L2 MRow M27 M80 M17 M12 M11 M66 M63 M05
def LK (k:Kn) (n:Nat):List (List Nat):=(Asc n n).filter (isg k)
theorem kI {p:List Nat->Bool} {l:List (List Nat)} {m:Nat} {x:List Nat} (ex:l[m]? = some x):(l.take (m+1)).filter p=(l.take m).filter p++if p x=true then [x] else []:=by
 rw [zC3,ex,zF6];show _++List.filter p [x]=_;rw [List.filter_cons,List.filter_nil]
end K73
namespace K73
open PySem L2 M67 M68
theorem be {n:Int} (h0:0<=n) (h1:n<1000000):n.natAbs.log2<1920:=by
 by_cases h:n.natAbs=0
 · rw [h];decide
 · have:n.natAbs.log2<20:=(Nat.log2_lt h).mpr (by
    have:(2:Nat) ^ 20=1048576:=by decide
    lia)
   lia
theorem Same.updD {H H':Hp} {D:Addr} {o:HO} (y:Same H H') (hD:H D=none):Same H (upd H' D o):=fun c o' e=>by
 rw [aH (fun z=>by rw [z,hD] at e;cases e)];exact y c o' e
theorem ml {H H':Hp} {D:Addr} (y:Same H H') (h:H' D=none):H D=none:=by
 cases e:H D with
 | none=>rfl
 | some o=>rw [y _ _ e] at h;cases h
def Nm (ns:List Int):Prop:=∀ n∈ns,(0:Int)<=n/\n<1000000
theorem mh {K:PySem.W.Frag} {x:Str} {ix:List (Str×Nat)} {σ:St} {H:Hp} {a:Addr} {ns:List Int} {Fin:List V->Hp->Prop} (ha:SqT K H a (ns.map V.int)) (hn:Nm ns) (hl:ns.length<=1000) (fin:Fin ((ns.map nt).map V.str) H) :
 rW [x] ix (fJ 0) tYes (tCB lA (sx (tV 0) tNil)) σ (Itt K a) Fin H:=by
 refine bQ (xs:=ns.map V.int) (fun j ys H'=>H'=H/\ys=((ns.take j).map nt).map V.str) ⟨rfl,by rw [zE4];rfl⟩ ?_ ?_ ?_
 · rintro j ys H' _ ⟨rfl,_⟩;exact ha
 · rintro j x ys H' hx ⟨rfl,rfl⟩;have hj:j<ns.length:=by
    have:=(List.getElem?_eq_some_iff.mp hx).1;rw [zA0] at this;exact this
   have ex:x=.int ns[j]:=by rw [iF hj] at hx;exact (Option.some.inj hx).symm
   subst ex;have hj1:=hn _ (zB4 hj);sleep 2;refine ⟨be hj1.1 hj1.2,?_⟩;refine ⟨rfl,?_⟩;rw [zC3,List.getElem?_eq_getElem hj,zA7,zA7];rfl
 · rintro ys H' ⟨rfl,rfl⟩;rw [zA0,zA6 (zA1 _)];exact fin
theorem qf (x:V) (xs:List V):fu (x::xs) (some 1) none=xs:=by
 cases xs with
 | nil=>rfl
 | cons y r=>
   unfold fu
   simp [HT.sIx]
section
variable {P:Program} {w:World} {K:PySem.W.Frag} {mg:Str->Option Value} {base:Heap} {f:Addr} {fd:FuncData}
def iK:Sp:=fun vs H Q _=>∃ (c:Addr) (k:Kd),vs=[.ref c]/\KdAt H c k/\k.Ok/\∀ H',Same H H'->Q (.str k.text) H'
theorem rs_nm {m:Int} {rs:List Int} (h:(Kd.rests m rs).Ok):Nm rs/\rs.length<=60/\0<=m/\m<1000000:=by
 obtain ⟨⟨h1,h2⟩,h3,h4,h5,h6⟩:=h;refine ⟨fun r hr=>?_,h6,by lia,by lia⟩;have:=h5 r hr;lia
theorem sc_kt:FnScope ["_law_kind_here","_law_words"] ["_law_kind_here"] (ap (top 164)):=.(0)
theorem ok_kt (F:Fun K "_law_kind_text" "_law_kind_text" (top 164) f fd) (m_str:mg "str" = none):FnOk P w K mg base CX0 1 f fd ["_law_kind_here"] iK:=by
 refine F.okz sc_kt .(10) .(2)
 · obtain ⟨a,rs,rfl,_⟩:=h;rfl
 obtain ⟨c,k,rfl,hc,hk,q⟩:=h;have nd:=sc_kt.nd;have hu:=hr.units;have fit:=ip hk;refine ⟨_,(ae (ay (i:=1) nd rfl .(8) (aA aB (aO (aa .(6) ab)) (aQ ["_law_number"] [] rfl .(5) (bJ (bB nW (zn 0) (bF ah) (bF ah))) aG (fun _ _ _ _=>az (i:=0) (show List.Nodup (["_law_number"]:List Str) by decide +kernel) rfl .(8)) (fun _ _ _ _=>aY) (fun _ _ _ _=>(aF rfl m_str (aa (zn 0) ab) rfl rfl)))))
  (ae (aC (aj (av hu) .(6) am (ao _)) (ai (cy (gQ (zn 1) (aa (bm am (aa (aQ ["_law_rest"] [] rfl .(5) (bJ .(6)) aG (fun _ _ _ _=>az (i:=0) (show List.Nodup (["_law_rest"]:List Str) by decide +kernel) rfl .(8)) (fun _ _ _ _=>aY) (fun _ _ _ _=>(aF rfl m_str (aa (zn 0) ab) rfl rfl))) ab)) ab)))) ak)
  (ae (aC (aj (av hu) .(6) am (ao _)) (ai (cy (gQ (zn 1) (aa (aF rfl m_str (aa .(6) ab) rfl rfl) ab)))) ak)
  (ai (aq (bm am .(29))))))),?_⟩
 cases k with
 | bare w=>
   have e:H c=some (.tup [.str w]):=hc
   have w1:w≠Str.ofString "rests":=by rcases hk with rfl | rfl <;> decide +kernel
   have w2:w≠Str.ofString "box":=by rcases hk with rfl | rfl <;> decide +kernel
   refine ⟨_,.inr e,.str w,rfl,?_⟩
   refine ⟨by show 1<=sizeLine;decide,fun d1 hd1=>?_⟩
   have y1:=Same.new hd1 (.lst [V.str w])
   refine ⟨1,rfl,2,rfl,c,rfl,.inl ⟨_,y1 _ _ e,fun r H2 y2 hr2=>?_⟩⟩
   refine ⟨r,rfl,⟨_,SqT.of hr2⟩,mh (ns:=[]) (SqT.of hr2) (fun n hn=>(nomatch hn)) (by decide) fun D hD=>?_⟩
   have y3:=Same.new hD (.lst [])
   refine .inl ⟨_,_,y3 _ _ (y2 _ _ af),af,by show 1<=sizeLine;decide,fun p hp=>?_⟩
   have yp:=((y1.trans y2).trans y3).trans (Same.new hp (.lst [V.str w]))
   refine ⟨_,.inr (yp _ _ e),.str w,rfl,?_⟩
   refine bK (fun z=>absurd (V.str.inj z) w1) (fun _=>?_)
   refine ⟨_,.inr (yp _ _ e),.str w,rfl,?_⟩
   refine bK (fun z=>absurd (V.str.inj z) w2) (fun _=>?_)
   refine ⟨rfl,?_⟩
   exact ⟨[w],SqL.of af,fit,q _ yp⟩
 | one w n=>
   have e:H c=some (.tup [.str w,.int n]):=hc
   have w1:w≠Str.ofString "rests":=by rcases hk with ⟨rfl | rfl | rfl,_⟩ | ⟨rfl,_⟩ <;> decide +kernel
   have w2:w≠Str.ofString "box":=by rcases hk with ⟨rfl | rfl | rfl,_⟩ | ⟨rfl,_⟩ <;> decide +kernel
   have hn:Nm [n]:=fun z hz=>by
    have:z=n:=by simpa using hz
    rcases hk with ⟨_,h1,h2⟩ | ⟨_,h1,h2⟩ <;> lia
   refine ⟨_,.inr e,.str w,rfl,?_⟩
   refine ⟨by show 1<=sizeLine;decide,fun d1 hd1=>?_⟩
   have y1:=Same.new hd1 (.lst [V.str w])
   refine ⟨1,rfl,2,rfl,c,rfl,.inl ⟨_,y1 _ _ e,fun r H2 y2 hr2=>?_⟩⟩
   refine ⟨r,rfl,⟨_,SqT.of hr2⟩,mh (ns:=[n]) (SqT.of hr2) hn (by show 1<=1000;decide) fun D hD=>?_⟩
   have y3:=Same.new hD (.lst (([n].map nt).map V.str))
   refine .inl ⟨_,_,y3 _ _ (y2 _ _ af),af,by show 2<=sizeLine;decide,fun p hp=>?_⟩
   have yp:=((y1.trans y2).trans y3).trans (Same.new hp (.lst [V.str w,.str (nt n)]))
   refine ⟨_,.inr (yp _ _ e),.str w,rfl,?_⟩
   refine bK (fun z=>absurd (V.str.inj z) w1) (fun _=>?_)
   refine ⟨_,.inr (yp _ _ e),.str w,rfl,?_⟩
   refine bK (fun z=>absurd (V.str.inj z) w2) (fun _=>?_)
   refine ⟨rfl,?_⟩
   exact ⟨[w,nt n],SqL.of af,fit,q _ yp⟩
 | box a b=>
   have e:H c=some (.tup [.str (Str.ofString "box"),.int a,.int b]):=hc
   obtain ⟨⟨a0,a1⟩,b0,b1⟩:=hk
   have hn:Nm [a]:=fun z hz=>by
    have:z=a:=by simpa using hz
    lia
   refine ⟨_,.inr e,.str (Str.ofString "box"),rfl,?_⟩
   refine ⟨by show 1<=sizeLine;decide,fun d1 hd1=>?_⟩
   have y1:=Same.new hd1 (.lst [V.str (Str.ofString "box")])
   refine ⟨1,rfl,2,rfl,c,rfl,.inl ⟨_,y1 _ _ e,fun r H2 y2 hr2=>?_⟩⟩
   refine ⟨r,rfl,⟨_,SqT.of hr2⟩,mh (ns:=[a]) (SqT.of hr2) hn (by show 1<=1000;decide) fun D hD=>?_⟩
   have y3:=Same.new hD (.lst (([a].map nt).map V.str))
   refine .inl ⟨_,_,y3 _ _ (y2 _ _ af),af,by show 2<=sizeLine;decide,fun p hp=>?_⟩
   have y4:=(y1.trans y2).trans y3
   have yp:=y4.trans (Same.new hp (.lst [V.str (Str.ofString "box"),.str (nt a)]))
   refine ⟨_,.inr (yp _ _ e),.str (Str.ofString "box"),rfl,?_⟩
   refine ⟨_,.inr (yp _ _ e),.str (Str.ofString "box"),rfl,?_⟩
   refine ⟨tyL af,?_⟩
   refine ⟨_,.inr (yp _ _ e),.int b,rfl,?_⟩
   refine ⟨be (by lia) (by lia),?_⟩
   refine ⟨_,af,by show 2<sizeLine;decide,?_⟩
   refine ⟨rfl,?_⟩
   refine ⟨[Str.ofString "box",nt a,nt b],SqL.of af,fit,?_⟩
   exact q _ (Same.updD yp (ml y4 hp))
 | rests m rs=>
   obtain ⟨d,e,ed⟩:=hc
   obtain ⟨rn,rl,m0,m1⟩:=rs_nm hk
   have hn:Nm [m]:=fun z hz=>by
    have:z=m:=by simpa using hz
    lia
   refine ⟨_,.inr e,.str (Str.ofString "rests"),rfl,?_⟩
   refine ⟨by show 1<=sizeLine;decide,fun d1 hd1=>?_⟩
   have y1:=Same.new hd1 (.lst [V.str (Str.ofString "rests")])
   refine ⟨1,rfl,2,rfl,c,rfl,.inl ⟨_,y1 _ _ e,fun r H2 y2 hr2=>?_⟩⟩
   refine ⟨r,rfl,⟨_,SqT.of hr2⟩,mh (ns:=[m]) (SqT.of hr2) hn (by show 1<=1000;decide) fun D hD=>?_⟩
   have y3:=Same.new hD (.lst (([m].map nt).map V.str))
   refine .inl ⟨_,_,y3 _ _ (y2 _ _ af),af,by show 2<=sizeLine;decide,fun p hp=>?_⟩
   have y4:=(y1.trans y2).trans y3
   have yn:=Same.new hp (.lst [V.str (Str.ofString "rests"),.str (nt m)])
   have yp:=y4.trans yn
   refine ⟨_,.inr (yp _ _ e),.str (Str.ofString "rests"),rfl,?_⟩
   refine ⟨tyL af,?_⟩
   refine ⟨rfl,?_⟩
   refine ⟨_,.inr (yp _ _ e),.ref d,rfl,?_⟩
   refine ⟨d,rfl,⟨_,SqT.of (yp _ _ ed)⟩,mh (SqT.of (yp _ _ ed)) rn (by lia) fun D2 hD2=>?_⟩
   refine ⟨_,SqL.of af,sP rn rl,?_⟩
   have y5:=Same.new hD2 (.lst ((rs.map nt).map V.str))
   refine ⟨_,y5 _ _ af,by show 2<sizeLine;decide,?_⟩
   have y6:=Same.updD (o:=.lst [V.str (Str.ofString "rests"),.str (nt m),.str (Txt.join (Str.ofString ",") (rs.map nt))]) (yp.trans y5) (ml y4 hp)
   refine ⟨_,.inr (y6 _ _ e),.str (Str.ofString "rests"),rfl,?_⟩
   refine ⟨rfl,?_⟩
   exact ⟨[Str.ofString "rests",nt m,Txt.join (Str.ofString ",") (rs.map nt)],SqL.of af,fit,q _ y6⟩
end
section
variable {P:Program} {w:World} {K:PySem.W.Frag} {mg:Str->Option Value} {base:Heap} {f:Addr} {fd:FuncData}
theorem sc_whole:FnScope ["thing"] ["thing"] (ap (top 9)):=.(0)
def gu:Sp:=fun vs H Q _=>∃ i:Int,vs=[.int i]/\Q (.bl true) H
theorem pI (F:Fun K "is_whole" "is_whole" (top 9) f fd) (m_bool:mg "bool" = none) (m_int:mg "int" = none) (m_isinstance:mg "isinstance" = none):FnOk P w K mg base CX0 1 f fd ["thing"] gu:=by
 refine F.okz sc_whole .(10) .(2)
 · obtain ⟨i,rfl,_⟩:=h;rfl
 obtain ⟨i,rfl,q⟩:=h;have nd:=sc_whole.nd;refine ⟨_,(ai (aq (bq (aR rfl m_isinstance (aa (zn 0) (aa (rX rfl m_int) ab)) rfl rfl) (cB (se (aR rfl m_isinstance (aa (zn 0) (aa (nZ rfl m_bool) ab)) rfl rfl)))))),?_⟩;refine ⟨"int",rfl,rfl,?_⟩;refine cU (fun _=>?_) (fun c=>absurd c (by decide));refine ⟨"int",rfl,rfl,?_⟩;exact q
theorem sc_within:FnScope ["thing","least","most"] ["thing","least","most"] (ap (top 10)):=.(0)
def bZ:Sp:=fun vs H Q _=>∃ i lo hi:Int,vs=[.int i,.int lo,.int hi]/\lo<=i/\i<=hi/\Q (.bl true) H
theorem lZ (F:Fun K "is_within" "is_within" (top 10) f fd)  (F_is_whole:FnA P w K mg base "is_whole" 1 ["thing"] gu):FnOk P w K mg base CX0 2 f fd ["thing","least","most"] bZ:=by
 refine F.okz sc_within .(10) .(2)
 · obtain ⟨i,lo,hi,rfl,_⟩:=h;rfl
 obtain ⟨i,lo,hi,rfl,h1,h2,q⟩:=h;have nd:=sc_within.nd;refine ⟨_,(ai (aq (bq (au F_is_whole hr (by decide) rfl (aa (zn 0) ab)) (cB (oa hV hV (zn 1) (zn 0) (zn 2)))))),?_⟩;refine ⟨i,rfl,?_⟩;refine ⟨_,rfl,?_⟩;rw [decide_eq_true h1];show Q (.bl (decide (i<=hi))) H;rw [decide_eq_true h2];exact q
theorem sc_size:FnScope ["thing"] ["thing"] (ap (top 52)):=.(0)
def kT:Sp:=fun vs H Q _=>∃ i:Int,vs=[.int i]/\1<=i/\i<=600/\Q (.bl true) H
theorem uc (F:Fun K "is_size" "is_size" (top 52) f fd)  (g_MOST_SIZE:cN mg "MOST_SIZE" 600) (F_is_within:FnA P w K mg base "is_within" 2 ["thing","least","most"] bZ):FnOk P w K mg base CX0 3 f fd ["thing"] kT:=by
 refine F.okz sc_size .(10) .(2)
 · obtain ⟨i,rfl,_⟩:=h;rfl
 obtain ⟨i,rfl,h1,h2,q⟩:=h;have nd:=sc_size.nd;refine ⟨_,(ai (aq (au F_is_within hr (by decide) rfl (aa (zn 0) (aa ah (aa (cC rfl g_MOST_SIZE) ab)))))),?_⟩;exact ⟨i,1,600,rfl,h1,h2,q⟩
theorem sc_div:FnScope ["thing"] ["thing"] (ap (top 53)):=.(0)
def qI:Sp:=fun vs H Q _=>∃ i:Int,vs=[.int i]/\2<=i/\i<=60/\Q (.bl true) H
theorem ok_div (F:Fun K "is_divisor" "is_divisor" (top 53) f fd)  (g_LEAST_DIVISOR_kinds:cN mg "LEAST_DIVISOR_kinds" 2) (g_MOST_DIVISOR_kinds:cN mg "MOST_DIVISOR_kinds" 60) (F_is_within:FnA P w K mg base "is_within" 2 ["thing","least","most"] bZ):FnOk P w K mg base CX0 3 f fd ["thing"] qI:=by
 refine F.okz sc_div .(10) .(2)
 · obtain ⟨i,rfl,_⟩:=h;rfl
 obtain ⟨i,rfl,h1,h2,q⟩:=h;have nd:=sc_div.nd;refine ⟨_,(ai (aq (au F_is_within hr (by decide) rfl (aa (zn 0) (aa (cC rfl g_LEAST_DIVISOR_kinds) (aa (cC rfl g_MOST_DIVISOR_kinds) ab)))))),?_⟩;exact ⟨i,2,60,rfl,h1,h2,q⟩
theorem sc_rests:FnScope ["thing","m","least","rest"] ["thing","m"] (ap (top 54)):=.(0)
def jh:Sp:=fun vs H Q _=>∃ (a:Addr) (rs:List Int) (m:Int),vs=[.ref a,.int m]/\H a=some (.tup (rs.map V.int))/\(Kd.rests m rs).Ok/\Q (.bl true) H
theorem pK (F:Fun K "are_rests" "are_rests" (top 54) f fd) (m_isinstance:mg "isinstance" = none) (m_len:mg "len" = none) (m_tuple:mg "tuple" = none) (F_is_within:FnA P w K mg base "is_within" 2 ["thing","least","most"] bZ):FnOk P w K mg base CX0 3 f fd ["thing","m"] jh:=by
 refine F.okz sc_rests .(10) .(2)
 · obtain ⟨a,rs,m,rfl,_⟩:=h;rfl
 obtain ⟨a,rs,m,rfl,ha,⟨_,r0,rp,rb,rl⟩,q⟩:=h;have nd:=sc_rests.nd;have hu:=hr.units;have lp:0<rs.length:=by
  cases rs with
  | nil=>exact absurd rfl r0
  | cons x r=>show 0<r.length+1;lia
 refine ⟨_,(ae (aC (ZW.zt (ge (bI (bb (aR rfl m_isinstance (aa (zn 0) (aa (cZ rfl m_tuple) ab)) rfl rfl))) (dN (aj (av hu) .(28) ah (ao _))))) (ai (aq bR)) ak)
  (ae (ay (i:=2) nd rfl .(8) ah)
  (ae (bi PassesOwn.never rfl (bJ (zn 0)) (az (i:=3) nd rfl .(8)) (ae (aC (bI (bb (au F_is_within hr (by decide) rfl (aa (zn 3) (aa (zn 2) (aa (aA aP (zn 1) ah) ab)))))) (ai (aq bR)) ak)
  (ai (ay (i:=2) nd rfl .(8) (aA aB (zn 3) ah)))))
  (ai (aq bR))))),?_⟩
 refine ⟨"tuple",(SqK.tup ha).ty,rfl,?_⟩;refine cU (fun c=>absurd c (by decide)) (fun _=>?_);refine ⟨_,.inr ha,?_⟩;rw [zA0];refine bK (fun c=>absurd (V.int.inj c) (by lia)) (fun _=>?_);refine ⟨a,rfl,⟨_,SqT.of ha⟩,gK (xs:=rs.map V.int) (fun i σ H'=>H=H'/\∃ (l:Int) (p3:Option V),σ=[some (.ref a),some (.int m),some (.int l),p3]/\(∀ j (hj:j<rs.length),i<=j->l<=rs[j])) ⟨rfl,0,none,rfl,fun j hj _=>(rb _ (zB4 hj)).1⟩ ?_ ?_ ?_⟩
 · rintro i σ H' _ ⟨rfl,_⟩;exact SqT.of ha
 · rintro i x σ H' hx ⟨rfl,l,p3,rfl,hl⟩;have hi:i<rs.length:=by
    have:=(List.getElem?_eq_some_iff.mp hx).1;rw [zA0] at this;exact this
   have ex:x=.int rs[i]:=by rw [iF hi] at hx;exact (Option.some.inj hx).symm
   subst ex;have hb:=rb _ (zB4 hi);refine ⟨_,l,m - 1,rfl,hl i hi (zA1 _),by lia,?_⟩;refine ⟨rfl,rs[i]+1,_,rfl,fun j hj hij=>?_⟩;have:=zE1.mp rp i j hi hj (by lia);lia
 · rintro σ H' ⟨rfl,l,p3,rfl,hl⟩;exact q
theorem sc_fits:FnScope ["word","given"] ["word","given"] (ap (top 55)):=.(0)
def Given (H:Hp) (g:Addr):Kd->Prop
 | .bare _=>H g=some (.tup [])
 | .one _ n=>H g=some (.tup [.int n])
 | .box a b=>H g=some (.tup [.int a,.int b])
 | .rests m rs=>∃ d,H g=some (.tup [.int m,.ref d])/\H d=some (.tup (rs.map V.int))
def gU:Kd->Str
 | .bare w=>w
 | .one w _=>w
 | .box _ _=>Str.ofString "box"
 | .rests _ _=>Str.ofString "rests"
def kW:Sp:=fun vs H Q _=>∃ (g:Addr) (k:Kd),vs=[.str (gU k),.ref g]/\Given H g k/\k.Ok/\∀ H',Same H H'->Q (.bl true) H'
theorem uh (F:Fun K "fits_word" "fits_word" (top 55) f fd) (m_len:mg "len" = none) (F_is_size:FnA P w K mg base "is_size" 3 ["thing"] kT) (F_is_divisor:FnA P w K mg base "is_divisor" 3 ["thing"] qI) (F_are_rests:FnA P w K mg base "are_rests" 3 ["thing","m"] jh):FnOk P w K mg base CX0 4 f fd ["word","given"] kW:=by
 refine F.okz sc_fits .(10) .(2)
 · obtain ⟨g,k,rfl,_⟩:=h;rfl
 obtain ⟨g,k,rfl,hg,hk,q⟩:=h;have nd:=sc_fits.nd;have hu:=hr.units;generalize hw:gU k=wd;refine ⟨_,(ae (aC (aj cF (zn 0) (aK (aa am (aa am ab))) (by with_unfolding_all rfl)) (ai (aq (aZ (av hu) (aI rfl m_len .(29) rfl rfl) ah (ao _)))) ak)
  (ae (aC (aj cF (zn 0) (aK (aa am (aa am (aa am ab)))) (by with_unfolding_all rfl)) (ai (aq (bq (aZ (av hu) (aI rfl m_len .(29) rfl rfl) ah (ao _)) (cB (au F_is_size hr (by decide) rfl (aa (aD aS (zn 1) ah .(11)) ab)))))) ak)
  (ae (aC (aj (av hu) (zn 0) am (ao _)) (ai (aq (bq (aZ (av hu) (aI rfl m_len .(29) rfl rfl) ah (ao _)) (bq (au F_is_size hr (by decide) rfl (aa (aD aS (zn 1) ah .(11)) ab)) (cB (au F_is_size hr (by decide) rfl (aa (aD aS (zn 1) ah .(11)) ab))))))) ak)
  (ae (aC (aj (av hu) (zn 0) am (ao _)) (ai (aq (bq (aZ (av hu) (aI rfl m_len .(29) rfl rfl) ah (ao _)) (cB (au F_is_divisor hr (by decide) rfl (aa (aD aS (zn 1) ah .(11)) ab)))))) ak)
  (ae (aC (aj (av hu) (zn 0) am (ao _)) (ai (aq (bq (aZ (av hu) (aI rfl m_len .(29) rfl rfl) ah (ao _)) (bq (au F_is_divisor hr (by decide) rfl (aa (aD aS (zn 1) ah .(11)) ab)) (cB (au F_are_rests hr (by decide) rfl (aa (aD aS (zn 1) ah .(11)) (aa (aD aS (zn 1) ah .(11)) ab)))))))) ak)
  (ai (aq bR))))))),?_⟩
 refine ⟨by show 2<=sizeLine;decide,fun d1 hd1=>?_⟩;have y1:=Same.new hd1 (.tup [V.str (Str.ofString "all"),.str (Str.ofString "own")]);refine ⟨_,_,rfl,.inr (SqT.of af),rfl,rfl,?_⟩;generalize upd H d1 (.tup [V.str (Str.ofString "all"),.str (Str.ofString "own")])=H1 at y1
 cases k with
 | bare w=>
   have hg1:=y1 _ _ (show H g=some (.tup []) from hg)
   have hw':w=wd:=hw
   subst hw'
   refine cU (fun _=>?_) (fun c=>absurd c (by rcases hk with rfl | rfl <;> decide +kernel))
   refine ⟨_,.inr hg1,?_⟩
   exact q _ y1
 | one w n=>
   have hg1:=y1 _ _ (show H g=some (.tup [.int n]) from hg)
   have hw':w=wd:=hw
   subst hw'
   refine cU (fun c=>absurd c (by rcases hk with ⟨rfl | rfl | rfl,_⟩ | ⟨rfl,_⟩ <;> decide +kernel)) (fun _=>?_)
   refine ⟨by show 3<=sizeLine;decide,fun d2 hd2=>?_⟩
   have y2:=Same.new hd2 (.tup [V.str (Str.ofString "most"),.str (Str.ofString "few"),.str (Str.ofString "off")])
   have hg2:=y2 _ _ hg1
   refine ⟨_,_,rfl,.inr (SqT.of af),rfl,rfl,?_⟩
   rcases hk with ⟨hk,n0,n1⟩ | ⟨hk,n0,n1⟩
   · refine cU (fun _=>?_) (fun c=>absurd c (by rcases hk with rfl | rfl | rfl <;> decide +kernel));refine ⟨_,.inr hg2,?_⟩;refine ⟨_,.inr hg2,.int n,rfl,?_⟩;exact ⟨n,rfl,n0,n1,q _ (y1.trans y2)⟩
   · refine cU (fun c=>absurd c (by rw [hk];decide +kernel)) (fun _=>?_);refine bK (fun c=>absurd (V.str.inj c) (by rw [hk];decide +kernel)) (fun _=>?_);refine bK (fun _=>?_) (fun c=>absurd (by rw [hk]) c);refine ⟨_,.inr hg2,?_⟩;refine ⟨_,.inr hg2,.int n,rfl,?_⟩;exact ⟨n,rfl,n0,n1,q _ (y1.trans y2)⟩
 | box a b=>
   have hg1:=y1 _ _ (show H g=some (.tup [.int a,.int b]) from hg)
   have hw':Str.ofString "box" = wd:=hw
   obtain ⟨⟨a0,a1⟩,b0,b1⟩:=hk
   refine cU (fun c=>absurd c (by rw [← hw'];decide +kernel)) (fun _=>?_)
   refine ⟨by show 3<=sizeLine;decide,fun d2 hd2=>?_⟩
   have y2:=Same.new hd2 (.tup [V.str (Str.ofString "most"),.str (Str.ofString "few"),.str (Str.ofString "off")])
   have hg2:=y2 _ _ hg1
   refine ⟨_,_,rfl,.inr (SqT.of af),rfl,rfl,?_⟩
   refine cU (fun c=>absurd c (by rw [← hw'];decide +kernel)) (fun _=>?_)
   refine bK (fun _=>?_) (fun c=>absurd (by rw [← hw']) c)
   refine ⟨_,.inr hg2,?_⟩
   refine ⟨_,.inr hg2,.int a,rfl,?_⟩
   refine ⟨a,rfl,a0,a1,?_⟩
   refine ⟨_,.inr hg2,.int b,rfl,?_⟩
   exact ⟨b,rfl,b0,b1,q _ (y1.trans y2)⟩
 | rests m rs=>
   obtain ⟨d,hg,hd⟩:=hg
   have hg1:=y1 _ _ hg
   have hw':Str.ofString "rests" = wd:=hw
   have hm:=hk.1
   refine cU (fun c=>absurd c (by rw [← hw'];decide +kernel)) (fun _=>?_)
   refine ⟨by show 3<=sizeLine;decide,fun d2 hd2=>?_⟩
   have y2:=Same.new hd2 (.tup [V.str (Str.ofString "most"),.str (Str.ofString "few"),.str (Str.ofString "off")])
   have hg2:=y2 _ _ hg1
   refine ⟨_,_,rfl,.inr (SqT.of af),rfl,rfl,?_⟩
   refine cU (fun c=>absurd c (by rw [← hw'];decide +kernel)) (fun _=>?_)
   refine bK (fun c=>absurd (V.str.inj c) (by rw [← hw'];decide +kernel)) (fun _=>?_)
   refine bK (fun c=>absurd (V.str.inj c) (by rw [← hw'];decide +kernel)) (fun _=>?_)
   refine bK (fun _=>?_) (fun c=>absurd (by rw [← hw']) c)
   refine ⟨_,.inr hg2,?_⟩
   refine ⟨_,.inr hg2,.int m,rfl,?_⟩
   refine ⟨m,rfl,hm.1,hm.2,?_⟩
   refine ⟨_,.inr hg2,.ref d,rfl,?_⟩
   refine ⟨_,.inr hg2,.int m,rfl,?_⟩
   exact ⟨d,rs,m,rfl,y2 _ _ (y1 _ _ hd),hk,q _ (y1.trans y2)⟩
theorem sc_isk:FnScope ["thing"] ["thing"] (ap (top 56)):=.(0)
def qG:Sp:=fun vs H Q _=>∃ (c:Addr) (k:Kd),vs=[.ref c]/\KdAt H c k/\k.Ok/\∀ H',Same H H'->Q (.bl true) H'
theorem KdAt.parts {H:Hp} {c:Addr} {k:Kd} (h:KdAt H c k):∃ xs,H c=some (.tup (V.str (gU k)::xs))/\∀ g H',Same H H'->H' g=some (.tup xs)->Given H' g k:=by
 cases k with
 | bare w=>exact ⟨[],h,fun g H' y e=>e⟩
 | one w n=>exact ⟨_,h,fun g H' y e=>e⟩
 | box a b=>exact ⟨_,h,fun g H' y e=>e⟩
 | rests m rs=>
   obtain ⟨d,h1,h2⟩:=h
   exact ⟨_,h1,fun g H' y e=>⟨d,e,y _ _ h2⟩⟩
theorem ok_isk (F:Fun K "is_kind" "is_kind" (top 56) f fd) (m_isinstance:mg "isinstance" = none) (m_len:mg "len" = none) (m_str:mg "str" = none) (m_tuple:mg "tuple" = none) (F_fits_word:FnA P w K mg base "fits_word" 4 ["word","given"] kW):FnOk P w K mg base CX0 5 f fd ["thing"] qG:=by
 refine F.okz sc_isk .(10) .(2)
 · obtain ⟨c,k,rfl,_⟩:=h;rfl
 obtain ⟨c,k,rfl,hc,hk,q⟩:=h;have nd:=sc_isk.nd;have hu:=hr.units;obtain ⟨xs,e,hg⟩:=hc.parts;refine ⟨_,(ae (aC (ZW.zt (ge (bI (bb (aR rfl m_isinstance (aa (zn 0) (aa (cZ rfl m_tuple) ab)) rfl rfl))) (dN (aj (av hu) .(28) ah (ao _))))) (ai (aq bR)) ak)
  (ai (aq (bq (aR rfl m_isinstance (aa .(6) (aa (kn rfl m_str) ab)) rfl rfl) (cB (au F_fits_word hr (by decide) rfl (aa .(6) (aa (bB nW (zn 0) (bF ah) cz) ab)))))))),?_⟩
 refine ⟨"tuple",(SqK.tup e).ty,rfl,?_⟩;refine cU (fun c=>absurd c (by decide)) (fun _=>?_);refine ⟨_,.inr e,?_⟩;refine ⟨_,.inr e,.str (gU k),aN (j:=0) rfl rfl,?_⟩;refine ⟨"str",rfl,rfl,?_⟩;refine cU (fun _=>?_) (fun c=>absurd c (by decide));refine ⟨_,.inr e,.str (gU k),aN (j:=0) rfl rfl,?_⟩;refine ⟨1,rfl,c,rfl,.inl ⟨_,e,fun r H2 y2 hr2=>?_⟩⟩;rw [qf] at hr2;exact ⟨r,k,rfl,hg r H2 y2 hr2,hk,fun H3 y3=>q _ (y2.trans y3)⟩
end
theorem fig_in {c:Nat} (h0:48<=c) (h1:c<=57):inT ⟨#[c]⟩ (Str.ofString "0123456789")=true:=by
 have:c=48\/c=49\/c=50\/c=51\/c=52\/c=53\/c=54\/c=55\/c=56\/c=57:=by lia
 rcases this with rfl | rfl | rfl | rfl | rfl | rfl | rfl | rfl | rfl | rfl <;> decide +kernel
theorem sd:(Str.ofString "0")=⟨#[48]⟩:=by decide +kernel
theorem one_ne {c:Nat} (h:c≠48):(⟨#[c]⟩:Str)≠Str.ofString "0":=fun z=>by
 rw [sd] at z;have:=congrArg (fun s:Str=>s.cps.toList) z;exact h (List.cons.inj this).1
theorem atN {l:List Nat} {c:Nat} (h:l[0]? = some c):atI l 0=some c:=by
 cases l with
 | nil=>cases h
 | cons x r=>
   unfold atI ixN
   rw [if_pos (zE5 _),if_pos (by show (0:Int)<((r.length+1:Nat):Int);lia)]
   exact h
section
variable {P:Program} {w:World} {K:PySem.W.Frag} {mg:Str->Option Value} {base:Heap} {f:Addr} {fd:FuncData}
theorem sc_text:FnScope ["thing"] ["thing"] (ap (top 86)):=.(0)
def gv:Sp:=fun vs H Q _=>∃ z:Str,vs=[.str z]/\z.length<=2000/\Q (.bl true) H
theorem ua (F:Fun K "is_text" "is_text" (top 86) f fd) (m_isinstance:mg "isinstance" = none) (m_len:mg "len" = none) (m_str:mg "str" = none) (g_MOST_SIGNS:cN mg "MOST_SIGNS" 2000):FnOk P w K mg base CX0 1 f fd ["thing"] gv:=by
 refine F.okz sc_text .(10) .(2)
 · obtain ⟨z,rfl,_⟩:=h;rfl
 obtain ⟨z,rfl,hz,q⟩:=h;have nd:=sc_text.nd;refine ⟨_,(ai (aq (bq (aR rfl m_isinstance (aa (zn 0) (aa (kn rfl m_str) ab)) rfl rfl) (cB (aZ hV (gh rfl m_len (aa (zn 0) ab) rfl rfl) (cC rfl g_MOST_SIGNS) (ao _)))))),?_⟩;refine ⟨"str",rfl,rfl,?_⟩;refine cU (fun _=>?_) (fun c=>absurd c (by decide));refine ⟨zH0 (Nat.lt_of_le_of_lt hz (by rw [sizeLine_eq];decide)),?_⟩;show Q (.bl (decide ((z.length:Int)<=2000))) H;rw [decide_eq_true (by lia)];exact q
theorem sc_number:FnScope ["text"] ["text"] (ap (top 87)):=.(0)
def eQ:Sp:=fun vs H Q _=>∃ n:Int,vs=[.str (nt n)]/\0<=n/\n<1000000/\∀ H',Same H H'->Q (.bl true) H'
theorem l7 (F:Fun K "is_number" "is_number" (top 87) f fd) (m_all:mg "all" = none) (m_len:mg "len" = none) (g_MOST_FIGURES:cN mg "MOST_FIGURES" 6) (g_FIGURES:StrG mg "FIGURES" "0123456789"):FnOk P w K mg base CX0 1 f fd ["text"] eQ:=by
 refine F.okz sc_number .(10) .(2)
 · obtain ⟨z,rfl,_⟩:=h;rfl
 obtain ⟨n,rfl,n0,n1,q⟩:=h;have nd:=sc_number.nd;have hu:=hr.units;have hl:=bu (show 0<=n by lia) n1;have hd:=gE (show 0<=n by lia);obtain ⟨c,hc,hc48⟩:∃ c,(nt n).cps.toList[0]? = some c/\(c≠48\/n=0):=by
  by_cases h:n=0
  · subst h;exact ⟨48,by decide +kernel,.inr rfl⟩
  · obtain ⟨c,h1,h2⟩:=jz (show 1<=n by lia);exact ⟨c,h1,.inl h2⟩
 have sl:(nt n).length<=sizeLine:=zE6 hl.2 (by rw [sizeLine_eq];decide);have hsz:(nt n).cps.size=(nt n).length:=rfl;refine ⟨_,(ae (aC (ZW.zt (ge (aj (av hu) (gh rfl m_len (aa (zn 0) ab) rfl rfl) ah (ao _)) (dN (aj cw (gh rfl m_len (aa (zn 0) ab) rfl rfl) (cC rfl g_MOST_FIGURES) (ao _))))) (ai (aq bR)) ak)
  (ae (aC (bI (bb (eI rfl rfl m_all (aa (aQ ["sign"] [] rfl .(5) (zi_str (zn 0)) aG (fun _ _ _ _=>az (i:=0) (show List.Nodup (["sign"]:List Str) by decide +kernel) rfl .(8)) (fun _ _ _ _=>aY) (fun _ _ _ _=>(aZ op_inT (zn 0) (ze_sg rfl g_FIGURES) (by with_unfolding_all rfl)))) ab) rfl rfl))) (ai (aq bR)) ak)
  (ai (aq (ze_orP (aZ (bg hu) (aD ix_T (zn 0) ah .(11)) am (ao _)) (cB (aZ (av hu) (zn 0) am (ao _)))))))),?_⟩
 refine ⟨sl,?_⟩;refine bK (fun c=>absurd (V.int.inj c) (by lia)) (fun _=>?_);refine ⟨sl,?_⟩;refine bK (fun c=>absurd c (by lia)) (fun _=>?_);refine uS (fun i zs H'=>H'=H/\zs=(List.replicate i true).map V.bl) ⟨rfl,rfl⟩ ?_ ?_
 · rintro i c zs H' hx ⟨rfl,rfl⟩;have hi:=(Array.getElem?_eq_some_iff.mp hx).1;refine ⟨by rw [zA0,zC8];exact aE (by lia),?_⟩;have hcm:c∈(nt n).cps.toList:=by
    rw [← Array.getElem?_toList] at hx;exact zD3 hx
   have:=hd c hcm;refine ⟨rfl,?_⟩;rw [fig_in this.1 this.2,jr]
 · rintro zs H' ⟨rfl,rfl⟩ D hD;refine ⟨_,SqL.of af,?_⟩;rw [lv];refine cU (fun c=>absurd c (by decide)) (fun _=>?_);refine ⟨c,sl,atN hc,?_⟩;refine cU (fun _=>?_) (fun e=>?_)
   · exact q _ (Same.new hD _)
   · have e1:decide (V.str ⟨#[c]⟩=V.str (Str.ofString "0"))=true:=by simpa using e
     rcases hc48 with hc48 | rfl
     · exact absurd (V.str.inj (of_decide_eq_true e1)) (one_ne hc48)
     · show Q (.bl (decide (V.str (nt 0)=V.str (Str.ofString "0")))) _;rw [uk,decide_eq_true rfl];exact q _ (Same.new hD _)
theorem sc_read:FnScope ["words"] ["words"] (ap (top 88)):=.(0)
def iL:Sp:=fun vs H Q _=>∃ (a:Addr) (ns:List Int),vs=[.ref a]/\H a=some (.lst ((ns.map nt).map V.str))/\ns.length<=1000/\Nm ns/\∀ r H',Same H H'->H' r=some (.tup (ns.map V.int))->Q (.ref r) H'
theorem ud (F:Fun K "numbers_read" "numbers_read" (top 88) f fd) (m_all:mg "all" = none) (m_int:mg "int" = none) (m_tuple:mg "tuple" = none) (F_is_number:FnA P w K mg base "is_number" 1 ["text"] eQ):FnOk P w K mg base CX0 2 f fd ["words"] iL:=by
 refine F.okz sc_read .(10) .(2)
 · obtain ⟨a,ns,rfl,_⟩:=h;rfl
 obtain ⟨a,ns,rfl,ha,hl,hn,q⟩:=h;have nd:=sc_read.nd;have hu:=hr.units;have hat:∀ {i:Nat} {x:V},((ns.map nt).map V.str)[i]? = some x->∃ hi:i<ns.length,x=.str (nt ns[i]):=fun {i x} hx=>by
  have hi:i<ns.length:=by
   have:=(List.getElem?_eq_some_iff.mp hx).1;rw [zA0,zA0] at this;exact this
  refine ⟨hi,?_⟩;rw [List.getElem?_map,List.getElem?_map,List.getElem?_eq_getElem hi] at hx;exact (Option.some.inj hx).symm
 refine ⟨_,(ae (aC (bI (bb (eI rfl rfl m_all (aa (aQ ["word"] [] rfl .(5) (bG (zn 0)) aG (fun _ _ _ _=>az (i:=0) (show List.Nodup (["word"]:List Str) by decide +kernel) rfl .(8)) (fun _ _ _ _=>aY) (fun _ _ _ _=>(au F_is_number hr (by decide) rfl (aa (zn 0) ab)))) ab) rfl rfl))) (ai dW) ak)
  (ai (aq (bD rfl m_tuple (aa (aQ ["word"] [] rfl .(5) (bG (zn 0)) aG (fun _ _ _ _=>az (i:=0) (show List.Nodup (["word"]:List Str) by decide +kernel) rfl .(8)) (fun _ _ _ _=>aY) (fun _ _ _ _=>(gi rfl m_int (aa (zn 0) ab) rfl rfl))) ab) rfl rfl)))),?_⟩
 refine ⟨a,rfl,⟨_,SqL.of ha⟩,bW (xs:=(ns.map nt).map V.str) (fun i zs H'=>Same H H'/\zs=(List.replicate i true).map V.bl) ⟨Same.refl _,rfl⟩ ?_ ?_ ?_⟩
 · rintro i zs H' _ ⟨y,_⟩;exact SqL.of (y _ _ ha)
 · rintro i x zs H' hx ⟨y,rfl⟩;obtain ⟨hi,rfl⟩:=hat hx;have:=hn _ (zB4 hi);refine ⟨by rw [zA0,zC8];exact aE (by lia),?_⟩;exact ⟨_,rfl,this.1,this.2,fun H2 y2=>⟨y.trans y2,jr i⟩⟩
 · rintro zs H' ⟨y,rfl⟩ D hD;refine ⟨_,SqL.of af,?_⟩;rw [lv];refine cU (fun c=>absurd c (by decide)) (fun _=>?_);have yD:=y.trans (Same.new hD (.lst ((List.replicate ((ns.map nt).map V.str).length true).map V.bl)));generalize upd H' D (.lst ((List.replicate ((ns.map nt).map V.str).length true).map V.bl))=H1 at yD;refine ⟨a,rfl,⟨_,SqL.of (yD _ _ ha)⟩,bW (xs:=(ns.map nt).map V.str) (fun i zs H'=>H'=H1/\zs=(ns.take i).map V.int) ⟨rfl,by rw [zE4];rfl⟩ ?_ ?_ ?_⟩
   · rintro i zs H' _ ⟨rfl,_⟩;exact SqL.of (yD _ _ ha)
   · rintro i x zs H' hx ⟨rfl,rfl⟩;obtain ⟨hi,rfl⟩:=hat hx;have hh:=hn _ (zB4 hi);refine ⟨by rw [zA0,zB3];exact aE (by lia),?_⟩;have hl6:=bu (show 0<=ns[i] by lia) hh.2;refine ⟨_,gC (by lia) hh.2,by lia,?_⟩;refine ⟨rfl,?_⟩;rw [zC3,List.getElem?_eq_getElem hi,zA7];rfl
   · rintro zs H' ⟨rfl,rfl⟩ D2 hD2;rw [zA0,zA0,zA6 (zA1 _)];refine ⟨_,.inl (SqL.of af),fun r H2 y2 hr2=>?_⟩;exact q r H2 ((yD.trans (Same.new hD2 _)).trans y2) hr2
theorem sc_kow:FnScope ["words"] ["words"] (ap (top 90)):=.(0)
def qF:Sp:=fun vs H Q _=>∃ (a:Addr) (k:Kd),vs=[.ref a]/\H a=some (.lst (k.words.map V.str))/\k.Ok/\∀ c H',Same H H'->KdAt H' c k->Q (.ref c) H'
theorem ok_kow (F:Fun K "kind_of_words" "kind_of_words" (top 90) f fd) (m_len:mg "len" = none) (F_numbers_read:FnA P w K mg base "numbers_read" 2 ["words"] iL):FnOk P w K mg base CX0 3 f fd ["words"] qF:=by
 refine F.okz sc_kow .(10) .(2)
 · obtain ⟨a,k,rfl,_⟩:=h;rfl
 obtain ⟨a,k,rfl,ha,hk,q⟩:=h;have nd:=sc_kow.nd;have hu:=hr.units;refine ⟨_,(ae (aC (ZW.zt (eE (aj (av hu) .(28) ah (ao _)) (dB (aj (av hu) .(6) am (ao _))))) (ai (aq (aA aB (aA aB (aK (aa am ab)) (au F_numbers_read hr (by decide) rfl (aa (bB nW (zn 0) (bF ah) (bF ah)) ab))) (aK (aa (au F_numbers_read hr (by decide) rfl (aa (dZ .(6) (aa am ab)) ab)) ab))))) ak)
  (ai (aq (aA aB (aK (aa .(6) ab)) (au F_numbers_read hr (by decide) rfl (aa (bB nW (zn 0) (bF ah) cz) ab)))))),?_⟩
 refine ⟨_,.inl (SqL.of ha),?_⟩
 cases k with
 | bare w=>
   refine ⟨_,.inl (SqL.of ha),.str w,rfl,?_⟩
   refine ⟨by show 1<=sizeLine;decide,fun d1 hd1=>?_⟩
   have y1:=Same.new hd1 (.tup [V.str w])
   refine ⟨1,rfl,a,rfl,.inr ⟨_,SqL.of (y1 _ _ ha),fun p hp=>?_⟩⟩
   have y2:=Same.new hp (.lst ((([]:List Int).map nt).map V.str))
   refine ⟨p,[],rfl,af,by show 0<=1000;decide,(fun n hn=>(nomatch hn)),fun r H3 y3 hr3=>?_⟩
   refine .inr ⟨_,_,y3 _ _ (y2 _ _ af),hr3,by show 1<=sizeLine;decide,fun r4 H4 y4 hr4=>?_⟩
   exact q r4 H4 (((y1.trans y2).trans y3).trans y4) hr4
 | one w n=>
   have hn:Nm [n]:=fun z hz=>by
    have:z=n:=by simpa using hz
    rcases hk with ⟨_,h1,h2⟩ | ⟨_,h1,h2⟩ <;> lia
   refine ⟨_,.inl (SqL.of ha),.str w,rfl,?_⟩
   refine ⟨by show 1<=sizeLine;decide,fun d1 hd1=>?_⟩
   have y1:=Same.new hd1 (.tup [V.str w])
   refine ⟨1,rfl,a,rfl,.inr ⟨_,SqL.of (y1 _ _ ha),fun p hp=>?_⟩⟩
   have y2:=Same.new hp (.lst ((([n]:List Int).map nt).map V.str))
   refine ⟨p,[n],rfl,af,by show 1<=1000;decide,hn,fun r H3 y3 hr3=>?_⟩
   refine .inr ⟨_,_,y3 _ _ (y2 _ _ af),hr3,by show 2<=sizeLine;decide,fun r4 H4 y4 hr4=>?_⟩
   exact q r4 H4 (((y1.trans y2).trans y3).trans y4) hr4
 | box b c=>
   have hn:Nm [b,c]:=fun z hz=>by
    obtain ⟨⟨h1,h2⟩,h3,h4⟩:=hk;have:z=b\/z=c:=by simpa using hz
    lia
   refine ⟨_,.inl (SqL.of ha),.str (Str.ofString "box"),rfl,?_⟩
   refine ⟨_,.inl (SqL.of ha),.str (Str.ofString "box"),rfl,?_⟩
   refine ⟨by show 1<=sizeLine;decide,fun d1 hd1=>?_⟩
   have y1:=Same.new hd1 (.tup [V.str (Str.ofString "box")])
   refine ⟨1,rfl,a,rfl,.inr ⟨_,SqL.of (y1 _ _ ha),fun p hp=>?_⟩⟩
   have y2:=Same.new hp (.lst ((([b,c]:List Int).map nt).map V.str))
   refine ⟨p,[b,c],rfl,af,by show 2<=1000;decide,hn,fun r H3 y3 hr3=>?_⟩
   refine .inr ⟨_,_,y3 _ _ (y2 _ _ af),hr3,by show 3<=sizeLine;decide,fun r4 H4 y4 hr4=>?_⟩
   exact q r4 H4 (((y1.trans y2).trans y3).trans y4) hr4
 | rests m rs=>
   obtain ⟨rn,rl,m0,m1⟩:=rs_nm hk
   have hn:Nm [m]:=fun z hz=>by
    have:z=m:=by simpa using hz
    lia
   refine ⟨_,.inl (SqL.of ha),.str (Str.ofString "rests"),rfl,?_⟩
   refine ⟨by show 1<=sizeLine;decide,fun d1 hd1=>?_⟩
   have y1:=Same.new hd1 (.tup [V.str (Str.ofString "rests")])
   refine ⟨1,rfl,2,rfl,a,rfl,.inr ⟨_,SqL.of (y1 _ _ ha),fun p hp=>?_⟩⟩
   have y2:=Same.new hp (.lst (([m].map nt).map V.str))
   refine ⟨p,[m],rfl,af,by show 1<=1000;decide,hn,fun r H3 y3 hr3=>?_⟩
   refine .inr ⟨_,_,y3 _ _ (y2 _ _ af),hr3,by show 2<=sizeLine;decide,fun r4 H4 y4 hr4=>?_⟩
   have z4:=((y1.trans y2).trans y3).trans y4
   refine ⟨_,.inl (SqL.of (z4 _ _ ha)),.str (Txt.join (Str.ofString ",") (rs.map nt)),rfl,?_⟩
   have l4:=qO rn
   refine ⟨rfl,by lia,by decide +kernel,fun d5 hd5=>?_⟩
   rw [oH hk.2.1 fun r hr'=>(rn r hr').1]
   have y5:=Same.new hd5 (.lst ((rs.map nt).map V.str))
   refine ⟨d5,rs,rfl,af,by lia,rn,fun r6 H6 y6 hr6=>?_⟩
   refine ⟨by show 1<=sizeLine;decide,fun d7 hd7=>?_⟩
   have y7:=Same.new hd7 (.tup [V.ref r6])
   have z7:=(y5.trans y6).trans y7
   refine .inr ⟨_,_,z7 _ _ hr4,af,by show 3<=sizeLine;decide,fun r8 H8 y8 hr8=>?_⟩
   exact q r8 H8 ((z4.trans z7).trans y8) ⟨r6,hr8,y8 _ _ (y7 _ _ hr6)⟩
theorem sc_rk:FnScope ["thing","kind"] ["thing"] (ap (top 91)):=.(0)
def sp_rk:Sp:=fun vs H Q _=>∃ k:Kd,vs=[.str k.text]/\k.Ok/\∀ c H',Same H H'->KdAt H' c k->Q (.ref c) H'
theorem ok_rk (F:Fun K "read_kind" "read_kind" (top 91) f fd)  (F_is_text:FnA P w K mg base "is_text" 1 ["thing"] gv) (F_kind_of_words:FnA P w K mg base "kind_of_words" 3 ["words"] qF) (F_is_kind:FnA P w K mg base "is_kind" 5 ["thing"] qG):FnOk P w K mg base CX0 6 f fd ["thing"] sp_rk:=by
 refine F.okz sc_rk .(10) .(2)
 · obtain ⟨k,rfl,_⟩:=h;rfl
 obtain ⟨k,rfl,hk,q⟩:=h;have nd:=sc_rk.nd;have hu:=hr.units;have tl:=gp hk;refine ⟨_,(ae (aC (bI (bb (au F_is_text hr (by decide) rfl (aa (zn 0) ab)))) (ai dW) ak)
  (ae (ay (i:=1) nd rfl .(8) (au F_kind_of_words hr (by decide) rfl (aa (dZ (zn 0) (aa am ab)) ab)))
  (ae (aC (bI (bb (au F_is_kind hr (by decide) rfl .(29)))) (ai dW) ak)
  (ai (aq (zn 1)))))),?_⟩
 refine ⟨_,rfl,by lia,?_⟩;refine ⟨rfl,by lia,by decide +kernel,fun d hd=>?_⟩;rw [jU hk];have yd:=Same.new hd (.lst (k.words.map V.str));refine ⟨d,k,rfl,af,hk,fun c H2 y2 hc=>?_⟩;refine ⟨c,k,rfl,hc,hk,fun H3 y3=>?_⟩;exact q c H3 ((yd.trans y2).trans y3) (hc.same y3)
end
end K73
namespace K73
open PySem L2 M67
theorem gz:(Str.ofString "+")=⟨#[43]⟩:=by decide +kernel
def Num (ns:List Int):Prop:=∀ n∈ns,(1:Int)<=n/\n<1000000
def shw (ns:List Int):Str:=if ns=[] then Str.ofString "-" else Txt.join (Str.ofString "+") (ns.map nt)
theorem nts_sum {ns:List Int} {k:Nat} (h:∀ n∈ns,(nt n).length<=k):((ns.map nt).map (·.length)).sum<=ns.length*k:=by
 induction ns with
 | nil=>simp
 | cons x r ih=>
   have:=ih fun n hn=>h n (zA5 _ hn)
   have:=h x zA3
   simp only [zC5,zE0,zB5]
   rw [Nat.add_mul,Nat.one_mul]
   lia
theorem t9 (x:Nat):(⟨#[x]⟩:Str).length=1:=rfl
theorem app_len (a b:Str):(a++b).length=a.length+b.length:=by
 show (a.cps++b.cps).size=_;rw [Array.size_append];rfl
theorem join_len (c:Nat):∀ ys:List Str,(Str.join ⟨#[c]⟩ ys).length<=(ys.map (·.length)).sum+ys.length
 | []=>zB0 _
 | [x]=>by show x.length<=_;simp
 | x::y::r=>by
   have:=join_len c (y::r);show ((x++⟨#[c]⟩++Str.join ⟨#[c]⟩ (y::r):Str)).length<=_;rw [app_len,app_len,t9];simp only [zC5,zE0,zB5] at this ⊢;lia
theorem sL {ns:List Int} {k:Nat} (h:∀ n∈ns,(nt n).length<=k):(shw ns).length<=ns.length*(k+1)+1:=by
 unfold shw;split
 · show (Str.ofString "-").length<=_;have:(Str.ofString "-").length=1:=by decide +kernel
   lia
 · rw [gz,show Txt.join ⟨#[43]⟩ (ns.map nt)=Str.join ⟨#[43]⟩ (ns.map nt) from StrLaws.glued_eq_join _ _];have h1:=join_len 43 (ns.map nt);have h2:=nts_sum h;rw [zA0] at h1;rw [Nat.mul_add,Nat.mul_one];lia
theorem lj {ns:List Int} (hn:ns≠[]) (h:Num ns):Txt.split (shw ns) (Str.ofString "+")=ns.map nt:=by
 unfold shw;rw [if_neg hn,gz];refine cI (by simpa using hn) fun y hy=>?_;obtain ⟨n,hn',rfl⟩:=zD2.mp hy;exact bM (by have:=(h n hn').1;lia) (by decide)
theorem oE {ns:List Int} (hn:ns≠[]) (h:Num ns):shw ns≠Str.ofString "-":=fun z=>by
 unfold shw at z;rw [if_neg hn,gz,show Txt.join ⟨#[43]⟩ (ns.map nt)=Str.join ⟨#[43]⟩ (ns.map nt) from StrLaws.glued_eq_join _ _] at z;have e:=congrArg (fun s:Str=>s.cps.toList) z;rw [M67.join_list 43] at e;have e2:(Str.ofString "-").cps.toList=[45]:=by decide +kernel
 rw [e2] at e
 cases ns with
 | nil=>exact hn rfl
 | cons n r=>
   have hh:=h n zA3
   have hl:=bu (show 0<=n by lia) hh.2
   obtain ⟨c,hc,_⟩:=jz hh.1
   have hd:=gE (show 0<=n by lia) c (zD3 hc)
   have:(jl 43 ((nt n::r.map nt).map fun y=>y.cps.toList))[0]? = some c:=by
    cases r with
    | nil=>exact hc
    | cons m r'=>
      show ((nt n).cps.toList++43::_)[0]? = some c
      rw [List.getElem?_append_left (by rw [zB6];exact hl.1)]
      exact hc
   rw [show (jl 43 ((nt n::r.map nt).map fun y=>y.cps.toList))=[45] from e] at this
   have:=Option.some.inj this
   lia
section
variable {P:Program} {w:World} {K:PySem.W.Frag} {mg:Str->Option Value} {base:Heap} {f:Addr} {fd:FuncData}
def qC:Sp:=fun vs H Q _=>∃ (a:Addr) (ns:List Int),vs=[.ref a]/\H a=some (.tup (ns.map V.int))/\ns.length<=1000/\Num ns/\∀ H',Same H H'->Q (.str (shw ns)) H'
theorem uD {ns:List Int} (hl:ns.length<=1000) (h:Num ns):((ns.map nt).map (·.length)).sum+(ns.map nt).length*(Str.ofString "+").length<=16777216:=by
 have h2:=nts_sum (ns:=ns) (k:=6) fun n hn=>(bu (by have:=(h n hn).1;lia) (h n hn).2).2;have h3:(Str.ofString "+").length=1:=by decide +kernel
 rw [h3,zA0];lia
theorem sc_ltext:FnScope ["_law_parting_here"] ["_law_parting_here"] (ap (top 163)):=.(0)
theorem qc (ds:List PyData):PyData.eqv (.tuple ds) (.tuple [])=ds.isEmpty:=by cases ds <;> simp [PyData.eqv,PyData.eqvAll]
theorem pL (F:Fun K "_law_text" "_law_text" (top 163) f fd) (m_str:mg "str" = none):FnOk P w K mg base CX0 1 f fd ["_law_parting_here"] qC:=by
 refine F.okz sc_ltext .(10) .(2)
 · obtain ⟨a,ns,rfl,_⟩:=h;rfl
 obtain ⟨a,ns,rfl,ha,hl,hn,q⟩:=h;have nd:=sc_ltext.nd;have hu:=hr.units;refine ⟨_,(ai (aq (aW (aj (bg hu) (zn 0) (aK ab) (ao _)) (bm am (aa (aQ ["_law_part"] [] rfl .(5) (bJ (zn 0)) aG (fun _ _ _ _=>az (i:=0) (show List.Nodup (["_law_part"]:List Str) by decide +kernel) rfl .(8)) (fun _ _ _ _=>aY) (fun _ _ _ _=>(aF rfl m_str (aa (zn 0) ab) rfl rfl))) ab)) am))),?_⟩;refine ⟨zB0 _,fun d hd=>?_⟩;have y1:=Same.new hd (.tup []);have ha1:=y1 _ _ ha;refine ⟨_,_,.ints ha1,.ints (ns:=[]) af,aJ _,aJ [],?_⟩;generalize upd H d (.tup [])=H1 at y1 ha1;show if (!PyData.eqv (.tuple (ns.map PyData.int)) (.tuple []))=true then _ else _
 rw [qc]
 cases ns with
 | nil=>exact q H1 y1
 | cons n0 r0=>
   refine iteT ?_
   refine ⟨rfl,?_⟩
   refine ⟨a,rfl,⟨_,SqT.of ha1⟩,bQ (xs:=(n0::r0).map V.int) (fun j ys H'=>H'=H1/\ys=(((n0::r0).take j).map nt).map V.str) ⟨rfl,by rw [zE4];rfl⟩ ?_ ?_ ?_⟩
   · rintro j ys H' _ ⟨rfl,_⟩;exact SqT.of ha1
   · rintro j x ys H' hx ⟨rfl,rfl⟩;have hj:j<(n0::r0).length:=by
      have:=(List.getElem?_eq_some_iff.mp hx).1;rw [zA0] at this;exact this
     have ex:x=.int (n0::r0)[j]:=by rw [iF hj] at hx;exact (Option.some.inj hx).symm
     subst ex;have hj1:=hn _ (zB4 hj);sleep 2;refine ⟨be (by lia) hj1.2,?_⟩;refine ⟨rfl,?_⟩;rw [zC3,List.getElem?_eq_getElem hj,zA7,zA7];rfl
   · rintro ys H' ⟨rfl,rfl⟩ D hD;rw [zA0,zA6 (zA1 _)];refine ⟨_,SqL.of af,uD hl hn,?_⟩;have:=q _ (y1.trans (Same.new hD (.lst (((n0::r0).map nt).map V.str))));unfold shw at this;rw [if_neg (zE2 _ _)] at this;exact this
theorem sc_is:FnScope ["thing","part","at"] ["thing"] (ap (top 44)):=.(0)
def sp_is:Sp:=fun vs H Q _=>∃ (a:Addr) (ns:List Int),vs=[.ref a]/\H a=some (.tup (ns.map V.int))/\ns.length<=100000/\Prt ns/\Q (.bl true) H
theorem ok_is (F:Fun K "is_parting" "is_parting" (top 44) f fd) (m_isinstance:mg "isinstance" = none) (m_len:mg "len" = none) (m_range:mg "range" = none) (m_tuple:mg "tuple" = none) (F_is_whole:FnA P w K mg base "is_whole" 1 ["thing"] gu):FnOk P w K mg base CX0 2 f fd ["thing"] sp_is:=by
 refine F.okz sc_is .(10) .(2)
 · obtain ⟨a,ns,rfl,_⟩:=h;rfl
 obtain ⟨a,ns,rfl,ha,hl,⟨h1,hw⟩,q⟩:=h;have nd:=sc_is.nd;have hu:=hr.units;refine ⟨_,(ae (aC (bI (bb (aR rfl m_isinstance (aa (zn 0) (aa (cZ rfl m_tuple) ab)) rfl rfl))) (ai (aq bR)) ak)
  (ae (bi PassesOwn.never rfl (bJ (zn 0)) (az (i:=1) nd rfl .(8)) (ai (aC (ZW.zt (ge (bI (bb (au F_is_whole hr (by decide) rfl .(29)))) (dN (aj fW (zn 1) ah (ao _))))) (ai (aq bR)) ak)))
  (ae (bi PassesOwn.never rfl (bj rfl m_range (aa ah (aa .(28) ab))) (az (i:=2) nd rfl .(8)) (ai (aC (aj fW (aD aS (zn 0) (aA aP (zn 2) ah) .(11)) (aD aS (zn 0) (zn 2) .(11)) (ao _)) (ai (aq bR)) ak)))
  (ai (aq bR))))),?_⟩
 refine ⟨"tuple",(SqK.tup ha).ty,rfl,?_⟩;refine cU (fun c=>absurd c (by decide)) (fun _=>?_);refine ⟨a,rfl,⟨_,SqT.of ha⟩,gK (xs:=ns.map V.int) (fun i σ H'=>H=H'/\∃ p1,σ=[some (.ref a),p1,none]) ⟨rfl,none,rfl⟩ ?_ ?_ ?_⟩
 · rintro i σ H' _ ⟨rfl,_⟩;exact SqT.of ha
 · rintro i x σ H' hx ⟨rfl,p1,rfl⟩;have hi:i<ns.length:=by
    have:=(List.getElem?_eq_some_iff.mp hx).1;rw [zA0] at this;exact this
   have ex:x=.int ns[i]:=by rw [iF hi] at hx;exact (Option.some.inj hx).symm
   subst ex;have hni:=h1 _ (zB4 hi);refine ⟨_,rfl,?_⟩;refine bK (fun c=>absurd c (by lia)) (fun _=>?_);exact ⟨rfl,_,rfl⟩
 · rintro σ H' ⟨rfl,p1,rfl⟩;refine ⟨_,.inr ha,?_⟩;rw [zA0];refine ⟨1,ns.length,rfl,⟨by decide,by decide,by lia,by lia⟩,bE (fun i σ H'=>H=H'/\∃ p2,σ=[some (.ref a),p1,p2]) ⟨rfl,none,rfl⟩ ?_ ?_⟩
   · rintro i σ H' hi ⟨rfl,p2,rfl⟩;have hi1:i+1<ns.length:=by lia
     refine ⟨_,.inr ha,.int ns[i],aN (j:=i) (by lia) (iF (by lia)),?_⟩;refine ⟨_,.inr ha,.int ns[i+1],aN (j:=i+1) (by lia) (iF hi1),?_⟩;have:=zE1.mp hw i (i+1) (by lia) hi1 (by lia);refine bK (fun c=>?_) (fun _=>⟨rfl,_,rfl⟩);exact absurd c (by have:ns[i+1]<=ns[i]:=this;lia)
   · rintro σ H' ⟨rfl,p2,rfl⟩;exact q
theorem sc_rp:FnScope ["thing","parting"] ["thing"] (ap (top 89)):=.(0)
def sp_rp:Sp:=fun vs H Q _=>∃ (ns:List Int),vs=[.str (shw ns)]/\(shw ns).length<=2000/\ns.length<=1000/\Num ns/\ns.Pairwise (·>=·)/\∀ r H',Same H H'->H' r=some (.tup (ns.map V.int))->Q (.ref r) H'
theorem ok_rp (F:Fun K "read_parting" "read_parting" (top 89) f fd)  (F_is_parting:FnA P w K mg base "is_parting" 2 ["thing"] sp_is) (F_is_text:FnA P w K mg base "is_text" 1 ["thing"] gv) (F_numbers_read:FnA P w K mg base "numbers_read" 2 ["words"] iL):FnOk P w K mg base CX0 3 f fd ["thing"] sp_rp:=by
 refine F.okz sc_rp .(10) .(2)
 · obtain ⟨ns,rfl,_⟩:=h;rfl
 obtain ⟨ns,rfl,hz,hl,hn,hw,q⟩:=h;have nd:=sc_rp.nd;have hu:=hr.units;refine ⟨_,(ae (aC (bI (bb (au F_is_text hr (by decide) rfl (aa (zn 0) ab)))) (ai dW) ak)
  (ae (aC (aj (av hu) (zn 0) am (ao _)) (ai (aq (aK ab))) ak)
  (ae (ay (i:=1) nd rfl .(8) (au F_numbers_read hr (by decide) rfl (aa (dZ (zn 0) (aa am ab)) ab)))
  (ae (aC (bI (bb (au F_is_parting hr (by decide) rfl .(29)))) (ai dW) ak)
  (ai (aq (zn 1))))))),?_⟩
 refine ⟨_,rfl,hz,?_⟩;by_cases h0:ns=[]
 · subst h0;exact ⟨zB0 _,fun d hd=>q d _ (Same.new hd _) af⟩
 · refine bK (fun c=>absurd (V.str.inj c) (oE h0 hn)) (fun _=>?_);refine ⟨rfl,by lia,by decide +kernel,fun d hd=>?_⟩;rw [lj h0 hn];have yd:=Same.new hd (.lst ((ns.map nt).map V.str));refine ⟨d,ns,rfl,af,hl,(fun n h=>by have:=hn n h;lia),fun r H2 y2 hr2=>?_⟩;refine ⟨r,ns,rfl,hr2,by lia,⟨fun n hn'=>(hn n hn').1,hw⟩,?_⟩;exact q r H2 (yd.trans y2) hr2
end
end K73
namespace M90
open MRow
def ev (f:Nat->Int) (x:Int):Nat->Int
 | 0=>0
 | n+1=>ev f x n+f n*x ^ n
def Cg (M a b:Int):Prop:=∃ q,a=b+M*q
theorem Cg.refl (M a:Int):Cg M a a:=⟨0,by rw [Int.mul_zero,Int.add_zero]⟩
theorem Cg.trans {M a b c:Int} (h:Cg M a b) (k:Cg M b c):Cg M a c:=by
 obtain ⟨q,rfl⟩:=h;obtain ⟨r,rfl⟩:=k;exact ⟨r+q,by rw [Int.mul_add];lia⟩
theorem Cg.symm {M a b:Int} (h:Cg M a b):Cg M b a:=by
 obtain ⟨q,rfl⟩:=h;exact ⟨-q,by rw [Int.mul_neg];lia⟩
theorem Cg.mul {M a b:Int} (h:Cg M a b) (c:Int):Cg M (a*c) (b*c):=by
 obtain ⟨q,rfl⟩:=h;exact ⟨q*c,by rw [Int.add_mul,Int.mul_assoc]⟩
theorem Cg.far {x:Int} {N e:Nat} (h:N<=e) (c:Int):Cg (x ^ N) (c*(1 - x ^ e)) c:=by
 refine ⟨-(c*x ^ (e - N)),?_⟩;have:x ^ e=x ^ N*x ^ (e - N):=by rw [← Int.pow_add,show N+(e - N)=e by lia]
 rw [this];grind
theorem rj (f:Nat->Int) {s:Nat} (hs:0<s) (x:Int):∀ N,ev (put f s) x N=ev f x N+x ^ s*ev (put f s) x (N - s)
 | 0=>by
   rw [Nat.zero_sub];show (0:Int)=0+x ^ s*0;lia
 | N+1=>by
   show ev (put f s) x N+put f s N*x ^ N=ev f x N+f N*x ^ N+x ^ s*ev (put f s) x (N+1 - s);rw [rj f hs x N,cv f hs N];by_cases h:s<=N
   · have e:x ^ N=x ^ s*x ^ (N - s):=by rw [← Int.pow_add,show s+(N - s)=N by lia]
     rw [if_pos h,show N+1 - s=N - s+1 by lia];show _=ev f x N+f N*x ^ N+x ^ s*(ev (put f s) x (N - s)+put f s (N - s)*x ^ (N - s));rw [e];grind
   · rw [if_neg h,show N+1 - s=0 by lia,show N - s=0 by lia];grind
theorem iX (f:Nat->Int) (x:Int) (n:Nat):∀ d,∃ q,ev f x (n+d)=ev f x n+x ^ n*q
 | 0=>⟨0,by rw [Int.mul_zero,Int.add_zero];rfl⟩
 | d+1=>by
   obtain ⟨q,h⟩:=iX f x n d;refine ⟨q+f (n+d)*x ^ d,?_⟩;show ev f x (n+d)+f (n+d)*x ^ (n+d)=_;rw [h,Int.pow_add];grind
theorem ev_cut (f:Nat->Int) {s N:Nat} (hs:0<s) (hN:s<=N) (x:Int):Cg (x ^ N) (ev (put f s) x N*(1 - x ^ s)) (ev f x N):=by
 obtain ⟨q,h⟩:=iX (put f s) x (N - s) s;rw [show N - s+s=N by lia] at h;have e:=rj f hs x N;have p:x ^ N=x ^ s*x ^ (N - s):=by rw [← Int.pow_add,show s+(N - s)=N by lia]
 refine ⟨-q,?_⟩;rw [p];grind
def gq (B N M:Nat):Nat->Nat->Nat->Nat
 | 0,_,h=>h
 | i+1,e,h=>if N<=e then h else if (h+h*2 ^ (B*e)) % M=0 then 0 else gq B N M i (2*e) ((h+h*2 ^ (B*e)) % M)
def pr (x:Int) (N:Nat):Nat->Nat->Int
 | 0,_=>1
 | i+1,e=>if N<=e then 1 else (1+x ^ e)*pr x N i (2*e)
theorem kx (B N M:Nat):∀ i e,gq B N M i e 0=0
 | 0,_=>rfl
 | i+1,e=>by
   unfold gq;split
   · rfl
   · rw [if_pos (by rw [Nat.zero_mul,Nat.zero_mod])]
theorem sC (B N M i e h:Nat) (c:¬ N<=e):gq B N M (i+1) e h=gq B N M i (2*e) ((h+h*2 ^ (B*e)) % M):=by
 rw [gq,if_neg c];split
 · rename_i z
   rw [z,kx]
 · rfl
theorem kQ (B N:Nat):∀ i e h,Cg (((2:Int) ^ B) ^ N) (gq B N (2 ^ (B*N)) i e h:Nat) (h*pr ((2:Int) ^ B) N i e)
 | 0,e,h=>by
   show Cg _ (h:Int) (h*1);rw [Int.mul_one];exact .refl _ _
 | i+1,e,h=>by
   by_cases c:N<=e
   · rw [gq,if_pos c,pr,if_pos c,Int.mul_one];exact .refl _ _
   · rw [sC _ _ _ _ _ _ c,pr,if_neg c];refine (kQ B N i (2*e) _).trans ?_;have k:Cg (((2:Int) ^ B) ^ N) (((h+h*2 ^ (B*e)) % 2 ^ (B*N):Nat):Int) (h*(1+((2:Int) ^ B) ^ e)):=by
      refine ⟨-(((h+h*2 ^ (B*e)) / 2 ^ (B*N):Nat):Int),?_⟩;have d:((((h+h*2 ^ (B*e)) % 2 ^ (B*N):Nat)):Int)+((2 ^ (B*N):Nat):Int)*(((h+h*2 ^ (B*e)) / 2 ^ (B*N):Nat):Int)=((h+h*2 ^ (B*e):Nat):Int):=by
       rw [← zF5,← zE3,Nat.mod_add_div]
      rw [← Int.pow_mul,← Int.pow_mul];have p1:((2 ^ (B*N):Nat):Int)=(2:Int) ^ (B*N):=by rw [Int.natCast_pow];rfl
      have p2:((h+h*2 ^ (B*e):Nat):Int)=(h:Int)+h*(2:Int) ^ (B*e):=by rw [zE3,zF5,Int.natCast_pow];rfl
      rw [p1,p2] at d;rw [Int.mul_neg,Int.mul_add,Int.mul_one];lia
     have:=k.mul (pr ((2:Int) ^ B) N i (2*e));rw [Int.mul_assoc] at this;exact this
theorem qR (x:Int) (N:Nat):∀ i e,N<=e*2 ^ i->Cg (x ^ N) ((1 - x ^ e)*pr x N i e) 1
 | 0,e,h=>by
   have:=Cg.far (x:=x) (N:=N) (e:=e) (by simpa using h) 1;rw [Int.one_mul] at this;show Cg _ ((1 - x ^ e)*1) 1;rw [Int.mul_one];exact this
 | i+1,e,h=>by
   rw [pr];split
   · rename_i c
     have:=Cg.far (x:=x) (N:=N) (e:=e) c 1;rw [Int.one_mul] at this;rw [Int.mul_one];exact this
   · have:=qR x N i (2*e) (by rw [Nat.pow_succ] at h;rw [Nat.mul_comm 2 e,Nat.mul_assoc,Nat.mul_comm 2];exact h);have e2:x ^ (2*e)=x ^ e*x ^ e:=by rw [← Int.pow_add,show 2*e=e+e by lia]
     rw [e2] at this;have:(1 - x ^ e)*((1+x ^ e)*pr x N i (2*e))=(1 - x ^ e*x ^ e)*pr x N i (2*e):=by grind
     rw [this];assumption
theorem ev_dl (x:Int):∀ N,ev dl x (N+1)=1
 | 0=>by
   show (0:Int)+dl 0*x ^ 0=1;rw [Int.pow_zero];rfl
 | N+1=>by
   show ev dl x (N+1)+dl (N+1)*x ^ (N+1)=1;rw [ev_dl x N];show 1+(if N+1=0 then (1:Int) else 0)*_=1;rw [if_neg (by lia),Int.zero_mul,Int.add_zero]
def run (B N:Nat):Nat->Nat
 | 0=>1
 | k+1=>gq B N (2 ^ (B*N)) 10 (k+1) (run B N k)
theorem qM (B N:Nat) (hN:N<=1000):∀ k,k<N->Cg (((2:Int) ^ B) ^ N) (run B N k:Nat) (ev (R k) ((2:Int) ^ B) N)
 | 0,h=>by
   obtain ⟨m,rfl⟩:∃ m,N=m+1:=⟨N - 1,by lia⟩
   show Cg _ ((1:Nat):Int) (ev dl _ (m+1));rw [ev_dl];exact .refl _ _
 | k+1,h=>by
   have ih:=qM B N hN k (by lia);have a:=ev_cut (R k) (s:=k+1) (N:=N) (by lia) (by lia) ((2:Int) ^ B);have t:=qR ((2:Int) ^ B) N 10 (k+1) (by lia);have s:=kQ B N 10 (k+1) (run B N k);refine s.trans ((ih.mul _).trans ?_);have a2:=(a.mul (pr ((2:Int) ^ B) N 10 (k+1))).symm;refine a2.trans ?_;rw [Int.mul_assoc,Int.mul_comm (ev _ _ _)];have:=t.mul (ev (put (R k) (k+1)) ((2:Int) ^ B) N);rw [Int.one_mul] at this;exact this
theorem R_pos:∀ k n,0<=R k n
 | 0,n=>by show (0:Int)<=if n=0 then 1 else 0;split <;> decide
 | k+1,n=>by
   induction n using Nat.strongRecOn with
   | _ n ih=>
     show 0<=put (R k) (k+1) n
     rw [cv _ (by lia)]
     have:=R_pos k n
     split
     · have:=ih (n - (k+1)) (by lia);have:0<=put (R k) (k+1) (n - (k+1)):=this;lia
     · lia
theorem R_far (n:Nat):∀ d,R (n+d) n=R n n
 | 0=>rfl
 | d+1=>by
   show put (R (n+d)) (n+d+1) n=_;rw [cv _ (by lia),if_neg (by lia),Int.add_zero,R_far n d]
theorem rQ:∀ k,R k 0=1
 | 0=>rfl
 | k+1=>by
   show put (R k) (k+1) 0=1;rw [cv _ (by lia),if_neg (by lia),Int.add_zero,rQ k]
def Ab : Nat → Nat
  | 0 => 2 ^ 20
  | k + 1 => Ab k * 16 ^ (k + 1) / (16 ^ (k + 1) - 15 ^ (k + 1)) + 1
theorem A_step (k : Nat) : (Ab k : Int) * 16 ^ (k + 1) + Ab (k + 1) * 15 ^ (k + 1) ≤ Ab (k + 1) * 16 ^ (k + 1) := by
  have h : 15 ^ (k + 1) < 16 ^ (k + 1) := Nat.pow_lt_pow_left (by decide) (by omega)
  have l := Nat.lt_mul_div_succ (Ab k * 16 ^ (k + 1)) (show 0 < 16 ^ (k + 1) - 15 ^ (k + 1) by omega)
  have l : Ab k * 16 ^ (k + 1) < (16 ^ (k + 1) - 15 ^ (k + 1)) * Ab (k + 1) := l
  rw [Nat.sub_mul] at l
  have : Ab k * 16 ^ (k + 1) + Ab (k + 1) * 15 ^ (k + 1) ≤ Ab (k + 1) * 16 ^ (k + 1) := by
    rw [Nat.mul_comm (Ab (k + 1)), Nat.mul_comm (Ab (k + 1))]
    omega
  exact_mod_cast this
theorem R_up : ∀ k n, R k n * 15 ^ n * 2 ^ 20 ≤ (Ab k : Int) * 16 ^ n
  | 0, n => by
    show (if n = 0 then (1 : Int) else 0) * _ * _ ≤ _
    split
    · rename_i h
      subst h
      decide
    · rw [Int.zero_mul, Int.zero_mul]
      exact Int.mul_nonneg (by omega) (Int.le_of_lt (Int.pow_pos (by decide)))
  | k + 1, n => by
    induction n using Nat.strongRecOn with
    | _ n ih =>
      have s := A_step k
      have a := R_up k n
      show put (R k) (k + 1) n * _ * _ ≤ _
      rw [cv _ (by omega)]
      by_cases c : k + 1 ≤ n
      · obtain ⟨m, rfl⟩ : ∃ m, n = m + (k + 1) := ⟨n - (k + 1), by omega⟩
        rw [if_pos c, Nat.add_sub_cancel]
        have b : put (R k) (k + 1) m * 15 ^ m * 2 ^ 20 ≤ (Ab (k + 1) : Int) * 16 ^ m := ih m (by omega)
        have b := Int.mul_le_mul_of_nonneg_right b (Int.le_of_lt (Int.pow_pos (n := 15) (m := k + 1) (by decide)))
        have s := Int.mul_le_mul_of_nonneg_right s (Int.le_of_lt (Int.pow_pos (n := 16) (m := m) (by decide)))
        have e15 : (15 : Int) ^ (m + (k + 1)) = 15 ^ m * 15 ^ (k + 1) := Int.pow_add ..
        have e16 : (16 : Int) ^ (m + (k + 1)) = 16 ^ m * 16 ^ (k + 1) := Int.pow_add ..
        rw [e15, e16] at a ⊢
        clear e15 e16 ih
        generalize put (R k) (k + 1) m = r1 at *
        generalize R k (m + (k + 1)) = r0 at *
        generalize (15 : Int) ^ m = x at *
        generalize (15 : Int) ^ (k + 1) = q at *
        generalize (16 : Int) ^ m = y at *
        generalize (16 : Int) ^ (k + 1) = p at *
        generalize (Ab k : Int) = u at *
        generalize (Ab (k + 1) : Int) = v at *
        grind
      · rw [if_neg c, Int.add_zero]
        obtain ⟨d, e⟩ : ∃ d : Nat, Ab (k + 1) = Ab k + d := ⟨Ab (k + 1) - Ab k, by
          have := Int.mul_nonneg (a := (Ab (k + 1) : Int)) (b := 15 ^ (k + 1)) (by omega) (Int.le_of_lt (Int.pow_pos (by decide)))
          have this : (Ab k : Int) * 16 ^ (k + 1) ≤ Ab (k + 1) * 16 ^ (k + 1) := by omega
          have := Int.le_of_mul_le_mul_right this (Int.pow_pos (by decide))
          omega⟩
        have := Int.mul_nonneg (a := (d : Int)) (b := 16 ^ n) (by omega) (Int.le_of_lt (Int.pow_pos (by decide)))
        rw [e, Int.natCast_add, Int.add_mul]
        omega
theorem R_low {B N K j : Nat} (hB : Ab K * 16 ^ N < 2 ^ B * 2 ^ 20 * 15 ^ N) (hj : j < N) : R K j < 2 ^ B := by
  refine Int.not_le.mp fun h => ?_
  have u := R_up K j
  have p15 : ∀ m : Nat, (0 : Int) < 15 ^ m := fun m => Int.pow_pos (by decide)
  have a := Int.mul_le_mul_of_nonneg_right (Int.mul_le_mul_of_nonneg_right h (Int.le_of_lt (p15 j))) (show (0 : Int) ≤ 2 ^ 20 by decide)
  have a := Int.le_trans a u
  have b : (15 : Int) ^ (N - j) ≤ 16 ^ (N - j) := by exact_mod_cast Nat.pow_le_pow_left (show 15 ≤ 16 by decide) (N - j)
  have c := Int.mul_le_mul a b (Int.le_of_lt (p15 _)) (Int.mul_nonneg (by omega) (Int.le_of_lt (Int.pow_pos (by decide))))
  have hB : (Ab K : Int) * 16 ^ N < 2 ^ B * 2 ^ 20 * 15 ^ N := by exact_mod_cast hB
  have e15 : (15 : Int) ^ N = 15 ^ j * 15 ^ (N - j) := by rw [← Int.pow_add, show j + (N - j) = N by omega]
  have e16 : (16 : Int) ^ N = 16 ^ j * 16 ^ (N - j) := by rw [← Int.pow_add, show j + (N - j) = N by omega]
  rw [e15, e16] at hB
  generalize (2 : Int) ^ B = w at *
  generalize (15 : Int) ^ j = x at *
  generalize (15 : Int) ^ (N - j) = x2 at *
  generalize (16 : Int) ^ j = y at *
  generalize (16 : Int) ^ (N - j) = y2 at *
  grind
theorem mR {f:Nat->Int} {x:Int} (x0:0<x):∀ n,(∀ j,j<n->0<=f j/\f j<x)->0<=ev f x n/\ev f x n<x ^ n
 | 0,_=>⟨zE5 _,by show (0:Int)<x ^ 0;rw [Int.pow_zero];decide⟩
 | n+1,h=>by
   obtain ⟨h1,h2⟩:=mR x0 n fun j hj=>h j (by lia);obtain ⟨g1,g2⟩:=h n (by lia);have p:0<x ^ n:=Int.pow_pos x0;show 0<=ev f x n+f n*x ^ n/\ev f x n+f n*x ^ n<x ^ (n+1);rw [Int.pow_succ];have a:=Int.mul_nonneg g1 (zD7 p);have b:=Int.mul_le_mul_of_nonneg_right (show f n<=x - 1 by lia) (zD7 p);rw [Int.sub_mul,Int.one_mul,Int.mul_comm x] at b;lia
theorem qa {f:Nat->Int} {x:Int} (x0:0<x) {n N:Nat} (hn:n<N) (h:∀ j,j<N->0<=f j/\f j<x):ev f x N / x ^ n % x=f n:=by
 obtain ⟨q,e⟩:=iX f x (n+1) (N - (n+1));rw [show n+1+(N - (n+1))=N by lia] at e;obtain ⟨h1,h2⟩:=mR x0 n fun j hj=>h j (by lia);have p:0<x ^ n:=Int.pow_pos x0;have e2:ev f x N=ev f x n+x ^ n*(f n+x*q):=by
  rw [e];show ev f x n+f n*x ^ n+x ^ (n+1)*q=_;rw [Int.pow_succ];grind
 rw [e2,Int.add_mul_ediv_left _ _ (by lia),Int.ediv_eq_zero_of_lt h1 h2,Int.zero_add,Int.add_mul_emod_self_left];exact Int.emod_eq_of_lt (h n hn).1 (h n hn).2
def dg (B N K n:Nat):Nat:=run B N K % 2 ^ (B*N) / 2 ^ (B*n) % 2 ^ B
theorem dg_is {B N K n:Nat} (hB:Ab K*16 ^ N<2 ^ B*2 ^ 20*15 ^ N) (hN:N<=1000) (hK:K<N) (hn:n<N):R K n=(dg B N K n:Nat):=by
 have x0:(0:Int)<(2:Int) ^ B:=Int.pow_pos (by decide);have low:∀ j,j<N->0<=R K j/\R K j<(2:Int) ^ B:=fun j hj=>⟨R_pos K j,R_low hB hj⟩
 obtain ⟨q,e⟩:=qM B N hN K hK;obtain ⟨h1,h2⟩:=mR x0 N low;have m:((run B N K % 2 ^ (B*N):Nat):Int)=ev (R K) ((2:Int) ^ B) N:=by
  rw [Int.natCast_emod,e,Int.natCast_pow];show _ % (2:Int) ^ (B*N)=_;rw [Int.pow_mul,Int.add_mul_emod_self_left];exact Int.emod_eq_of_lt h1 h2
 unfold dg;rw [Int.natCast_emod,Int.natCast_ediv,m,Int.natCast_pow,Int.natCast_pow];show _=_ / (2:Int) ^ (B*n) % (2:Int) ^ B;rw [Int.pow_mul,qa x0 hn low]
theorem chkA : (((List.range 24).all fun k => decide (dg 92 601 600 (24 + 25 * k) % 25 = 0)) && (decide (dg 92 601 600 100 % 4 = 0) && !decide (dg 92 601 600 400 % 4 = 0))) = true := by decide +kernel
theorem chk25 : ((List.range 24).all fun k => decide (dg 92 601 600 (24 + 25 * k) % 25 = 0)) = true := (Bool.and_eq_true_iff.mp chkA).1
theorem chk4 : dg 92 601 600 100 % 4 = 0 ∧ dg 92 601 600 400 % 4 ≠ 0 := by
  obtain ⟨h1, h2⟩ := Bool.and_eq_true_iff.mp (Bool.and_eq_true_iff.mp chkA).2
  exact ⟨of_decide_eq_true h1, fun e => by rw [decide_eq_true e] at h2; cases h2⟩
end M90
namespace M34
open MRow
def PC:List (List Int):=[[1,1,2,3,5,7,11,15,22,30],[42,56,77,101,135,176,231,297,385,490],[627,792,1002,1255,1575,1958,2436,3010,3718,4565],[5604,6842,8349,10143,12310,14883,17977,21637,26015,31185],[37338,44583,53174,63261,75175,89134,105558,124754,147273,173525],[204226,239943,281589,329931,386155,451276,526823,614154,715220,831820],[966467,1121505,1300156,1505499,1741630,2012558,2323520,2679689,3087735,3554345],[4087968,4697205,5392783,6185689,7089500,8118264,9289091,10619863,12132164,13848650],[15796476,18004327,20506255,23338469,26543660,30167357,34262962,38887673,44108109,49995925],[56634173,64112359,72533807,82010177,92669720,104651419,118114304,133230930,150198136,169229875],[190569292]]
def p (j:Nat):Int:=(PC.getD (j / 10) []).getD (j % 10) 0
theorem chkp:((List.range 101).all fun j=>decide (p j=((M90.dg 101 101 100 j:Nat):Int)))=true:=by decide +kernel
theorem R_p {n j:Nat} (h:j<=n) (hn:n<=100):R n j=p j:=by
 have e:R n j=R 100 j:=by
  rw [show n=j+(n - j) by lia,M90.R_far,show (100:Nat)=j+(100 - j) by lia,M90.R_far]
 rw [e,M90.dg_is (B:=101) (N:=101) (by decide +kernel) (by decide) (by decide) (show j<101 by lia)];exact (of_decide_eq_true (zB8.mp chkp j (zE7.mpr (by lia)))).symm
theorem p_lim:∀ j,j<101->0<p j/\p j<200000000:=by decide +kernel
def bN (b v k:Nat):Nat:=k*(b*k - 1) / 2+k*v
def sg (k:Nat):Int:=if k % 2=1 then 1 else -1
def nV (b n v k:Nat):Int:=if bN b v k<=n then sg k*p (n - bN b v k) - (if bN b v k+k<=n then sg k*p (n - (bN b v k+k)) else 0) else 0
def ms (b n v:Nat):Nat->Int
 | 0=>0
 | m+1=>ms b n v m+nV b n v (m+1)
theorem ig {b v j k:Nat} (h:j<=k):bN b v j<=bN b v k:=by
 unfold bN;have h1:j*(b*j - 1)<=k*(b*k - 1):=Nat.mul_le_mul h (by have:=Nat.mul_le_mul_left b h;lia);have h2:=Nat.mul_le_mul_right v h;have h3:j*(b*j - 1) / 2<=k*(b*k - 1) / 2:=Nat.div_le_div_right h1;lia
theorem iT {b n v k:Nat} (h:n<bN b v (k+1)):∀ d,ms b n v (k+d)=ms b n v k
 | 0=>rfl
 | d+1=>by
   show ms b n v (k+d)+nV b n v (k+d+1)=_;rw [iT h d];have:=ig (b:=b) (v:=v) (show k+1<=k+d+1 by lia);unfold nV;rw [if_neg (by lia)];lia
theorem gF {b v n:Nat} (hb:1<=b) (hn:n<=100):n<bN b v (n+2)/\n<bN b v 15:=by
 have h1:bN 1 0 (n+2)<=bN b v (n+2):=by
  unfold bN;have e:(n+2)*(1*(n+2) - 1)<=(n+2)*(b*(n+2) - 1):=Nat.mul_le_mul_left _ (by have:=Nat.mul_le_mul_right (n+2) hb;lia);have:=Nat.div_le_div_right (c:=2) e;lia
 have h2:bN 1 0 15<=bN b v 15:=by
  unfold bN;lia
 have h3:∀ m,m<101->m<bN 1 0 (m+2)/\m<bN 1 0 15:=by decide +kernel
 have:=h3 n (by lia);lia
def tot (b n v:Nat):Int:=ms b n v 14
theorem jd {b n v k:Nat} (hb:1<=b) (hn:n<=100) (h:n<bN b v (k+1)):ms b n v k=tot b n v:=by
 have h2:=(gF (v:=v) hb hn).2;unfold tot;by_cases hk:k<=14
 · have:=iT h (14 - k);rw [show k+(14 - k)=14 by lia] at this;exact this.symm
 · have:=iT (k:=14) h2 (k - 14);rw [show 14+(k - 14)=k by lia] at this;exact this
theorem sv {b n v:Nat} (hb:1<=b) (hn:n<=100):ms b n v (n+1)=tot b n v:=jd hb hn (gF hb hn).1
def pN (j:Nat):Nat:=Nat.mod (Nat.div 190569292169229875150198136133230930118114304104651419092669720082010177072533807064112359056634173049995925044108109038887673034262962030167357026543660023338469020506255018004327015796476013848650012132164010619863009289091008118264007089500006185689005392783004697205004087968003554345003087735002679689002323520002012558001741630001505499001300156001121505000966467000831820000715220000614154000526823000451276000386155000329931000281589000239943000204226000173525000147273000124754000105558000089134000075175000063261000053174000044583000037338000031185000026015000021637000017977000014883000012310000010143000008349000006842000005604000004565000003718000003010000002436000001958000001575000001255000001002000000792000000627000000490000000385000000297000000231000000176000000135000000101000000077000000056000000042000000030000000022000000015000000011000000007000000005000000003000000002000000001000000001 (Nat.pow 1000000000 j)) 1000000000
theorem pN_eq:∀ j,j<101->p j=(pN j:Int):=by decide +kernel
def go (b n v:Nat):Nat->Nat->Nat->Nat->Nat×Nat
 | 0,_,x,y=>(x,y)
 | f+1,k,x,y=>let q:=Nat.add (Nat.div (Nat.mul k (Nat.sub (Nat.mul b k) 1)) 2) (Nat.mul k v)
   cond (Nat.ble q n) (let r:=Nat.add q k
    let i:=pN (Nat.sub n q)
    let j:=cond (Nat.ble r n) (pN (Nat.sub n r)) 0
    cond (Nat.beq (Nat.mod k 2) 1) (go b n v f (Nat.add k 1) (Nat.add x i) (Nat.add y j)) (go b n v f (Nat.add k 1) (Nat.add x j) (Nat.add y i))) (x,y)
def jv (b n v k:Nat):Nat:=cond (Nat.ble (Nat.add (bN b v k) k) n) (pN (Nat.sub n (Nat.add (bN b v k) k))) 0
theorem uH {b n v:Nat} (hb:1<=b) (hn:n<=100):∀ (f k x y:Nat),15<=k+f->ms b n v k=(x:Int) - y->tot b n v=((go b n v f (k+1) x y).1:Int) - (go b n v f (k+1) x y).2
 | 0,k,x,y,h,e=>by rw [← jd hb hn (zB9 (gF hb hn).2 (ig (show 15<=k+1 by lia))),e];rfl
 | f+1,k,x,y,h,e=>by
  unfold go;by_cases c:bN b v (k+1)<=n
  · have s:ms b n v (k+1)=ms b n v k+nV b n v (k+1):=rfl;unfold nV at s;rw [if_pos c,pN_eq _ (by lia)] at s;have cb:Nat.ble (Nat.add (Nat.div (Nat.mul (k+1) (Nat.sub (Nat.mul b (k+1)) 1)) 2) (Nat.mul (k+1) v)) n=true:=Nat.ble_eq.mpr c;dsimp only;rw [cb,cond_true];have w:(if bN b v (k+1)+(k+1)<=n then sg (k+1)*p (n - (bN b v (k+1)+(k+1))) else 0)=sg (k+1)*(jv b n v (k+1):Int):=by
     unfold jv;by_cases d:bN b v (k+1)+(k+1)<=n
     · rw [if_pos d,show Nat.ble (Nat.add (bN b v (k+1)) (k+1)) n=true from Nat.ble_eq.mpr d,cond_true,pN_eq _ (by lia)];rfl
     · rw [if_neg d,show Nat.ble (Nat.add (bN b v (k+1)) (k+1)) n=false from Bool.eq_false_iff.mpr fun z=>d (Nat.ble_eq.mp z),cond_false];simp
    rw [w] at s;change tot b n v=((cond (Nat.beq (Nat.mod (k+1) 2) 1) (go b n v f (k+1+1) _ _) (go b n v f (k+1+1) _ _)).1:Int) - (cond (Nat.beq (Nat.mod (k+1) 2) 1) (go b n v f (k+1+1) _ _) (go b n v f (k+1+1) _ _)).2;by_cases o:(k+1) % 2=1
    · rw [show Nat.beq (Nat.mod (k+1) 2) 1=true from Nat.beq_eq.mpr o,cond_true];refine uH hb hn f (k+1) _ _ (by lia) ?_;rw [s,e,show sg (k+1)=1 from if_pos o];show _=((x+pN (n - bN b v (k+1)):Nat):Int) - ((y+jv b n v (k+1):Nat):Int);rw [zE3,zE3];lia
    · rw [show Nat.beq (Nat.mod (k+1) 2) 1=false from Bool.eq_false_iff.mpr fun z=>o (Nat.beq_eq.mp z),cond_false];refine uH hb hn f (k+1) _ _ (by lia) ?_;rw [s,e,show sg (k+1)=-1 from if_neg o];show _=((x+jv b n v (k+1):Nat):Int) - ((y+pN (n - bN b v (k+1)):Nat):Int);rw [zE3,zE3];lia
  · have cb:Nat.ble (Nat.add (Nat.div (Nat.mul (k+1) (Nat.sub (Nat.mul b (k+1)) 1)) 2) (Nat.mul (k+1) v)) n=false:=Bool.eq_false_iff.mpr fun z=>c (Nat.ble_eq.mp z);dsimp only;rw [cb,cond_false,← jd hb hn (show n<bN b v (k+1) by lia),e]
def okv (b n:Nat):Nat->Bool
 | 0=>true
 | v+1=>Bool.and (let r:=go b n v 15 1 0 0
   Bool.and (Nat.ble r.2 r.1) (Nat.ble (Nat.sub r.1 r.2) 199999999)) (okv b n v)
def okn (b:Nat):Nat->Bool
 | 0=>true
 | n+1=>Bool.and (okv b (n+2) (n+3)) (okn b n)
theorem ok1:okn 1 99=true:=by decide +kernel
theorem ok3:okn 3 99=true:=by decide +kernel
theorem qV {b n:Nat}:∀ m,okn b m=true->n<m->okv b (n+2) (n+3)=true
 | 0,_,h=>absurd h (Nat.not_lt_zero _)
 | m+1,e,h=>by
  have e:=zF8.mp e;by_cases c:n=m
  · rw [c];exact e.1
  · exact qV m e.2 (by lia)
theorem qU {b n v:Nat}:∀ m,okv b n m=true->v<m->(go b n v 15 1 0 0).2<=(go b n v 15 1 0 0).1/\(go b n v 15 1 0 0).1 - (go b n v 15 1 0 0).2<=199999999
 | 0,_,h=>absurd h (Nat.not_lt_zero _)
 | m+1,e,h=>by
  have e:=zF8.mp e;by_cases c:v=m
  · rw [c];have a:=zF8.mp e.1;exact ⟨Nat.ble_eq.mp a.1,Nat.ble_eq.mp a.2⟩
  · exact qU m e.2 (by lia)
theorem su {b n v:Nat} (hb:b=1\/b=3) (h2:2<=n) (hn:n<=100) (hv:v<=n):0<=tot b n v/\tot b n v<200000000:=by
 have e:tot b n v=((go b n v 15 1 0 0).1:Int) - (go b n v 15 1 0 0).2:=uH (show 1<=b by lia) hn 15 0 0 0 (zA1 _) rfl;obtain ⟨m,rfl⟩:∃ m,n=m+2:=⟨n - 2,by lia⟩
 have a:okn b 99=true:=by
  rcases hb with rfl | rfl
  · exact ok1
  · exact ok3
 have c:=qU (v:=v) _ (qV (n:=m) _ a (by lia)) (by lia);rw [e];lia
end M34
namespace K73
open PySem L2 MRow M27
def hd0 (as:List Int):Int:=as.headD 0
def rk (as:List Int):Int:=hd0 as - as.length
def gr (as:List Int) (o:Int):List Int:=as.filter fun n=>decide (o<n)
def mk (as:List Int):Int:=if as.count 1=0 then hd0 as else (gr as (as.count 1)).length - as.count 1
theorem dq {as:List Int} {i:Nat} (hi:i<as.length) (p:Int->Bool):(as.take (i+1)).filter p=(as.take i).filter p++if p as[i]=true then [as[i]] else []:=by
 rw [zC3,List.getElem?_eq_getElem hi,zF6];congr 1;show List.filter p [as[i]]=_;rw [List.filter_cons];split <;> rfl
section
variable {P:Program} {w:World} {K:PySem.W.Frag} {mg:Str->Option Value} {base:Heap} {f:Addr} {fd:FuncData}
theorem sc_first_not:FnScope ["row","claim","m","a","q","place"] ["row","claim"] (ap (top 16)):=.(0)
def eg:Sp:=fun vs H Q _=>∃ (r c:Addr) (ns:List Int) (m a q:Int),vs=[.ref r,.ref c]/\H r=some (.tup (ns.map V.int))/\ns.length<=1000/\H c=some (.tup [.int m,.int a,.int q])/\CB m a q/\∀ v H',Same H H'->IsF ns m a q v->Q v H'
theorem hZ (F:Fun K "first_not" "first_not" (top 16) f fd) (m_len:mg "len" = none) (m_range:mg "range" = none):FnOk P w K mg base CX0 1 f fd ["row","claim"] eg:=by
 refine F.okz sc_first_not .(10) .(2)
 · obtain ⟨r,c,ns,m,a,q,rfl,_⟩:=h;rfl
 obtain ⟨r,c,ns,m,a,q,rfl,hrow,hlen,hc,⟨m1,m2,a0,a1,q1,q2⟩,fin⟩:=h;have nd:=sc_first_not.nd;have hu:=hr.units;refine ⟨_,(ae (dO (zn 1) (eF rfl (aV (az (i:=2) nd rfl .(8)) (aV (az (i:=3) nd rfl .(8)) (aV (az (i:=4) nd rfl .(8)) cP)))))
  (ae (bi PassesOwn.never rfl (cA rfl m_range (aa (zn 3) (aa .(28) (aa (zn 2) ab)))) (az (i:=5) nd rfl .(8)) (ai (aC (aj (bg hu) (aA bn (aD aS (zn 0) (zn 5) .(11)) (zn 4)) ah (ao _)) (ai (aq (zn 5))) ak)))
  (ai (aq eG)))),?_⟩
 refine ⟨c,_,rfl,SqT.of hc,rfl,_,_,rfl,_,_,rfl,_,_,rfl,rfl,?_⟩;refine ⟨_,.inr hrow,?_⟩;refine ⟨a,(ns.length:Int),m,by rw [zA0],⟨by lia,⟨by lia,by lia⟩,small_up (by lia) (by lia) (by lia) (by lia) (by lia) (by lia)⟩,?_⟩;refine ci (fun i σ H'=>H'=H/\(∀ j:Nat,(j:Int)<a+(i:Int)*m->¬ Bad ns m a q j)/\∃ p5,σ=[some (.ref r),some (.ref c),some (.int m),some (.int a),some (.int q),p5]) ⟨rfl,?_,_,rfl⟩ ?_ ?_
 · rintro j hj ⟨x,_,e,_⟩;have:(j:Int)<a:=by simpa using hj
   rw [Int.emod_eq_of_lt (by lia) (by lia)] at e;lia
 · rintro i σ _ hi ⟨rfl,hj,p5,rfl⟩;have hlt:=size_lt m1 hi;have him:0<=(i:Int)*m:=Int.mul_nonneg (by lia) (by lia);obtain ⟨p,hp⟩:∃ p:Nat,a+(i:Int)*m=(p:Int):=⟨(a+(i:Int)*m).toNat,by lia⟩
   have hpl:p<ns.length:=by lia
   have hcl:(p:Int) % m=a:=by rw [← hp];exact m7 a0 a1 _
   refine ⟨_,.inr hrow,.int ns[p],aN hp (iF hpl),(show (0:Int)<q by lia),?_⟩;refine cU (fun c=>?_) (fun c=>?_)
   · have c':¬ ns[p] % q=0:=by simpa using c
     rw [hp];refine fin _ _ (Same.refl _) (.inr ⟨p,hpl,rfl,⟨ns[p],List.getElem?_eq_getElem hpl,hcl,c'⟩,fun j hjp=>hj j (by lia)⟩)
   · have c':ns[p] % q=0:=by simpa using c
     refine ⟨rfl,uo m1 hp.symm hj ?_,_,rfl⟩;rintro ⟨x,hx,_,h⟩;rw [List.getElem?_eq_getElem hpl] at hx
     cases hx
     exact h c'
 · rintro σ _ ⟨rfl,hj,p5,rfl⟩;refine fin _ _ (Same.refl _) (.inl ⟨rfl,fun j hB=>?_⟩);have hjl:j<ns.length:=by obtain ⟨x,hx,_⟩:=hB;exact (List.getElem?_eq_some_iff.mp hx).1
   exact hj j (jk m1 (by lia)) hB
theorem sc_rank:FnScope ["parting"] ["parting"] (ap (top 80)):=.(0)
def iM:Sp:=fun vs H Q _=>∃ (a:Addr) (as:List Int),vs=[.ref a]/\H a=some (.tup (as.map V.int))/\Q (.int (rk as)) H
theorem ue (F:Fun K "rank" "rank" (top 80) f fd) (m_len:mg "len" = none):FnOk P w K mg base CX0 1 f fd ["parting"] iM:=by
 refine F.okz sc_rank .(10) .(2)
 · obtain ⟨a,as,rfl,_⟩:=h;rfl
 obtain ⟨a,as,rfl,ha,q⟩:=h;have nd:=sc_rank.nd;have hu:=hr.units;refine ⟨_,(ae (aC (aj (av hu) .(28) ah (ao _)) (ai (aq ah)) ak)
  (ai (aq (aA aP .(6) .(28))))),?_⟩
 refine ⟨_,.inr ha,?_⟩;refine bK (fun c=>?_) (fun c=>?_)
 · have:as=[]:=by
    have:=V.int.inj c;rw [zA0] at this;exact List.length_eq_zero_iff.mp (by lia)
   subst this;exact q
 · cases as with
   | nil=>exact absurd rfl c
   | cons x r=>
     refine ⟨_,.inr ha,.int x,aN (j:=0) rfl rfl,?_⟩
     refine ⟨_,.inr ha,?_⟩
     rw [zA0]
     exact q
theorem sc_mark:FnScope ["parting","ones"] ["parting"] (ap (top 81)):=.(0)
def iN:Sp:=fun vs H Q _=>∃ (a:Addr) (as:List Int),vs=[.ref a]/\H a=some (.tup (as.map V.int))/\as.length<=1000/\∀ H',Same H H'->Q (.int (mk as)) H'
theorem uf (F:Fun K "mark" "mark" (top 81) f fd) (m_len:mg "len" = none):FnOk P w K mg base CX0 1 f fd ["parting"] iN:=by
 refine F.okz sc_mark .(10) .(2)
 · obtain ⟨a,as,rfl,_⟩:=h;rfl
 obtain ⟨a,as,rfl,ha,hl,q⟩:=h;have nd:=sc_mark.nd;have hu:=hr.units;refine ⟨_,(ae (aC (aj (av hu) .(28) ah (ao _)) (ai (aq ah)) ak)
  (ae (ay (i:=1) nd rfl (Or.inr rfl) (ee (zn 0) (aa ah ab)))
  (ae (aC (aj (av hu) (zn 1) ah (ao _)) (ai (aq .(6))) ak)
  (ai (aq (aA aP (aI rfl m_len (aa (aQ ["part"] [("ones",1)] rfl .(5) (bJ (zn 0)) aG (fun _ _ _ _=>az (i:=0) (show List.Nodup (["part","ones"]:List Str) by decide +kernel) rfl .(8)) (fun _ _ _ _=>(bX (aj cw (zn 0) (zn 1) (ao _)))) (fun _ _ _ _=>(zn 0))) ab) rfl rfl) (zn 1))))))),?_⟩
 refine ⟨_,.inr ha,?_⟩;refine bK (fun c=>?_) (fun c=>?_)
 · have:as=[]:=by
    have:=V.int.inj c;rw [zA0] at this;exact List.length_eq_zero_iff.mp (by lia)
   subst this;exact q H (Same.refl H)
 · refine ⟨tyT ha,as,ha,?_⟩;refine bK (fun c1=>?_) (fun c1=>?_)
   · have c2:as.count 1=0:=by have:=V.int.inj c1;lia
     cases as with
     | nil=>exact absurd rfl c
     | cons x r=>
       refine ⟨_,.inr ha,.int x,aN (j:=0) rfl rfl,?_⟩
       have:=q H (Same.refl H)
       unfold mk at this
       rw [if_pos c2] at this
       exact this
   · have c2:¬ as.count 1=0:=fun e=>c1 (by rw [e];rfl);refine ⟨a,rfl,⟨_,SqT.of ha⟩,bQ (xs:=as.map V.int) (fun i ys H'=>H'=H/\ys=((as.take i).filter fun n=>decide ((as.count 1:Int)<n)).map V.int) ⟨rfl,by rw [zE4];rfl⟩ ?_ ?_ ?_⟩
     · rintro i ys H' _ ⟨rfl,_⟩;exact SqT.of ha
     · rintro i x ys H' hx ⟨rfl,rfl⟩;have hi:i<as.length:=by
        have:=(List.getElem?_eq_some_iff.mp hx).1;rw [zA0] at this;exact this
       have ex:x=.int as[i]:=by rw [iF hi] at hx;exact (Option.some.inj hx).symm
       subst ex;have hlf:=zG8 (fun n=>decide ((as.count 1:Int)<n)) (as.take i);rw [zB3] at hlf;refine ⟨by rw [zA0];exact aE (by lia),?_⟩;refine bK (fun c3=>?_) (fun c3=>?_)
       · refine ⟨rfl,?_⟩;rw [dq hi,if_pos (decide_eq_true c3),zA7];rfl
       · refine ⟨rfl,?_⟩;rw [dq hi,if_neg (by simpa using c3),zC9]
     · rintro ys H' ⟨rfl,rfl⟩ D hD;refine ⟨_,.inl (SqL.of af),?_⟩;rw [zA0,zA0,zA6 (zA1 _)];have e:(((gr as (as.count 1)).length:Int) - as.count 1)=mk as:=by unfold mk;rw [if_neg c2]
       show Q (.int (((gr as (as.count 1)).length:Int) - as.count 1)) _;rw [e];exact q _ (Same.new hD _)
end
end K73
namespace K73
open PySem L2 MRow M34
def Wh (w:Str):Prop:=w="rank"\/w="mark"
def wb (w:Str):Nat:=if w="rank" then 3 else 1
theorem wb_ok {w:Str} (h:Wh w):wb w=1\/wb w=3:=by
 rcases h with rfl | rfl
 · exact .inr rfl
 · exact .inl rfl
theorem eZ {a b:Int} (h1:-1000000000<=a) (h2:a<=1000000000):IntMulOk a b:=vg (by lia) (by lia)
theorem pQ {b v k:Nat} (hb:1<=b) (hk:1<=k):((k:Int)*((b:Int)*(k:Int) - 1)) / 2+(k:Int)*(v:Int)=((bN b v k:Nat):Int):=by
 unfold bN;have h1:1<=b*k:=Nat.mul_pos hb hk;rw [zE3,Int.natCast_ediv,zF5,zF5,Int.natCast_sub h1,zF5];rfl
theorem u7 (v:Int):(if v<0 then -v else v)=(v.natAbs:Int):=by split <;> lia
def vals (n:Nat):List Int:=(List.range (2*n+1)).map fun (i:Nat)=>-(n:Int)+(i:Int)
theorem gm (n:Nat):(vals n).length=2*n+1:=by unfold vals;simp
theorem sk {n i:Nat} (h:i<(vals n).length):(vals n)[i]=-(n:Int)+(i:Int):=by simp [vals]
def v01 (w:Str) (n:Nat):Int:=if w="rank" then rk (List.replicate n 1) else mk (List.replicate n 1)
def ck (w:Str) (n:Nat):List (Int×Int):=if n<2 then [(v01 w n,1)] else ((vals n).map fun v=>(v,tot (wb w) n v.natAbs)).filter fun q=>decide (0<q.2)
section
variable {P:Program} {w:World} {K:PySem.W.Frag} {mg:Str->Option Value} {base:Heap} {f:Addr} {fd:FuncData}
theorem sc_vo:FnScope ["which","parting"] ["which","parting"] (ap (top 96)):=.(0)
def sp_vo:Sp:=fun vs H Q _=>∃ (x:Str) (a:Addr) (n:Nat),vs=[.str x,.ref a]/\Wh x/\n<=100/\H a=some (.tup ((List.replicate n (1:Int)).map V.int))/\∀ H',Same H H'->Q (.int (v01 x n)) H'
theorem ok_vo (F:Fun K "value_of" "value_of" (top 96) f fd)  (F_mark:FnA P w K mg base "mark" 1 ["parting"] iN) (F_rank:FnA P w K mg base "rank" 1 ["parting"] iM):FnOk P w K mg base CX0 2 f fd ["which","parting"] sp_vo:=by
 refine F.okz sc_vo .(10) .(2)
 · obtain ⟨x,a,n,rfl,_⟩:=h;rfl
 obtain ⟨x,a,n,rfl,hx,hn,ha,q⟩:=h;have nd:=sc_vo.nd;have hu:=hr.units;rcases hx with rfl | rfl
 · refine ⟨_,(ai (aq (aW (aj (av hu) (zn 0) am (ao _)) (au F_rank hr (by decide) rfl .(29)) (au F_mark hr (by decide) rfl .(29))))),?_⟩;exact ⟨a,_,rfl,ha,q _ (Same.refl _)⟩
 · refine ⟨_,(ai (aq (aW (aj (av hu) (zn 0) am (ao _)) (au F_rank hr (by decide) rfl .(29)) (au F_mark hr (by decide) rfl .(29))))),?_⟩;exact ⟨a,_,rfl,ha,by rw [zC8];lia,fun H' y=>q _ y⟩
theorem sc_mw:FnScope ["which","value","everything","n","bend","total","k","near","far","sign"] ["which","value","everything"] (ap (top 97)):=.(0)
def sp_mw:Sp:=fun vs H Q _=>∃ (x:Str) (v:Int) (a:Addr) (n:Nat),vs=[.str x,.int v,.ref a]/\Wh x/\n<=100/\v.natAbs<=100/\H a=some (.tup ((tb (R n) (n+1)).map V.int))/\Q (.int (tot (wb x) n v.natAbs)) H
theorem qb {n j:Nat} (h:j<=n) (hn:n<=100):((tb (R n) (n+1)).map V.int)[j]? = some (.int (p j)):=by
 rw [List.getElem?_map,dR (by lia),R_p h hn];rfl
theorem ok_mw (F:Fun K "many_with" "many_with" (top 97) f fd) (m_abs:mg "abs" = none) (m_len:mg "len" = none) (m_range:mg "range" = none):FnOk P w K mg base CX0 1 f fd ["which","value","everything"] sp_mw:=by
 refine F.okz sc_mw .(10) .(2)
 · obtain ⟨x,v,a,n,rfl,_⟩:=h;rfl
 obtain ⟨x,v,a,n,rfl,hx,hn,hv,ha,q⟩:=h;have nd:=sc_mw.nd;have hu:=hr.units;have rest:∃ t,ZSs (qe CX0 P w K mg base ["which","value","everything","n","bend","total","k","near","far","sign"] "many_with" (ap (top 97)) f cdv A outer s H E).nox ((bh (top 97)).drop 2) t /\
  ∀ (b:Nat) (N:Int),b=wb x->N=(n:Int)->t { nx:=fun _ H'=>Q .non H',rt:=Q } [some (.str x),some (.int v),some (.ref a),some (.int N),some (.int b),none,none,none,none,none] H:=by
  refine ⟨_,(ae (ay (i:=5) nd rfl .(8) ah)
   (ae (bi PassesOwn.never rfl (bj rfl m_range (aa ah (aa (aA aB (zn 3) ah) ab))) (az (i:=6) nd rfl .(8)) (ae (ay (i:=7) nd rfl .(8) (aA aB (aA cK (aA ba (zn 6) (aA aP (aA ba (zn 4) (zn 6)) ah)) ah) (aA ba (zn 6) (iG rfl m_abs .(29) rfl rfl))))
   (ae (ay (i:=8) nd rfl .(8) (aA aB (zn 7) (zn 6)))
   (ae (aC (aj cw (zn 7) (zn 3) (ao _)) (ai n5) ak)
   (ae (ay (i:=9) nd rfl .(8) (aW (aj (av hu) (aA bn (zn 6) ah) ah (ao _)) ah (dX cu ah)))
   (ae (i6 (i:=5) nd rfl .(8) (aA ba (zn 9) (aD aS (zn 2) (aA aP (zn 3) (zn 7)) .(11))) dI)
   (ai (aC (aj hV (zn 8) (zn 3) (ao _)) (ai (i6 (i:=5) nd rfl .(8) (aA ba (zn 9) (aD aS (zn 2) (aA aP (zn 3) (zn 8)) .(11))) mJ)) ak))))))))
   (ai (aq (zn 5))))),?_⟩
  intro b N hb hN;subst hN;have hb13:b=1\/b=3:=by rw [hb];exact wb_ok hx
  have hb1:1<=b:=by lia
  rw [← hb] at q;refine ⟨1,(n:Int)+2,rfl,⟨by decide,by decide,by lia,by lia⟩,?_⟩;have en:((n:Int)+2 - 1).toNat=n+1:=by lia
  rw [en];refine bE (fun i σ H'=>H'=H/\i<=n+1/\∃ x6 x7 x8 x9,σ=[some (.str x),some (.int v),some (.ref a),some (.int n),some (.int b),some (.int (ms b n v.natAbs i)),x6,x7,x8,x9]) ⟨rfl,zB0 _,_,_,_,_,rfl⟩ ?_ ?_
  · rintro i σ H' hi ⟨rfl,_,x6,x7,x8,x9,rfl⟩;have ek:(1:Int)+(i:Int)=((i+1:Nat):Int):=by lia
    rw [ek];refine ⟨eZ (by lia) (by lia),eZ (by lia) (by lia),⟨by decide,by decide⟩,eZ (by lia) (by lia),?_⟩;have enr:((i+1:Nat):Int)*((b:Int)*((i+1:Nat):Int) - 1) / 2+((i+1:Nat):Int)*(if v<0 then -v else v)=((bN b v.natAbs (i+1):Nat):Int):=by rw [u7];exact pQ hb1 (Nat.succ_pos i)
    have dn:∀ z,z=ms b n v.natAbs (i+1)->∀ y6 y7 y8 y9,H'=H'/\i+1<=n+1/\∃ x6 x7 x8 x9,[some (.str x),some (.int v),some (.ref a),some (.int n),some (.int b),some (V.int z),y6,y7,y8,y9]=[some (.str x),some (.int v),some (.ref a),some (.int n),some (.int b),some (.int (ms b n v.natAbs (i+1))),x6,x7,x8,x9]:=
     fun z hz y6 y7 y8 y9=>⟨rfl,by lia,y6,y7,y8,y9,by rw [hz]⟩
    have es:ms b n v.natAbs (i+1)=ms b n v.natAbs i+nV b n v.natAbs (i+1):=rfl;refine bK (fun c=>?_) (fun c=>?_)
    · have c':(n:Int)<((bN b v.natAbs (i+1):Nat):Int):=by rw [← enr];exact c
      have e:=jd (b:=b) (v:=v.natAbs) hb1 hn (show n<bN b v.natAbs (i+1) by lia);rw [← e] at q;exact q
    · have c':¬ (n:Int)<((bN b v.natAbs (i+1):Nat):Int):=by rw [← enr];exact c
      have hle:bN b v.natAbs (i+1)<=n:=by lia
      have e1:(n:Int) - (((i+1:Nat):Int)*((b:Int)*((i+1:Nat):Int) - 1) / 2+((i+1:Nat):Int)*(if v<0 then -v else v))=((n - bN b v.natAbs (i+1):Nat):Int):=by rw [enr];lia
      have pl:=p_lim (n - bN b v.natAbs (i+1)) (by lia);refine ⟨(show (0:Int)<2 by decide),?_⟩;refine bK (fun c3=>?_) (fun c3=>?_)
      · have hs:sg (i+1)=1:=by
         have:=V.int.inj c3;unfold sg;rw [if_pos (by lia)]
        refine ⟨_,rfl,_,.inr ha,.int (p (n - bN b v.natAbs (i+1))),aN e1 (qb (by lia) hn),eZ (by decide) (by decide),?_⟩;refine bK (fun c4=>?_) (fun c4=>?_)
        · have c4':((bN b v.natAbs (i+1):Nat):Int)+((i+1:Nat):Int)<=(n:Int):=by rw [← enr];exact c4
          have e2:(n:Int) - (((i+1:Nat):Int)*((b:Int)*((i+1:Nat):Int) - 1) / 2+((i+1:Nat):Int)*(if v<0 then -v else v)+((i+1:Nat):Int))=((n - (bN b v.natAbs (i+1)+(i+1)):Nat):Int):=by rw [enr];lia
          refine ⟨_,rfl,_,.inr ha,.int (p (n - (bN b v.natAbs (i+1)+(i+1)))),aN e2 (qb (by lia) hn),eZ (by decide) (by decide),?_⟩;refine dn _ ?_ _ _ _ _;rw [es];unfold nV;rw [if_pos hle,if_pos (by lia),hs];dsimp only;lia
        · have c4':¬ ((bN b v.natAbs (i+1):Nat):Int)+((i+1:Nat):Int)<=(n:Int):=by rw [← enr];exact c4
          refine dn _ ?_ _ _ _ _;rw [es];unfold nV;rw [if_pos hle,if_neg (by lia),hs];dsimp only;lia
      · have hs:sg (i+1)=-1:=by
         unfold sg;rw [if_neg (fun z=>c3 (congrArg V.int (by lia)))]
        refine ⟨1,rfl,?_⟩;refine ⟨_,rfl,_,.inr ha,.int (p (n - bN b v.natAbs (i+1))),aN e1 (qb (by lia) hn),eZ (by decide) (by decide),?_⟩;refine bK (fun c4=>?_) (fun c4=>?_)
        · have c4':((bN b v.natAbs (i+1):Nat):Int)+((i+1:Nat):Int)<=(n:Int):=by rw [← enr];exact c4
          have e2:(n:Int) - (((i+1:Nat):Int)*((b:Int)*((i+1:Nat):Int) - 1) / 2+((i+1:Nat):Int)*(if v<0 then -v else v)+((i+1:Nat):Int))=((n - (bN b v.natAbs (i+1)+(i+1)):Nat):Int):=by rw [enr];lia
          refine ⟨_,rfl,_,.inr ha,.int (p (n - (bN b v.natAbs (i+1)+(i+1)))),aN e2 (qb (by lia) hn),eZ (by decide) (by decide),?_⟩;refine dn _ ?_ _ _ _ _;rw [es];unfold nV;rw [if_pos hle,if_pos (by lia),hs];dsimp only;lia
        · have c4':¬ ((bN b v.natAbs (i+1):Nat):Int)+((i+1:Nat):Int)<=(n:Int):=by rw [← enr];exact c4
          refine dn _ ?_ _ _ _ _;rw [es];unfold nV;rw [if_pos hle,if_neg (by lia),hs];dsimp only;lia
  · rintro σ H' ⟨rfl,_,x6,x7,x8,x9,rfl⟩;have e:=sv (b:=b) (v:=v.natAbs) hb1 hn;rw [← e] at q;exact q
 obtain ⟨t2,ht2,rest⟩:=rest;have el:(((tb (R n) (n+1)).map V.int).length:Int) - 1=(n:Int):=by rw [zA0,br];lia
 rcases hx with rfl | rfl
 · refine ⟨_,(ae (ay (i:=3) nd rfl .(8) (aA aP (aI rfl m_len (aa (zn 2) ab) rfl rfl) ah))
    (ae (ay (i:=4) nd rfl .(8) (aW (aj (av hu) (zn 0) am (ao _)) ah ah))
    ht2)),?_⟩
   refine ⟨_,.inr ha,?_⟩;exact rest 3 _ rfl el
 · refine ⟨_,(ae (ay (i:=3) nd rfl .(8) (aA aP (aI rfl m_len (aa (zn 2) ab) rfl rfl) ah))
    (ae (ay (i:=4) nd rfl .(8) (aW (aj (av hu) (zn 0) am (ao _)) ah ah))
    ht2)),?_⟩
   refine ⟨_,.inr ha,?_⟩;exact rest 1 _ rfl el
end
end K73
namespace K73
open PySem L2 MRow M34 M80
def jW:Sp:=fun vs H Q _=>∃ (k:Addr) (n:Nat),vs=[.ref k,.int n]/\n<=600/\H k=some (.tup [.str "all"])/\∀ p H',Same H H'->H' p=some (.tup ((tb (R n) (n+1)).map V.int))->Q (.ref p) H'
theorem uQ {P:Program} {w:World} {K:PySem.W.Frag} {mg:.(32)} {base:Heap} {k:Nat} {ps:List Str} (F:FnA P w K mg base "counts" k ps ca):FnA P w K mg base "counts" k ps jW:=by
 obtain ⟨f,fd,F1,b,kp,m⟩:=F.ex;refine ⟨⟨f,fd,F1.imp fun vs H Q E h=>?_,b,kp,m⟩⟩;obtain ⟨c,n,rfl,hn,hc,q⟩:=h;refine ⟨c,n,.all,rfl,hn,hc,trivial,fun p H' y hp=>q p H' y ?_⟩;rw [hp,← iE];rfl
def j2 (w:Str) (n:Nat):List (Int×Int):=(vals n).map fun v=>(v,tot (wb w) n v.natAbs)
theorem df (w:Str) (n:Nat):(j2 w n).length=2*n+1:=by unfold j2;rw [zA0,gm]
theorem pF {w:Str} {n i:Nat} (h:i<2*n+1):(j2 w n)[i]? = some (-(n:Int)+(i:Int),tot (wb w) n (-(n:Int)+(i:Int)).natAbs):=by
 unfold j2;rw [List.getElem?_map,List.getElem?_eq_getElem (show i<(vals n).length by rw [gm];exact h),sk];rfl
theorem filtP {ps:List (Int×Int)} {i:Nat} {q:Int×Int} (hi:ps[i]? = some q) (P:Int×Int->Bool):(ps.take (i+1)).filter P=(ps.take i).filter P++if P q=true then [q] else []:=by
 rw [zC3,hi,zF6];congr 1;show List.filter P [q]=_;rw [List.filter_cons];split <;> rfl
section
variable {P:Program} {w:World} {K:PySem.W.Frag} {mg:Str->Option Value} {base:Heap} {f:Addr} {fd:FuncData}
theorem sc_spr:FnScope ["which","n","everything","told"] ["which","n"] (ap (top 98)):=.(0)
def qB:Sp:=fun vs H Q _=>∃ (x:Str) (n:Nat),vs=[.str x,.int n]/\Wh x/\n<=100/\∀ r us H',Same H H'->H' r=some (.tup us)->Prs H' us (ck x n)->Q (.ref r) H'
theorem ok_spr (F:Fun K "spread" "spread" (top 98) f fd) (m_range:mg "range" = none) (m_tuple:mg "tuple" = none) (F_counts:FnA P w K mg base "counts" 4 ["kind","most"] ca) (F_many_with:FnA P w K mg base "many_with" 1 ["which","value","everything"] sp_mw) (F_value_of:FnA P w K mg base "value_of" 2 ["which","parting"] sp_vo):FnOk P w K mg base CX0 5 f fd ["which","n"] qB:=by
 have F_counts:=uQ F_counts;refine F.okz sc_spr .(10) .(2)
 · obtain ⟨x,n,rfl,_⟩:=h;rfl
 obtain ⟨x,n,rfl,hx,hn,q⟩:=h;have nd:=sc_spr.nd;have hu:=hr.units;refine ⟨_,(ae (aC (aj fW (zn 1) ah (ao _)) (ai (aq (aK (aa (aK (aa (au F_value_of hr (by decide) rfl (aa (zn 0) (aa (aA ba (aK (aa ah ab)) (zn 1)) ab))) (aa ah ab))) ab)))) ak)
  (ae (ay (i:=2) nd rfl (Or.inr rfl) (au F_counts hr (by decide) rfl (aa (aK (aa am ab)) .(29))))
  (ae (fK (i:=3) ["value"] [("which",0),("everything",2)] rfl nd rfl .(8) .(5) (bj rfl m_range (aa (dX cu (zn 1)) (aa (aA aB (zn 1) ah) ab))) aG (fun _ _ _ _=>az (i:=0) (show List.Nodup (["value","which","everything"]:List Str) by decide +kernel) rfl .(8)) (fun _ _ _ _=>aY) (fun _ _ _ _=>(aK (aa (zn 0) (aa (au F_many_with hr (by decide) rfl (aa (zn 1) (aa (zn 0) (aa (zn 2) ab)))) ab)))))
  (ai (aq (bD rfl m_tuple (aa (aQ ["value","many"] [] rfl .(5) (bG (zn 3)) uC (fun _ _ _ _=>eF rfl (aV (az (i:=0) (show List.Nodup (["value","many"]:List Str) by decide +kernel) rfl .(8)) (aV (az (i:=1) (show List.Nodup (["value","many"]:List Str) by decide +kernel) rfl .(8)) cP))) (fun _ _ _ _=>(bX (aj cw (zn 1) ah (ao _)))) (fun _ _ _ _=>(aK (aa (zn 0) .(29))))) ab) rfl rfl)))))),?_⟩
 refine bK (fun c=>?_) (fun c=>?_)
 · have c':(n:Int)<2:=c;refine ⟨by show 1<=sizeLine;decide,fun d hd=>?_⟩;have yd:=Same.new hd (.tup [V.int 1]);refine ⟨⟨by lia,by lia⟩,.inr ⟨_,af,cT (by show 1*(n:Int).toNat<=1000;lia),fun r1 H1 y1 hr1=>?_⟩⟩;rw [cJ,Int.toNat_natCast] at hr1;refine ⟨x,r1,n,rfl,hx,hn,hr1,fun H2 y2=>?_⟩;refine ⟨by show 2<=sizeLine;decide,fun d2 hd2=>?_⟩;have y3:=Same.new hd2 (.tup [V.int (v01 x n),.int 1]);refine ⟨by show 1<=sizeLine;decide,fun d3 hd3=>?_⟩;have y4:=Same.new hd3 (.tup [V.ref d2]);refine q d3 [.ref d2] _ ((yd.trans (y1.trans y2)).trans (y3.trans y4)) af ?_;unfold ck;rw [if_pos (by lia)];exact .cons ⟨d2,rfl,y4 _ _ af⟩ .nil
 · have c':¬ (n:Int)<2:=c;refine ⟨by show 1<=sizeLine;decide,fun d hd=>?_⟩;have yd:=Same.new hd (.tup [V.str "all"]);refine ⟨d,n,rfl,by lia,af,fun ev H1 y1 hev=>?_⟩;have y01:=yd.trans y1;refine ⟨(n:Int),rfl,?_⟩;refine ⟨-(n:Int),(n:Int)+1,rfl,⟨by lia,by lia,by lia,by lia⟩,?_⟩;have en:((n:Int)+1 - -(n:Int)).toNat=2*n+1:=by lia
   rw [en];refine cj (fun i zs H'=>Same H1 H'/\i<=2*n+1/\Prs H' zs ((j2 x n).take i)) ⟨Same.refl _,zB0 _,.nil⟩ ?_ ?_
   · rintro i zs H' hi ⟨y,_,pr⟩;have l1:=pr.length;rw [zB3,df] at l1;refine ⟨aE (by lia),?_⟩;refine ⟨x,-(n:Int)+(i:Int),ev,n,rfl,hx,hn,by lia,y _ _ hev,?_⟩;refine ⟨by show 2<=sizeLine;decide,fun d2 hd2=>?_⟩;have y2:=Same.new hd2 (.tup [V.int (-(n:Int)+(i:Int)),.int (tot (wb x) n (-(n:Int)+(i:Int)).natAbs)]);refine ⟨y.trans y2,by lia,?_⟩;rw [zC3,pF hi];exact Prs.snoc (p:=(-(n:Int)+(i:Int),tot (wb x) n (-(n:Int)+(i:Int)).natAbs)) ⟨d2,rfl,af⟩ (pr.same y2)
   · rintro zs H2 ⟨y2,_,pr⟩ D hD;rw [zA6 (by rw [df];exact zA1 _)] at pr;have yD:=Same.new hD (.lst zs);have hDD:upd H2 D (.lst zs) D=some (.lst zs):=af;have pr3:=pr.same yD;have y3:=(y01.trans y2).trans yD;generalize upd H2 D (.lst zs)=H3 at hDD pr3 y3;have l3:=pr3.length;rw [df] at l3;refine ⟨D,rfl,⟨_,SqL.of hDD⟩,bW (xs:=zs) (fun i us H'=>Same H3 H'/\us.length<=i/\Prs H' us (((j2 x n).take i).filter fun q=>decide (0<q.2))) ⟨Same.refl _,zA1 _,.nil⟩ ?_ ?_ ?_⟩
     · rintro i us H' _ ⟨y,_⟩;exact SqL.of (y _ _ hDD)
     · rintro i z us H' hz ⟨y,ul,pu⟩;have hi:i<zs.length:=(List.getElem?_eq_some_iff.mp hz).1;obtain ⟨q',hq',b,rfl,hb⟩:=pr3.get hz;refine ⟨aE (by lia),?_⟩;refine ⟨b,_,rfl,SqT.of (y _ _ hb),rfl,_,_,rfl,_,_,rfl,rfl,?_⟩;refine bK (fun c3=>?_) (fun c3=>?_)
       · have c3':0<q'.2:=c3;refine ⟨by show 2<=sizeLine;decide,fun d4 hd4=>?_⟩;have y4:=Same.new hd4 (.tup [V.int q'.1,.int q'.2]);refine ⟨y.trans y4,by rw [zA4];show us.length+1<=i+1;lia,?_⟩;rw [filtP hq',if_pos (decide_eq_true c3')];exact (pu.same y4).snoc ⟨d4,rfl,af⟩
       · have c3':¬ 0<q'.2:=c3;refine ⟨y,by lia,?_⟩;rw [filtP hq',if_neg (by simpa using c3'),zC9];exact pu
     · rintro us H4 ⟨y4,_,pu⟩ D2 hD2;rw [zA6 (by rw [df,l3];exact zA1 _)] at pu;refine ⟨_,.inl (SqL.of af),fun r H5 y5 hr5=>?_⟩;have yy:=(Same.new hD2 (.lst us)).trans y5;refine q r us H5 ((y3.trans y4).trans yy) hr5 ?_;unfold ck;rw [if_neg (by lia)];exact pu.same yy
def Sml (ps:List (Int×Int)):Prop:=ps.length<=1000/\∀ q∈ps,(-1000000000<q.1/\q.1<1000000000)/\(-1000000000<q.2/\q.2<1000000000)
end
end K73
namespace K73
open PySem L2 MRow M34
def kl (t:Nat) (acc:List Int) (q:Int×Int):List Int:=acc.set (q.1 % (t:Int)).toNat (acc.getD (q.1 % (t:Int)).toNat 0+q.2)
def bks (t:Nat) (ps:List (Int×Int)):List Int:=ps.foldl (kl t) (List.replicate t 0)
theorem jQ (t:Nat) (acc:List Int) (q:Int×Int):(kl t acc q).length=acc.length:=by unfold kl;rw [List.length_set]
theorem jH (t:Nat):∀ (ps:List (Int×Int)) (acc:List Int),(ps.foldl (kl t) acc).length=acc.length
 | [],acc=>rfl
 | q::ps,acc=>by rw [zH9,jH t ps,jQ]
theorem bA (t:Nat) (ps:List (Int×Int)):(bks t ps).length=t:=by unfold bks;rw [jH,zC8]
theorem jO {t i:Nat} {ps:List (Int×Int)} {q:Int×Int} (h:ps[i]? = some q):bks t (ps.take (i+1))=kl t (bks t (ps.take i)) q:=by
 unfold bks;rw [zC3,h,List.foldl_append];rfl
theorem lw {t:Nat} (h:0<t) (v:Int):0<=v % (t:Int)/\v % (t:Int)<(t:Int):=⟨Int.emod_nonneg _ (by lia),Int.emod_lt_of_pos _ (by lia)⟩
theorem jG {t:Nat}:∀ (ps:List (Int×Int)) (acc:List Int) (B:Int),0<=B->(∀ q∈ps,-1000000000<q.2/\q.2<1000000000)->(∀ a∈acc,-B<=a/\a<=B)->∀ a∈ps.foldl (kl t) acc,-(B+1000000000*(ps.length:Int))<=a/\a<=B+1000000000*(ps.length:Int)
 | [],acc,B,hB,_,h=>fun a ha=>by
   have:=h a ha;show -(B+1000000000*0)<=a/\a<=B+1000000000*0;lia
 | q::ps,acc,B,hB,hq,h=>fun a ha=>by
   have h0:=hq q zA3;have:=jG ps (kl t acc q) (B+1000000000) (by lia) (fun q h=>hq q (zA5 _ h)) (fun b hb=>by
    rcases List.mem_or_eq_of_mem_set hb with h1 | h1
    · have:=h b h1;lia
    · have:-B<=acc.getD (q.1 % (t:Int)).toNat 0/\acc.getD (q.1 % (t:Int)).toNat 0<=B:=by
       rw [zA9];by_cases hj:(q.1 % (t:Int)).toNat<acc.length
       · rw [List.getElem?_eq_getElem hj];exact h _ (zB4 hj)
       · rw [List.getElem?_eq_none (by lia)];show -B<=0/\0<=B;lia
      lia) a ha
   rw [zB5];lia
theorem fB {t:Nat} {ps:List (Int×Int)} (h:Sml ps):∀ a∈bks t ps,-(2 ^ 100)<a/\a<2 ^ 100:=fun a ha=>by
 have:=jG ps (List.replicate t 0) 0 (by lia) (fun q hq=>(h.2 q hq).2) (fun b hb=>by rw [List.eq_of_mem_replicate hb];decide) a ha;have l:=h.1;have e:(2:Int) ^ 100=1267650600228229401496703205376:=by decide
 lia
section
variable {P:Program} {w:World} {K:PySem.W.Frag} {mg:Str->Option Value} {base:Heap} {f:Addr} {fd:FuncData}
theorem sc_sh:FnScope ["which","n","t","told","value","many"] ["which","n","t"] (ap (top 99)):=.(0)
def kU:Sp:=fun vs H Q _=>∃ (x:Str) (n t:Nat),vs=[.str x,.int n,.int t]/\Wh x/\n<=100/\1<=t/\t<=1000/\∀ r H',Same H H'->H' r=some (.tup ((bks t (ck x n)).map V.int))->Q (.ref r) H'
theorem ok_sh (F:Fun K "shares" "shares" (top 99) f fd) (m_tuple:mg "tuple" = none) (F_spread:FnA P w K mg base "spread" 5 ["which","n"] qB):FnOk P w K mg base CX0 6 f fd ["which","n","t"] kU:=by
 refine F.okz sc_sh .(10) .(2)
 · obtain ⟨x,n,t,rfl,_⟩:=h;rfl
 obtain ⟨x,n,t,rfl,hx,hn,t1,t2,q⟩:=h;have nd:=sc_sh.nd;have hu:=hr.units;refine ⟨_,(ae (ay (i:=3) nd rfl .(8) (aA ba (aO (aa ah ab)) (zn 2)))
  (ae (bi PassesOwn.never rfl (bJ (au F_spread hr (by decide) rfl (aa (zn 0) .(29)))) (eF rfl (aV (az (i:=4) nd rfl .(8)) (aV (az (i:=5) nd rfl .(8)) cP))) (ai (gg (zn 3) (aA bn (zn 4) (zn 2)) eC (zn 5) dI dc)))
  (ai (aq (bD rfl m_tuple (aa (zn 3) ab) rfl rfl))))),?_⟩
 refine ⟨by show 1<=sizeLine;decide,fun d hd=>?_⟩;have yd:=Same.new hd (.lst [V.int 0]);refine ⟨⟨by lia,by lia⟩,.inl ⟨_,af,cT (by show 1*(t:Int).toNat<=1000;lia),fun L hL=>?_⟩⟩;rw [cJ,Int.toNat_natCast];have yL:=Same.new hL (.lst ((List.replicate t (0:Int)).map V.int));have hLL:upd (upd H d (.lst [V.int 0])) L (.lst ((List.replicate t (0:Int)).map V.int)) L=some (.lst ((bks t []).map V.int)):=af;have hLH:H L=none:=bp yd hL;have y0:=yd.trans yL;generalize upd (upd H d (.lst [V.int 0])) L (.lst ((List.replicate t (0:Int)).map V.int))=H0 at hLL y0;refine ⟨x,n,rfl,hx,hn,fun r us H1 y1 hr1 pu=>?_⟩;have hL1:=y1 _ _ hLL;have z1:=y0.trans y1;have rL:r≠L:=fun z=>by rw [z,hL1] at hr1;cases hr1
 refine ⟨r,rfl,⟨_,SqT.of hr1⟩,gK (xs:=us) (fun i σ H'=>(∀ b o,b≠L->H1 b=some o->H' b=some o)/\H' L=some (.lst ((bks t ((ck x n).take i)).map V.int))/\∃ x4 x5,σ=[some (.str x),some (.int n),some (.int t),some (.ref L),x4,x5]) ⟨fun b o _ e=>e,hL1,_,_,rfl⟩ ?_ ?_ ?_⟩
 · rintro i σ H' _ ⟨k,_⟩;exact SqT.of (k _ _ rL hr1)
 · rintro i z σ H' hz ⟨k,hL',x4,x5,rfl⟩;obtain ⟨q',hq',b,rfl,hb⟩:=pu.get hz;have bL:b≠L:=fun z=>by rw [z,hL1] at hb;cases hb
   refine ⟨b,_,rfl,SqT.of (k _ _ bL hb),rfl,_,_,rfl,_,_,rfl,rfl,?_⟩;have rl:=lw (t:=t) (by lia) q'.1;have hj:(q'.1 % (t:Int)).toNat<(bks t ((ck x n).take i)).length:=by rw [bA];lia
   refine ⟨show (0:Int)<(t:Int) by lia,?_⟩;refine ⟨_,.int ((bks t ((ck x n).take i)).getD (q'.1 % (t:Int)).toNat 0),SqL.of hL',rl.1,?_,?_⟩
   · rw [List.getElem?_map,List.getElem?_eq_getElem hj,zA9,List.getElem?_eq_getElem hj];rfl
   refine ⟨_,hL',rl.1,by rw [zA0];exact hj,fun c o nc e=>by rw [aH nc];exact k c o nc e,?_,_,_,rfl⟩;rw [af,jO hq'];unfold kl;rw [← List.map_set]
 · rintro σ H' ⟨k,hL',x4,x5,rfl⟩;rw [zA6 (by rw [pu.length];exact zA1 _)] at hL';refine ⟨_,.inl (SqL.of hL'),fun r2 H2 y2 hr2=>q r2 H2 (fun c o e=>y2 _ _ (k c o (fun z=>by rw [z,hLH] at e;cases e) (z1 _ _ e))) hr2⟩
end
theorem v01_rank:v01 "rank" 0=0/\v01 "rank" 1=0:=by decide
theorem v01_mark:v01 "mark" 0=0/\v01 "mark" 1=-1:=by decide
theorem ja {n:Nat} {v:Int} (h:v∈vals n):v.natAbs<=n:=by
 obtain ⟨i,hi,rfl⟩:=zD2.mp h;have:=zE7.mp hi;lia
theorem da {x:Str} {n:Nat} (hx:Wh x) (hn:n<=100):Sml (ck x n):=by
 by_cases h2:n<2
 · unfold ck;rw [if_pos h2];refine ⟨by show 1<=1000;decide,fun q hq=>?_⟩;have:q=(v01 x n,1):=by simpa using hq
   subst this;have:n=0\/n=1:=by lia
   rcases this with rfl | rfl
   · rcases hx with rfl | rfl
     · rw [v01_rank.1];decide
     · rw [v01_mark.1];decide
   · rcases hx with rfl | rfl
     · rw [v01_rank.2];decide
     · rw [v01_mark.2];decide
 · unfold ck;rw [if_neg h2];refine ⟨?_,fun q hq=>?_⟩
   · refine zE6 (zG8 _ _) ?_;rw [zA0,gm];lia
   · obtain ⟨v,hv,rfl⟩:=zD2.mp (List.mem_filter.mp hq).1;have h1:=su (wb_ok hx) (show 2<=n by lia) hn (ja hv);have h3:=ja hv;show (-1000000000<v/\v<1000000000)/\(-1000000000<tot (wb x) n v.natAbs/\tot (wb x) n v.natAbs<1000000000)
     lia
def nU (ns:List Int):Bool:=ns.any fun m=>!decide (V.int m=V.int (ns.headD 0))
theorem sq {ns:List Int} (h:∀ m∈ns,m=ns.headD 0):nU ns=false:=by
 unfold nU;rw [List.any_eq_false];intro m hm;rw [h m hm,decide_eq_true rfl];decide
theorem sr {ns:List Int} {a b:Int} (hn:ns≠[]) (ha:a∈ns) (hb:b∈ns) (h1:∀ n∈ns,a<=n) (h2:∀ n∈ns,n<=b):(!decide (V.int a=V.int b))=nU ns:=by
 have hh:ns.headD 0∈ns:=by
  cases ns with
  | nil=>exact absurd rfl hn
  | cons x xs=>exact zA3
 by_cases e:a=b
 · subst e;rw [decide_eq_true rfl,sq fun m hm=>by have:=h1 m hm;have:=h2 m hm;have:=h1 _ hh;have:=h2 _ hh;lia];rfl
 · have:nU ns=true:=by
    unfold nU;rw [List.any_eq_true];by_cases e2:a=ns.headD 0
    · refine ⟨b,hb,?_⟩;rw [decide_eq_false fun z=>e (by rw [V.int.inj z,← e2])];rfl
    · exact ⟨a,ha,by rw [decide_eq_false fun z=>e2 (V.int.inj z)];rfl⟩
   rw [this,decide_eq_false fun z=>e (V.int.inj z)];rfl
def un (x:Str) (n t:Nat):Bool:=nU (bks t (ck x n))
def nn (t a m:Nat):Nat:=(Builtin.Range.rangeSize (a:Int) ((m:Int)+1) (t:Int)).toNat
def fuO (x:Str) (t a m:Nat):Option Nat:=(List.range (nn t a m)).find? fun i=>un x (a+i*t) t
def fuV (x:Str) (t a m:Nat):V:=match fuO x t a m with | some i=>.int ((a+i*t:Nat):Int) | none=>.non
theorem uL {x:Str} {t a m:Nat} {n i:Nat} (ht:1<=t) (h:i<nn t a m) (hn:n=a+i*t):n<=m:=by
 have:=M27.size_lt (a:=(a:Int)) (b:=(m:Int)+1) (m:=(t:Int)) (by lia) h;have:((a+i*t:Nat):Int)=(a:Int)+(i:Int)*(t:Int):=by rw [zE3,zF5]
 lia
theorem uI {x:Str} {t a m i:Nat} (hi:i<nn t a m) (h:un x (a+i*t) t=true) (hb:∀ j,j<i->un x (a+j*t) t=false):fuV x t a m=.int ((a+i*t:Nat):Int):=by
 unfold fuV;have:fuO x t a m=some i:=List.find?_range_eq_some.mpr ⟨h,zE7.mpr hi,fun j hj=>by show (!un x (a+j*t) t)=true;rw [hb j hj];rfl⟩;rw [this]
theorem uK {x:Str} {t a m:Nat} (hb:∀ j,j<nn t a m->un x (a+j*t) t=false):fuV x t a m=.non:=by
 unfold fuV;have:fuO x t a m=none:=List.find?_range_eq_none.mpr fun j hj=>by show (!un x (a+j*t) t)=true;rw [hb j hj];rfl
 rw [this]
section
variable {P:Program} {w:World} {K:PySem.W.Frag} {mg:Str->Option Value} {base:Heap} {f:Addr} {fd:FuncData}
theorem sc_fu:FnScope ["which","t","a","most","n","told"] ["which","t","a","most"] (ap (top 100)):=.(0)
def oB:Sp:=fun vs H Q _=>∃ (x:Str) (t a m:Nat),vs=[.str x,.int t,.int a,.int m]/\Wh x/\1<=t/\t<=1000/\a<=1000/\m<=100/\∀ H',Same H H'->Q (fuV x t a m) H'
theorem ok_fu (F:Fun K "first_uneven" "first_uneven" (top 100) f fd) (m_max:mg "max" = none) (m_min:mg "min" = none) (m_range:mg "range" = none) (F_shares:FnA P w K mg base "shares" 6 ["which","n","t"] kU):FnOk P w K mg base CX0 7 f fd ["which","t","a","most"] oB:=by
 refine F.okz sc_fu .(10) .(2)
 · obtain ⟨x,t,a,m,rfl,_⟩:=h;rfl
 obtain ⟨x,t,a,m,rfl,hx,t1,t2,a1,m1,q⟩:=h;have nd:=sc_fu.nd;have hu:=hr.units;refine ⟨_,(ae (bi PassesOwn.never rfl (cA rfl m_range (aa (zn 2) (aa (aA aB (zn 3) ah) .(29)))) (az (i:=4) nd rfl .(8)) (ae (ay (i:=5) nd rfl .(8) (au F_shares hr (by decide) rfl (aa (zn 0) (aa (zn 4) .(29)))))
  (ai (aC (aj (bg hu) (oh rfl rfl m_min (aa (zn 5) ab) rfl rfl) (kC rfl rfl m_max (aa (zn 5) ab) rfl rfl) (ao _)) (ai (aq (zn 4))) ak))))
  (ai (aq eG))),?_⟩
 refine ⟨(a:Int),(m:Int)+1,(t:Int),rfl,⟨by lia,⟨by lia,by lia⟩,M27.small_up (by lia) (by lia) (by lia) (by lia) (by lia) (by lia)⟩,?_⟩;refine ci (fun i σ H'=>Same H H'/\(∀ j,j<i->un x (a+j*t) t=false)/\∃ x4 x5,σ=[some (.str x),some (.int t),some (.int a),some (.int m),x4,x5]) ⟨Same.refl _,fun j hj=>absurd hj (Nat.not_lt_zero _),_,_,rfl⟩ ?_ ?_
 · rintro i σ H' hi ⟨y,hb,x4,x5,rfl⟩;have hi':i<nn t a m:=hi;have en:(a:Int)+(i:Int)*(t:Int)=((a+i*t:Nat):Int):=by rw [zE3,zF5]
   rw [en];have hn:=uL (x:=x) t1 hi' rfl;refine ⟨x,a+i*t,t,rfl,hx,by lia,t1,t2,fun r H1 y1 hr1=>?_⟩;have ne:bks t (ck x (a+i*t))≠[]:=fun z=>by have:=bA t (ck x (a+i*t));rw [z] at this;simp at this;lia
   refine ⟨_,hr1,ne,fun M hM hM2=>?_⟩;refine ⟨_,.inr hr1,ne,fun M' hM' hM2'=>?_⟩;show if (!decide (V.int M=V.int M'))=true then _ else _
   rw [sr ne hM hM' hM2 hM2'];refine cU (fun c=>?_) (fun c=>?_)
   · rw [← uI hi' c hb];exact q _ (y.trans y1)
   · refine ⟨y.trans y1,fun j hj=>?_,_,_,rfl⟩;by_cases e:j=i
     · subst e;exact c
     · exact hb j (by lia)
 · rintro σ H' ⟨y,hb,x4,x5,rfl⟩;have:=uK (x:=x) (t:=t) (a:=a) (m:=m) hb;rw [← this];exact q _ y
end
end K73
namespace L2
open PySem PySem.Spec PyProof.Rows
def FnV (P:Program) (w:World) (K:PySem.W.Frag) (mg:.(32)) (base:Heap) (f:Addr) (k:Nat) (ps:List Str) (sp:Sp):Prop:=∃ fd,FnOk P w K mg base CX0 k f fd ps sp/\Binds K fd ps []/\PySem.W.keepIn K (.ref f)=true
section
variable {X:Cx}
def qz (P:Program) (w:World) (K:PySem.W.Frag) (mg:.(32)) (base:Heap) (k' i:Nat) (t:TA):TE:=fun σ H Q=>tV i σ H fun v H0=>H0=H/\∃ f k ps sp,v=.ref f/\k<=k'/\FnV P w K mg base f k ps sp/\t σ H fun vs H1=>sp vs H1 Q E0
theorem pj (i:Nat) {x:Str} {k':Nat} {e:Expr} {es:List Expr} {t:TA} {p pos:Pos} (hr:Room k' X.A) (ha:PA X (e::es) t) (hN:X.N[i]? = some x:=by rfl) (hv:Vis X.env.scope x:=by first | exact Or.inl rfl | exact Or.inr .(8) | exact Or.inr (Or.inr rfl)) (hd:.(25)=false:=by decide)
 (hcd:(x == ("__classdict__" : Str))=false:=by decide) (he:starEach (e::es) X.env=.(9)::starEach es X.env:=by rfl) (hpl:(backTo pos .(13)).any (·.1)=false:=by rfl) :
 PE X (.Call (.Name x p) (e::es) [] pos) (qz X.prog X.w X.K X.mg X.base k' i t):=by
 intro pins s σ H Q I h;refine wpAny_Call_Name_kw (thn ((pn (X:=X) (pos:=p) i hN hv hd hcd) pins s σ H _ I h) fun v s1 ⟨y,H0,I0,r0,eH,f,k,ps,sp,ey,hk,⟨fd,F1,b1,k1⟩,q⟩=>?_);subst eH ey;obtain rfl:v=Value.ref f:=r0;refine PySem.W.callWith_K (h₀:=X.base) I0.ok.mod.kin k1 (thn (ha pos pins s1 σ H0 _ I0 q) fun us s2 ⟨vs,H1,I1,r,q1⟩=>⟨I1.kIn,?_⟩) he hpl;refine qN (dvs:=[]) (F1.mono hk) hr b1 .nil pass0 I1 r ?_;rw [zC9];exact q1
theorem oe (i:Nat) {x:Str} {k':Nat} {e:Expr} {es:List Expr} {t:TA} {p pos:Pos} (hr:Room k' X.A) (ha:ZA X (e::es) t) (hN:X.N[i]? = some x:=by rfl) (hv:Vis X.env.scope x:=by first | exact Or.inl rfl | exact Or.inr .(8) | exact Or.inr (Or.inr rfl)) (hd:.(25)=false:=by decide)
 (hcd:(x == ("__classdict__" : Str))=false:=by decide) (he:starEach (e::es) X.env=.(9)::starEach es X.env:=by rfl) (hpl:(backTo pos .(13)).any (·.1)=false:=by rfl) :
 ZE X (.Call (.Name x p) (e::es) [] pos) (qz X.prog X.w X.K X.mg X.base k' i t):=by with_unfolding_all exact pj i hr ha hN hv hd hcd he hpl
end
end L2
namespace L2
open PySem PySem.Spec PyProof.Rows PySem.W
section
variable {X:Cx}
theorem ze_cls {x:Str} {C:Addr} {pos:Pos} (hg:Gl X x) (hm:X.mg x=some (.ref C)) (hd:.(25)=false:=by decide):ZE X (.Name x pos) (tC (.ref C)):=by with_unfolding_all exact gA hg hm (show RelV (.ref C) (.ref C) from rfl) hd
end
def j8:List DictEntry->List Str->Bool
 | [],[]=>true
 | e::es,x::xs=>(match e.key with | .str y _=>y == x | _=>false)&&j8 es xs
 | _,_=>false
def qd (K:PySem.W.Frag) (a:Addr) (ks:List Str):Bool:=!(a == sysModules)&&decide ks.Nodup&&(match K.lookup a with
 | some o=>o.cls == .type "dict"&&o.dict.isNone&&o.slots.isEmpty&&(match o.data with | .dict es _=>j8 es.toList ks | _=>false)
 | none=>false)
def p8 (K:PySem.W.Frag) (a:Addr):List Int:=match K.lookup a with
 | some o=>(match o.data with | .dict es _=>es.toList.map (·.hash) | _=>[])
 | none=>[]
def bV (K:PySem.W.Frag) (a:Addr) (x:Str) (f:Addr):Bool:=match K.lookup a with
 | some o=>(match o.data with
   | .dict es _=>(match es.toList.find? (fun e=>match e.key with | .str y _=>decide (y=x) | _=>false) with
     | some e=>(match e.val with | .ref g=>g == f | _=>false)
     | none=>false)
   | _=>false)
 | none=>false
theorem jD (prog:Program) (w:World):∀ {es:List DictEntry} {ks:List Str},j8 es ks=true->es.map (·.hash)=ks.map (hashStr w) ->
 (∀ e∈es,∃ k,(PySem.strKind prog w).is k e.key=true/\e.hash=(PySem.strKind prog w).hash k)/\∃ kvs:List (Str×Value),Pairs (PySem.strKind prog w) es kvs/\kvs.map (·.1)=ks /\
   ∀ x,(kvs.find? fun kv=>kv.1=x).map (·.2)=(es.find? fun e=>match e.key with | .str y _=>decide (y=x) | _=>false).map (·.val)
 | [],[],_,_=>⟨(fun _ h=>(nomatch h)),[],.nil,rfl,fun _=>rfl⟩
 | e::es,x::ks,h,hh=>by
   simp only [j8,zD6] at h;simp only [zC5,List.cons.injEq] at hh;obtain ⟨hk,kvs,hp,hm,hf⟩:=jD prog w h.2 hh.2;obtain ⟨h1,_⟩:=h;split at h1
   · rename_i y t hkey
     obtain rfl:=beq_iff_eq.mp h1;have hi:(PySem.strKind prog w).is y e.key=true:=by rw [hkey];exact strKind_is prog w y t
     refine ⟨fun e' he'=>?_,(y,e.val)::kvs,.cons hi rfl hp,by simp [hm],fun x=>?_⟩
     · rcases zA8.mp he' with rfl | he'
       · exact ⟨y,hi,hh.1⟩
       · exact hk e' he'
     · rw [List.find?_cons,List.find?_cons];simp only [hkey];by_cases hy:y=x
       · simp [hy]
       · simp only [hy,decide_false];exact hf x
   · cases h1
 | [],_::_,h,_=>by simp [j8] at h
 | _::_,[],h,_=>by simp [j8] at h
theorem mU (prog:Program) (w:World) {K:PySem.W.Frag} {h:Heap} (hK:K.In h) {a:Addr} {ks:List Str} (hl:qd K a ks=true) (hh:p8 K a=ks.map (hashStr w)) :
 (a == sysModules)=false/\∃ kvs:List (Str×Value),h.DictOf (PySem.strKind prog w) a kvs/\∀ x f,bV K a x f=true->valueAt kvs x=some (.ref f):=by
 simp only [qd,zD6] at hl;obtain ⟨⟨h0,hn⟩,hl⟩:=hl;split at hl
 · rename_i o ho
   simp only [zD6] at hl;obtain ⟨⟨⟨e1,e2⟩,e3⟩,e4⟩:=hl;split at e4
   · rename_i es ep hd
     have hh':es.toList.map (·.hash)=ks.map (hashStr w):=by rw [← hh];unfold p8;rw [ho];simp only [hd]
     obtain ⟨hk,kvs,hp,hm,hf⟩:=jD prog w e4 hh';refine ⟨by simpa using h0,kvs,⟨o,es,ep,hK _ _ ho,⟨beq_iff_eq.mp e1,by simpa using e2,by simpa using e3⟩,hd,fun e he=>hk e (by simpa using he),hp,by rw [hm];exact of_decide_eq_true hn⟩,fun x f hx=>?_⟩;unfold bV at hx;rw [ho] at hx;simp only [hd] at hx;unfold valueAt;rw [hf x];split at hx
     · rename_i e he
       rw [he];split at hx
       · rename_i g hg
         rw [Option.map_some,hg];exact congrArg some (congrArg Value.ref (beq_iff_eq.mp hx))
       · cases hx
     · cases hx
   · cases e4
 · cases hl
structure DeedG (w:World) (K:PySem.W.Frag) (mg:Str->Option Value) (x:Str) (a:Addr):Prop where
 mg_:mg x=some (.ref a)
 ks:∃ ks,qd K a ks=true/\p8 K a=ks.map (hashStr w)
section
variable {X:Cx}
def lC (K:PySem.W.Frag) (a:Addr):R2:=fun x y H Q=>match x,y with
 | .str z,.ref b=>b=a/\∃ f,bV K a z f=true/\Q (.bl false) H
 | _,_=>False
theorem lX {n:Str} {a:Addr} (D:DeedG X.w X.K X.mg n a):OpR X (compareOp .NotIn) (lC X.K a):=by
 sleep 0;unfold lC at h;split at h
 · obtain ⟨rfl,f,hf,q⟩:=h;obtain ⟨t,rfl⟩:=rx
   cases ry
   obtain ⟨ks,h1,h2⟩:=D.ks;obtain ⟨hs,kvs,dd,hv⟩:=mU X.prog X.w I.kIn h1 h2;refine wpAny_notIn_of (strKind_is X.prog X.w _ t) hs dd.mapOf ?_;rw [hv _ _ hf];exact ⟨.bl false,H,I.tok _,rfl,q⟩
 · exact h.elim
theorem n6 {n:Str} {a:Addr} {pos:Pos} (D:DeedG X.w X.K X.mg n a) (hg:Gl X n) (hd:(n == ("__debug__" : Str))=false:=by decide):ZE X (.Name n pos) (tC (.ref a)):=ze_cls hg D.mg_ hd
def tDeed (K:PySem.W.Frag) (a:Addr) (ti:TE):TE:=fun σ H Q=>ti σ H fun y H1=>∃ z f,y=.str z/\bV K a z f=true/\Q (.ref f) H1
theorem tL {x:Str} {a:Addr} {i:Expr} {ti:TE} {p pos:Pos} (D:DeedG X.w X.K X.mg x a) (hg:Gl X x) (hi:PE X i ti) (hs:NoSl i) (hd:.(25)=false:=by decide):PE X (.Subscript (.Name x p) i pos) (tDeed X.K a ti):=by
 intro pins s σ H Q I h;refine sA PySem.F.slot_dict_getitem.lookup hs (thn ((gA (v:=.ref a) hg D.mg_ rfl hd) pins s σ H (fun x H1=>x=.ref a/\H1=H) I ⟨rfl,rfl⟩) fun u s1 ⟨x,H1,I1,rx,ex,eH⟩=>?_);subst ex eH;obtain rfl:u=Value.ref a:=rx;refine thn (hi pins s1 σ H1 _ I1 h) fun iv s2 ⟨y,H2,I2,ry,z,f,ey,hf,q⟩=>?_;subst ey;obtain ⟨tk,rfl⟩:=ry;obtain ⟨ks,h1,h2⟩:=D.ks;obtain ⟨hs,kvs,dd,hv⟩:=mU X.prog X.w I2.kIn h1 h2;exact ⟨dd.typeIs,wpAny_getItem_of (strKind_is X.prog X.w z tk) dd.mapOf (hv _ _ hf) ⟨.ref f,H2,I2.tok _,rfl,q⟩⟩
theorem sf {x:Str} {a:Addr} {i:Expr} {ti:TE} {p pos:Pos} (D:DeedG X.w X.K X.mg x a) (hg:Gl X x) (hi:ZE X i ti) (hs:NoSl i) (hd:.(25)=false:=by decide):ZE X (.Subscript (.Name x p) i pos) (tDeed X.K a ti):=by with_unfolding_all exact tL D hg hi.p hs hd
theorem tt {body:List Stmt} {h:ExceptHandler} {hs:List ExceptHandler} {pos:Pos} {u:TS} (hb:PSs X.nox body u):PS X (.Try body (h::hs) [] [] pos) u:=by
 intro pins s σ H D I q;refine wpAny_Try_except (wpAny_mono (hb pins s σ H D (I.wish _) q) (fun f s1 q=>?_) fun _ _ z=>False.elim z)
 cases f with
 | next=>
   obtain ⟨σ1,H1,I1,q1⟩:=q
   exact wpAny_execs_nil ⟨σ1,H1,I1.unwish,q1⟩
 | ret v=>
   obtain ⟨v1,σ1,H1,I1,r1,q1⟩:=q
   exact ⟨v1,σ1,H1,I1.unwish,r1,q1⟩
 | brk=>
   obtain ⟨σ1,H1,I1,q1⟩:=q
   exact ⟨σ1,H1,I1.unwish,q1⟩
 | cont=>
   obtain ⟨σ1,H1,I1,q1⟩:=q
   exact ⟨σ1,H1,I1.unwish,q1⟩
theorem kr {body:List Stmt} {h:ExceptHandler} {hs:List ExceptHandler} {pos:Pos} {u:TS} (hb:ZSs X.nox body u):ZS X (.Try body (h::hs) [] [] pos) u:=by with_unfolding_all exact tt hb
end
end L2
set_option exponentiation.threshold 1000
namespace L2
open PySem PySem.Spec PyProof.Rows
def dst (ns:List Int):List Int:=ns.foldl step_dedup []
theorem oI (ns:List Int):(List.range ns.length).map (fun i=>ns.getD i 0)=ns:=by
 refine zG9 (by rw [zA0,List.length_range]) fun i h1 h2=>?_;rw [List.getElem_map,List.getElem_range,zA9,List.getElem?_eq_getElem h2];rfl
theorem iu (ns:List Int):firstMet (fun i=>ns.getD i 0) ns.length=dst ns:=by
 unfold firstMet dst;rw [oI]
section
variable {X:Cx}
def oO:List V->Hp->VK->Prop:=fun vs H Q=>match vs with
 | [.ref l]=>∃ ns:List Int,H l=some (.lst (ns.map V.int))/\ns.length<4000/\∀ p,H p=none->Q (.ref p) (upd H p (.set (fun k=>(dst ns).any (· == k)) (dst ns).length))
 | _=>False
theorem ni (hc:X.calm=true):CallR X (.type "set") oO:=by
 sleep 1;unfold oO at h;split at h
 · rename_i l
   obtain ⟨ns,hl,hn,q⟩:=h;obtain ⟨u,rfl,rx⟩:=cx r
   cases rx
   obtain ⟨its,n,r',ho,hz⟩:=I.lst hl;have il:=cM r';have hlen:its.length=ns.length:=by have:=r'.length;rw [zA0] at this;exact this.symm
   refine call_set_list (items:=its.toArray) (ns:=ns) (I.ok.hd hc) ⟨_,ho,rfl,n,rfl⟩ (by simpa using il) (by rw [zA2,hlen];unfold scanBound;lia) fun h' tk hS hk=>?_;have es:its.toArray.size=ns.length:=by rw [zA2];exact hlen
   rw [es,iu] at hS;have I2:Inv X pins σ (upd H s.heap.objs.size (.set (fun k=>(dst ns).any (· == k)) (dst ns).length)) { s with heap:=h',toks:=tk }:=
    I.laid (t':=tk) (fun b o e=>hk b o (Heap.lt_size e) e) (zA1 _) (show ObjOk X.prog X.w _ _ _ (.set (fun k=>(dst ns).any (· == k)) (dst ns).length) from hS)
   exact ⟨.ref s.heap.objs.size,_,I2,rfl,q _ (I.hok.fresh (zA1 _))⟩
 · exact h.elim
def oV:List V->Hp->VK->Prop:=fun vs H Q=>match vs with
 | [.ref p]=>∃ S n,H p=some (.set S n)/\n<10000/\Q (.int n) H
 | _=>False
theorem nz:CallR X (.builtin "len") oV:=by
 sleep 1;unfold oV at h;split at h
 · rename_i p
   obtain ⟨S,n,hp,hn,q⟩:=h;obtain ⟨u,rfl,rx⟩:=cx r
   cases rx
   obtain ⟨o,es,ep,t,ho,hex,hd,_,_,hb,hf,hes⟩:=I.hok p _ hp;subst hes;exact call_len_set ho hex hd hf (by lia) ⟨.int es.size,H,I.tok _,⟨_,rfl⟩,q⟩
 · exact h.elim
variable {e:Expr} {es:List Expr} {t:TA} {p pos:Pos}
theorem qp:bootBuiltins "set" = some (.type "set"):=by decide +kernel
theorem pk (hc:X.calm=true) (hg:Gl X "set") (hm:X.mg "set" = none) (ha:PA X (e::es) t) (he:.(1)) (hpl:.(3)) :
 PE X (.Call (.Name "set" p) (e::es) [] pos) (tCB oO t):=bP (ni hc) hg hm qp ha (by decide) (by decide) he hpl
theorem og (hc:X.calm=true) (hg:Gl X "set") (hm:X.mg "set" = none) (ha:ZA X (e::es) t) (he:.(1)) (hpl:.(3)) :
 ZE X (.Call (.Name "set" p) (e::es) [] pos) (tCB oO t):=by with_unfolding_all exact pk hc hg hm ha he hpl
theorem pB (hg:Gl X "len") (hm:X.mg "len" = none) (ha:PA X (e::es) t) (he:.(1)) (hpl:.(3)) :
 PE X (.Call (.Name "len" p) (e::es) [] pos) (tCB oV t):=bt nz hg hm PySem.boot_len ha (by decide) (by decide) he hpl
theorem oi (hg:Gl X "len") (hm:X.mg "len" = none) (ha:ZA X (e::es) t) (he:.(1)) (hpl:.(3)) :
 ZE X (.Call (.Name "len" p) (e::es) [] pos) (tCB oV t):=by with_unfolding_all exact pB hg hm ha he hpl
end
theorem mem_step (σ:List Int) (v k:Int):k∈step_dedup σ v↔k∈σ\/k=v:=by
 have h:=step_any σ v k;have e:∀ l:List Int,l.any (· == k)=true↔k∈l:=fun l=>by simp
 rw [← e,h,Bool.or_eq_true,e,decide_eq_true_iff]
theorem mS:∀ (ns σ:List Int),(ns.foldl step_dedup σ).length<=σ.length+ns.length/\((ns.foldl step_dedup σ).length=σ.length+ns.length↔ns.Nodup/\∀ x∈ns,x∉σ)
 | [],σ=>⟨zA1 _,⟨fun _=>⟨.nil,fun x hx=>nomatch hx⟩,fun _=>rfl⟩⟩
 | a::r,σ=>by
   obtain ⟨h1,h2⟩:=mS r (step_dedup σ a);rw [zH9,zB5];have hs:=step_length σ a;have e:(σ.any (· == a))=true↔a∈σ:=by simp
   by_cases c:a∈σ
   · rw [if_pos (e.mpr c)] at hs;refine ⟨by lia,⟨fun z=>by lia,fun ⟨_,z⟩=>absurd c (z a zA3)⟩⟩
   · rw [if_neg (fun z=>c (e.mp z))] at hs;refine ⟨by lia,?_⟩;rw [hs] at h2;rw [show σ.length+(r.length+1)=σ.length+1+r.length by lia,h2,List.nodup_cons];constructor
     · rintro ⟨k1,k2⟩;refine ⟨⟨fun z=>k2 a z ((mem_step σ a a).mpr (.inr rfl)),k1⟩,fun x hx=>?_⟩;rcases zA8.mp hx with z | z
       · rw [z];exact c
       · exact fun z2=>k2 x z ((mem_step σ a x).mpr (.inl z2))
     · rintro ⟨⟨k1,k2⟩,k3⟩;refine ⟨k2,fun x hx z=>?_⟩;rcases (mem_step σ a x).mp z with z | z
       · exact k3 x (zA5 _ hx) z
       · rw [z] at hx;exact k1 hx
theorem dst_le (ns:List Int):(dst ns).length<=ns.length:=by have:=(mS ns []).1;simpa [dst] using this
end L2
namespace K73
open PySem L2 MRow M27 M80 M17 M12 M24 M11 M66 M63 M34 M67 M68
def kN:Kd->Kn
 | .bare w=>if w=Str.ofString "all" then .all else .own
 | .one w n=>if w=Str.ofString "most" then .most n.toNat else if w=Str.ofString "few" then .few n.toNat else if w=Str.ofString "off" then .off n.toNat else .times n.toNat
 | .box a b=>.box a.toNat b.toNat
 | .rests m rs=>.rests m.toNat rs
theorem pW {H:Hp} {c:Addr} {k:Kd} (h:KdAt H c k) (ok:k.Ok):KnAt H c (kN k)/\(kN k).Ok:=by
 have en:∀ n:Int,1<=n->((n.toNat:Nat):Int)=n:=fun n hn=>Int.toNat_of_nonneg (by lia)
 cases k with
 | bare w=>
   rcases ok with rfl | rfl
   · exact ⟨h,trivial⟩
   · exact ⟨h,trivial⟩
 | one w n=>
   have h:H c=some (.tup [.str w,.int n]):=h
   rcases ok with ⟨hw,n1,n2⟩ | ⟨hw,n1,n2⟩
   · have e:=en n n1;rw [← e] at h;rcases hw with rfl | rfl | rfl
     · exact ⟨h,by show n.toNat<=600;lia⟩
     · exact ⟨h,by show n.toNat<=600;lia⟩
     · exact ⟨h,by show 1<=n.toNat/\n.toNat<=600;lia⟩
   · have e:=en n (by lia);rw [← e] at h;subst hw;exact ⟨h,by show 0<n.toNat/\n.toNat<=1000;lia⟩
 | box a b=>
   have h:H c=some (.tup [.str (Str.ofString "box"),.int a,.int b]):=h
   obtain ⟨⟨a1,a2⟩,b1,b2⟩:=ok
   have ea:=en a a1
   have eb:=en b b1
   rw [← ea,← eb] at h
   exact ⟨h,by show a.toNat<=600/\b.toNat<=600;lia⟩
 | rests m rs=>
   obtain ⟨d,h1,h2⟩:=h
   obtain ⟨⟨m1,m2⟩,_⟩:=ok
   have e:=en m (by lia)
   rw [← e] at h1
   exact ⟨⟨d,h1,h2⟩,by show 0<m.toNat/\m.toNat<=1000;lia⟩
theorem um {n:Int} (h0:0<=n) (h1:n<1000):(nt n).length<=3:=by
 obtain ⟨m,rfl⟩:=Int.eq_ofNat_of_zero_le h0;have:=kK 2 m (by lia);have e:(nt (m:Int)).length=(Nat.toDigits 10 m).length:=by
  show (nt (m:Int)).cps.size=_;rw [← zB6,er,zA0]
 lia
def Pg (ns:List Int):Prop:=Prt ns/\ns.sum<=300
theorem Pg.len {ns:List Int} (h:Pg ns):ns.length<=300:=by
 have:=cH h.1.1;have:=h.2;lia
theorem Pg.one {ns:List Int} (h:Pg ns):∀ n∈ns,(1:Int)<=n/\n<=300:=fun n hn=>⟨h.1.1 n hn,zD4 (fY h.1.1 hn) h.2⟩
theorem Pg.num {ns:List Int} (h:Pg ns):Num ns:=fun n hn=>by have:=h.one n hn;lia
theorem Pg.shw {ns:List Int} (h:Pg ns):(shw ns).length<=1201:=by
 have:=sL (ns:=ns) (k:=3) fun n hn=>um (by have:=h.one n hn;lia) (by have:=h.one n hn;lia);have:=h.len;lia
theorem dm {a:Int} (h:-(2 ^ 100)<a/\a<2 ^ 100):a.natAbs.log2<1920:=by
 by_cases e:a.natAbs=0
 · rw [e];decide
 · have:a.natAbs<2 ^ 1920:=zB9 (show a.natAbs<2 ^ 100 by lia) (Nat.pow_le_pow_right (by decide) (by decide));exact (Nat.log2_lt e).mpr this
theorem mi {a:Int} (h:-(2 ^ 100)<a/\a<2 ^ 100):(nt a).length<=200:=by
 have hl:a.natAbs.log2<100:=by
  by_cases e:a.natAbs=0
  · rw [e];decide
  · exact (Nat.log2_lt e).mpr (show a.natAbs<2 ^ 100 by lia)
 have hs:=int_text_length_le (k:=100) (a:=a) (by decide) hl;unfold nt;rw [PySem.ofString_length];lia
def nsx (ns:List Int):Str:=Txt.join .(19) (ns.map nt)
theorem eY {ns:List Int} (hl:ns.length<=1000) (h:∀ a∈ns,-(2 ^ 100)<a/\a<2 ^ 100):((ns.map nt).map (·.length)).sum+(ns.map nt).length*.(19).length<=16777216:=by
 have h2:=nts_sum (ns:=ns) (k:=200) fun n hn=>mi (h n hn);have h3:.(19).length=1:=by decide +kernel
 rw [h3,zA0];lia
def ov (v:V) (w:Str):Str:=match v with
 | .int n=>nt n
 | _=>w
def Pl (v:V):Prop:=v=.non\/∃ n:Int,v=.int n/\0<=n/\n<1000000
theorem mZ {xs zs:List V} {m:Nat} (h:zs.length=m) (h0:0<m):fu (xs++zs) none (some (-(m:Int)))=xs:=by
 unfold fu;rw [HT.sIx_none];have:HT.sIx (xs++zs).length (xs++zs).length (some (-(m:Int)))=xs.length:=by
  unfold HT.sIx;rw [zA4,h];simp;rw [if_pos h0];lia
 rw [this];simp
theorem uO {xs zs:List V} {m:Nat} (h:zs.length=m) (h0:0<m):fu (xs++zs) (some (-(m:Int))) none=zs:=by
 unfold fu;rw [HT.sIx_none];have:HT.sIx (xs++zs).length 0 (some (-(m:Int)))=xs.length:=by
  unfold HT.sIx;rw [zA4,h];simp;rw [if_pos h0];lia
 rw [this];simp [h];exact zA6 (by lia)
section
variable {P:Program} {w:World} {K:PySem.W.Frag} {mg:Str->Option Value} {base:Heap} {f:Addr} {fd:FuncData}
theorem sc_w:FnScope ["parting"] ["parting"] (ap (top 45)):=.(0)
def sp_w:Sp:=fun vs H Q _=>∃ (a:Addr) (ns:List Int),vs=[.ref a]/\H a=some (.tup (ns.map V.int))/\Q (.int ns.sum) H
theorem ok_w (F:Fun K "weight" "weight" (top 45) f fd) (m_sum:mg "sum" = none):FnOk P w K mg base CX0 1 f fd ["parting"] sp_w:=by
 refine F.okz sc_w .(10) .(2)
 · obtain ⟨a,ns,rfl,_⟩:=h;rfl
 obtain ⟨a,ns,rfl,ha,q⟩:=h;have nd:=sc_w.nd;refine ⟨_,(ai (aq (si rfl rfl m_sum (aa (zn 0) ab) rfl rfl))),?_⟩;exact ⟨ns,.inr ha,q⟩
theorem sc_ni:FnScope ["word","least","most"] ["word","least","most"] (ap (top 125)):=.(0)
def oz:Sp:=fun vs H Q _=>∃ (n lo hi:Int),vs=[.str (nt n),.int lo,.int hi]/\0<=n/\n<1000000/\lo<=n/\n<=hi/\∀ H',Same H H'->Q (.int n) H'
theorem ok_ni (F:Fun K "number_in" "number_in" (top 125) f fd) (m_int:mg "int" = none) (F_is_number:FnA P w K mg base "is_number" 1 ["text"] eQ) (F_is_within:FnA P w K mg base "is_within" 2 ["thing","least","most"] bZ):FnOk P w K mg base CX0 3 f fd ["word","least","most"] oz:=by
 refine F.okz sc_ni .(10) .(2)
 · obtain ⟨n,lo,hi,rfl,_⟩:=h;rfl
 obtain ⟨n,lo,hi,rfl,n0,n1,h1,h2,q⟩:=h;have nd:=sc_ni.nd;have hu:=hr.units;have hl6:=bu n0 n1;refine ⟨_,(ae (aC (ZW.zt (ge (bI (bb (au F_is_number hr (by decide) rfl (aa (zn 0) ab)))) (dN (bI (bb (au F_is_within hr (by decide) rfl (aa (gi rfl m_int (aa (zn 0) ab) rfl rfl) (aa (zn 1) (aa (zn 2) ab))))))))) (ai dW) ak)
  (ai (aq (gi rfl m_int (aa (zn 0) ab) rfl rfl)))),?_⟩
 refine ⟨n,rfl,n0,n1,fun H1 y1=>?_⟩;refine ⟨_,gC n0 n1,by lia,?_⟩;refine ⟨n,lo,hi,rfl,h1,h2,?_⟩;refine ⟨_,gC n0 n1,by lia,?_⟩;exact q H1 y1
theorem sc_pin:FnScope ["word","most","parting"] ["word","most"] (ap (top 126)):=.(0)
def qD:Sp:=fun vs H Q _=>∃ (ns:List Int),vs=[.str (shw ns),.int 300]/\Pg ns/\∀ r H',Same H H'->H' r=some (.tup (ns.map V.int))->Q (.ref r) H'
theorem ok_pin (F:Fun K "parting_in" "parting_in" (top 126) f fd)  (F_read_parting:FnA P w K mg base "read_parting" 3 ["thing"] sp_rp) (F_weight:FnA P w K mg base "weight" 1 ["parting"] sp_w):FnOk P w K mg base CX0 4 f fd ["word","most"] qD:=by
 refine F.okz sc_pin .(10) .(2)
 · obtain ⟨ns,rfl,_⟩:=h;rfl
 obtain ⟨ns,rfl,hp,q⟩:=h;have nd:=sc_pin.nd;have hu:=hr.units;have:=hp.shw;have:=hp.len;refine ⟨_,(ae (kr (ai (ay (i:=2) nd rfl .(8) (au F_read_parting hr (by decide) rfl (aa (zn 0) ab)))))
  (ae (aC (aj cw (au F_weight hr (by decide) rfl (aa (zn 2) ab)) (zn 1) (ao _)) (ai dW) ak)
  (ai (aq (zn 2))))),?_⟩
 refine ⟨ns,rfl,by lia,by lia,hp.num,hp.1.2,fun r H1 y1 hr1=>?_⟩;refine ⟨r,ns,rfl,hr1,?_⟩;refine bK (fun c=>absurd c (by have:=hp.2;lia)) (fun _=>?_);exact q r H1 y1 hr1
theorem sc_lf:FnScope ["words","many"] ["words","many"] (ap (top 130)):=.(0)
def oA:Sp:=fun vs H Q _=>∃ (a:Addr) (xs:List V),vs=[.ref a,.int xs.length]/\H a=some (.lst xs)/\Q .non H
theorem ok_lf (F:Fun K "look_for" "look_for" (top 130) f fd) (m_len:mg "len" = none):FnOk P w K mg base CX0 1 f fd ["words","many"] oA:=by
 refine F.okz sc_lf .(10) .(2)
 · obtain ⟨a,xs,rfl,_⟩:=h;rfl
 obtain ⟨a,xs,rfl,ha,q⟩:=h;have nd:=sc_lf.nd;have hu:=hr.units;refine ⟨_,(ai (aC (aj (bg hu) .(28) (zn 1) (ao _)) (ai dW) ak)),?_⟩;refine ⟨_,.inl (SqL.of ha),?_⟩;refine cU (fun c=>absurd c (by simp)) (fun _=>?_);exact q
theorem sc_ki:FnScope ["words"] ["words"] (ap (top 127)):=.(0)
def sp_ki:Sp:=fun vs H Q _=>∃ (a:Addr) (k:Kd),vs=[.ref a]/\H a=some (.lst (k.words.map V.str))/\k.Ok/\∀ c H',Same H H'->KdAt H' c k->Q (.ref c) H'
theorem ok_ki (F:Fun K "kind_in" "kind_in" (top 127) f fd)  (F_read_kind:FnA P w K mg base "read_kind" 6 ["thing"] sp_rk):FnOk P w K mg base CX0 7 f fd ["words"] sp_ki:=by
 refine F.okz sc_ki .(10) .(2)
 · obtain ⟨a,k,rfl,_⟩:=h;rfl
 obtain ⟨a,k,rfl,ha,hk,q⟩:=h;have nd:=sc_ki.nd;have hu:=hr.units;refine ⟨_,(ai (kr (ai (aq (au F_read_kind hr (by decide) rfl (aa (bm am (aa (zn 0) ab)) ab)))))),?_⟩;refine ⟨rfl,_,SqL.of ha,ip hk,?_⟩;exact ⟨k,rfl,hk,fun c H1 y1 hc=>q c H1 y1 hc⟩
theorem sc_ka:FnScope ["words","many"] ["words","many"] (ap (top 128)):=.(0)
def sp_ka:Sp:=fun vs H Q _=>∃ (a:Addr) (k:Kd) (zs:List Str),vs=[.ref a,.int 4]/\H a=some (.lst ((k.words++zs).map V.str))/\zs.length=4/\k.Ok/\∀ t c b H',Same H H'->H' t=some (.tup [.ref c,.ref b])->KdAt H' c k->H' b=some (.lst (zs.map V.str))->Q (.ref t) H'
theorem ok_ka (F:Fun K "kind_ahead" "kind_ahead" (top 128) f fd)  (F_kind_in:FnA P w K mg base "kind_in" 7 ["words"] sp_ki):FnOk P w K mg base CX0 8 f fd ["words","many"] sp_ka:=by
 refine F.okz sc_ka .(10) .(2)
 · obtain ⟨a,k,zs,rfl,_⟩:=h;rfl
 obtain ⟨a,k,zs,rfl,ha,hz,hk,q⟩:=h;have nd:=sc_ka.nd;have hu:=hr.units;rw [zA7] at ha;refine ⟨_,(ai (aq (aK (aa (au F_kind_in hr (by decide) rfl (aa (bB nW (zn 0) cz (bF (dX cu (zn 1)))) ab)) (aa (bB nW (zn 0) (bF (dX cu (zn 1))) cz) ab))))),?_⟩;refine ⟨4,rfl,-4,rfl,a,rfl,.inr ⟨_,SqL.of ha,fun d hd=>?_⟩⟩;have e1:fu (k.words.map V.str++zs.map V.str) none (some (-4))=k.words.map V.str:=mZ (m:=4) (by rw [zA0];exact hz) (by decide);rw [e1];have y1:=Same.new hd (.lst (k.words.map V.str));refine ⟨d,k,rfl,af,hk,fun c H2 y2 hc=>?_⟩;have y12:=y1.trans y2;refine ⟨4,rfl,-4,rfl,a,rfl,.inr ⟨_,SqL.of (y12 _ _ ha),fun b hb=>?_⟩⟩;have e2:fu (k.words.map V.str++zs.map V.str) (some (-4)) none=zs.map V.str:=uO (m:=4) (by rw [zA0];exact hz) (by decide);rw [e2];have y3:=Same.new hb (.lst (zs.map V.str));refine ⟨by show 2<=sizeLine;decide,fun t ht=>?_⟩;have y4:=Same.new ht (.tup [.ref c,.ref b]);exact q t c b _ ((y12.trans y3).trans y4) af (hc.same (y3.trans y4)) (y4 _ _ af)
theorem sc_icl:FnScope ["thing","m","a","q"] ["thing"] (ap (top 15)):=.(0)
def qH:Sp:=fun vs H Q _=>∃ (c:Addr) (m a q:Int),vs=[.ref c]/\H c=some (.tup [.int m,.int a,.int q])/\CB m a q/\Q (.bl true) H
theorem ok_icl (F:Fun K "is_claim" "is_claim" (top 15) f fd) (m_isinstance:mg "isinstance" = none) (m_len:mg "len" = none) (m_tuple:mg "tuple" = none) (g_MOST_STEP:cN mg "MOST_STEP" 600) (g_LEAST_PARTER:cN mg "LEAST_PARTER" 2) (g_MOST_PARTER:cN mg "MOST_PARTER" 1000000) (F_is_within:FnA P w K mg base "is_within" 2 ["thing","least","most"] bZ):FnOk P w K mg base CX0 3 f fd ["thing"] qH:=by
 refine F.okz sc_icl .(10) .(2)
 · obtain ⟨c,m,a,q,rfl,_⟩:=h;rfl
 obtain ⟨c,m,a,q,rfl,hc,⟨m1,m2,a0,a1,q1,q2⟩,fin⟩:=h;have nd:=sc_icl.nd;have hu:=hr.units;refine ⟨_,(ae (aC (ZW.zt (ge (bI (bb (aR rfl m_isinstance (aa (zn 0) (aa (cZ rfl m_tuple) ab)) rfl rfl))) (dN (aj (bg hu) .(28) ah (ao _))))) (ai (aq bR)) ak)
  (ae (dO (zn 0) (eF rfl (aV (az (i:=1) nd rfl .(8)) (aV (az (i:=2) nd rfl .(8)) (aV (az (i:=3) nd rfl .(8)) cP)))))
  (ai (aq (bq (au F_is_within hr (by decide) rfl (aa (zn 1) (aa ah (aa (cC rfl g_MOST_STEP) ab)))) (bq (au F_is_within hr (by decide) rfl (aa (zn 2) (aa ah (aa (aA aP (zn 1) ah) ab)))) (cB (au F_is_within hr (by decide) rfl (aa (zn 3) (aa (cC rfl g_LEAST_PARTER) (aa (cC rfl g_MOST_PARTER) ab))))))))))),?_⟩
 refine ⟨"tuple",(SqK.tup hc).ty,rfl,?_⟩;refine cU (fun c=>absurd c (by decide)) (fun _=>?_);refine ⟨_,.inr hc,?_⟩;refine ⟨c,_,rfl,SqT.of hc,rfl,_,_,rfl,_,_,rfl,_,_,rfl,rfl,?_⟩;refine ⟨m,1,600,rfl,m1,m2,?_⟩;refine ⟨a,0,m - 1,rfl,a0,by lia,?_⟩;exact ⟨q,2,1000000,rfl,q1,q2,fin⟩
theorem sc_wi:FnScope ["word"] ["word"] (ap (top 131)):=.(0)
def sD:Sp:=fun vs H Q _=>∃ (x:Str),vs=[.str x]/\Wh x/\∀ H',Same H H'->Q (.str x) H'
theorem ok_wi (F:Fun K "which_in" "which_in" (top 131) f fd)  : FnOk P w K mg base CX0 1 f fd ["word"] sD:=by
 refine F.okz sc_wi .(10) .(2)
 · obtain ⟨x,rfl,_⟩:=h;rfl
 obtain ⟨x,rfl,hx,q⟩:=h;have nd:=sc_wi.nd;have hu:=hr.units;refine ⟨_,(ae (aC (aj hU (zn 0) (aK (aa am (aa am ab))) (by with_unfolding_all rfl)) (ai dW) ak)
  (ai (aq (zn 0)))),?_⟩
 refine ⟨by show 2<=sizeLine;decide,fun d hd=>?_⟩;refine ⟨d,[.str "rank",.str "mark"],rfl,.inr (SqT.of af),rfl,rfl,?_⟩;refine cU (fun c=>?_) (fun _=>q _ (Same.new hd _));exfalso;rcases hx with rfl | rfl <;> revert c <;> decide
theorem sc_op:FnScope ["words"] ["words"] (ap (top 132)):=.(0)
def sH:Sp:=fun vs H Q _=>∃ (a:Addr) (ns:List Int),vs=[.ref a]/\H a=some (.lst [.str (shw ns)])/\Pg ns/\∀ r H',Same H H'->H' r=some (.tup (ns.map V.int))->Q (.ref r) H'
theorem ok_op (F:Fun K "only_parting" "only_parting" (top 132) f fd)  (g_MOST_WEIGHT:cN mg "MOST_WEIGHT" 300) (F_look_for:FnA P w K mg base "look_for" 1 ["words","many"] oA) (F_parting_in:FnA P w K mg base "parting_in" 4 ["word","most"] qD):FnOk P w K mg base CX0 5 f fd ["words"] sH:=by
 refine F.okz sc_op .(10) .(2)
 · obtain ⟨a,ns,rfl,_⟩:=h;rfl
 obtain ⟨a,ns,rfl,ha,hp,q⟩:=h;have nd:=sc_op.nd;have hu:=hr.units;refine ⟨_,(ae (cy (au F_look_for hr (by decide) rfl (aa (zn 0) (aa ah ab))))
  (ai (aq (au F_parting_in hr (by decide) rfl (aa .(6) (aa (cC rfl g_MOST_WEIGHT) ab)))))),?_⟩
 refine ⟨a,[.str (shw ns)],rfl,ha,?_⟩;refine ⟨_,.inl (SqL.of ha),.str (shw ns),aN (j:=0) rfl rfl,?_⟩;exact ⟨ns,rfl,hp,q⟩
theorem sc_or:FnScope ["number","word"] ["number","word"] (ap (top 136)):=.(0)
def sF:Sp:=fun vs H Q _=>∃ (v:V) (x:Str),vs=[v,.str x]/\Pl v/\Q (.str (ov v x)) H
theorem ok_or (F:Fun K "number_or" "number_or" (top 136) f fd) (m_str:mg "str" = none):FnOk P w K mg base CX0 1 f fd ["number","word"] sF:=by
 refine F.okz sc_or .(10) .(2)
 · obtain ⟨v,x,rfl,_⟩:=h;rfl
 obtain ⟨v,x,rfl,hv,q⟩:=h;have nd:=sc_or.nd;have hu:=hr.units;refine ⟨_,(ai (aq (aW (aj hW (zn 0) eG (ao _)) (zn 1) (aF rfl m_str (aa (zn 0) ab) rfl rfl)))),?_⟩;rcases hv with rfl | ⟨n,rfl,n0,n1⟩
 · exact q
 · exact ⟨be n0 n1,q⟩
end
theorem m3 (x:V) (xs:List V):fu (x::xs) (some 1) none=xs:=cut1 x xs
theorem qQ {ns:List Int} (h:Pg ns):-(2 ^ 100)<rk ns/\rk ns<2 ^ 100:=by
 have:=h.len;have e:(2:Int) ^ 100=1267650600228229401496703205376:=by decide
 unfold rk hd0
 cases ns with
 | nil=>decide
 | cons x r=>have:=h.one x zA3;simp only [List.headD_cons];lia
theorem qX {ns:List Int} (h:Pg ns):-(2 ^ 100)<mk ns/\mk ns<2 ^ 100:=by
 have:=h.len;have e:(2:Int) ^ 100=1267650600228229401496703205376:=by decide
 have c1:=List.count_le_length (a:=(1:Int)) (l:=ns);have c2:(gr ns (ns.count 1)).length<=ns.length:=by unfold gr;exact zG8 _ _
 unfold mk hd0;split
 · cases ns with
   | nil=>decide
   | cons x r=>have:=h.one x zA3;simp only [List.headD_cons];lia
 · lia
theorem uJ {x:Str} {t a m:Nat} (ht:1<=t) (hm:m<=100):Pl (fuV x t a m):=by
 unfold fuV
 cases e:fuO x t a m with
 | none=>exact .inl rfl
 | some i=>
   have hi:=(List.find?_range_eq_some.mp e).2.1
   have:=uL (x:=x) ht (zE7.mp hi) rfl
   exact .inr ⟨_,rfl,by lia,by lia⟩
theorem mI {ns:List Int} {m a q:Int} {v:V} (hl:ns.length<=1000) (h:IsF ns m a q v):Pl v:=by
 rcases h with ⟨rfl,_⟩ | ⟨p,hp,rfl,_⟩
 · exact .inl rfl
 · exact .inr ⟨_,rfl,by lia,by lia⟩
section
variable {P:Program} {w:World} {K:PySem.W.Frag} {mg:Str->Option Value} {base:Heap} {f:Addr} {fd:FuncData}
theorem sc_ark:FnScope ["words"] ["words"] (ap (top 139)):=.(0)
def kZ:Sp:=fun vs H Q _=>∃ (a:Addr) (ns:List Int),vs=[.ref a]/\H a=some (.lst [.str (shw ns)])/\Pg ns/\∀ H',Same H H'->Q (.str (nt (rk ns))) H'
theorem ok_ark (F:Fun K "answer_rank" "answer_rank" (top 139) f fd) (m_str:mg "str" = none) (F_only_parting:FnA P w K mg base "only_parting" 5 ["words"] sH) (F_rank:FnA P w K mg base "rank" 1 ["parting"] iM):FnOk P w K mg base CX0 6 f fd ["words"] kZ:=by
 refine F.okz sc_ark .(10) .(2)
 · obtain ⟨a,ns,rfl,_⟩:=h;rfl
 obtain ⟨a,ns,rfl,ha,hp,q⟩:=h;have nd:=sc_ark.nd;refine ⟨_,(ai (aq (aF rfl m_str (aa (au F_rank hr (by decide) rfl (aa (au F_only_parting hr (by decide) rfl (aa (zn 0) ab)) ab)) ab) rfl rfl))),?_⟩;refine ⟨a,ns,rfl,ha,hp,fun r H1 y1 hr1=>?_⟩;refine ⟨r,ns,rfl,hr1,?_⟩;exact ⟨dm (qQ hp),q H1 y1⟩
theorem sc_amk:FnScope ["words"] ["words"] (ap (top 140)):=.(0)
def lh:Sp:=fun vs H Q _=>∃ (a:Addr) (ns:List Int),vs=[.ref a]/\H a=some (.lst [.str (shw ns)])/\Pg ns/\∀ H',Same H H'->Q (.str (nt (mk ns))) H'
theorem ok_amk (F:Fun K "answer_mark" "answer_mark" (top 140) f fd) (m_str:mg "str" = none) (F_mark:FnA P w K mg base "mark" 1 ["parting"] iN) (F_only_parting:FnA P w K mg base "only_parting" 5 ["words"] sH):FnOk P w K mg base CX0 6 f fd ["words"] lh:=by
 refine F.okz sc_amk .(10) .(2)
 · obtain ⟨a,ns,rfl,_⟩:=h;rfl
 obtain ⟨a,ns,rfl,ha,hp,q⟩:=h;have nd:=sc_amk.nd;refine ⟨_,(ai (aq (aF rfl m_str (aa (au F_mark hr (by decide) rfl (aa (au F_only_parting hr (by decide) rfl (aa (zn 0) ab)) ab)) ab) rfl rfl))),?_⟩;refine ⟨a,ns,rfl,ha,hp,fun r H1 y1 hr1=>?_⟩;refine ⟨r,ns,rfl,hr1,by have:=hp.len;lia,fun H2 y2=>?_⟩;exact ⟨dm (qX hp),q H2 (y1.trans y2)⟩
theorem sc_ash:FnScope ["words","which","n","t"] ["words"] (ap (top 141)):=.(0)
def kY:Sp:=fun vs H Q _=>∃ (a:Addr) (x:Str) (n t:Nat),vs=[.ref a]/\H a=some (.lst [.str x,.str (nt n),.str (nt t)])/\Wh x/\n<=100/\2<=t/\t<=60/\∀ H',Same H H'->Q (.str (nsx (bks t (ck x n)))) H'
theorem ok_ash (F:Fun K "answer_shares" "answer_shares" (top 141) f fd) (m_str:mg "str" = none) (g_LEAST_DIVISOR_answers:cN mg "LEAST_DIVISOR_answers" 2) (g_MOST_DIVISOR_answers:cN mg "MOST_DIVISOR_answers" 60) (g_MOST_SHARED:cN mg "MOST_SHARED" 100) (F_look_for:FnA P w K mg base "look_for" 1 ["words","many"] oA) (F_number_in:FnA P w K mg base "number_in" 3 ["word","least","most"] oz) (F_shares:FnA P w K mg base "shares" 6 ["which","n","t"] kU) (F_which_in:FnA P w K mg base "which_in" 1 ["word"] sD):FnOk P w K mg base CX0 7 f fd ["words"] kY:=by
 refine F.okz sc_ash .(10) .(2)
 · obtain ⟨a,x,n,t,rfl,_⟩:=h;rfl
 obtain ⟨a,x,n,t,rfl,ha,hx,hn,t0,t1,q⟩:=h;have nd:=sc_ash.nd;have hu:=hr.units;refine ⟨_,(ae (cy (au F_look_for hr (by decide) rfl (aa (zn 0) (aa ah ab))))
  (ae (ay (i:=1) nd rfl .(8) (au F_which_in hr (by decide) rfl (aa .(6) ab)))
  (ae (ay (i:=2) nd rfl .(8) (au F_number_in hr (by decide) rfl (aa .(6) (aa ah (aa (cC rfl g_MOST_SHARED) ab)))))
  (ae (ay (i:=3) nd rfl .(8) (au F_number_in hr (by decide) rfl (aa .(6) (aa (cC rfl g_LEAST_DIVISOR_answers) (aa (cC rfl g_MOST_DIVISOR_answers) ab)))))
  (ai (aq (bm am (aa (aQ ["many"] [] rfl .(5) (bJ (au F_shares hr (by decide) rfl (aa (zn 1) (aa (zn 2) (aa (zn 3) ab))))) aG (fun _ _ _ _=>az (i:=0) (show List.Nodup (["many"]:List Str) by decide +kernel) rfl .(8)) (fun _ _ _ _=>aY) (fun _ _ _ _=>(aF rfl m_str (aa (zn 0) ab) rfl rfl))) ab)))))))),?_⟩
 refine ⟨a,[.str x,.str (nt n),.str (nt t)],rfl,ha,?_⟩;refine ⟨_,.inl (SqL.of ha),.str x,aN (j:=0) rfl rfl,?_⟩;refine ⟨x,rfl,hx,fun H1 y1=>?_⟩;refine ⟨_,.inl (SqL.of (y1 _ _ ha)),.str (nt n),aN (j:=1) rfl rfl,?_⟩;refine ⟨n,0,100,rfl,by lia,by lia,by lia,by lia,fun H2 y2=>?_⟩;have y12:=y1.trans y2;refine ⟨_,.inl (SqL.of (y12 _ _ ha)),.str (nt t),aN (j:=2) rfl rfl,?_⟩;refine ⟨t,2,60,rfl,by lia,by lia,by lia,by lia,fun H3 y3=>?_⟩;have y13:=y12.trans y3;refine ⟨rfl,?_⟩;refine ⟨x,n,t,rfl,hx,hn,by lia,by lia,fun r H4 y4 hr4=>?_⟩;have y14:=y13.trans y4;have lim:=fB (t:=t) (da hx hn);have bl:=bA t (ck x n);generalize bks t (ck x n)=ns at hr4 lim bl q;refine ⟨r,rfl,⟨_,SqT.of hr4⟩,bQ (xs:=ns.map V.int) (fun j ys H'=>H'=H4/\ys=((ns.take j).map nt).map V.str) ⟨rfl,by rw [zE4];rfl⟩ ?_ ?_ ?_⟩
 · rintro j ys H' _ ⟨rfl,_⟩;exact SqT.of hr4
 · rintro j v ys H' hv ⟨rfl,rfl⟩;have hj:j<ns.length:=by
    have:=(List.getElem?_eq_some_iff.mp hv).1;rw [zA0] at this;exact this
   have ex:v=.int ns[j]:=by rw [iF hj] at hv;exact (Option.some.inj hv).symm
   subst ex;sleep 2;refine ⟨dm (lim _ (zB4 hj)),?_⟩;refine ⟨rfl,?_⟩;rw [zC3,List.getElem?_eq_getElem hj,zA7,zA7];rfl
 · rintro ys H' ⟨rfl,rfl⟩ D hD;rw [zA0,zA6 (zA1 _)];refine ⟨_,SqL.of af,eY (by lia) lim,?_⟩;exact q _ (y14.trans (Same.new hD _))
theorem sc_aun:FnScope ["words","which","t","a","most"] ["words"] (ap (top 142)):=.(0)
def kX:Sp:=fun vs H Q _=>∃ (d:Addr) (x:Str) (t a m:Nat),vs=[.ref d]/\H d=some (.lst [.str x,.str (nt t),.str (nt a),.str (nt m)])/\Wh x/\2<=t/\t<=60/\a<t/\m<=100/\∀ H',Same H H'->Q (.str (ov (fuV x t a m) (Str.ofString "even"))) H'
theorem ok_aun (F:Fun K "answer_uneven" "answer_uneven" (top 142) f fd)  (g_LEAST_DIVISOR_answers:cN mg "LEAST_DIVISOR_answers" 2) (g_MOST_DIVISOR_answers:cN mg "MOST_DIVISOR_answers" 60) (g_MOST_SHARED:cN mg "MOST_SHARED" 100) (F_first_uneven:FnA P w K mg base "first_uneven" 7 ["which","t","a","most"] oB) (F_look_for:FnA P w K mg base "look_for" 1 ["words","many"] oA) (F_number_in:FnA P w K mg base "number_in" 3 ["word","least","most"] oz) (F_number_or:FnA P w K mg base "number_or" 1 ["number","word"] sF) (F_which_in:FnA P w K mg base "which_in" 1 ["word"] sD):FnOk P w K mg base CX0 8 f fd ["words"] kX:=by
 refine F.okz sc_aun .(10) .(2)
 · obtain ⟨d,x,t,a,m,rfl,_⟩:=h;rfl
 obtain ⟨d,x,t,a,m,rfl,hd,hx,t0,t1,a1,m1,q⟩:=h;have nd:=sc_aun.nd;have hu:=hr.units;refine ⟨_,(ae (cy (au F_look_for hr (by decide) rfl (aa (zn 0) (aa ah ab))))
  (ae (ay (i:=1) nd rfl .(8) (au F_which_in hr (by decide) rfl (aa .(6) ab)))
  (ae (ay (i:=2) nd rfl .(8) (au F_number_in hr (by decide) rfl (aa .(6) (aa (cC rfl g_LEAST_DIVISOR_answers) (aa (cC rfl g_MOST_DIVISOR_answers) ab)))))
  (ae (ay (i:=3) nd rfl .(8) (au F_number_in hr (by decide) rfl (aa .(6) (aa ah (aa (aA aP (zn 2) ah) ab)))))
  (ae (ay (i:=4) nd rfl .(8) (au F_number_in hr (by decide) rfl (aa .(6) (aa ah (aa (cC rfl g_MOST_SHARED) ab)))))
  (ai (aq (au F_number_or hr (by decide) rfl (aa (au F_first_uneven hr (by decide) rfl (aa (zn 1) (aa (zn 2) (aa (zn 3) (aa (zn 4) ab))))) (aa am ab)))))))))),?_⟩
 refine ⟨d,[.str x,.str (nt t),.str (nt a),.str (nt m)],rfl,hd,?_⟩;refine ⟨_,.inl (SqL.of hd),.str x,aN (j:=0) rfl rfl,?_⟩;refine ⟨x,rfl,hx,fun H1 y1=>?_⟩;refine ⟨_,.inl (SqL.of (y1 _ _ hd)),.str (nt t),aN (j:=1) rfl rfl,?_⟩;refine ⟨t,2,60,rfl,by lia,by lia,by lia,by lia,fun H2 y2=>?_⟩;have y12:=y1.trans y2;refine ⟨_,.inl (SqL.of (y12 _ _ hd)),.str (nt a),aN (j:=2) rfl rfl,?_⟩;refine ⟨a,0,(t:Int) - 1,rfl,by lia,by lia,by lia,by lia,fun H3 y3=>?_⟩;have y13:=y12.trans y3;refine ⟨_,.inl (SqL.of (y13 _ _ hd)),.str (nt m),aN (j:=3) rfl rfl,?_⟩;refine ⟨m,0,100,rfl,by lia,by lia,by lia,by lia,fun H4 y4=>?_⟩;refine ⟨x,t,a,m,rfl,hx,by lia,by lia,by lia,m1,fun H5 y5=>?_⟩;exact ⟨_,_,rfl,uJ (by lia) m1,q H5 ((y13.trans y4).trans y5)⟩
theorem sc_acl:FnScope ["words","kind","behind","claim","most"] ["words"] (ap (top 143)):=.(0)
def li:Sp:=fun vs H Q _=>∃ (d:Addr) (k:Kd) (m a n:Nat) (q:Int),vs=[.ref d]/\H d=some (.lst ((k.words++[nt m,nt a,nt q,nt n]).map V.str))/\k.Ok/\CB m a q/\q<1000000/\n<=600/\∀ v H',Same H H'->IsF (tb (cf (kN k) n) (n+1)) m a q v->Q (.str (ov v (Str.ofString "all"))) H'
theorem ok_acl (F:Fun K "answer_claim" "answer_claim" (top 143) f fd) (m_tuple:mg "tuple" = none) (g_MOST_NUMBER:cN mg "MOST_NUMBER" 999999) (g_MOST_COUNTED:cN mg "MOST_COUNTED" 600) (F_counts:FnA P w K mg base "counts" 4 ["kind","most"] ca) (F_first_not:FnA P w K mg base "first_not" 1 ["row","claim"] eg) (F_is_claim:FnA P w K mg base "is_claim" 3 ["thing"] qH) (F_kind_ahead:FnA P w K mg base "kind_ahead" 8 ["words","many"] sp_ka) (F_number_in:FnA P w K mg base "number_in" 3 ["word","least","most"] oz) (F_number_or:FnA P w K mg base "number_or" 1 ["number","word"] sF):FnOk P w K mg base CX0 9 f fd ["words"] li:=by
 refine F.okz sc_acl .(10) .(2)
 · obtain ⟨d,k,m,a,n,q,rfl,_⟩:=h;rfl
 obtain ⟨d,k,m,a,n,q,rfl,hd,hk,cb,q9,hn,fin⟩:=h;have nd:=sc_acl.nd;have hu:=hr.units;obtain ⟨m1,m2,a0,a1,q1,q2⟩:=id cb;refine ⟨_,(ae (dO (au F_kind_ahead hr (by decide) rfl (aa (zn 0) (aa ah ab))) (eF rfl (aV (az (i:=1) nd rfl .(8)) (aV (az (i:=2) nd rfl .(8)) cP))))
  (ae (ay (i:=3) nd rfl .(8) (bD rfl m_tuple (aa (aQ ["word"] [] rfl .(5) (bG (bB nW (zn 2) cz (bF (dX cu ah)))) aG (fun _ _ _ _=>az (i:=0) (show List.Nodup (["word"]:List Str) by decide +kernel) rfl .(8)) (fun _ _ _ _=>aY) (fun _ _ _ _=>(au F_number_in hr (by decide) rfl (aa (zn 0) (aa ah (aa (cC rfl g_MOST_NUMBER) ab)))))) ab) rfl rfl))
  (ae (ay (i:=4) nd rfl .(8) (au F_number_in hr (by decide) rfl (aa (aD aS (zn 2) (dX cu ah) .(11)) (aa ah (aa (cC rfl g_MOST_COUNTED) ab)))))
  (ae (aC (bI (bb (au F_is_claim hr (by decide) rfl (aa (zn 3) ab)))) (ai dW) ak)
  (ai (aq (au F_number_or hr (by decide) rfl (aa (au F_first_not hr (by decide) rfl (aa (au F_counts hr (by decide) rfl (aa (zn 1) (aa (zn 4) ab))) (aa (zn 3) ab))) (aa am ab))))))))),?_⟩
 refine ⟨d,k,[nt m,nt a,nt q,nt n],rfl,hd,rfl,hk,fun t c b H1 y1 ht hc hb=>?_⟩;refine ⟨t,_,rfl,SqT.of ht,rfl,_,_,rfl,_,_,rfl,rfl,?_⟩;refine ⟨1,rfl,-1,rfl,b,rfl,.inr ⟨_,SqL.of hb,fun e he=>?_⟩⟩;have ec:fu ([nt (m:Int),nt a,nt q,nt n].map V.str) none (some (-1))=[nt (m:Int),nt a,nt q].map V.str:=mZ (xs:=[nt (m:Int),nt a,nt q].map V.str) (zs:=[.str (nt n)]) (m:=1) rfl (by decide);have ye:=Same.new he (.lst ([nt (m:Int),nt a,nt q].map V.str));have he2:upd H1 e (.lst ([nt (m:Int),nt a,nt q].map V.str)) e=some (.lst ([nt (m:Int),nt a,nt q].map V.str)):=af;rw [ec];generalize upd H1 e (.lst ([nt (m:Int),nt a,nt q].map V.str))=H2 at ye he2;refine ⟨e,rfl,⟨_,SqL.of he2⟩,bW (xs:=[nt (m:Int),nt a,nt q].map V.str) (fun i zs H'=>Same H2 H'/\zs=(([(m:Int),a,q]).take i).map V.int) ⟨Same.refl _,rfl⟩ ?_ ?_ ?_⟩
 · rintro i zs H' _ ⟨y,_⟩;exact SqL.of (y _ _ he2)
 · rintro i v zs H' hv ⟨y,rfl⟩;refine ⟨by rw [zA0,zB3];exact aE (by simp;lia),?_⟩;match i,hv with
   | 0,hv=>
     cases hv
     exact ⟨m,0,999999,rfl,by lia,by lia,by lia,by lia,fun H3 y3=>⟨y.trans y3,rfl⟩⟩
   | 1,hv=>
     cases hv
     exact ⟨a,0,999999,rfl,by lia,by lia,by lia,by lia,fun H3 y3=>⟨y.trans y3,rfl⟩⟩
   | 2,hv=>
     cases hv
     exact ⟨q,0,999999,rfl,by lia,by lia,by lia,by lia,fun H3 y3=>⟨y.trans y3,rfl⟩⟩
   | i+3,hv=>cases hv
 rintro zs H3 ⟨y3,rfl⟩ D hD;have yD:=Same.new hD (.lst ([V.int m,.int a,.int q]));refine ⟨_,.inl (SqL.of af),fun cl H4 y4 hcl=>?_⟩;have y24:=(y3.trans yD).trans y4;have hcl:H4 cl=some (.tup [.int m,.int a,.int q]):=hcl;have hb4:=y24 _ _ (ye _ _ hb);refine ⟨1,rfl,?_⟩;refine ⟨_,.inl (SqL.of hb4),.str (nt n),rfl,?_⟩;refine ⟨n,0,600,rfl,by lia,by lia,by lia,by lia,fun H5 y5=>?_⟩;have y15:=ye.trans (y24.trans y5);refine ⟨cl,m,a,q,rfl,y5 _ _ hcl,cb,?_⟩;refine cU (fun c=>absurd c (by decide)) (fun _=>?_);obtain ⟨kc,ko⟩:=pW (hc.same y15) hk;refine ⟨c,n,kN k,rfl,hn,kc,ko,fun T H6 y6 hT=>?_⟩;refine ⟨T,cl,_,m,a,q,rfl,hT,by rw [br];lia,y6 _ _ (y5 _ _ hcl),cb,fun v H7 y7 hv=>?_⟩;exact ⟨v,_,rfl,mI (by rw [br];lia) hv,fin v H7 (y1.trans (y15.trans (y6.trans y7))) hv⟩
theorem sc_an:FnScope ["line","words","word","deed"] ["line"] (ap (top 155)):=.(0)
def ld:Sp:=fun vs H Q _=>∃ (z wd:Str) (ws:List Str),vs=[.str z]/\z.length<=2000/\Txt.split z .(19)=wd::ws /\
 ((wd=Str.ofString "rank"/\∃ ns,ws=[shw ns]/\Pg ns/\∀ H',Same H H'->Q (.str (nt (rk ns))) H') \/
  (wd=Str.ofString "mark"/\∃ ns,ws=[shw ns]/\Pg ns/\∀ H',Same H H'->Q (.str (nt (mk ns))) H') \/
  (wd=Str.ofString "shares"/\∃ (x:Str) (n t:Nat),ws=[x,nt n,nt t]/\Wh x/\n<=100/\2<=t/\t<=60/\∀ H',Same H H'->Q (.str (nsx (bks t (ck x n)))) H') \/
  (wd=Str.ofString "uneven"/\∃ (x:Str) (t a m:Nat),ws=[x,nt t,nt a,nt m]/\Wh x/\2<=t/\t<=60/\a<t/\m<=100/\∀ H',Same H H'->Q (.str (ov (fuV x t a m) (Str.ofString "even"))) H') \/
  (wd=Str.ofString "claim"/\∃ (k:Kd) (m a n:Nat) (q:Int),ws=k.words++[nt m,nt a,nt q,nt n]/\k.Ok/\CB m a q/\q<1000000/\n<=600/\∀ v H',Same H H'->IsF (tb (cf (kN k) n) (n+1)) m a q v->Q (.str (ov v (Str.ofString "all"))) H'))
theorem ok_an (F:Fun K "answer" "answer" (top 155) f fd) {rd f1 f2 f3 f4 f5:Addr} (D_DEEDS:DeedG w K mg "DEEDS" rd) (d1:bV K rd (Str.ofString "rank") f1=true) (e1:mg "answer_rank" = some (.ref f1)) (d2:bV K rd (Str.ofString "mark") f2=true) (e2:mg "answer_mark" = some (.ref f2)) (d3:bV K rd (Str.ofString "shares") f3=true) (e3:mg "answer_shares" = some (.ref f3)) (d4:bV K rd (Str.ofString "uneven") f4=true) (e4:mg "answer_uneven" = some (.ref f4)) (d5:bV K rd (Str.ofString "claim") f5=true) (e5:mg "answer_claim" = some (.ref f5))  (F_is_text:FnA P w K mg base "is_text" 1 ["thing"] gv) (F_1:FnA P w K mg base "answer_rank" 6 ["words"] kZ) (F_2:FnA P w K mg base "answer_mark" 6 ["words"] lh) (F_3:FnA P w K mg base "answer_shares" 7 ["words"] kY) (F_4:FnA P w K mg base "answer_uneven" 8 ["words"] kX) (F_5:FnA P w K mg base "answer_claim" 9 ["words"] li):FnOk P w K mg base CX0 10 f fd ["line"] ld:=by
 refine F.okz sc_an .(10) .(2)
 · obtain ⟨z,wd,ws,rfl,_⟩:=h;rfl
 obtain ⟨z,wd,ws,rfl,hz,hs,q⟩:=h;have nd:=sc_an.nd;have hu:=hr.units;refine ⟨_,(ae (aC (bI (bb (au F_is_text hr (by decide) rfl (aa (zn 0) ab)))) (ai dW) ak)
  (ae (ay (i:=1) nd rfl .(8) (dZ (zn 0) (aa am ab)))
  (ae (ay (i:=2) nd rfl .(8) (aD aS (zn 1) ah .(11)))
  (ae (aC (aj (lX D_DEEDS) (zn 2) (n6 D_DEEDS rfl) (by with_unfolding_all rfl)) (ai dW) ak)
  (ae (ay (i:=3) nd rfl .(8) (sf D_DEEDS rfl (zn 2) .(11)))
  (ai (aq (oe 3 hr (aa (bB nW (zn 1) (bF ah) cz) ab))))))))),?_⟩
 refine ⟨z,rfl,hz,?_⟩;refine ⟨rfl,by lia,by decide +kernel,fun d hd=>?_⟩;rw [hs];have y1:=Same.new hd (.lst ((wd::ws).map V.str));have gd:upd H d (.lst ((wd::ws).map V.str)) d=some (.lst (.str wd::ws.map V.str)):=af;generalize upd H d (.lst ((wd::ws).map V.str))=H1 at y1 gd;refine ⟨_,.inl (SqL.of gd),.str wd,aN (j:=0) rfl rfl,?_⟩;rcases q with ⟨rfl,ns,rfl,hp,q⟩ | ⟨rfl,ns,rfl,hp,q⟩ | ⟨rfl,x,n,t,rfl,hx,hn,t0,t1,q⟩ | ⟨rfl,x,t,a,m,rfl,hx,t0,t1,a1,m1,q⟩ | ⟨rfl,k,m,a,n,q',rfl,hk,cb,q9,hn,q⟩
 · obtain ⟨fa,fd',F1,b1,k1,m1⟩:=F_1.ex;obtain rfl:fa=f1:=by have:=e1.symm.trans m1;cases this;rfl
   refine ⟨rfl,fa,d1,_,fa,rfl,d1,rfl,fa,6,_,kZ,rfl,by decide,⟨fd',F1,b1,k1⟩,?_⟩;refine ⟨_,rfl,d,rfl,.inr ⟨_,SqL.of gd,fun b hb=>?_⟩⟩;rw [m3];exact ⟨b,ns,rfl,af,hp,fun H2 y2=>q H2 ((y1.trans (Same.new hb _)).trans y2)⟩
 · obtain ⟨fa,fd',F1,b1,k1,m1⟩:=F_2.ex;obtain rfl:fa=f2:=by have:=e2.symm.trans m1;cases this;rfl
   refine ⟨rfl,fa,d2,_,fa,rfl,d2,rfl,fa,6,_,lh,rfl,by decide,⟨fd',F1,b1,k1⟩,?_⟩;refine ⟨_,rfl,d,rfl,.inr ⟨_,SqL.of gd,fun b hb=>?_⟩⟩;rw [m3];exact ⟨b,ns,rfl,af,hp,fun H2 y2=>q H2 ((y1.trans (Same.new hb _)).trans y2)⟩
 · obtain ⟨fa,fd',F1,b1,k1,m1⟩:=F_3.ex;obtain rfl:fa=f3:=by have:=e3.symm.trans m1;cases this;rfl
   refine ⟨rfl,fa,d3,_,fa,rfl,d3,rfl,fa,7,_,kY,rfl,by decide,⟨fd',F1,b1,k1⟩,?_⟩;refine ⟨_,rfl,d,rfl,.inr ⟨_,SqL.of gd,fun b hb=>?_⟩⟩;rw [m3];exact ⟨b,x,n,t,rfl,af,hx,hn,t0,t1,fun H2 y2=>q H2 ((y1.trans (Same.new hb _)).trans y2)⟩
 · obtain ⟨fa,fd',F1,b1,k1,mm1⟩:=F_4.ex;obtain rfl:fa=f4:=by have:=e4.symm.trans mm1;cases this;rfl
   refine ⟨rfl,fa,d4,_,fa,rfl,d4,rfl,fa,8,_,kX,rfl,by decide,⟨fd',F1,b1,k1⟩,?_⟩;refine ⟨_,rfl,d,rfl,.inr ⟨_,SqL.of gd,fun b hb=>?_⟩⟩;rw [m3];exact ⟨b,x,t,a,m,rfl,af,hx,t0,t1,a1,m1,fun H2 y2=>q H2 ((y1.trans (Same.new hb _)).trans y2)⟩
 · obtain ⟨fa,fd',F1,b1,k1,m1⟩:=F_5.ex;obtain rfl:fa=f5:=by have:=e5.symm.trans m1;cases this;rfl
   refine ⟨rfl,fa,d5,_,fa,rfl,d5,rfl,fa,9,_,li,rfl,by decide,⟨fd',F1,b1,k1⟩,?_⟩;refine ⟨_,rfl,d,rfl,.inr ⟨_,SqL.of gd,fun b hb=>?_⟩⟩;rw [m3];exact ⟨b,k,m,a,n,q',rfl,af,hk,cb,q9,hn,fun v H2 y2 hv=>q v H2 ((y1.trans (Same.new hb _)).trans y2) hv⟩
end
def Sb (t r:Nat) (ps:List (Int×Int)):Int:=((ps.filter fun q=>decide ((q.1 % (t:Int)).toNat=r)).map Prod.snd).sum
theorem u6 {t r:Nat} {acc:List Int} {q:Int×Int} (h:r<acc.length):(kl t acc q).getD r 0=acc.getD r 0+if (q.1 % (t:Int)).toNat=r then q.2 else 0:=by
 unfold kl;rw [zA9,List.getElem?_set];by_cases e:(q.1 % (t:Int)).toNat=r
 · rw [if_pos e,if_pos e,e,if_pos h];rfl
 · rw [if_neg e,if_neg e,← zA9];lia
theorem mO {t r:Nat}:∀ (ps:List (Int×Int)) (acc:List Int),r<acc.length->(ps.foldl (kl t) acc).getD r 0=acc.getD r 0+Sb t r ps
 | [],acc,_=>by show acc.getD r 0=acc.getD r 0+0;lia
 | q::ps,acc,h=>by
   rw [zH9,mO ps (kl t acc q) (by rw [jQ];exact h),u6 h];unfold Sb;rw [List.filter_cons];by_cases e:(q.1 % (t:Int)).toNat=r
   · rw [if_pos e,if_pos (by simpa using e),zC5,zE0];lia
   · rw [if_neg e,if_neg (by simpa using e)];lia
theorem rN {t r:Nat} (h:r<t) (ps:List (Int×Int)):(bks t ps).getD r 0=Sb t r ps:=by
 unfold bks;rw [mO ps _ (by rw [zC8];exact h),zA9,List.getElem?_replicate];rw [if_pos h];show (0:Int)+_=_;lia
theorem uW {t:Nat} {ps qs:List (Int×Int)} (h:∀ r,r<t->Sb t r ps=Sb t r qs):bks t ps=bks t qs:=by
 refine zG9 (by rw [bA,bA]) fun r h1 h2=>?_;have hr:r<t:=by rw [bA] at h1;exact h1
 have e1:=rN hr ps;have e2:=rN hr qs;rw [zA9,List.getElem?_eq_getElem h1] at e1;rw [zA9,List.getElem?_eq_getElem h2] at e2;have e1:(bks t ps)[r]=_:=e1;have e2:(bks t qs)[r]=_:=e2;rw [e1,e2,h r hr]
def ex (qs:List (Int×Int)):List (Int×Int):=qs.flatMap fun q=>List.replicate q.2.toNat (q.1,1)
theorem nO (t r:Nat) (a b:List (Int×Int)):Sb t r (a++b)=Sb t r a+Sb t r b:=by
 unfold Sb;rw [zF6,zA7,List.sum_append]
theorem Sb_rep (t r n:Nat) (v:Int):Sb t r (List.replicate n (v,1))=if (v % (t:Int)).toNat=r then (n:Int) else 0:=by
 induction n with
 | zero=>unfold Sb;split <;> rfl
 | succ n ih=>
   have e:List.replicate (n+1) ((v,1):Int×Int)=[(v,1)]++List.replicate n (v,1):=rfl
   rw [e,nO,ih]
   unfold Sb
   rw [List.filter_cons]
   by_cases h:(v % (t:Int)).toNat=r
   · rw [if_pos (by simpa using h),if_pos h,if_pos h];show (1:Int)+0+n=_;lia
   · rw [if_neg (by simpa using h),if_neg h,if_neg h];rfl
theorem Sb_ex (t r:Nat):∀ {qs:List (Int×Int)},(∀ q∈qs,0<=q.2)->Sb t r (ex qs)=Sb t r qs
 | [],_=>rfl
 | q::qs,h=>by
   have h0:=h q zA3;have e:ex (q::qs)=List.replicate q.2.toNat (q.1,1)++ex qs:=rfl;have e2:q::qs=[q]++qs:=rfl;rw [e,nO,e2,nO,Sb_ex t r fun p hp=>h p (zA5 _ hp),Sb_rep];congr 1;unfold Sb;rw [List.filter_cons];by_cases k:(q.1 % (t:Int)).toNat=r
   · rw [if_pos k,if_pos (by simpa using k)];show _=q.2+0;lia
   · rw [if_neg k,if_neg (by simpa using k)];rfl
theorem vb {t r:Nat} {a b:List (Int×Int)} (h:List.Perm a b):Sb t r a=Sb t r b:=jy ((h.filter _).map _)
theorem rM {t:Nat} {ps qs:List (Int×Int)} (h:List.Perm ps (ex qs)) (h0:∀ q∈qs,0<=q.2):bks t ps=bks t qs:=uW fun r _=>(vb h).trans (Sb_ex t r h0)
def sB (b n:Nat):List (Int×Int):=if n<2 then [(if b=3 then rk (List.replicate n 1) else mk (List.replicate n 1),1)] else ((vals n).map fun v=>(v,tot b n v.natAbs)).filter fun q=>decide (0<q.2)
theorem gG:¬ ("mark" : Str)="rank":=by decide
theorem kR (n:Nat):ck "rank" n=sB 3 n:=by
 unfold ck sB v01 wb;rw [if_pos rfl,if_pos rfl];rfl
theorem kS (n:Nat):ck "mark" n=sB 1 n:=by
 unfold ck sB v01 wb;rw [if_neg gG,if_neg gG];rfl
def vl (x:Str) (ns:List Int):Int:=if x="rank" then rk ns else mk ns
def ls (x:Str) (n:Nat):List (Int×Int):=(Asc n n).map fun y=>(vl x (M63.toI y),1)
theorem l_rk:∀ n:Fin 13,(((Asc n.val n.val).map fun y=>(rk (M63.toI y),(1:Int))).isPerm (ex (sB 3 n.val))&&(sB 3 n.val).all fun q=>decide (0<=q.2))=true:=by decide +kernel
theorem l_mk:∀ n:Fin 13,(((Asc n.val n.val).map fun y=>(mk (M63.toI y),(1:Int))).isPerm (ex (sB 1 n.val))&&(sB 1 n.val).all fun q=>decide (0<=q.2))=true:=by decide +kernel
theorem ls_bks {x:Str} (hx:Wh x) {n:Nat} (hn:n<=12) (t:Nat):bks t (ls x n)=bks t (ck x n):=by
 have go:∀ {ps qs:List (Int×Int)},(ps.isPerm qs&&true)=true->List.Perm ps qs:=fun h=>List.isPerm_iff.mp (by simpa using h);rcases hx with rfl | rfl
 · have h:=l_rk ⟨n,by lia⟩;rw [zD6] at h;rw [kR];have ev:vl "rank" = rk:=by funext ns;unfold vl;rw [if_pos rfl]
   have e:ls "rank" n=(Asc n n).map fun y=>(rk (M63.toI y),(1:Int)):=by unfold ls;rw [ev]
   rw [e];exact rM (List.isPerm_iff.mp h.1) fun q hq=>of_decide_eq_true (zB8.mp h.2 q hq)
 · have h:=l_mk ⟨n,by lia⟩;rw [zD6] at h;rw [kS];have ev:vl "mark" = mk:=by funext ns;unfold vl;rw [if_neg gG]
   have e:ls "mark" n=(Asc n n).map fun y=>(mk (M63.toI y),(1:Int)):=by unfold ls;rw [ev]
   rw [e];exact rM (List.isPerm_iff.mp h.1) fun q hq=>of_decide_eq_true (zB8.mp h.2 q hq)
theorem rA:∀ (l σ:List Int) (k:Int),k∈l.foldl PyProof.Rows.step_dedup σ↔k∈σ\/k∈l
 | [],σ,k=>by simp
 | a::l,σ,k=>by
   rw [zH9,rA l,L2.mem_step,zA8];constructor
   · rintro ((h | h) | h)
     · exact .inl h
     · exact .inr (.inl h)
     · exact .inr (.inr h)
   · rintro (h | h | h)
     · exact .inl (.inl h)
     · exact .inl (.inr h)
     · exact .inr h
theorem dd_nd:∀ (l σ:List Int),σ.Nodup->(l.foldl PyProof.Rows.step_dedup σ).Nodup
 | [],σ,h=>h
 | a::l,σ,h=>by
   rw [zH9];refine dd_nd l _ ?_;unfold PyProof.Rows.step_dedup;split
   · exact h
   · rename_i c
     refine List.nodup_append.mpr ⟨h,by simp,fun x hx y hy=>?_⟩;have hy:y=a:=by simpa using hy
     subst hy;intro e;subst e;exact c (List.any_eq_true.mpr ⟨x,hx,by simp⟩)
theorem dst_un (ns:List Int):decide ((1:Int)<((dst ns).length:Int))=nU ns:=by
 have hm:∀ k,k∈dst ns↔k∈ns:=fun k=>by unfold dst;rw [rA];simp
 have hd:(dst ns).Nodup:=dd_nd ns [] .nil;generalize dst ns=ds at hm hd
 cases hu:nU ns with
 | true=>
   unfold nU at hu
   obtain ⟨m,h1,h2⟩:=List.any_eq_true.mp hu
   have hne:m≠ns.headD 0:=fun e=>by rw [e] at h2;simp at h2
   have hh:ns.headD 0∈ns:=by
    cases ns with
    | nil=>cases h1
    | cons x xs=>exact zA3
   have a:=(hm m).mpr h1
   have b:=(hm _).mpr hh
   refine decide_eq_true ?_
   match ds,a,b with
   | [x],a,b=>exact absurd ((zC6.mp a).trans (zC6.mp b).symm) hne
   | x::y::r,_,_=>simp only [zB5];lia
 | false=>
   unfold nU at hu
   rw [List.any_eq_false] at hu
   have al:∀ m∈ns,m=ns.headD 0:=fun m h=>by
    have:=hu m h;simpa using this
   refine decide_eq_false ?_
   match ds,hd,hm with
   | [],_,_=>simp
   | [x],_,_=>simp
   | x::y::r,hd,hm=>
     have e1:=al x ((hm x).mp (by simp))
     have e2:=al y ((hm y).mp (by simp))
     have:=(List.nodup_cons.mp hd).1
     exact absurd (by rw [e1,e2];simp) this
def Fst (Bd:Nat->Prop) (n:Nat) (v:V):Prop:=(v=.non/\∀ j,j<=n->¬ Bd j)\/∃ p:Nat,p<=n/\v=.int p/\Bd p/\∀ j,j<p->¬ Bd j
def Dn (Bd:Nat->Prop) (n j:Nat) (wd s:Str):Prop:=(s=wd/\∀ i,j<=i->i<=n->¬ Bd i)\/∃ p:Nat,j<=p/\p<=n/\s=nt p/\Bd p/\∀ i,j<=i->i<p->¬ Bd i
theorem Dn.start {Bd:Nat->Prop} {n:Nat} {wd:Str}:Dn Bd n (n+1) wd wd:=.inl ⟨rfl,fun i h1 h2=>absurd h1 (by lia)⟩
theorem Dn.hit {Bd:Nat->Prop} {n j:Nat} {wd:Str} (hj:j<=n) (h:Bd j):Dn Bd n j wd (nt j):=.inr ⟨j,zA1 _,hj,rfl,h,fun i h1 h2=>absurd h1 (by lia)⟩
theorem Dn.miss {Bd:Nat->Prop} {n j:Nat} {wd s:Str} (d:Dn Bd n (j+1) wd s) (h:¬ Bd j):Dn Bd n j wd s:=by
 have go:∀ i,j<=i->(j+1<=i->¬ Bd i)->¬ Bd i:=fun i h1 h2=>by
  by_cases e:i=j
  · subst e;exact h
  · exact h2 (by lia)
 rcases d with ⟨e,h1⟩ | ⟨p,h1,h2,h3,h4,h5⟩
 · exact .inl ⟨e,fun i a b=>go i a fun c=>h1 i c b⟩
 · exact .inr ⟨p,by lia,h2,h3,h4,fun i a b=>go i a fun c=>h5 i c b⟩
theorem Dn.ov {Bd:Nat->Prop} {n:Nat} {wd s:Str} {v:V} (d:Dn Bd n 0 wd s) (f:Fst Bd n v):s=ov v wd:=by
 rcases d with ⟨rfl,h1⟩ | ⟨p,_,h2,rfl,h4,h5⟩ <;> rcases f with ⟨rfl,g1⟩ | ⟨p',g2,rfl,g4,g5⟩
 · rfl
 · exact absurd g4 (h1 _ (zB0 _) g2)
 · exact absurd h4 (g1 _ h2)
 · by_cases a:p<p'
   · exact absurd h4 (g5 _ a)
   · by_cases b:p' < p
     · exact absurd g4 (h5 _ (zB0 _) b)
     · have:p=p':=by lia
       subst this;rfl
theorem uF {ns:List Int} {m a q:Int} {n:Nat} {v:V} (hl:ns.length=n+1) (h:IsF ns m a q v):Fst (Bad ns m a q) n v:=by
 rcases h with ⟨e,h⟩ | ⟨p,hp,e,b,h⟩
 · exact .inl ⟨e,fun j _=>h j⟩
 · exact .inr ⟨p,by lia,e,b,h⟩
def Un (x:Str) (t a:Nat) (p:Nat):Prop:=p % t=a/\un x p t=true
theorem re {x:Str} {t a m:Nat} (ht:1<=t) (ha:a<t):Fst (Un x t a) m (fuV x t a m):=by
 have cl:∀ j,j<=m->j % t=a->j=a+(j / t)*t/\j / t<nn t a m:=fun j hj e=>by
  have e1:=Nat.mod_add_div j t;have e2:j=a+(j / t)*t:=by rw [Nat.mul_comm];lia
  refine ⟨e2,?_⟩;by_cases c:j / t<nn t a m
  · exact c
  · exfalso;have s:(j:Int)<(a:Int)+(nn t a m:Int)*(t:Int):=jk (a:=(a:Int)) (b:=(m:Int)+1) (m:=(t:Int)) (by lia) (by lia);have:nn t a m*t<=(j / t)*t:=Nat.mul_le_mul_right t (by lia);have z:((nn t a m*t:Nat):Int)=(nn t a m:Int)*(t:Int):=zF5 _ _;lia
 unfold fuV
 cases e:fuO x t a m with
 | none=>
   refine .inl ⟨rfl,fun j hj ⟨h1,h2⟩=>?_⟩
   obtain ⟨c1,c2⟩:=cl j hj h1
   have:=List.find?_range_eq_none.mp e (j / t) c2
   rw [← c1] at this
   have:(!un x j t)=true:=this
   rw [h2] at this
   cases this
 | some i=>
   obtain ⟨h1,h2,h3⟩:=List.find?_range_eq_some.mp e
   have hi:=zE7.mp h2
   have hm:=uL (x:=x) ht hi rfl
   refine .inr ⟨a+i*t,hm,rfl,⟨by rw [Nat.add_mul_mod_self_right,Nat.mod_eq_of_lt ha],h1⟩,fun j hj ⟨g1,g2⟩=>?_⟩
   obtain ⟨c1,c2⟩:=cl j (by lia) g1
   have lt:j / t<i:=by
    by_cases c:j / t<i
    · exact c
    · exfalso;have:i*t<=(j / t)*t:=Nat.mul_le_mul_right t (by lia);lia
   have:=h3 (j / t) lt
   rw [← c1] at this
   have:(!un x j t)=true:=this
   rw [g2] at this
   cases this
theorem own14:∀ n:Fin 15,cn n.val n.val (isg .own)=below 2 (nX n.val) dl n.val:=by decide +kernel
theorem lV:∀ N:Fin 15,∀ j:Fin 15,j.val<=N.val->below 2 (nX N.val) dl j.val=below 2 (nX j.val) dl j.val:=by decide +kernel
theorem isg_cf {k:Kn} (hok:k.Ok) {n:Nat} (hn:n<=14):cn n n (isg k)=cf k n n:=by
 cases k with
 | all=>
   show cn n n (fun _=>true)=PL dl (ups n) n
   rw [← rh n,← jM (fun _=>true) n n]
   exact bC fun x _=>(zB8.mpr fun _ _=>rfl).symm
 | most k=>
   show cn n n (fun x=>x.all fun a=>decide (a<=k))=PL dl (ups (min k n)) n
   rw [jM,mP]
 | few k=>
   show cn n n (fun x=>decide (x.length<=k))=PL dl (ups (min k n)) n
   rw [cn_few,nP (zA1 n)]
 | times m=>exact qi hok.1 n n
 | rests m rs=>exact jM (fun a=>decide ((a:Int) % (m:Int)∈rs)) n n
 | box k l=>show cn n n (inb k l)=bx l (min k n) n;rw [rF,Nat.min_comm]
 | off d=>exact cn_off hok.1 (by lia)
 | own=>exact own14 ⟨n,by lia⟩
theorem LK_cf {k:Kn} (hok:k.Ok) {n:Nat} (hn:n<=14):((LK k n).length:Int)=cf k n n:=by
 rw [← isg_cf hok hn];unfold LK cn Asc;rw [← List.countP_eq_length_filter,List.countP_reverse]
theorem cf_far {k:Kn} (hok:k.Ok) {N j:Nat} (hN:N<=14) (hj:j<=N):cf k N j=cf k j j:=by
 cases k with
 | all=>
   show PL dl (ups N) j=PL dl (ups j) j
   have:=R_far (n:=j) (zA1 j) (N - j)
   rw [show j+(N - j)=N by lia] at this
   exact this
 | most k=>show PL dl (ups (min k N)) j=PL dl (ups (min k j)) j;rw [nP hj,nP (zA1 j)]
 | few k=>show PL dl (ups (min k N)) j=PL dl (ups (min k j)) j;rw [nP hj,nP (zA1 j)]
 | times m=>
   show below m (ups N) dl j=below m (ups j) dl j
   rw [jI hok.1 hj,jI hok.1 (zA1 j)]
   have e:∀ (p:Nat->Bool) e,PL dl (fl p (j+e)) j=PL dl (fl p j) j:=by
    intro p e;induction e with
    | zero=>rfl
    | succ e ih=>
      rw [show j+(e+1)=(j+e)+1 by lia,iW,dA]
      split
      · show put (PL dl (fl p (j+e))) (j+e+1) j=_;rw [eV _ (by lia) (by lia)];exact ih
      · exact ih
   have:=e (fun s=>decide (0<(s:Int) % (m:Int))) (N - j)
   rw [show j+(N - j)=N by lia] at this
   exact this
 | rests m rs=>
   show PL dl (rsz m rs N) j=PL dl (rsz m rs j) j
   have:=lr (m:=m) (rs:=rs) (n:=j) (zA1 j) (N - j)
   rw [show j+(N - j)=N by lia] at this
   exact this
 | box k l=>show bx l (min k N) j=bx l (min k j) j;rw [rG hj,rG (zA1 j)]
 | off d=>rfl
 | own=>exact lV ⟨N,by lia⟩ ⟨j,by lia⟩ hj
theorem gJ (c:Nat):∀ {xs ys zs:List (List Nat)},ys≠[]->jl c (xs++jl c ys::zs)=jl c (xs++(ys++zs))
 | [],ys,[],h=>by rw [List.nil_append,zC9,List.nil_append];rfl
 | [],[y],z::r,_=>rfl
 | [],y::y2::r,z::q,_=>by
   have ih:jl c (jl c (y2::r)::z::q)=jl c ((y2::r)++(z::q)):=gJ c (xs:=[]) (ys:=y2::r) (zs:=z::q) (zE2 _ _);show (y++c::jl c (y2::r))++c::jl c (z::q)=y++c::jl c ((y2::r)++(z::q));rw [← ih];show _=y++c::(jl c (y2::r)++c::jl c (z::q));simp
 | [x],y::r,zs,h=>by
   have ih:=gJ c (xs:=[]) (ys:=y::r) (zs:=zs) h;show x++c::jl c (jl c (y::r)::zs)=x++c::jl c ((y::r)++zs);rw [(show jl c (jl c (y::r)::zs)=_ from ih)];rfl
 | x::x2::q,ys,zs,h=>by
   have ih:=gJ c (xs:=x2::q) (ys:=ys) (zs:=zs) h;show x++c::jl c ((x2::q)++jl c ys::zs)=x++c::jl c ((x2::q)++(ys++zs));rw [ih]
theorem joinE (c:Nat) (ys:List Str):Txt.join ⟨#[c]⟩ ys=Str.join ⟨#[c]⟩ ys:=StrLaws.glued_eq_join _ _
theorem rC:.(19).cps.toList=[32]:=by decide +kernel
theorem ce:.(19).length=1:=by decide +kernel
theorem iU (ys:List Str):(Txt.join .(19) ys).cps.toList=jl 32 (ys.map fun y=>y.cps.toList):=by rw [M68.sp_is,joinE,join_list]
theorem jE (ys:List Str):(Txt.join .(19) ys).length<=(ys.map (·.length)).sum+ys.length:=by rw [M68.sp_is,joinE];exact join_len 32 ys
theorem gH {z:Str} {ws:List Str} (h0:ws≠[]) (h:∀ w∈ws,32∉w.cps.toList) (hz:z.cps.toList=jl 32 (ws.map fun y=>y.cps.toList)):Txt.split z .(19)=ws:=by
 have e:z=Txt.join ⟨#[32]⟩ ws:=by
  refine kP ?_;rw [hz,joinE,join_list]
 rw [e,M68.sp_is];exact cI h0 h
theorem ol (k:Kd):k.words≠[]:=by cases k <;> exact zE2 _ _
theorem uB (k:Kd):k.text.cps.toList=jl 32 (k.words.map fun y=>y.cps.toList):=by
 unfold Kd.text;exact iU _
theorem gj {x:Str} (h:Wh x):32∉x.cps.toList:=by rcases h with rfl | rfl <;> decide +kernel
theorem i8 {x:Str} (h:Wh x):x.length=4:=by rcases h with rfl | rfl <;> decide +kernel
theorem qY {c s:Nat}:∀ {xs:List (List Nat)},c∈jl s xs->c=s\/∃ x∈xs,c∈x
 | [x],h=>.inr ⟨x,zA3,h⟩
 | x::y::r,h=>by
   rcases zB7.mp (show c∈x++s::jl s (y::r) from h) with h | h
   · exact .inr ⟨x,zA3,h⟩
   · rcases zA8.mp h with h | h
     · exact .inl h
     · rcases qY h with h | ⟨z,hz,hc⟩
       · exact .inl h
       · exact .inr ⟨z,zA5 _ hz,hc⟩
theorem oD {ns:List Int} (h:Num ns):32∉(shw ns).cps.toList:=fun hc=>by
 unfold shw at hc;split at hc
 · have e:(Str.ofString "-").cps.toList=[45]:=by decide +kernel
   rw [e,zC6] at hc;lia
 · rw [gz,show Txt.join ⟨#[43]⟩ (ns.map nt)=Str.join ⟨#[43]⟩ (ns.map nt) from StrLaws.glued_eq_join _ _,M67.join_list 43] at hc;rcases qY hc with hc | ⟨x,hx,hc⟩
   · lia
   · obtain ⟨y,hy,rfl⟩:=zD2.mp hx;obtain ⟨n,hn,rfl⟩:=zD2.mp hy;exact bM (by have:=(h n hn).1;lia) (by decide) hc
theorem nsp {n:Int} (h:0<=n):32∉(nt n).cps.toList:=bM h (by decide)
theorem mz {x:Str} {ns:List Int} (hx:Wh x) (hn:Num ns):Txt.split (x++Str.ofString " "++shw ns) .(19)=[x,shw ns]:=gH (zE2 _ _) (fun w hw=>by
 simp only [zA8,zI2,or_false] at hw;rcases hw with rfl | rfl
 · exact gj hx
 · exact oD hn) (by
 rw [bO,bO,rC];show _=x.cps.toList++32::(shw ns).cps.toList;simp)
theorem ie:32∉(Str.ofString "shares").cps.toList:=by decide +kernel
theorem mn:32∉(Str.ofString "uneven").cps.toList:=by decide +kernel
theorem pP:32∉(Str.ofString "claim").cps.toList:=by decide +kernel
theorem ka:(Str.ofString "shares ").cps.toList=(Str.ofString "shares").cps.toList++[32]:=by decide +kernel
theorem len_shares:(Str.ofString "shares").length=6/\(Str.ofString "shares ").length=7:=by decide +kernel
theorem j7:(Str.ofString "uneven").length=6:=by decide +kernel
theorem im:(Str.ofString "claim").length=5:=by decide +kernel
theorem uz {x:Str} {n t:Int} (hx:Wh x) (h0:0<=n) (h1:0<=t):Txt.split (Str.ofString "shares "++x++Str.ofString " "++nt n++Str.ofString " "++nt t) .(19)=[Str.ofString "shares",x,nt n,nt t]:=gH (zE2 _ _) (fun w hw=>by
 simp only [zA8,zI2,or_false] at hw;rcases hw with rfl | rfl | rfl | rfl
 · exact ie
 · exact gj hx
 · exact nsp h0
 · exact nsp h1) (by
 rw [bO,bO,bO,bO,bO,rC,ka];show _=(Str.ofString "shares").cps.toList++32::(x.cps.toList++32::((nt n).cps.toList++32::(nt t).cps.toList));simp)
theorem qZ {ws:List Str} (h0:ws≠[]) (h:∀ w∈ws,32∉w.cps.toList):Txt.split (Txt.join .(19) ws) .(19)=ws:=gH h0 h (iU ws)
def cws (k:Kd) (m a q:Int):List Str:=[Str.ofString "claim",k.text,nt m,nt a,nt q]
theorem uV {k:Kd} (hk:k.Ok) {m a q n:Int} (hm:0<=m) (ha:0<=a) (hq:0<=q) (hn:0<=n):∀ w∈Str.ofString "claim"::(k.words++[nt m,nt a,nt q,nt n]),32∉w.cps.toList:=fun w hw=>by
 rcases zA8.mp hw with rfl | hw
 · exact pP
 · rcases zB7.mp hw with hw | hw
   · exact fN hk w hw
   · simp only [zA8,zI2,or_false] at hw;rcases hw with rfl | rfl | rfl | rfl
     · exact nsp hm
     · exact nsp ha
     · exact nsp hq
     · exact nsp hn
theorem mD {k:Kd} (hk:k.Ok) {m a q n:Int} (hm:0<=m) (ha:0<=a) (hq:0<=q) (hn:0<=n):Txt.split (Txt.join .(19) (cws k m a q++[nt n])) .(19)=Str.ofString "claim"::(k.words++[nt m,nt a,nt q,nt n]):=gH (zE2 _ _) (uV hk hm ha hq hn) (by
 rw [iU];have:=gJ 32 (xs:=[(Str.ofString "claim").cps.toList]) (ys:=k.words.map fun y=>y.cps.toList) (zs:=[(nt m).cps.toList,(nt a).cps.toList,(nt q).cps.toList,(nt n).cps.toList]) (by simpa using ol k);rw [← uB] at this;simp only [cws,zC5,zA7,List.map_nil,List.cons_append,List.nil_append] at this ⊢
 first | done | exact this)
theorem mB {k:Kd} (hk:k.Ok) {m a q n:Int} (hm:0<=m) (ha:0<=a) (hq:0<=q) (hn:0<=n):Txt.split (Txt.join .(19) (cws k m a q)++Str.ofString " "++nt n) .(19)=Str.ofString "claim"::(k.words++[nt m,nt a,nt q,nt n]):=by
 rw [← mD hk hm ha hq hn];congr 1
end K73
namespace K73
open PySem L2 MRow M27 M80 M17 M12 M24 M11 M66 M63 M05 M34 M67 M68
section
variable {P:Program} {w:World} {K:PySem.W.Frag} {mg:Str->Option Value} {base:Heap} {f:Addr} {fd:FuncData}
theorem sc_lv:FnScope ["_law_which","_law_parting_here","_law_ones"] ["_law_which","_law_parting_here"] (ap (top 165)):=.(0)
def sI:Sp:=fun vs H Q _=>∃ (x:Str) (a:Addr) (ns:List Int),vs=[.str x,.ref a]/\Wh x/\H a=some (.tup (ns.map V.int))/\ns.length<=900/\∀ H',Same H H'->Q (.int (vl x ns)) H'
theorem vl_r (ns:List Int):vl (Str.ofString "rank") ns=rk ns:=by unfold vl;rw [if_pos rfl]
theorem vl_m (ns:List Int):vl (Str.ofString "mark") ns=mk ns:=by unfold vl;rw [if_neg gG]
theorem ok_lv (F:Fun K "_law_value" "_law_value" (top 165) f fd) (m_len:mg "len" = none):FnOk P w K mg base CX0 1 f fd ["_law_which","_law_parting_here"] sI:=by
 refine F.okz sc_lv .(10) .(2)
 · obtain ⟨x,a,ns,rfl,_⟩:=h;rfl
 obtain ⟨x,a,ns,rfl,hx,ha,hl,q⟩:=h;have nd:=sc_lv.nd;have hu:=hr.units;have start:∀ {R:Prop},(∀ d,H d=none->∀ H1,Same H H1->H1 a=some (.tup (ns.map V.int))->H1 d=some (.tup [])->R)->R->R:=fun _ r=>r
 cases ns with
 | nil=>
   have q0:∀ H',Same H H'->Q (.int 0) H':=fun H' y=>by
    have:=q H' y;have e:vl x []=0:=by unfold vl;split <;> rfl
    rw [e] at this;exact this
   refine ⟨_,(ae (aC (aj (av hu) (zn 1) (aK ab) (ao _)) (ai (aq ah)) ak)
    (ae (ay (i:=2) nd rfl (Or.inr rfl) (ee (zn 1) (aa ah ab)))
    (ae (aC (aj (av hu) (zn 0) am (ao _)) (ai (aq (aA aP (aD aS (zn 1) ah .(11)) (aI rfl m_len .(29) rfl rfl)))) ak)
    (ai (aq (aW (aj (av hu) (zn 2) ah (ao _)) (aD aS (zn 1) ah .(11)) (aA aP (aI rfl m_len (aa (aQ ["_law_part"] [("_law_ones",2)] rfl .(5) (bJ (zn 1)) aG (fun _ _ _ _=>az (i:=0) (show List.Nodup (["_law_part","_law_ones"]:List Str) by decide +kernel) rfl .(8)) (fun _ _ _ _=>(bX (aj cw (zn 0) (zn 1) (ao _)))) (fun _ _ _ _=>ah)) ab) rfl rfl) (zn 2)))))))),?_⟩
   refine ⟨zB0 _,fun d hd=>?_⟩
   have y1:=Same.new hd (.tup [])
   exact ⟨_,_,.tup (y1 _ _ ha) .nil,.tup af .nil,rfl,rfl,q0 _ y1⟩
 | cons n0 r0=>
   rcases hx with rfl | rfl
   · rw [vl_r] at q;refine ⟨_,(ae (aC (aj (av hu) (zn 1) (aK ab) (ao _)) (ai (aq ah)) ak)
     (ae (ay (i:=2) nd rfl (Or.inr rfl) (ee (zn 1) (aa ah ab)))
     (ae (aC (aj (av hu) (zn 0) am (ao _)) (ai (aq (aA aP (aD aS (zn 1) ah .(11)) (aI rfl m_len .(29) rfl rfl)))) ak)
     (ai (aq (aW (aj (av hu) (zn 2) ah (ao _)) (aD aS (zn 1) ah .(11)) (aA aP (aI rfl m_len (aa (aQ ["_law_part"] [("_law_ones",2)] rfl .(5) (bJ (zn 1)) aG (fun _ _ _ _=>az (i:=0) (show List.Nodup (["_law_part","_law_ones"]:List Str) by decide +kernel) rfl .(8)) (fun _ _ _ _=>(bX (aj cw (zn 0) (zn 1) (ao _)))) (fun _ _ _ _=>ah)) ab) rfl rfl) (zn 2)))))))),?_⟩
     refine ⟨zB0 _,fun d hd=>?_⟩;have y1:=Same.new hd (.tup []);have ha1:=y1 _ _ ha;refine ⟨_,_,.ints ha1,.ints (ns:=[]) af,aJ _,aJ [],?_⟩;generalize upd H d (.tup [])=H1 at y1 ha1;refine ⟨tyT ha1,_,ha1,?_⟩;refine ⟨_,.inr ha1,.int n0,aN (j:=0) rfl rfl,?_⟩;refine ⟨_,.inr ha1,?_⟩;rw [zA0];exact q H1 y1
   · rw [vl_m] at q;refine ⟨_,(ae (aC (aj (av hu) (zn 1) (aK ab) (ao _)) (ai (aq ah)) ak)
     (ae (ay (i:=2) nd rfl (Or.inr rfl) (ee (zn 1) (aa ah ab)))
     (ae (aC (aj (av hu) (zn 0) am (ao _)) (ai (aq (aA aP (aD aS (zn 1) ah .(11)) (aI rfl m_len .(29) rfl rfl)))) ak)
     (ai (aq (aW (aj (av hu) (zn 2) ah (ao _)) (aD aS (zn 1) ah .(11)) (aA aP (aI rfl m_len (aa (aQ ["_law_part"] [("_law_ones",2)] rfl .(5) (bJ (zn 1)) aG (fun _ _ _ _=>az (i:=0) (show List.Nodup (["_law_part","_law_ones"]:List Str) by decide +kernel) rfl .(8)) (fun _ _ _ _=>(bX (aj cw (zn 0) (zn 1) (ao _)))) (fun _ _ _ _=>ah)) ab) rfl rfl) (zn 2)))))))),?_⟩
     refine ⟨zB0 _,fun d hd=>?_⟩;have y1:=Same.new hd (.tup []);have ha1:=y1 _ _ ha;refine ⟨_,_,.ints ha1,.ints (ns:=[]) af,aJ _,aJ [],?_⟩;generalize upd H d (.tup [])=H1 at y1 ha1;refine ⟨tyT ha1,_,ha1,?_⟩;refine bK (fun c1=>?_) (fun c1=>?_)
     · have c2:(n0::r0).count 1=0:=by have:=V.int.inj c1;lia
       refine ⟨_,.inr ha1,.int n0,aN (j:=0) rfl rfl,?_⟩;have:=q H1 y1;unfold mk at this;rw [if_pos c2] at this;exact this
     · have c2:¬ (n0::r0).count 1=0:=fun e=>c1 (by rw [e];rfl);have e:(((gr (n0::r0) ((n0::r0).count 1)).length:Int) - (n0::r0).count 1)=mk (n0::r0):=by unfold mk;rw [if_neg c2]
       rw [← e] at q;generalize n0::r0=as at ha1 hl c2 q;refine ⟨a,rfl,⟨_,SqT.of ha1⟩,bQ (xs:=as.map V.int) (fun i ys H'=>H'=H1/\ys=List.replicate ((as.take i).filter fun n=>decide ((as.count 1:Int)<n)).length (V.int 1)) ⟨rfl,by rw [zE4];rfl⟩ ?_ ?_ ?_⟩
       · rintro i ys H' _ ⟨rfl,_⟩;exact SqT.of ha1
       · rintro i v ys H' hv ⟨rfl,rfl⟩;have hi:i<as.length:=by
          have:=(List.getElem?_eq_some_iff.mp hv).1;rw [zA0] at this;exact this
         have ex:v=.int as[i]:=by rw [iF hi] at hv;exact (Option.some.inj hv).symm
         subst ex;have hlf:=zG8 (fun n=>decide ((as.count 1:Int)<n)) (as.take i);rw [zB3] at hlf;refine ⟨by rw [zC8];exact aE (by lia),?_⟩;refine bK (fun c3=>?_) (fun c3=>?_)
         · refine ⟨rfl,?_⟩;rw [dq hi,if_pos (decide_eq_true c3),zA4,zG7,List.replicate_succ']
         · refine ⟨rfl,?_⟩;rw [dq hi,if_neg (by simpa using c3),zC9]
       · rintro ys H' ⟨rfl,rfl⟩ D hD;refine ⟨_,.inl (SqL.of af),?_⟩;rw [zC8,zA0,zA6 (zA1 _)];exact q _ (y1.trans (Same.new hD _))
theorem sc_ls:FnScope ["_law_which","_law_n","_law_t","_law_found","_law_parting_here","_law_left"] ["_law_which","_law_n","_law_t"] (ap (top 166)):=.(0)
def sp_ls:Sp:=fun vs H Q _=>∃ (x:Str) (n t:Nat),vs=[.str x,.int n,.int t]/\Wh x/\n<=12/\1<=t/\t<=1000/\∀ r H',Same H H'->H' r=some (.lst ((bks t (ck x n)).map V.int))->Q (.ref r) H'
theorem nI_toI (y:List Nat):nI y=(M63.toI y).map V.int:=by unfold nI M63.toI;rw [zI1];first | done | rfl
theorem ux {x:Str} {n i:Nat} {y:List Nat} (h:(Asc n n)[i]? = some y):(ls x n)[i]? = some (vl x (M63.toI y),1):=by unfold ls;rw [List.getElem?_map,h];rfl
theorem uw (x:Str) (n:Nat):(ls x n).length=(Asc n n).length:=by unfold ls;rw [zA0]
theorem ok_ls (F:Fun K "_law_shares" "_law_shares" (top 166) f fd)  (F_law_list:FnA P w K mg base "_law_list" 1 ["_law_n"] sJ) (F_law_value:FnA P w K mg base "_law_value" 1 ["_law_which","_law_parting_here"] sI):FnOk P w K mg base CX0 2 f fd ["_law_which","_law_n","_law_t"] sp_ls:=by
 refine F.okz sc_ls .(10) .(2)
 · obtain ⟨x,n,t,rfl,_⟩:=h;rfl
 obtain ⟨x,n,t,rfl,hx,hn,t1,t2,q⟩:=h;have nd:=sc_ls.nd;have hu:=hr.units;have al:=dz (m:=n) (n:=n) (by lia);refine ⟨_,(ae (ay (i:=3) nd rfl .(8) (aA ba (aO (aa ah ab)) (zn 2)))
  (ae (bi PassesOwn.never rfl (bG (au F_law_list hr (by decide) rfl .(29))) (az (i:=4) nd rfl .(8)) (ae (ay (i:=5) nd rfl .(8) (aA bn (au F_law_value hr (by decide) rfl (aa (zn 0) (aa (zn 4) ab))) (zn 2)))
  (ai (dO (aA aB (aD aS (zn 3) (zn 5) .(11)) ah) (kw (zn 3) (zn 5) eh)))))
  (ai (aq (zn 3))))),?_⟩
 refine ⟨by show 1<=sizeLine;decide,fun d hd=>?_⟩;have yd:=Same.new hd (.lst [V.int 0]);refine ⟨⟨by lia,by lia⟩,.inl ⟨_,af,cT (by show 1*(t:Int).toNat<=1000;lia),fun L hL=>?_⟩⟩;rw [cJ,Int.toNat_natCast];have yL:=Same.new hL (.lst ((List.replicate t (0:Int)).map V.int));have hLL:upd (upd H d (.lst [V.int 0])) L (.lst ((List.replicate t (0:Int)).map V.int)) L=some (.lst ((bks t []).map V.int)):=af;have hLH:H L=none:=bp yd hL;have y0:=yd.trans yL;generalize upd (upd H d (.lst [V.int 0])) L (.lst ((List.replicate t (0:Int)).map V.int))=H0 at hLL y0;refine ⟨n,rfl,by lia,fun l as H1 y1 hl1 ta=>?_⟩;have hL1:=y1 _ _ hLL;have z1:=y0.trans y1;have fin:∀ {r:Addr} {H':Hp},(∀ b o,b≠L->H1 b=some o->H' b=some o)->r=L->H' r=some (.lst ((bks t (ls x n)).map V.int))->Q (.ref r) H':=fun {r H'} k e hr=>by
  rw [ls_bks hx hn] at hr;exact q r H' (fun c o e=>k c o (fun z=>by rw [z,hLH] at e;cases e) (z1 _ _ e)) hr
 by_cases lL:l=L
 · subst lL;rw [hl1] at hL1;have e:=List.map_eq_map_iff.mp (rfl:as.map V.ref=as.map V.ref);exfalso;have e1:as.map V.ref=(bks t []).map V.int:=HO.lst.inj (Option.some.inj hL1);have b0:(bks t []).length=t:=bA t []
   cases as with
   | nil=>
     have:=congrArg List.length e1
     rw [zA0,zA0,b0] at this
     simp at this
     lia
   | cons a as=>
     cases hb:bks t [] with
     | nil=>rw [hb] at b0;simp at b0;lia
     | cons b bs=>rw [hb] at e1;cases e1
 refine ⟨l,rfl,⟨_,SqL.of hl1⟩,eD (xs:=as.map V.ref) (fun i σ H'=>(∀ b o,b≠L->H1 b=some o->H' b=some o)/\H' L=some (.lst ((bks t ((ls x n).take i)).map V.int))/\∃ x4 x5,σ=[some (.str x),some (.int n),some (.int t),some (.ref L),x4,x5]) ⟨fun b o _ e=>e,hL1,_,_,rfl⟩ ?_ ?_ ?_⟩
 · rintro i σ H' _ ⟨k,_⟩;exact SqL.of (k _ _ lL hl1)
 · rintro i v σ H' hv ⟨k,hL',x4,x5,rfl⟩;obtain ⟨b,y,ea,ey,rfl,hb⟩:=ta.at hv;have bL:b≠L:=fun z=>by rw [z,hL1] at hb;cases hb
   rw [nI_toI] at hb;have yl:=M11.ls_len (asc_mem.mp (zD3 ey));refine ⟨x,b,M63.toI y,rfl,hx,k _ _ bL hb,by unfold M63.toI;rw [zA0];lia,fun H2 y2=>?_⟩;have rl:=lw (t:=t) (by lia) (vl x (M63.toI y));refine ⟨show (0:Int)<(t:Int) by lia,?_⟩;have hL2:=y2 _ _ hL';have hj:(vl x (M63.toI y) % (t:Int)).toNat<(bks t ((ls x n).take i)).length:=by rw [bA];lia
   refine ⟨_,.inl (SqL.of hL2),.int ((bks t ((ls x n).take i)).getD (vl x (M63.toI y) % (t:Int)).toNat 0),?_,?_⟩
   · refine aN (j:=(vl x (M63.toI y) % (t:Int)).toNat) (by lia) ?_;rw [List.getElem?_map,List.getElem?_eq_getElem hj,zA9,List.getElem?_eq_getElem hj];rfl
   refine ⟨L,_,vl x (M63.toI y) % (t:Int),(vl x (M63.toI y) % (t:Int)).toNat,rfl,rfl,hL2,?_,?_⟩
   · unfold ixN;rw [if_pos rl.1,if_pos (by rw [zA0];lia)]
   refine ⟨fun c o nc e=>by rw [aH nc];exact y2 _ _ (k c o nc e),?_,_,_,rfl⟩;rw [af,jO (ux ey)];unfold kl;rw [← List.map_set]
 · rintro σ H' ⟨k,hL',x4,x5,rfl⟩;rw [zA6 (by rw [uw,← ta.1,zA0];exact zA1 _)] at hL';exact fin k rfl hL'
end
theorem rO {K:PySem.W.Frag} {a b c:Int} {H:Hp} {Q:VK} (e:a+b=c) (q:Q (.int c) H):sT K (.int a) (.int b) H Q:=by subst e;exact q
theorem pickW {r:Int} (h0:0<=r) (h1:r<2):∃ x:Str,atI [V.str "rank",.str "mark"] r=some (.str x)/\Wh x:=by
 have:r=0\/r=1:=by lia
 rcases this with rfl | rfl
 · exact ⟨_,rfl,.inl rfl⟩
 · exact ⟨_,rfl,.inr rfl⟩
theorem pickT {r a b:Int} (h0:0<=r) (h1:r<2) (ha:0<a) (hb:a<=b):∃ m:Int,atI [V.int a,.int b] r=some (.int m)/\0<m/\m<=b:=by
 have:r=0\/r=1:=by lia
 rcases this with rfl | rfl
 · exact ⟨a,rfl,ha,hb⟩
 · exact ⟨b,rfl,by lia,by lia⟩
theorem lg {n:Nat} (h:n<1000000):((n:Int)).natAbs.log2<1920:=be (by lia) (by lia)
theorem ntl {n:Nat} (h:n<1000000):(nt (n:Int)).length<=6:=(bu (by lia) (by lia)).2
theorem dF {a:Str}:¬ (!decide (V.str a=V.str a))=true:=by simp
theorem jC:2000<=sizeLine:=by unfold sizeLine;lia
theorem gn {x:Str} {t a n:Nat} (hx:Wh x) (ht:t<1000000) (ha:a<1000000) (hn:n<1000000):(([Str.ofString "uneven",x,nt t,nt a,nt n]).map (·.length)).sum+([Str.ofString "uneven",x,nt t,nt a,nt n]).length*.(19).length<=16777216/\(Txt.join .(19) [Str.ofString "uneven",x,nt t,nt a,nt n]).length<=2000/\Txt.split (Txt.join .(19) [Str.ofString "uneven",x,nt t,nt a,nt n]) .(19)=Str.ofString "uneven"::[x,nt t,nt a,nt n]:=by
 have l1:=ntl ht;have l2:=ntl ha;have l3:=ntl hn;have lx:=i8 hx;have jl:=jE [Str.ofString "uneven",x,nt t,nt a,nt n];simp only [zC5,List.map_nil,zE0,List.sum_nil,zB5,List.length_nil,j7,ce] at jl ⊢;refine ⟨by lia,by lia,qZ (zE2 _ _) fun w hw=>?_⟩;simp only [zA8,zI2,or_false] at hw;rcases hw with rfl | rfl | rfl | rfl | rfl
 · exact mn
 · exact gj hx
 · exact nsp (by lia)
 · exact nsp (by lia)
 · exact nsp (by lia)
theorem gx {x:Str} {n t:Nat} (hx:Wh x) (hn:n<1000000) (ht:t<1000000):(([Str.ofString "shares",x,nt n,nt t]).map (·.length)).sum+([Str.ofString "shares",x,nt n,nt t]).length*.(19).length<=16777216/\(Txt.join .(19) [Str.ofString "shares",x,nt n,nt t]).length<=2000/\Txt.split (Txt.join .(19) [Str.ofString "shares",x,nt n,nt t]) .(19)=Str.ofString "shares"::[x,nt n,nt t]:=by
 have l1:=ntl ht;have l3:=ntl hn;have lx:=i8 hx;have jl:=jE [Str.ofString "shares",x,nt n,nt t];simp only [zC5,List.map_nil,zE0,List.sum_nil,zB5,List.length_nil,len_shares.1,ce] at jl ⊢;refine ⟨by lia,by lia,qZ (zE2 _ _) fun w hw=>?_⟩;simp only [zA8,zI2,or_false] at hw;rcases hw with rfl | rfl | rfl | rfl
 · exact ie
 · exact gj hx
 · exact nsp (by lia)
 · exact nsp (by lia)
section
variable {P:Program} {w:World} {K:PySem.W.Frag} {mg:Str->Option Value} {base:Heap} {f:Addr} {fd:FuncData}
theorem sc_sr:FnScope ["_law_spool_here","_law_which","_law_n","_law_t","_law_line","_law_a","_law_due","_law_number","_law_far","_law_found","_law_told"] ["_law_spool_here"] (ap (top 167)):=.(0)
def oy:Sp:=fun vs H Q _=>∃ (p L:Addr) (n:Nat),vs=[.ref p]/\Hand H p L n/\n<100000/\∀ H',Hand H' p L (n+1000)->Q (.bl true) H'
theorem ok_sr (F:Fun K "_law_spread_right" "_law_spread_right" (top 167) f fd) (m_len:mg "len" = none) (m_range:mg "range" = none) (m_set:mg "set" = none) (m_str:mg "str" = none) (F_law_shares:FnA P w K mg base "_law_shares" 2 ["_law_which","_law_n","_law_t"] sp_ls) (F_law_take:FnA P w K mg base "_law_take" 1 ["_law_spool_here","_law_many"] dD) (F_answer:FnA P w K mg base "answer" 10 ["line"] ld) (F_first_uneven:FnA P w K mg base "first_uneven" 7 ["which","t","a","most"] oB) (F_shares:FnA P w K mg base "shares" 6 ["which","n","t"] kU):FnOk P w K mg base CX0 11 f fd ["_law_spool_here"] oy:=by
 refine F.okz sc_sr .(10) .(2)
 · obtain ⟨p,L,n,rfl,_⟩:=h;rfl
 obtain ⟨p,L,n0,rfl,hh,hn0,q⟩:=h;have nd:=sc_sr.nd;have hu:=hr.units;have l2:=jC;refine ⟨_,(ae (fL (i:=1) (j:=2) rfl nd rfl rfl (by decide) rfl rfl (aa (aD aS (aO (aa am (aa am ab))) .(12) .(11)) (aa .(12) ab)) rfl)
  (ae (ay (i:=3) nd rfl .(8) (aA aB ah (au F_law_take hr (by decide) rfl (aa (zn 0) (aa (aD aS (aO (aa ah (aa ah ab))) .(12) .(11)) ab)))))
  (ae (ay (i:=4) nd rfl .(8) (aA aB (aA aB (aA aB (aA aB (aA aB am (zn 1)) am) (aF rfl m_str (aa (zn 2) ab) rfl rfl)) am) (aF rfl m_str (aa (zn 3) ab) rfl rfl)))
  (ae (aC (aj (bg hu) (au F_answer hr (by decide) rfl (aa (zn 4) ab)) (bm am (aa (aQ ["_law_number"] [] rfl .(5) (bG (au F_law_shares hr (by decide) rfl (aa (zn 1) (aa (zn 2) (aa (zn 3) ab))))) aG (fun _ _ _ _=>az (i:=0) (show List.Nodup (["_law_number"]:List Str) by decide +kernel) rfl .(8)) (fun _ _ _ _=>aY) (fun _ _ _ _=>(aF rfl m_str (aa (zn 0) ab) rfl rfl))) ab)) (ao _)) (ai (aq bR)) ak)
  (ae (fL (i:=5) (j:=6) rfl nd rfl rfl (by decide) rfl rfl (aa (au F_law_take hr (by decide) rfl (aa (zn 0) (aa (zn 3) ab))) (aa am ab)) rfl)
  (ae (bi PassesOwn.never rfl (cA rfl m_range (aa (zn 2) (aa (dX cu ah) (aa (dX cu ah) ab)))) (az (i:=7) nd rfl .(8)) (ai (aC (ZW.zt (eE (aj (av hu) (aA bn (zn 7) (zn 3)) (zn 5) (ao _)) (dB (aj cw (oi rfl m_len (aa (og rfl rfl m_set (aa (au F_law_shares hr (by decide) rfl (aa (zn 1) (aa (zn 7) (aa (zn 3) ab)))) ab) rfl rfl) ab) rfl rfl) ah (ao _))))) (ai (ay (i:=6) nd rfl .(8) (aF rfl m_str (aa (zn 7) ab) rfl rfl))) ak)))
  (ae (aC (aj (bg hu) (au F_answer hr (by decide) rfl (aa (bm am (aa (aO (aa am (aa (zn 1) (aa (aF rfl m_str (aa (zn 3) ab) rfl rfl) (aa (aF rfl m_str (aa (zn 5) ab) rfl rfl) (aa (aF rfl m_str (aa (zn 2) ab) rfl rfl) ab)))))) ab)) ab)) (zn 6) (ao _)) (ai (aq bR)) ak)
  (ae (ay (i:=8) nd rfl .(8) (aA aB ah .(12)))
  (ae (ay (i:=9) nd rfl .(8) (au F_first_uneven hr (by decide) rfl (aa (zn 1) (aa (zn 3) (aa (zn 5) (aa (zn 8) ab))))))
  (ae (aC (aj (bg hu) (au F_answer hr (by decide) rfl (aa (bm am (aa (aO (aa am (aa (zn 1) (aa (aF rfl m_str (aa (zn 3) ab) rfl rfl) (aa (aF rfl m_str (aa (zn 5) ab) rfl rfl) (aa (aF rfl m_str (aa (zn 8) ab) rfl rfl) ab)))))) ab)) ab)) (aW (aj hW (zn 9) eG (ao _)) am (aF rfl m_str (aa (zn 9) ab) rfl rfl)) (ao _)) (ai (aq bR)) ak)
  (ae (ay (i:=10) nd rfl .(8) (bm am (aa (aQ ["_law_number"] [] rfl .(5) (bJ (au F_shares hr (by decide) rfl (aa (zn 1) (aa (zn 8) (aa (zn 3) ab))))) aG (fun _ _ _ _=>az (i:=0) (show List.Nodup (["_law_number"]:List Str) by decide +kernel) rfl .(8)) (fun _ _ _ _=>aY) (fun _ _ _ _=>(aF rfl m_str (aa (zn 0) ab) rfl rfl))) ab)))
  (ai (aq (aZ (av hu) (au F_answer hr (by decide) rfl (aa (bm am (aa (aO (aa am (aa (zn 1) (aa (aF rfl m_str (aa (zn 8) ab) rfl rfl) (aa (aF rfl m_str (aa (zn 3) ab) rfl rfl) ab))))) ab)) ab)) (zn 10) (ao _))))))))))))))),?_⟩
 refine ⟨by show 2<=sizeLine;decide,fun d hd=>?_⟩;have yd:=Same.new hd (.lst [V.str "rank",.str "mark"]);have dne:=hh.ne hd;have gd:upd H d (.lst [V.str "rank",.str "mark"]) d=some (.lst [V.str "rank",.str "mark"]):=af;have hh0:=hh.same yd;generalize upd H d (.lst [V.str "rank",.str "mark"])=H1 at gd hh0;refine ⟨p,L,2,_,rfl,hh0,by lia,by decide,by decide,fun w1 H2 a0 a1 st2=>?_⟩;obtain ⟨x,ex,hx⟩:=pickW a0 a1;refine ⟨_,.inl (SqL.of (st2.lst dne gd)),.str x,ex,?_⟩;refine ⟨p,L,13,_,rfl,st2.2,by lia,by decide,by decide,fun n1 H3 b0 b1 st3=>?_⟩;obtain ⟨n,rfl⟩:∃ n:Nat,n1=(n:Int):=⟨n1.toNat,by lia⟩
 refine ⟨_,_,rfl,?_⟩;have hh3:=st3.2;refine ⟨by show 2<=sizeLine;decide,fun d2 hd2=>?_⟩;have yd2:=Same.new hd2 (.lst [V.int 6,.int 59]);have dne2:=hh3.ne hd2;have gd2:upd H3 d2 (.lst [V.int 6,.int 59]) d2=some (.lst [V.int 6,.int 59]):=af;have hh4:=hh3.same yd2;generalize upd H3 d2 (.lst [V.int 6,.int 59])=H4 at gd2 hh4;refine ⟨p,L,2,_,rfl,hh4,by lia,by decide,by decide,fun w2 H5 c0 c1 st5=>?_⟩;obtain ⟨mo,emo,mo0,mo1⟩:=pickT (a:=6) (b:=59) c0 c1 (by decide) (by decide);refine ⟨_,.inl (SqL.of (st5.lst dne2 gd2)),.int mo,emo,?_⟩;refine ⟨p,L,mo,_,rfl,st5.2,by lia,mo0,by lia,fun k H6 k0 k1 st6=>?_⟩;obtain ⟨t,et⟩:∃ t:Nat,(t:Int)=2+k:=⟨(2+k).toNat,by lia⟩
 refine rO et.symm ?_;have t0:2<=t:=by lia
 have t1:t<=60:=by lia
 have hh6:=st6.2;have lx:=i8 hx;have ln:=ntl (n:=n) (by lia);have lt:=ntl (n:=t) (by lia);refine ⟨by rw [len_shares.2];lia,by rw [app_len,len_shares.2,ce];lia,lg (by lia),by rw [app_len,app_len,len_shares.2,ce];show _+(nt (n:Int)).length<=_;lia,by rw [app_len,app_len,app_len,len_shares.2,ce];show _+(nt (n:Int)).length+1<=_;lia,lg (by lia),by rw [app_len,app_len,app_len,app_len,len_shares.2,ce];show _+(nt (n:Int)).length+_+(nt (t:Int)).length<=_;lia,?_⟩;refine ⟨_,Str.ofString "shares",[x,nt n,nt t],rfl,?_,uz hx (by lia) (by lia),.inr (.inr (.inl ⟨rfl,x,n,t,rfl,hx,by lia,t0,t1,fun H7 y7=>?_⟩))⟩
 · rw [app_len,app_len,app_len,app_len,app_len,len_shares.2,ce];show _+(nt (n:Int)).length+_+(nt (t:Int)).length<=_;lia
 refine ⟨rfl,?_⟩;refine ⟨x,n,t,rfl,hx,by lia,by lia,by lia,fun r8 H8 y8 hr8=>?_⟩;have hh8:=(hh6.same y7).same y8;have lim:=fB (t:=t) (da hx (show n<=100 by lia));have bl:=bA t (ck x n);generalize bks t (ck x n)=ns at hr8 lim bl;refine ⟨r8,rfl,⟨_,SqL.of hr8⟩,bW (xs:=ns.map V.int) (fun j ys H'=>H'=H8/\ys=((ns.take j).map nt).map V.str) ⟨rfl,by rw [zE4];rfl⟩ ?_ ?_ ?_⟩
 · rintro j ys H' _ ⟨rfl,_⟩;exact SqL.of hr8
 · rintro j v ys H' hv ⟨rfl,rfl⟩;have hj:j<ns.length:=by
    have:=(List.getElem?_eq_some_iff.mp hv).1;rw [zA0] at this;exact this
   have ex:v=.int ns[j]:=by rw [iF hj] at hv;exact (Option.some.inj hv).symm
   subst ex;sleep 2;refine ⟨dm (lim _ (zB4 hj)),?_⟩;refine ⟨rfl,?_⟩;rw [zC3,List.getElem?_eq_getElem hj,zA7,zA7];rfl
 rintro ys H' ⟨rfl,rfl⟩ D hD;rw [zA0,zA6 (zA1 _)];refine ⟨_,SqL.of af,eY (by lia) lim,?_⟩;refine cU (fun c=>absurd c (dF (a:=nsx ns))) (fun _=>?_);have y9:=Same.new hD (.lst ((ns.map nt).map V.str));have hh9:=hh8.same y9;generalize upd H' D (.lst ((ns.map nt).map V.str))=H9 at hh9;clear lim bl hr8;refine ⟨p,L,t,_,rfl,hh9,by lia,by lia,by lia,fun a9 H10 e0 e1 st10=>?_⟩;obtain ⟨a,rfl⟩:∃ a:Nat,a9=(a:Int):=⟨a9.toNat,by lia⟩
 have ha:a<t:=by lia
 refine ⟨_,_,rfl,?_⟩;refine ⟨1,rfl,1,rfl,?_⟩;refine ⟨(n:Int),-1,-1,rfl,⟨by decide,⟨by decide,by decide⟩,dE (by lia) (by lia) (by lia) (by lia)⟩,?_⟩;rw [eT];have eN:((n:Int) - -1).toNat=n+1:=by lia
 rw [eN];have hh10:=st10.2;refine ci (fun i σ H'=>i<=n+1/\Hand H' p L (n0+100)/\∃ s x7,Dn (Un x t a) n (n+1 - i) (Str.ofString "even") s/\σ=[some (.ref p),some (.str x),some (.int (n:Int)),some (.int (t:Int)),some (.str (Str.ofString "shares "++x++Str.ofString " "++nt n++Str.ofString " "++nt t)),some (.int (a:Int)),some (.str s),x7,none,none,none]) ⟨zB0 _,hh10.mono (by lia),_,_,Dn.start,rfl⟩ ?_ ?_
 · rintro i σ H' hi ⟨_,hh',s,x7,dn,rfl⟩;obtain ⟨j,ej⟩:∃ j:Nat,j+i=n:=⟨n - i,by lia⟩
   have e0:(n:Int)+(i:Int) * -1=(j:Int):=by lia
   rw [e0];have es:n+1 - i=j+1:=by lia
   have es2:n+1 - (i+1)=j:=by lia
   rw [es] at dn;rw [es2];have mj:((j:Int) % (t:Int)=(a:Int))↔j % t=a:=by rw [← Int.natCast_emod,Int.ofNat_inj]
   refine ⟨show (0:Int)<(t:Int) by lia,?_⟩;refine bK (fun c1=>?_) (fun c1=>?_)
   · have c1':=mj.mp (V.int.inj c1);refine ⟨x,j,t,rfl,hx,by lia,by lia,by lia,fun r11 H11 y11 hr11=>?_⟩;have bl:=bA t (ck x j);refine ⟨_,hr11,by lia,fun p12 h12=>?_⟩;have y12:=Same.new h12 (.set (fun k=>(dst (bks t (ck x j))).any (· == k)) (dst (bks t (ck x j))).length);have dl:=dst_le (bks t (ck x j));have du:=dst_un (bks t (ck x j));refine ⟨_,_,af,by lia,?_⟩;have hh12:=(hh'.same y11).same y12;refine bK (fun c2=>?_) (fun c2=>?_)
     · have hun:Un x t a j:=⟨c1',by unfold un;rw [← du];exact decide_eq_true c2⟩
       refine ⟨lg (by lia),?_⟩;exact ⟨by lia,hh12,_,_,Dn.hit (by lia) hun,rfl⟩
     · have hun:¬ Un x t a j:=fun ⟨_,h⟩=>by
        unfold un at h;rw [← du] at h;exact c2 (of_decide_eq_true h)
       exact ⟨by lia,hh12,_,_,dn.miss hun,rfl⟩
   · have hun:¬ Un x t a j:=fun ⟨h,_⟩=>c1 (congrArg V.int (mj.mpr h));exact ⟨by lia,hh',_,_,dn.miss hun,rfl⟩
 rintro σ H13 ⟨_,hh13,s,x7,dn,rfl⟩;rw [Nat.sub_self] at dn;have hs:=dn.ov (re (x:=x) (by lia) ha);subst hs;refine ⟨rfl,?_⟩;refine ⟨lg (by lia),lg (by lia),lg (by lia),?_⟩;refine ⟨by show 5<=sizeLine;decide,fun d14 h14=>?_⟩;obtain ⟨w1,w2,w3⟩:=gn (t:=t) (a:=a) (n:=n) hx (by lia) (by lia) (by lia);refine ⟨[Str.ofString "uneven",x,nt t,nt a,nt n],SqL.of af,w1,?_⟩;have hh14:=hh13.same (Same.new h14 (.lst ([Str.ofString "uneven",x,nt t,nt a,nt n].map V.str)));refine ⟨_,Str.ofString "uneven",[x,nt t,nt a,nt n],rfl,w2,w3,.inr (.inr (.inr (.inl ⟨rfl,x,t,a,n,rfl,hx,t0,t1,ha,by lia,fun H15 y15=>?_⟩)))⟩;refine cU (fun c=>absurd c dF) (fun _=>?_);have hh15:Hand H15 p L (n0+100):=hh14.same y15;refine ⟨p,L,41,_,rfl,hh15,by lia,by decide,by decide,fun k2 H16 f0 f1 st16=>?_⟩;obtain ⟨far,ef⟩:∃ far:Nat,(far:Int)=20+k2:=⟨(20+k2).toNat,by lia⟩
 refine rO ef.symm ?_;have fl:far<=60:=by lia
 refine ⟨x,t,a,far,rfl,hx,by lia,by lia,by lia,by lia,fun H17 y17=>?_⟩;have hh17:=st16.2.same y17;refine ⟨rfl,?_⟩;refine ⟨lg (by lia),lg (by lia),lg (by lia),?_⟩;refine ⟨by show 5<=sizeLine;decide,fun d18 h18=>?_⟩;obtain ⟨w1,w2,w3⟩:=gn (t:=t) (a:=a) (n:=far) hx (by lia) (by lia) (by lia);refine ⟨[Str.ofString "uneven",x,nt t,nt a,nt far],SqL.of af,w1,?_⟩;have hh18:=hh17.same (Same.new h18 (.lst ([Str.ofString "uneven",x,nt t,nt a,nt far].map V.str)));refine ⟨_,Str.ofString "uneven",[x,nt t,nt a,nt far],rfl,w2,w3,.inr (.inr (.inr (.inl ⟨rfl,x,t,a,far,rfl,hx,t0,t1,ha,by lia,fun H19 y19=>?_⟩)))⟩;have hh19:=hh18.same y19;have pl:=uJ (x:=x) (t:=t) (a:=a) (m:=far) (by lia) (by lia);generalize fuV x t a far=v at pl;rcases pl with rfl | ⟨m,rfl,m0,m1⟩
 rotate_left
 · refine ⟨be m0 m1,?_⟩;refine cU (fun c=>absurd c dF) (fun _=>?_);refine ⟨rfl,?_⟩;refine ⟨x,far,t,rfl,hx,by lia,by lia,by lia,fun r20 H20 y20 hr20=>?_⟩;have hh20:=hh19.same y20;have lim:=fB (t:=t) (da hx (show far<=100 by lia));have bl:=bA t (ck x far);have e20:bks t (ck x far)=bks t (ck x far):=rfl;generalize hns:bks t (ck x far)=ns at hr20 lim bl;refine ⟨r20,rfl,⟨_,SqT.of hr20⟩,bQ (xs:=ns.map V.int) (fun j ys H'=>H'=H20/\ys=((ns.take j).map nt).map V.str) ⟨rfl,by rw [zE4];rfl⟩ ?_ ?_ ?_⟩
   · rintro j ys H' _ ⟨rfl,_⟩;exact SqT.of hr20
   · rintro j v ys H' hv ⟨rfl,rfl⟩;have hj:j<ns.length:=by
      have:=(List.getElem?_eq_some_iff.mp hv).1;rw [zA0] at this;exact this
     have ex:v=.int ns[j]:=by rw [iF hj] at hv;exact (Option.some.inj hv).symm
     subst ex;sleep 2;refine ⟨dm (lim _ (zB4 hj)),?_⟩;refine ⟨rfl,?_⟩;rw [zC3,List.getElem?_eq_getElem hj,zA7,zA7];rfl
   rintro ys H' ⟨rfl,rfl⟩ D hD;rw [zA0,zA6 (zA1 _)];refine ⟨_,SqL.of af,eY (by lia) lim,?_⟩;have y21:=Same.new hD (.lst ((ns.map nt).map V.str));have hh21:=hh20.same y21;generalize upd H' D (.lst ((ns.map nt).map V.str))=H21 at hh21;refine ⟨rfl,?_⟩;refine ⟨lg (by lia),lg (by lia),?_⟩;refine ⟨by show 4<=sizeLine;decide,fun d22 h22=>?_⟩;obtain ⟨w1,w2,w3⟩:=gx (t:=t) (n:=far) hx (by lia) (by lia);refine ⟨[Str.ofString "shares",x,nt far,nt t],SqL.of af,w1,?_⟩;refine ⟨_,Str.ofString "shares",[x,nt far,nt t],rfl,w2,w3,.inr (.inr (.inl ⟨rfl,x,far,t,rfl,hx,by lia,by lia,by lia,fun H23 y23=>?_⟩))⟩;rw [hns];show Q (.bl (decide (V.str (nsx ns)=V.str (nsx ns)))) H23;rw [decide_eq_true rfl];exact q H23 (((hh21.same (Same.new h22 _)).same y23).mono (by lia))
 refine ⟨rfl,?_⟩;refine ⟨x,far,t,rfl,hx,by lia,by lia,by lia,fun r20 H20 y20 hr20=>?_⟩;have hh20:=hh19.same y20;have lim:=fB (t:=t) (da hx (show far<=100 by lia));have bl:=bA t (ck x far);have e20:bks t (ck x far)=bks t (ck x far):=rfl;generalize hns:bks t (ck x far)=ns at hr20 lim bl;refine ⟨r20,rfl,⟨_,SqT.of hr20⟩,bQ (xs:=ns.map V.int) (fun j ys H'=>H'=H20/\ys=((ns.take j).map nt).map V.str) ⟨rfl,by rw [zE4];rfl⟩ ?_ ?_ ?_⟩
 · rintro j ys H' _ ⟨rfl,_⟩;exact SqT.of hr20
 · rintro j v ys H' hv ⟨rfl,rfl⟩;have hj:j<ns.length:=by
    have:=(List.getElem?_eq_some_iff.mp hv).1;rw [zA0] at this;exact this
   have ex:v=.int ns[j]:=by rw [iF hj] at hv;exact (Option.some.inj hv).symm
   subst ex;sleep 2;refine ⟨dm (lim _ (zB4 hj)),?_⟩;refine ⟨rfl,?_⟩;rw [zC3,List.getElem?_eq_getElem hj,zA7,zA7];rfl
 rintro ys H' ⟨rfl,rfl⟩ D hD;rw [zA0,zA6 (zA1 _)];refine ⟨_,SqL.of af,eY (by lia) lim,?_⟩;have y21:=Same.new hD (.lst ((ns.map nt).map V.str));have hh21:=hh20.same y21;generalize upd H' D (.lst ((ns.map nt).map V.str))=H21 at hh21;refine ⟨rfl,?_⟩;refine ⟨lg (by lia),lg (by lia),?_⟩;refine ⟨by show 4<=sizeLine;decide,fun d22 h22=>?_⟩;obtain ⟨w1,w2,w3⟩:=gx (t:=t) (n:=far) hx (by lia) (by lia);refine ⟨[Str.ofString "shares",x,nt far,nt t],SqL.of af,w1,?_⟩;refine ⟨_,Str.ofString "shares",[x,nt far,nt t],rfl,w2,w3,.inr (.inr (.inl ⟨rfl,x,far,t,rfl,hx,by lia,by lia,by lia,fun H23 y23=>?_⟩))⟩;rw [hns];show Q (.bl (decide (V.str (nsx ns)=V.str (nsx ns)))) H23;rw [decide_eq_true rfl];exact q H23 (((hh21.same (Same.new h22 _)).same y23).mono (by lia))
end
theorem bad_at {g:Nat->Int} {n j:Nat} {m a q:Int} (h:j<=n):Bad (tb g (n+1)) m a q j↔(j:Int) % m=a/\g j % q≠0:=by
 unfold Bad;rw [dR (by lia)];constructor
 · rintro ⟨x,e,h1,h2⟩
   cases e
   exact ⟨h1,h2⟩
 · rintro ⟨h1,h2⟩;exact ⟨_,rfl,h1,h2⟩
theorem cw_lim {k:Kd} (hk:k.Ok) {m a q:Int} (m0:0<=m) (m1:m<1000000) (a0:0<=a) (a1:a<1000000) (q0:0<=q) (q1:q<1000000):((cws k m a q).map (·.length)).sum+(cws k m a q).length*.(19).length<=16777216/\(Txt.join .(19) (cws k m a q)).length<=480:=by
 have l1:=(bu m0 m1).2;have l2:=(bu a0 a1).2;have l3:=(bu q0 q1).2;have lk:=gp hk;have jl:=jE (cws k m a q);unfold cws at jl ⊢;simp only [zC5,List.map_nil,zE0,List.sum_nil,zB5,List.length_nil,im,ce] at jl ⊢;exact ⟨by lia,by lia⟩
theorem uN {k:Kd} (hk:k.Ok) {m a q n:Int} (m0:0<=m) (m1:m<1000000) (a0:0<=a) (a1:a<1000000) (q0:0<=q) (q1:q<1000000) (n0:0<=n) (n1:n<1000000):((cws k m a q++[nt n]).map (·.length)).sum+(cws k m a q++[nt n]).length*.(19).length<=16777216/\(Txt.join .(19) (cws k m a q++[nt n])).length<=2000:=by
 have l1:=(bu m0 m1).2;have l2:=(bu a0 a1).2;have l3:=(bu q0 q1).2;have l4:=(bu n0 n1).2;have lk:=gp hk;have jl:=jE (cws k m a q++[nt n]);unfold cws at jl ⊢;simp only [List.cons_append,List.nil_append,zC5,List.map_nil,zE0,List.sum_nil,zB5,List.length_nil,im,ce] at jl ⊢;exact ⟨by lia,by lia⟩
theorem pickQ {r:Int} (h0:0<=r) (h1:r<4):∃ m:Int,atI [V.int 6,.int 999998] (r / 3)=some (.int m)/\0<m/\m<=999998:=by
 have:r=0\/r=1\/r=2\/r=3:=by lia
 rcases this with rfl | rfl | rfl | rfl
 · exact ⟨6,rfl,by decide,by decide⟩
 · exact ⟨6,rfl,by decide,by decide⟩
 · exact ⟨6,rfl,by decide,by decide⟩
 · exact ⟨999998,rfl,by decide,by decide⟩
theorem KnAt.stepT {H H1:Hp} {a L c:Addr} {n m:Nat} {k:Kd} (hk:KdAt H c k) (h:Hand H a L m) (st:Step a L n H H1):KdAt H1 c k:=by
 cases k with
 | rests e rs=>obtain ⟨d,h1,h2⟩:=hk;exact ⟨d,Step.tup h st h1,Step.tup h st h2⟩
 | bare w=>exact Step.tup h st hk
 | one w n=>exact Step.tup h st hk
 | box b l=>exact Step.tup h st hk
section
variable {P:Program} {w:World} {K:PySem.W.Frag} {mg:Str->Option Value} {base:Heap} {f:Addr} {fd:FuncData}
theorem sc_cr:FnScope ["_law_spool_here","_law_kind_here","_law_most","_law_m","_law_q","_law_a","_law_due","_law_place","_law_many","_law_words","_law_far","_law_found"] ["_law_spool_here"] (ap (top 168)):=.(0)
theorem ok_cr (F:Fun K "_law_claim_right" "_law_claim_right" (top 168) f fd) (m_len:mg "len" = none) (m_range:mg "range" = none) (m_str:mg "str" = none) (F_law_is_of:FnA P w K mg base "_law_is_of" 1 ["_law_kind_here","_law_parting_here"] sp_io) (F_law_kind:FnA P w K mg base "_law_kind" 2 ["_law_spool_here","_law_most"] iO) (F_law_kind_text:FnA P w K mg base "_law_kind_text" 1 ["_law_kind_here"] iK) (F_law_list:FnA P w K mg base "_law_list" 1 ["_law_n"] sJ) (F_law_take:FnA P w K mg base "_law_take" 1 ["_law_spool_here","_law_many"] dD) (F_answer:FnA P w K mg base "answer" 10 ["line"] ld) (F_counts:FnA P w K mg base "counts" 4 ["kind","most"] ca) (F_first_not:FnA P w K mg base "first_not" 1 ["row","claim"] eg):FnOk P w K mg base CX0 11 f fd ["_law_spool_here"] oy:=by
 refine F.okz sc_cr .(10) .(2)
 · obtain ⟨p,L,n,rfl,_⟩:=h;rfl
 obtain ⟨p,L,n0,rfl,hh,hn0,fin⟩:=h;have nd:=sc_cr.nd;have hu:=hr.units;have l2:=jC;refine ⟨_,(ae (dO (aK (aa (au F_law_kind hr (by decide) rfl (aa (zn 0) (aa ah ab))) (aa .(12) ab))) (eF rfl (aV (az (i:=1) nd rfl (Or.inr rfl)) (aV (az (i:=2) nd rfl .(8)) cP))))
  (ae (ay (i:=3) nd rfl .(8) (aA aB ah (au F_law_take hr (by decide) rfl (aa (zn 0) (aa (aD aS (aO (aa ah (aa ah ab))) .(12) .(11)) ab)))))
  (ae (ay (i:=4) nd rfl .(8) (aA aB ah (au F_law_take hr (by decide) rfl (aa (zn 0) (aa (aD aS (aO (aa ah (aa ah ab))) (aA cK .(12) ah) .(11)) ab)))))
  (ae (fL (i:=5) (j:=6) rfl nd rfl rfl (by decide) rfl rfl (aa (au F_law_take hr (by decide) rfl (aa (zn 0) (aa (zn 3) ab))) (aa am ab)) rfl)
  (ae (bi PassesOwn.never rfl (cA rfl m_range (aa (zn 2) (aa (dX cu ah) (aa (dX cu ah) ab)))) (az (i:=7) nd rfl .(8)) (ai (aC (aj (av hu) (aA bn (zn 7) (zn 3)) (zn 5) (ao _)) (ae (ay (i:=8) nd rfl .(8) (aI rfl m_len (aa (aQ ["_law_parting_here"] [("_law_kind_here",1)] rfl .(5) (bG (au F_law_list hr (by decide) rfl (aa (zn 7) ab))) aG (fun _ _ _ _=>az (i:=0) (show List.Nodup (["_law_parting_here","_law_kind_here"]:List Str) by decide +kernel) rfl .(8)) (fun _ _ _ _=>(bX (bb (au F_law_is_of hr (by decide) rfl (aa (zn 1) (aa (zn 0) ab)))))) (fun _ _ _ _=>ah)) ab) rfl rfl))
  (ai (aC (aj (bg hu) (aA bn (zn 8) (zn 4)) ah (ao _)) (ai (ay (i:=6) nd rfl .(8) (aF rfl m_str (aa (zn 7) ab) rfl rfl))) ak))) ak)))
  (ae (ay (i:=9) nd rfl .(8) (bm am (aa (aO (aa am (aa (au F_law_kind_text hr (by decide) rfl .(29)) (aa (aF rfl m_str (aa (zn 3) ab) rfl rfl) (aa (aF rfl m_str (aa (zn 5) ab) rfl rfl) (aa (aF rfl m_str (aa (zn 4) ab) rfl rfl) ab)))))) ab)))
  (ae (aC (aj (bg hu) (au F_answer hr (by decide) rfl (aa (aA aB (aA aB (zn 9) am) (aF rfl m_str (aa (zn 2) ab) rfl rfl)) ab)) (zn 6) (ao _)) (ai (aq bR)) ak)
  (ae (ay (i:=10) nd rfl .(8) (aA aB ah .(12)))
  (ae (ay (i:=11) nd rfl .(8) (au F_first_not hr (by decide) rfl (aa (au F_counts hr (by decide) rfl (aa (zn 1) (aa (zn 10) ab))) (aa (aK (aa (zn 3) (aa (zn 5) (aa (zn 4) ab)))) ab))))
  (ai (aq (aZ (av hu) (au F_answer hr (by decide) rfl (aa (aA aB (aA aB (zn 9) am) (aF rfl m_str (aa (zn 10) ab) rfl rfl)) ab)) (aW (aj hW (zn 11) eG (ao _)) am (aF rfl m_str (aa (zn 11) ab) rfl rfl)) (ao _))))))))))))),?_⟩
 refine ⟨p,L,8,_,rfl,hh,by lia,by decide,by decide,fun c H1 k st1 hc ok=>?_⟩;refine ⟨p,L,15,_,rfl,st1.2,by lia,by decide,by decide,fun n1 H2 b0 b1 st2=>?_⟩;obtain ⟨n,rfl⟩:∃ n:Nat,n1=(n:Int):=⟨n1.toNat,by lia⟩
 have hc2:=KnAt.stepT hc st1.2 st2;refine ⟨by show 2<=sizeLine;decide,fun d3 h3=>?_⟩;have y3:=Same.new h3 (.tup [V.ref c,.int n]);refine ⟨d3,_,rfl,SqT.of af,rfl,_,_,rfl,_,_,rfl,rfl,?_⟩;have hc3:=hc2.same y3;have hh3:=st2.2.same y3;generalize upd H2 d3 (.tup [V.ref c,.int n])=H3 at hc3 hh3;refine ⟨by show 2<=sizeLine;decide,fun d4 h4=>?_⟩;have y4:=Same.new h4 (.lst [V.int 7,.int 600]);have dn4:=hh3.ne h4;have g4:upd H3 d4 (.lst [V.int 7,.int 600]) d4=some (.lst [V.int 7,.int 600]):=af;have hh4:=hh3.same y4;have hc4:=hc3.same y4;generalize upd H3 d4 (.lst [V.int 7,.int 600])=H4 at g4 hh4 hc4;refine ⟨p,L,2,_,rfl,hh4,by lia,by decide,by decide,fun w5 H5 c0 c1 st5=>?_⟩;obtain ⟨mo,emo,mo0,mo1⟩:=pickT (a:=7) (b:=600) c0 c1 (by decide) (by decide);refine ⟨_,.inl (SqL.of (st5.lst dn4 g4)),.int mo,emo,?_⟩;refine ⟨p,L,mo,_,rfl,st5.2,by lia,mo0,by lia,fun k6 H6 k0 k1 st6=>?_⟩;obtain ⟨m,em⟩:∃ m:Nat,(m:Int)=1+k6:=⟨(1+k6).toNat,by lia⟩
 refine rO em.symm ?_;have hc6:=KnAt.stepT (KnAt.stepT hc4 hh4 st5) st5.2 st6;have hh6:=st6.2;refine ⟨by show 2<=sizeLine;decide,fun d7 h7=>?_⟩;have y7:=Same.new h7 (.lst [V.int 6,.int 999998]);have dn7:=hh6.ne h7;have g7:upd H6 d7 (.lst [V.int 6,.int 999998]) d7=some (.lst [V.int 6,.int 999998]):=af;have hh7:=hh6.same y7;have hc7:=hc6.same y7;generalize upd H6 d7 (.lst [V.int 6,.int 999998])=H7 at g7 hh7 hc7;refine ⟨p,L,4,_,rfl,hh7,by lia,by decide,by decide,fun w8 H8 e0 e1 st8=>?_⟩;obtain ⟨qo,eqo,qo0,qo1⟩:=pickQ e0 e1;refine ⟨⟨by decide,by decide⟩,?_⟩;refine ⟨_,.inl (SqL.of (st8.lst dn7 g7)),.int qo,eqo,?_⟩;refine ⟨p,L,qo,_,rfl,st8.2,by lia,qo0,by lia,fun k9 H9 f0 f1 st9=>?_⟩;obtain ⟨q,eq⟩:∃ q:Int,q=2+k9:=⟨_,rfl⟩
 refine rO eq.symm ?_;have hc9:=KnAt.stepT (KnAt.stepT hc7 hh7 st8) st8.2 st9;have hh9:=st9.2;refine ⟨p,L,m,_,rfl,hh9,by lia,by lia,by lia,fun a10 H10 g0 g1 st10=>?_⟩;obtain ⟨a,rfl⟩:∃ a:Nat,a10=(a:Int):=⟨a10.toNat,by lia⟩
 have cb:CB m a q:=⟨by lia,by lia,by lia,by lia,by lia,by lia⟩
 refine ⟨_,_,rfl,?_⟩;have hc10:=KnAt.stepT hc9 hh9 st10;have hh10:=st10.2;refine ⟨1,rfl,1,rfl,?_⟩;refine ⟨(n:Int),-1,-1,rfl,⟨by decide,⟨by decide,by decide⟩,dE (by lia) (by lia) (by lia) (by lia)⟩,?_⟩;rw [eT];have eN:((n:Int) - -1).toNat=n+1:=by lia
 rw [eN];refine ci (fun i σ H'=>i<=n+1/\Same H10 H'/\∃ s x7 x8,Dn (Bad (tb (cf (kN k) n) (n+1)) m a q) n (n+1 - i) (Str.ofString "all") s/\σ=[some (.ref p),some (.ref c),some (.int (n:Int)),some (.int (m:Int)),some (.int q),some (.int (a:Int)),some (.str s),x7,x8,none,none,none]) ⟨zB0 _,Same.refl _,_,_,_,Dn.start,rfl⟩ ?_ ?_
 · rintro i σ H11 hi ⟨_,y11,s,x7,x8,dn,rfl⟩;obtain ⟨j,ej⟩:∃ j:Nat,j+i=n:=⟨n - i,by lia⟩
   have e0:(n:Int)+(i:Int) * -1=(j:Int):=by lia
   rw [e0];have es:n+1 - i=j+1:=by lia
   have es2:n+1 - (i+1)=j:=by lia
   rw [es] at dn;rw [es2];obtain ⟨kc,ko⟩:=pW (hc10.same y11) ok;have bd:Bad (tb (cf (kN k) n) (n+1)) m a q j↔(j:Int) % (m:Int)=a/\cf (kN k) j j % q≠0:=by
    rw [bad_at (by lia),cf_far ko (by lia) (show j<=n by lia)]
   refine ⟨show (0:Int)<(m:Int) by lia,?_⟩;refine bK (fun c1=>?_) (fun c1=>?_)
   · have c1':=V.int.inj c1;have al:=dz (m:=j) (n:=j) (by lia);refine ⟨j,rfl,by lia,fun l as H12 y12 hl ta=>?_⟩;have kc2:=kc.same y12;refine ⟨l,rfl,⟨_,SqL.of hl⟩,bW (xs:=as.map V.ref) (fun i ys H'=>Same H12 H'/\ys=List.replicate (((Asc j j).take i).filter (isg (kN k))).length (V.int 1)) ⟨Same.refl _,by rw [zE4];rfl⟩ ?_ ?_ ?_⟩
     · rintro i ys H' _ ⟨y,_⟩;exact SqL.of (y _ _ hl)
     · rintro i v ys H' hv ⟨y,rfl⟩;obtain ⟨b,x,ea,ex,rfl,hb⟩:=ta.at hv;have hx':=zD3 ex;have lf:=zG8 (isg (kN k)) ((Asc j j).take i);have lt:=List.length_take_le i (Asc j j);have lt2:((Asc j j).take i).length<=(Asc j j).length:=List.length_take_le' i _;refine ⟨by rw [zC8];exact iP (by lia),?_⟩;have xl:=M11.ls_len (asc_mem.mp hx');have xm:=(dk _ _ _ (asc_mem.mp hx')).1;refine ⟨c,b,kN k,x,rfl,kc2.same y,ko,y _ _ hb,by lia,fun z h=>by have:=(xm z h).2;lia,ls_fl _ _ _ hx',fun Hd yd=>?_⟩;have tk:=kI (p:=isg (kN k)) ex
       cases hb:isg (kN k) x with
       | true=>
         rw [hb,if_pos rfl] at tk
         refine ⟨y.trans yd,?_⟩
         rw [tk,zA4,zG7,List.replicate_succ']
       | false=>
         rw [hb,if_neg (by decide),zC9] at tk
         refine ⟨y.trans yd,?_⟩
         rw [tk]
     · rintro ys H13 ⟨y13,rfl⟩ D hD;rw [zA0,ta.1,zA6 (zA1 _)];have e14:((((Asc j j).filter (isg (kN k))).length:Nat):Int)=cf (kN k) j j:=LK_cf ko (by lia);have y14:=(y12.trans y13).trans (Same.new hD (.lst (List.replicate ((Asc j j).filter (isg (kN k))).length (V.int 1))));refine ⟨_,.inl (SqL.of af),?_⟩;rw [zC8,e14];refine ⟨show (0:Int)<q by lia,?_⟩;refine cU (fun c2=>?_) (fun c2=>?_)
       · have hb:Bad (tb (cf (kN k) n) (n+1)) m a q j:=bd.mpr ⟨c1',by simpa using c2⟩;refine ⟨lg (by lia),?_⟩;exact ⟨by lia,y11.trans y14,_,_,_,Dn.hit (by lia) hb,rfl⟩
       · have hb:¬ Bad (tb (cf (kN k) n) (n+1)) m a q j:=fun h=>(bd.mp h).2 (by simpa using c2);exact ⟨by lia,y11.trans y14,_,_,_,dn.miss hb,rfl⟩
   · have hb:¬ Bad (tb (cf (kN k) n) (n+1)) m a q j:=fun h=>c1 (congrArg V.int (bd.mp h).1);exact ⟨by lia,y11,_,_,_,dn.miss hb,rfl⟩
 rintro σ H11 ⟨_,y11,s,x7,x8,dn,rfl⟩;rw [Nat.sub_self] at dn;have hc11:=hc10.same y11;have hh11:=hh10.same y11;have q9:q<1000000:=by lia
 have qn:∃ qn:Nat,q=(qn:Int):=⟨q.toNat,by lia⟩
 obtain ⟨w1,w2⟩:=cw_lim ok (m:=m) (a:=a) (q:=q) (by lia) (by lia) (by lia) (by lia) (by lia) (by lia);have ln:=ntl (n:=n) (by lia);refine ⟨rfl,?_⟩;refine ⟨c,k,rfl,hc11,ok,fun H12 y12=>?_⟩;refine ⟨lg (by lia),lg (by lia),be (by lia) (by lia),?_⟩;refine ⟨by show 5<=sizeLine;decide,fun d13 h13=>?_⟩;refine ⟨cws k m a q,SqL.of af,w1,?_⟩;have y13:=Same.new h13 (.lst ((cws k m a q).map V.str));have hc13:=(hc11.same y12).same y13;have hh13:=(hh11.same y12).same y13;have key:∀ {nn:Nat},nn<=600->(Txt.join .(19) (cws k m a q)++Str.ofString " "++nt (nn:Int)).length<=2000/\(Txt.join .(19) (cws k m a q)).length+.(19).length<=sizeLine/\(Txt.join .(19) (cws k m a q)++Str.ofString " ").length+(nt (nn:Int)).length<=sizeLine:=fun {nn} hnn=>by
  have l6:=ntl (n:=nn) (by lia);rw [app_len,app_len,ce];exact ⟨by lia,by lia,by lia⟩
 obtain ⟨z1,z2,z3⟩:=key (nn:=n) (by lia);refine ⟨z2,?_⟩;refine ⟨lg (by lia),z3,?_⟩;refine ⟨_,Str.ofString "claim",k.words++[nt m,nt a,nt q,nt n],rfl,z1,mB ok (by lia) (by lia) (by lia) (by lia),.inr (.inr (.inr (.inr ⟨rfl,k,m,a,n,q,rfl,ok,cb,q9,by lia,fun v H14 y14 hv=>?_⟩)))⟩;have hs:=dn.ov (uF (by rw [br]) hv);subst hs;refine cU (fun c=>absurd c dF) (fun _=>?_);have hc14:=hc13.same y14;have hh14:=hh13.same y14;refine ⟨p,L,41,_,rfl,hh14,by lia,by decide,by decide,fun k15 H15 i0 i1 st15=>?_⟩;obtain ⟨far,ef⟩:∃ far:Nat,(far:Int)=20+k15:=⟨(20+k15).toNat,by lia⟩
 refine rO ef.symm ?_;have hc15:=KnAt.stepT hc14 hh14 st15;obtain ⟨kc,ko⟩:=pW hc15 ok;refine ⟨c,far,kN k,rfl,by lia,kc,ko,fun T H16 y16 hT=>?_⟩;refine ⟨by show 3<=sizeLine;decide,fun d17 h17=>?_⟩;have y17:=Same.new h17 (.tup [V.int (m:Int),.int a,.int q]);refine ⟨T,d17,_,m,a,q,rfl,y17 _ _ hT,by rw [br];lia,af,cb,fun v2 H18 y18 hv2=>?_⟩;have hh18:=((st15.2.same y16).same y17).same y18;obtain ⟨z1,z2,z3⟩:=key (nn:=far) (by lia);refine ⟨z2,?_⟩;refine ⟨lg (by lia),z3,?_⟩;refine ⟨_,Str.ofString "claim",k.words++[nt m,nt a,nt q,nt far],rfl,z1,mB ok (by lia) (by lia) (by lia) (by lia),.inr (.inr (.inr (.inr ⟨rfl,k,m,a,far,q,rfl,ok,cb,q9,by lia,fun v3 H19 y19 hv3=>?_⟩)))⟩;obtain rfl:=hv3.one hv2;have pl:=mI (by rw [br];lia) hv3;have hh19:=(hh18.same y19).mono (m:=n0+1000) (by lia);rcases pl with rfl | ⟨mm,rfl,m0,m1⟩
 · exact fin H19 hh19
 · refine ⟨be m0 m1,?_⟩;show Q (.bl (decide (V.str (nt mm)=V.str (nt mm)))) H19;rw [decide_eq_true rfl];exact fin H19 hh19
end
theorem pX:Str.ofString "100" = nt ((100:Nat):Int):=by decide +kernel
theorem is60:Str.ofString "60" = nt ((60:Nat):Int):=by decide +kernel
theorem pickR {r:Int} {a b:Addr} (h0:0<=r) (h1:r<2):∃ (x:Str) (c:Addr) (s:Int),atI [V.ref a,.ref b] r=some (.ref c)/\Wh x/\((c=a/\x=Str.ofString "rank"/\s=5)\/(c=b/\x=Str.ofString "mark"/\s=7)):=by
 have:r=0\/r=1:=by lia
 rcases this with rfl | rfl
 · exact ⟨_,a,5,rfl,.inl rfl,.inl ⟨rfl,rfl,rfl⟩⟩
 · exact ⟨_,b,7,rfl,.inr rfl,.inr ⟨rfl,rfl,rfl⟩⟩
section
variable {P:Program} {w:World} {K:PySem.W.Frag} {mg:Str->Option Value} {base:Heap} {f:Addr} {fd:FuncData}
theorem sc_fr:FnScope ["_law_spool_here","_law_way","_law_t","_law_which","_law_told","_law_a","_law_found","_law_kind_here","_law_most","_law_q","_law_words"] ["_law_spool_here"] (ap (top 169)):=.(0)
def sp_fr:Sp:=fun vs H Q _=>∃ (p L:Addr) (n:Nat),vs=[.ref p]/\Hand H p L n/\n<100000/\∀ H',Q (.bl true) H'
theorem ok_fr (F:Fun K "_law_far_right" "_law_far_right" (top 169) f fd) (m_str:mg "str" = none) (F_law_kind:FnA P w K mg base "_law_kind" 2 ["_law_spool_here","_law_most"] iO) (F_law_kind_text:FnA P w K mg base "_law_kind_text" 1 ["_law_kind_here"] iK) (F_law_take:FnA P w K mg base "_law_take" 1 ["_law_spool_here","_law_many"] dD) (F_answer:FnA P w K mg base "answer" 10 ["line"] ld) (F_counts:FnA P w K mg base "counts" 4 ["kind","most"] ca) (F_first_not:FnA P w K mg base "first_not" 1 ["row","claim"] eg) (F_first_uneven:FnA P w K mg base "first_uneven" 7 ["which","t","a","most"] oB) (F_shares:FnA P w K mg base "shares" 6 ["which","n","t"] kU):FnOk P w K mg base CX0 11 f fd ["_law_spool_here"] sp_fr:=by
 refine F.okz sc_fr .(10) .(2)
 · obtain ⟨p,L,n,rfl,_⟩:=h;rfl
 obtain ⟨p,L,n0,rfl,hh,hn0,fin⟩:=h;have nd:=sc_fr.nd;have hu:=hr.units;have l2:=jC;refine ⟨_,(ae (fL (i:=1) (j:=2) rfl nd rfl rfl (by decide) rfl rfl (aa .(12) (aa (aA aB ah .(12)) ab)) rfl)
  (ae (aC (aj fW (zn 1) ah (ao _)) (ae (dO (aD aS (aO (aa (aK (aa am (aa ah ab))) (aa (aK (aa am (aa ah ab))) ab))) (zn 1) .(11)) (eF rfl (aV (az (i:=3) nd rfl .(8)) (aV (az (i:=2) nd rfl .(8)) cP))))
  (ae (ay (i:=4) nd rfl .(8) (bm am (aa (aQ ["_law_number"] [] rfl .(5) (bJ (au F_shares hr (by decide) rfl (aa (zn 3) (aa ah (aa (zn 2) ab))))) aG (fun _ _ _ _=>az (i:=0) (show List.Nodup (["_law_number"]:List Str) by decide +kernel) rfl .(8)) (fun _ _ _ _=>aY) (fun _ _ _ _=>(aF rfl m_str (aa (zn 0) ab) rfl rfl))) ab)))
  (ai (aq (aZ (av hu) (au F_answer hr (by decide) rfl (aa (bm am (aa (aO (aa am (aa (zn 3) (aa am (aa (aF rfl m_str (aa (zn 2) ab) rfl rfl) ab))))) ab)) ab)) (zn 4) (ao _)))))) ak)
  (ae (aC (aj (av hu) (zn 1) ah (ao _)) (ae (fL (i:=3) (j:=5) rfl nd rfl rfl (by decide) rfl rfl (aa (aD aS (aO (aa am (aa am ab))) .(12) .(11)) (aa (aA aB ah .(12)) ab)) rfl)
  (ae (ay (i:=6) nd rfl .(8) (au F_first_uneven hr (by decide) rfl (aa (zn 3) (aa ah (aa (zn 5) (aa ah ab))))))
  (ai (aq (aZ (av hu) (au F_answer hr (by decide) rfl (aa (bm am (aa (aO (aa am (aa (zn 3) (aa am (aa (aF rfl m_str (aa (zn 5) ab) rfl rfl) (aa am ab)))))) ab)) ab)) (aW (aj hW (zn 6) eG (ao _)) am (aF rfl m_str (aa (zn 6) ab) rfl rfl)) (ao _)))))) ak)
  (ae (kq (i:=7) (j:=8) (k:=9) rfl nd rfl rfl rfl (by decide) (by decide) (by decide) rfl rfl rfl (aa (au F_law_kind hr (by decide) rfl (aa (zn 0) (aa ah ab))) (aa .(12) (aa (aA aB ah .(12)) ab))) rfl)
  (ae (ay (i:=5) nd rfl .(8) (au F_law_take hr (by decide) rfl (aa (zn 0) (aa (zn 2) ab))))
  (ae (ay (i:=6) nd rfl .(8) (au F_first_not hr (by decide) rfl (aa (au F_counts hr (by decide) rfl (aa (zn 7) (aa (zn 8) ab))) (aa (aK (aa (zn 2) (aa (zn 5) (aa (zn 9) ab)))) ab))))
  (ae (ay (i:=10) nd rfl .(8) (bm am (aa (aO (aa am (aa (au F_law_kind_text hr (by decide) rfl (aa (zn 7) ab)) (aa (aF rfl m_str (aa (zn 2) ab) rfl rfl) (aa (aF rfl m_str (aa (zn 5) ab) rfl rfl) (aa (aF rfl m_str (aa (zn 9) ab) rfl rfl) (aa (aF rfl m_str (aa (zn 8) ab) rfl rfl) ab))))))) ab)))
  (ai (aq (aZ (av hu) (au F_answer hr (by decide) rfl (aa (zn 10) ab)) (aW (aj hW (zn 6) eG (ao _)) am (aF rfl m_str (aa (zn 6) ab) rfl rfl)) (ao _))))))))))),?_⟩
 refine ⟨p,L,4,_,rfl,hh,by lia,by decide,by decide,fun wy H1 a0 a1 st1=>?_⟩;refine ⟨p,L,59,_,rfl,st1.2,by lia,by decide,by decide,fun k2 H2 b0 b1 st2=>?_⟩;obtain ⟨t,et⟩:∃ t:Nat,(t:Int)=2+k2:=⟨(2+k2).toNat,by lia⟩
 refine rO et.symm ?_;have t0:2<=t:=by lia
 have t1:t<=60:=by lia
 refine ⟨_,_,rfl,?_⟩;have hh2:=st2.2;refine bK (fun c1=>?_) (fun c1=>?_)
 · refine ⟨by show 2<=sizeLine;decide,fun d3 h3=>?_⟩;have y3:=Same.new h3 (.tup [V.str "rank",.int 5]);refine ⟨by show 2<=sizeLine;decide,fun d4 h4=>?_⟩;have y4:=Same.new h4 (.tup [V.str "mark",.int 7]);refine ⟨by show 2<=sizeLine;decide,fun d5 h5=>?_⟩;have y5:=Same.new h5 (.lst [V.ref d3,.ref d4]);have g3:=y5 _ _ (y4 _ _ (af (H:=H2) (a:=d3) (o:=.tup [V.str "rank",.int 5])));have g4:=y5 _ _ (af (H:=upd H2 d3 (.tup [V.str "rank",.int 5])) (a:=d4) (o:=.tup [V.str "mark",.int 7]));have g5:upd (upd (upd H2 d3 (.tup [V.str "rank",.int 5])) d4 (.tup [V.str "mark",.int 7])) d5 (.lst [V.ref d3,.ref d4]) d5=some (.lst [V.ref d3,.ref d4]):=af;have hh5:=((hh2.same y3).same y4).same y5;generalize upd (upd (upd H2 d3 (.tup [V.str "rank",.int 5])) d4 (.tup [V.str "mark",.int 7])) d5 (.lst [V.ref d3,.ref d4])=H5 at g3 g4 g5 hh5;obtain ⟨x,c,s,ec,hx,hc⟩:=pickR (a:=d3) (b:=d4) a0 c1;refine ⟨_,.inl (SqL.of g5),.ref c,ec,?_⟩;obtain ⟨t',ht',t0',t1',gc⟩:∃ t':Nat,s=(t':Int)/\2<=t'/\t'<=60/\H5 c=some (.tup [.str x,.int t']):=by
    rcases hc with ⟨rfl,rfl,rfl⟩ | ⟨rfl,rfl,rfl⟩
    · exact ⟨5,rfl,by decide,by decide,g3⟩
    · exact ⟨7,rfl,by decide,by decide,g4⟩
   refine ⟨c,_,rfl,SqT.of gc,rfl,_,_,rfl,_,_,rfl,rfl,?_⟩;refine ⟨rfl,?_⟩;refine ⟨x,100,t',rfl,hx,by lia,by lia,by lia,fun r8 H8 y8 hr8=>?_⟩;have lim:=fB (t:=t') (da hx (zA1 100));have bl:=bA t' (ck x 100);generalize hns:bks t' (ck x 100)=ns at hr8 lim bl;refine ⟨r8,rfl,⟨_,SqT.of hr8⟩,bQ (xs:=ns.map V.int) (fun j ys H'=>H'=H8/\ys=((ns.take j).map nt).map V.str) ⟨rfl,by rw [zE4];rfl⟩ ?_ ?_ ?_⟩
   · rintro j ys H' _ ⟨rfl,_⟩;exact SqT.of hr8
   · rintro j v ys H' hv ⟨rfl,rfl⟩;have hj:j<ns.length:=by
      have:=(List.getElem?_eq_some_iff.mp hv).1;rw [zA0] at this;exact this
     have ex:v=.int ns[j]:=by rw [iF hj] at hv;exact (Option.some.inj hv).symm
     subst ex;sleep 2;refine ⟨dm (lim _ (zB4 hj)),?_⟩;refine ⟨rfl,?_⟩;rw [zC3,List.getElem?_eq_getElem hj,zA7,zA7];rfl
   rintro ys H' ⟨rfl,rfl⟩ D hD;rw [zA0,zA6 (zA1 _)];refine ⟨_,SqL.of af,eY (by lia) lim,?_⟩;refine ⟨rfl,?_⟩;refine ⟨lg (by lia),?_⟩;refine ⟨by show 4<=sizeLine;decide,fun d22 h22=>?_⟩;obtain ⟨w1,w2,w3⟩:=gx (t:=t') (n:=100) hx (by decide) (by lia);rw [← pX] at w1 w2 w3;refine ⟨[Str.ofString "shares",x,Str.ofString "100",nt t'],SqL.of af,w1,?_⟩;refine ⟨_,Str.ofString "shares",[x,Str.ofString "100",nt t'],rfl,w2,w3,.inr (.inr (.inl ⟨rfl,x,100,t',by rw [pX],hx,by decide,t0',t1',fun H23 y23=>?_⟩))⟩;rw [hns];show Q (.bl (decide (V.str (nsx ns)=V.str (nsx ns)))) H23;rw [decide_eq_true rfl];exact fin H23
 refine bK (fun c2=>?_) (fun c2=>?_)
 · refine ⟨by show 2<=sizeLine;decide,fun d hd=>?_⟩;have yd:=Same.new hd (.lst [V.str "rank",.str "mark"]);have dne:=hh2.ne hd;have gd:upd H2 d (.lst [V.str "rank",.str "mark"]) d=some (.lst [V.str "rank",.str "mark"]):=af;have hh3:=hh2.same yd;generalize upd H2 d (.lst [V.str "rank",.str "mark"])=H3 at gd hh3;refine ⟨p,L,2,_,rfl,hh3,by lia,by decide,by decide,fun w4 H4 e0 e1 st4=>?_⟩;obtain ⟨x,ex,hx⟩:=pickW e0 e1;refine ⟨_,.inl (SqL.of (st4.lst dne gd)),.str x,ex,?_⟩;refine ⟨p,L,20,_,rfl,st4.2,by lia,by decide,by decide,fun k5 H5 f0 f1 st5=>?_⟩;obtain ⟨a,ea⟩:∃ a:Nat,(a:Int)=40+k5:=⟨(40+k5).toNat,by lia⟩
   refine rO ea.symm ?_;refine ⟨_,_,rfl,?_⟩;refine ⟨x,60,a,100,rfl,hx,by decide,by decide,by lia,by decide,fun H6 y6=>?_⟩;refine ⟨rfl,?_⟩;refine ⟨lg (by lia),?_⟩;refine ⟨by show 5<=sizeLine;decide,fun d7 h7=>?_⟩;obtain ⟨w1,w2,w3⟩:=gn (t:=60) (a:=a) (n:=100) hx (by decide) (by lia) (by decide);rw [← pX,← is60] at w1 w2 w3;refine ⟨[Str.ofString "uneven",x,Str.ofString "60",nt a,Str.ofString "100"],SqL.of af,w1,?_⟩;refine ⟨_,Str.ofString "uneven",[x,Str.ofString "60",nt a,Str.ofString "100"],rfl,w2,w3,.inr (.inr (.inr (.inl ⟨rfl,x,60,a,100,by rw [pX,is60],hx,by decide,by decide,by lia,by decide,fun H8 y8=>?_⟩)))⟩;have pl:=uJ (x:=x) (t:=60) (a:=a) (m:=100) (by decide) (by decide);generalize fuV x 60 a 100=v at pl;rcases pl with rfl | ⟨mm,rfl,m0,m1⟩
   · exact fin H8
   · refine ⟨be m0 m1,?_⟩;show Q (.bl (decide (V.str (nt mm)=V.str (nt mm)))) H8;rw [decide_eq_true rfl];exact fin H8
 refine ⟨p,L,8,_,rfl,hh2,by lia,by decide,by decide,fun c H3 k st3 hc ok=>?_⟩;refine ⟨p,L,601,_,rfl,st3.2,by lia,by decide,by decide,fun n4 H4 e0 e1 st4=>?_⟩;obtain ⟨n,rfl⟩:∃ n:Nat,n4=(n:Int):=⟨n4.toNat,by lia⟩
 refine ⟨p,L,8,_,rfl,st4.2,by lia,by decide,by decide,fun k5 H5 f0 f1 st5=>?_⟩;obtain ⟨q,eq⟩:∃ q:Int,q=2+k5:=⟨_,rfl⟩
 refine rO eq.symm ?_;have hc5:=KnAt.stepT (KnAt.stepT hc st3.2 st4) st4.2 st5;refine ⟨p,L,t,_,rfl,st5.2,by lia,by lia,by lia,fun a6 H6 g0 g1 st6=>?_⟩;obtain ⟨a,rfl⟩:∃ a:Nat,a6=(a:Int):=⟨a6.toNat,by lia⟩
 have cb:CB t a q:=⟨by lia,by lia,by lia,by lia,by lia,by lia⟩
 have hc6:=KnAt.stepT hc5 st5.2 st6;obtain ⟨kc,ko⟩:=pW hc6 ok;refine ⟨c,n,kN k,rfl,by lia,kc,ko,fun T H7 y7 hT=>?_⟩;refine ⟨by show 3<=sizeLine;decide,fun d8 h8=>?_⟩;have y8:=Same.new h8 (.tup [V.int (t:Int),.int a,.int q]);refine ⟨T,d8,_,t,a,q,rfl,y8 _ _ hT,by rw [br];lia,af,cb,fun v H9 y9 hv=>?_⟩;have hc9:=((hc6.same y7).same y8).same y9;have qn:∃ qn:Nat,q=(qn:Int):=⟨q.toNat,by lia⟩
 obtain ⟨w1,w2⟩:=uN ok (m:=t) (a:=a) (q:=q) (n:=n) (by lia) (by lia) (by lia) (by lia) (by lia) (by lia) (by lia) (by lia);refine ⟨rfl,?_⟩;refine ⟨c,k,rfl,hc9,ok,fun H10 y10=>?_⟩;refine ⟨lg (by lia),lg (by lia),be (by lia) (by lia),lg (by lia),?_⟩;refine ⟨by show 6<=sizeLine;decide,fun d11 h11=>?_⟩;refine ⟨cws k t a q++[nt n],SqL.of af,w1,?_⟩;refine ⟨_,Str.ofString "claim",k.words++[nt t,nt a,nt q,nt n],rfl,w2,mD ok (by lia) (by lia) (by lia) (by lia),.inr (.inr (.inr (.inr ⟨rfl,k,t,a,n,q,rfl,ok,cb,by lia,by lia,fun v3 H12 y12 hv3=>?_⟩)))⟩;obtain rfl:=hv3.one hv;have pl:=mI (by rw [br];lia) hv3;rcases pl with rfl | ⟨mm,rfl,m0,m1⟩
 · exact fin H12
 · refine ⟨be m0 m1,?_⟩;show Q (.bl (decide (V.str (nt mm)=V.str (nt mm)))) H12;rw [decide_eq_true rfl];exact fin H12
end
theorem Fst.zero {Bd:Nat->Prop} {n:Nat} {v:V} (h:Fst Bd n v) (b:Bd 0):v=.int ((0:Nat):Int):=by
 rcases h with ⟨_,h⟩ | ⟨p,_,rfl,_,h⟩
 · exact absurd b (h 0 (zB0 _))
 · cases p with
   | zero=>rfl
   | succ p=>exact absurd b (h 0 (Nat.succ_pos _))
theorem un_0:un (Str.ofString "rank") 0 5=true:=by decide +kernel
theorem ans_u:ov (fuV (Str.ofString "rank") 5 0 9) (Str.ofString "even")=Str.ofString "0":=by
 rw [(re (x:=Str.ofString "rank") (t:=5) (a:=0) (m:=9) (by decide) (by decide)).zero ⟨rfl,un_0⟩];decide +kernel
theorem ans_m:nt (mk [2])=Str.ofString "2":=by decide +kernel
abbrev kAll:Kd:=.bare (Str.ofString "all")
theorem kA:kN kAll=.all:=by
 show (if Str.ofString "all" = Str.ofString "all" then Kn.all else .own)=.all;rw [if_pos rfl]
theorem l9:kAll.Ok:=.inl rfl
theorem rowg {j:Nat} (h:j<601):(tb (cf (kN kAll) 600) (600+1))[j]? = some ((M90.dg 92 601 600 j:Nat):Int):=by
 rw [kA];show (tb (PL dl (ups 600)) (600+1))[j]? = _;rw [iE,dR h,M90.dg_is (B:=92) (by decide +kernel) (by decide) (by decide) h]
theorem rowl:(tb (cf (kN kAll) 600) (600+1)).length=601:=by rw [br]
theorem row0:tb (cf (kN kAll) 0) (0+1)=[1]:=by rw [kA];decide +kernel
theorem ans_c1 {v:V} (h:IsF (tb (cf (kN kAll) 0) (0+1)) ((1:Nat):Int) ((0:Nat):Int) 2 v):ov v (Str.ofString "all")=Str.ofString "0":=by
 rw [row0] at h;have:=h.one (.inr ⟨0,by decide,rfl,⟨1,rfl,by decide,by decide⟩,fun j hj=>absurd hj (Nat.not_lt_zero _)⟩);rw [this];decide +kernel
theorem ans_c2 {v:V} (h:IsF (tb (cf (kN kAll) 600) (600+1)) ((300:Nat):Int) ((100:Nat):Int) 4 v):ov v (Str.ofString "all")=Str.ofString "400":=by
 obtain ⟨d1,d4⟩:=M90.chk4;have:=h.one (.inr ⟨400,by rw [rowl];decide,rfl,⟨_,rowg (by decide),by decide,fun z=>d4 (by lia)⟩,fun j hj ⟨x,hx,hm,hq⟩=>by
  have:j=100:=by lia
  subst this;rw [rowg (by decide)] at hx
  cases hx
  exact hq (by lia)⟩)
 rw [this];decide +kernel
theorem ans_c3 {v:V} (h:IsF (tb (cf (kN kAll) 600) (600+1)) ((25:Nat):Int) ((24:Nat):Int) 25 v):ov v (Str.ofString "all")=Str.ofString "all":=by
 have k:∀ j,¬ Bad (tb (cf (kN kAll) 600) (600+1)) ((25:Nat):Int) ((24:Nat):Int) 25 j:=fun j ⟨x,hx,hm,hq⟩=>by
  have hj:j<601:=by
   by_cases c:j<601
   · exact c
   · rw [List.getElem?_eq_none (by rw [rowl];lia)] at hx;cases hx
  rw [rowg hj] at hx
  cases hx
  have:=of_decide_eq_true (zB8.mp M90.chk25 ((j - 24) / 25) (zE7.mpr (by lia)));rw [show 24+25*((j - 24) / 25)=j by lia] at this;exact hq (by lia)
 have:=h.one (.inl ⟨rfl,k⟩);rw [this];rfl
theorem s_1:Txt.split (Str.ofString "uneven rank 5 0 9") .(19)=Str.ofString "uneven"::[Str.ofString "rank",nt ((5:Nat):Int),nt ((0:Nat):Int),nt ((9:Nat):Int)]:=by decide +kernel
theorem s_2:Txt.split (Str.ofString "claim all 1 0 2 0") .(19)=Str.ofString "claim"::(kAll.words++[nt ((1:Nat):Int),nt ((0:Nat):Int),nt 2,nt ((0:Nat):Int)]):=by decide +kernel
theorem s_3:Txt.split (Str.ofString "mark 2") .(19)=Str.ofString "mark"::[shw [2]]:=by decide +kernel
theorem s_4:Txt.split (Str.ofString "claim all 300 100 4 600") .(19)=Str.ofString "claim"::(kAll.words++[nt ((300:Nat):Int),nt ((100:Nat):Int),nt 4,nt ((600:Nat):Int)]):=by decide +kernel
theorem s_5:Txt.split (Str.ofString "claim all 25 24 25 600") .(19)=Str.ofString "claim"::(kAll.words++[nt ((25:Nat):Int),nt ((24:Nat):Int),nt 25,nt ((600:Nat):Int)]):=by decide +kernel
theorem pg_2:Pg [2]:=⟨⟨fun n h=>by rw [zC6.mp h];decide,by simp⟩,by decide⟩
theorem pick39 {i:Nat} (h:i<3):∃ m:Int,atI [V.int 300,.int 30,.int 9] (0+(i:Int))=some (.int m)/\0<=m/\m<=300:=by
 have:i=0\/i=1\/i=2:=by lia
 rcases this with rfl | rfl | rfl
 · exact ⟨300,rfl,by decide,by decide⟩
 · exact ⟨30,rfl,by decide,by decide⟩
 · exact ⟨9,rfl,by decide,by decide⟩
section
variable {P:Program} {w:World} {K:PySem.W.Frag} {mg:Str->Option Value} {base:Heap} {f:Addr} {fd:FuncData}
theorem sc_law:FnScope ["_law_script","_law_spool_here","_law_turn","_law_parting_here","_law_which"] ["_law_script"] (ap (top 170)):=.(0)
def ji (K:PySem.W.Frag):Sp:=fun vs H Q _=>∃ (a:Addr) (ns:List Int),vs=[.ref a]/\SqL K H a (ns.map V.int)/\ns.length<=63/\∀ H',Q (.bl true) H'
theorem ok_law (F:Fun K "law" "law" (top 170) f fd) (m_range:mg "range" = none) (m_str:mg "str" = none) (F_law_claim_right:FnA P w K mg base "_law_claim_right" 11 ["_law_spool_here"] oy) (F_law_far_right:FnA P w K mg base "_law_far_right" 11 ["_law_spool_here"] sp_fr) (F_law_parting:FnA P w K mg base "_law_parting" 2 ["_law_spool_here","_law_most"] fO) (F_law_spool:FnA P w K mg base "_law_spool" 1 ["_law_script"] (jg K)) (F_law_spread_right:FnA P w K mg base "_law_spread_right" 11 ["_law_spool_here"] oy) (F_law_text:FnA P w K mg base "_law_text" 1 ["_law_parting_here"] qC) (F_law_value:FnA P w K mg base "_law_value" 1 ["_law_which","_law_parting_here"] sI) (F_answer:FnA P w K mg base "answer" 10 ["line"] ld):FnOk P w K mg base CX0 12 f fd ["_law_script"] (ji K):=by
 refine F.okz sc_law .(10) .(2)
 · obtain ⟨a,ns,rfl,_⟩:=h;rfl
 obtain ⟨a,ns0,rfl,hS,hl,q⟩:=h;have nd:=sc_law.nd;have hu:=hr.units;have l2:=jC;refine ⟨_,(ae (ay (i:=1) nd rfl .(8) (au F_law_spool hr (by decide) rfl (aa (zn 0) ab)))
  (ae (bi PassesOwn.never rfl (c6 rfl m_range (aa ah ab)) (az (i:=2) nd rfl .(8)) (ae (ay (i:=3) nd rfl .(8) (au F_law_parting hr (by decide) rfl (aa (zn 1) (aa (aD aS (aO (aa ah (aa ah (aa ah ab)))) (zn 2) .(11)) ab))))
  (ai (bi PassesOwn.never rfl (bJ (aK (aa am (aa am ab)))) (az (i:=4) nd rfl .(8)) (ai (aC (aj (bg hu) (au F_answer hr (by decide) rfl (aa (aA aB (aA aB (zn 4) am) (au F_law_text hr (by decide) rfl (aa (zn 3) ab))) ab)) (aF rfl m_str (aa (au F_law_value hr (by decide) rfl (aa (zn 4) (aa (zn 3) ab))) ab) rfl rfl) (ao _)) (ai (aq bR)) ak))))))
  (ae (aC (ZW.zt (ge (aj (bg hu) (au F_answer hr (by decide) rfl (aa am ab)) am (ao _)) (ge (aj (bg hu) (au F_answer hr (by decide) rfl (aa am ab)) am (ao _)) (dN (aj (bg hu) (au F_answer hr (by decide) rfl (aa am ab)) am (ao _)))))) (ai (aq bR)) ak)
  (ae (aC (ZW.zt (ge (aj (bg hu) (au F_answer hr (by decide) rfl (aa am ab)) am (ao _)) (dN (aj (bg hu) (au F_answer hr (by decide) rfl (aa am ab)) am (ao _))))) (ai (aq bR)) ak)
  (ai (aq (bq (au F_law_spread_right hr (by decide) rfl .(29)) (bq (au F_law_claim_right hr (by decide) rfl .(29)) (cB (au F_law_far_right hr (by decide) rfl .(29))))))))))),?_⟩
 refine ⟨a,ns0,rfl,hS,hl,fun p L H1 y1 hh=>?_⟩;refine ⟨3,rfl,by decide,by decide,bE (fun i σ H'=>Hand H' p L (2000*i)/\∃ x2 x3 x4,σ=[some (.ref a),some (.ref p),x2,x3,x4]) ⟨hh.mono (by lia),_,_,_,rfl⟩ ?_ ?_⟩
 · rintro i σ H' hi ⟨hh,x2,x3,x4,rfl⟩;refine ⟨by show 3<=sizeLine;decide,fun d hd=>?_⟩;have yd:=Same.new hd (.lst [V.int 300,.int 30,.int 9]);have gd:upd H' d (.lst [V.int 300,.int 30,.int 9]) d=some (.lst [V.int 300,.int 30,.int 9]):=af;have hh0:=hh.same yd;generalize upd H' d (.lst [V.int 300,.int 30,.int 9])=H2 at gd hh0;obtain ⟨mo,emo,m0,m1⟩:=pick39 (i:=i) (by lia);refine ⟨_,.inl (SqL.of gd),.int mo,emo,?_⟩;refine ⟨p,L,mo,_,rfl,hh0,by lia,m0,m1,fun r H3 ns st3 hr3 prt sm=>?_⟩;have pg:Pg ns:=⟨prt,by lia⟩
   have nl:=pg.len;have sl:=pg.shw;refine ⟨by show 2<=sizeLine;decide,fun d4 h4=>?_⟩;have y4:=Same.new h4 (.tup [V.str "rank",.str "mark"]);have g4:upd H3 d4 (.tup [V.str "rank",.str "mark"]) d4=some (.tup [V.str "rank",.str "mark"]):=af;have hr4:=y4 _ _ hr3;have hh4:=st3.2.same y4;generalize upd H3 d4 (.tup [V.str "rank",.str "mark"])=H4 at g4 hr4 hh4;refine ⟨d4,rfl,⟨_,SqT.of g4⟩,gK (xs:=[.str "rank",.str "mark"]) (fun j σ H'=>Same H4 H'/\∃ x4,σ=[some (.ref a),some (.ref p),some (.int (0+(i:Int))),some (.ref r),x4]) ⟨Same.refl _,_,rfl⟩ ?_ ?_ ?_⟩
   · rintro j σ H' _ ⟨y,_⟩;exact SqT.of (y _ _ g4)
   · rintro j v σ H5 hv ⟨y5,x4,rfl⟩;obtain ⟨x,rfl,hx⟩:∃ x:Str,v=.str x/\Wh x:=by
      have:=zD3 hv;simp only [zA8,zI2,or_false] at this;rcases this with rfl | rfl
      · exact ⟨_,rfl,.inl rfl⟩
      · exact ⟨_,rfl,.inr rfl⟩
     have lx:=i8 hx;refine ⟨by rw [ce];lia,?_⟩;refine ⟨r,ns,rfl,y5 _ _ hr4,by lia,pg.num,fun H6 y6=>?_⟩;refine ⟨by rw [app_len,ce];lia,?_⟩;have zl:(x++Str.ofString " "++shw ns).length<=2000:=by rw [app_len,app_len,ce];lia
     have lg2:(vl x ns).natAbs.log2<1920:=by
      unfold vl;split
      · exact dm (qQ pg)
      · exact dm (qX pg)
     rcases hx with rfl | rfl
     · refine ⟨_,_,[shw ns],rfl,zl,mz (.inl rfl) pg.num,.inl ⟨rfl,ns,rfl,pg,fun H7 y7=>?_⟩⟩;refine ⟨Str.ofString "rank",r,ns,rfl,.inl rfl,(y6.trans y7) _ _ (y5 _ _ hr4),by lia,fun H8 y8=>?_⟩;refine ⟨lg2,?_⟩;rw [← vl_r];refine cU (fun c=>absurd c dF) (fun _=>?_);exact ⟨((y5.trans y6).trans y7).trans y8,_,rfl⟩
     · refine ⟨_,_,[shw ns],rfl,zl,mz (.inr rfl) pg.num,.inr (.inl ⟨rfl,ns,rfl,pg,fun H7 y7=>?_⟩)⟩;refine ⟨Str.ofString "mark",r,ns,rfl,.inr rfl,(y6.trans y7) _ _ (y5 _ _ hr4),by lia,fun H8 y8=>?_⟩;refine ⟨lg2,?_⟩;rw [← vl_m];refine cU (fun c=>absurd c dF) (fun _=>?_);exact ⟨((y5.trans y6).trans y7).trans y8,_,rfl⟩
   · rintro σ H5 ⟨y5,x4,rfl⟩;exact ⟨(hh4.same y5).mono (by lia),_,_,_,rfl⟩
 · rintro σ H2 ⟨hh2,x2,x3,x4,rfl⟩;refine ⟨_,Str.ofString "uneven",_,rfl,by decide +kernel,s_1,.inr (.inr (.inr (.inl ⟨rfl,_,5,0,9,rfl,.inl rfl,by decide,by decide,by decide,by decide,fun H3 y3=>?_⟩)))⟩;rw [ans_u];refine ⟨_,Str.ofString "claim",_,rfl,by decide +kernel,s_2,.inr (.inr (.inr (.inr ⟨rfl,kAll,1,0,0,2,rfl,l9,by unfold CB;decide,by decide,by decide,fun v H4 y4 hv=>?_⟩)))⟩;rw [ans_c1 hv];refine ⟨_,Str.ofString "mark",_,rfl,by decide +kernel,s_3,.inr (.inl ⟨rfl,[2],rfl,pg_2,fun H5 y5=>?_⟩)⟩;rw [ans_m];refine ⟨_,Str.ofString "claim",_,rfl,by decide +kernel,s_4,.inr (.inr (.inr (.inr ⟨rfl,kAll,300,100,600,4,rfl,l9,by unfold CB;decide,by decide,by decide,fun v H6 y6 hv=>?_⟩)))⟩;rw [ans_c2 hv];refine ⟨_,Str.ofString "claim",_,rfl,by decide +kernel,s_5,.inr (.inr (.inr (.inr ⟨rfl,kAll,25,24,600,25,rfl,l9,by unfold CB;decide,by decide,by decide,fun v H7 y7 hv=>?_⟩)))⟩;rw [ans_c3 hv];have hh7:=((((hh2.same y3).same y4).same y5).same y6).same y7;refine ⟨p,L,_,rfl,hh7,by lia,fun H8 hh8=>?_⟩;refine ⟨p,L,_,rfl,hh8,by lia,fun H9 hh9=>?_⟩;exact ⟨p,L,_,rfl,hh9,by lia,fun H10=>q H10⟩
end
end K73
namespace K73
open PySem L2
theorem fnA {P:Program} {w:World} {K:PySem.W.Frag} {mg:.(32)} {base:Heap} {x:Str} {k:Nat} {ps:List Str} {sp:Sp} {f:Addr} {fd:FuncData} (F:FnOk P w K mg base CX0 k f fd ps sp) (b:Binds K fd ps []) (kp:PySem.W.keepIn K (.ref f)=true) (m:mg x=some (.ref f)):FnA P w K mg base x k ps sp:=⟨⟨f,fd,F,b,kp,m⟩⟩
def HF (K:PySem.W.Frag) (x:Str) (st:Stmt):Prop:=∃ f fd,Fun K x x st f fd/\PySem.W.nsIn K mainGlobals x=some (some (.ref f))/\PySem.W.keepIn K (.ref f)=true
theorem hf4 {x:Str} {st:Stmt} {K:PySem.W.Frag} {f:Addr} {oc:Value} {od an:Option Addr} {osl:Array (Option Value)} {kV doc pm cdv ct:Value} (a:PySem.W.nsIn K mainGlobals x=some (some (.ref f))) (l:K.lookup f=some ⟨oc,od,.func (PySem.W.fnOf x x (bH st) (bh st) (ap st) .none kV doc pm an cdv ct),osl⟩) (c:PySem.W.codeIn K cdv x=true) (k:PySem.W.keepIn K (.ref f)=true):HF K x st:=⟨_,_,fZ l c k,a,k⟩
theorem hfO {K:PySem.W.Frag} {h:Heap} {mg:.(32)} (X:K.In h) (G:h.Ns mainGlobals mg) {x:Str} {st:Stmt} (H:HF K x st) (ps:List Str) (hb:∀ (kV doc pm:Value) (an:Option Addr) (cdv ct:Value) (us:List Value),us.length=ps.length->bindArgs (PySem.W.fnOf x x (bH st) (bh st) (ap st) .none kV doc pm an cdv ct) ⟨us,[]⟩=pure (ps.zip us)):∃ f fd,Fun K x x st f fd/\Binds K fd ps []/\PySem.W.keepIn K (.ref f)=true/\mg x=some (.ref f):=
 let ⟨f,fd,F,a,k⟩:=H
 ⟨f,fd,F,F.binds hb,k,PySem.W.mg_of X G a⟩
theorem us1 {α:Type} {p:List α->Prop} (h:∀ a,p [a]):∀ us:List α,us.length=1->p us
 | [a],_=>h a
theorem us2 {α:Type} {p:List α->Prop} (h:∀ a b,p [a,b]):∀ us:List α,us.length=2->p us
 | [a,b],_=>h a b
theorem us3 {α:Type} {p:List α->Prop} (h:∀ a b c,p [a,b,c]):∀ us:List α,us.length=3->p us
 | [a,b,c],_=>h a b c
theorem us4 {α:Type} {p:List α->Prop} (h:∀ a b c d,p [a,b,c,d]):∀ us:List α,us.length=4->p us
 | [a,b,c,d],_=>h a b c d
theorem all_mk {l:PySem.W.OpenLaw} {w:World} {K:PySem.W.Frag} {h:Heap} {mg:.(32)} {fa f42 f43 f44 f45 f46 f61:Addr} {tk1 tk2 tk3 tk4 tk5 tk6 tk7 tk8 tk9 tk10 tk11 tk12 tk13 tk14 tk15:Tok} (X:K.In h) (G:h.Ns mainGlobals mg) (hfa:mg "law" = some (.ref fa))
 {od42 an42 od43 an43 od44 an44 od45 an45 od46 an46 od61 an61:Option Addr} {sl42 sl43 sl44 sl45 sl46 sl61:Array (Option Value)} {oc42 kV42 dc42 pm42 cd42 ct42 oc43 kV43 dc43 pm43 cd43 ct43 oc44 kV44 dc44 pm44 cd44 ct44 oc45 kV45 dc45 pm45 cd45 ct45 oc46 kV46 dc46 pm46 cd46 ct46 oc61 kV61 dc61 pm61 cd61 ct61:Value}
 (h1:HF K "begun" (top 30))
 (h2:HF K "put_on" (top 31))
 (h3:HF K "taken_off" (top 32))
 (h4:HF K "of_sizes" (top 34))
 (h5:HF K "of_sizes_below" (top 35))
 (h6:HF K "in_box" (top 36))
 (h7:HF K "falling_by" (top 37))
 (h8:HF K "counted" (top 38))
 (h9:HF K "counts" (top 39))
 (h10:HF K "first_not" (top 16))
 (h11:HF K "is_whole" (top 9))
 (h12:HF K "is_within" (top 10))
 (h13:HF K "is_size" (top 52))
 (h14:HF K "is_divisor" (top 53))
 (h15:HF K "are_rests" (top 54))
 (h16:HF K "fits_word" (top 55))
 (h17:HF K "is_kind" (top 56))
 (h18:HF K "is_text" (top 86))
 (h19:HF K "is_number" (top 87))
 (h20:HF K "numbers_read" (top 88))
 (h21:HF K "kind_of_words" (top 90))
 (h22:HF K "read_kind" (top 91))
 (h23:HF K "is_parting" (top 44))
 (h24:HF K "read_parting" (top 89))
 (h25:HF K "weight" (top 45))
 (h26:HF K "rank" (top 80))
 (h27:HF K "mark" (top 81))
 (h28:HF K "value_of" (top 96))
 (h29:HF K "many_with" (top 97))
 (h30:HF K "spread" (top 98))
 (h31:HF K "shares" (top 99))
 (h32:HF K "first_uneven" (top 100))
 (h33:HF K "number_in" (top 125))
 (h34:HF K "parting_in" (top 126))
 (h35:HF K "look_for" (top 130))
 (h36:HF K "kind_in" (top 127))
 (h37:HF K "kind_ahead" (top 128))
 (h38:HF K "is_claim" (top 15))
 (h39:HF K "which_in" (top 131))
 (h40:HF K "only_parting" (top 132))
 (h41:HF K "number_or" (top 136))
 (a42:PySem.W.nsIn K mainGlobals "answer_rank" = some (some (.ref f42))) (l42:K.lookup f42=some ⟨oc42,od42,.func (PySem.W.fnOf "answer_rank" "answer_rank" (bH (top 139)) (bh (top 139)) (ap (top 139)) .none kV42 dc42 pm42 an42 cd42 ct42),sl42⟩) (c42:PySem.W.codeIn K cd42 "answer_rank" = true) (k42:PySem.W.keepIn K (.ref f42)=true)
 (a43:PySem.W.nsIn K mainGlobals "answer_mark" = some (some (.ref f43))) (l43:K.lookup f43=some ⟨oc43,od43,.func (PySem.W.fnOf "answer_mark" "answer_mark" (bH (top 140)) (bh (top 140)) (ap (top 140)) .none kV43 dc43 pm43 an43 cd43 ct43),sl43⟩) (c43:PySem.W.codeIn K cd43 "answer_mark" = true) (k43:PySem.W.keepIn K (.ref f43)=true)
 (a44:PySem.W.nsIn K mainGlobals "answer_shares" = some (some (.ref f44))) (l44:K.lookup f44=some ⟨oc44,od44,.func (PySem.W.fnOf "answer_shares" "answer_shares" (bH (top 141)) (bh (top 141)) (ap (top 141)) .none kV44 dc44 pm44 an44 cd44 ct44),sl44⟩) (c44:PySem.W.codeIn K cd44 "answer_shares" = true) (k44:PySem.W.keepIn K (.ref f44)=true)
 (a45:PySem.W.nsIn K mainGlobals "answer_uneven" = some (some (.ref f45))) (l45:K.lookup f45=some ⟨oc45,od45,.func (PySem.W.fnOf "answer_uneven" "answer_uneven" (bH (top 142)) (bh (top 142)) (ap (top 142)) .none kV45 dc45 pm45 an45 cd45 ct45),sl45⟩) (c45:PySem.W.codeIn K cd45 "answer_uneven" = true) (k45:PySem.W.keepIn K (.ref f45)=true)
 (a46:PySem.W.nsIn K mainGlobals "answer_claim" = some (some (.ref f46))) (l46:K.lookup f46=some ⟨oc46,od46,.func (PySem.W.fnOf "answer_claim" "answer_claim" (bH (top 143)) (bh (top 143)) (ap (top 143)) .none kV46 dc46 pm46 an46 cd46 ct46),sl46⟩) (c46:PySem.W.codeIn K cd46 "answer_claim" = true) (k46:PySem.W.keepIn K (.ref f46)=true)
 (h47:HF K "answer" (top 155))
 (h48:HF K "_law_spool" (top 157))
 (h49:HF K "_law_take" (top 158))
 (h50:HF K "_law_kind" (top 159))
 (h51:HF K "_law_is_of" (top 160))
 (h52:HF K "_law_list" (top 161))
 (h53:HF K "_law_parting" (top 162))
 (h54:HF K "_law_text" (top 163))
 (h55:HF K "_law_kind_text" (top 164))
 (h56:HF K "_law_value" (top 165))
 (h57:HF K "_law_shares" (top 166))
 (h58:HF K "_law_spread_right" (top 167))
 (h59:HF K "_law_claim_right" (top 168))
 (h60:HF K "_law_far_right" (top 169))
 (a61:PySem.W.nsIn K mainGlobals "law" = some (some (.ref f61))) (l61:K.lookup f61=some ⟨oc61,od61,.func (PySem.W.fnOf "law" "law" (bH (top 170)) (bh (top 170)) (ap (top 170)) .none kV61 dc61 pm61 an61 cd61 ct61),sl61⟩) (c61:PySem.W.codeIn K cd61 "law" = true) (k61:PySem.W.keepIn K (.ref f61)=true)
 (y1:PySem.W.nsIn K mainGlobals "MOST_SIZE" = some (some (.int 600 tk1))) (y2:PySem.W.nsIn K mainGlobals "LEAST_DIVISOR_kinds" = some (some (.int 2 tk2))) (y3:PySem.W.nsIn K mainGlobals "MOST_DIVISOR_kinds" = some (some (.int 60 tk3))) (y4:PySem.W.nsIn K mainGlobals "MOST_SIGNS" = some (some (.int 2000 tk4))) (y5:PySem.W.nsIn K mainGlobals "MOST_FIGURES" = some (some (.int 6 tk5))) (y6:PySem.W.nsIn K mainGlobals "FIGURES" = some (some (.str "0123456789" tk6))) (y7:PySem.W.nsIn K mainGlobals "MOST_COUNTED" = some (some (.int 600 tk7))) (y8:PySem.W.nsIn K mainGlobals "MOST_WEIGHT" = some (some (.int 300 tk8))) (y9:PySem.W.nsIn K mainGlobals "MOST_STEP" = some (some (.int 600 tk9))) (y10:PySem.W.nsIn K mainGlobals "LEAST_PARTER" = some (some (.int 2 tk10))) (y11:PySem.W.nsIn K mainGlobals "MOST_PARTER" = some (some (.int 1000000 tk11))) (y12:PySem.W.nsIn K mainGlobals "LEAST_DIVISOR_answers" = some (some (.int 2 tk12))) (y13:PySem.W.nsIn K mainGlobals "MOST_DIVISOR_answers" = some (some (.int 60 tk13))) (y14:PySem.W.nsIn K mainGlobals "MOST_SHARED" = some (some (.int 100 tk14))) (y15:PySem.W.nsIn K mainGlobals "MOST_NUMBER" = some (some (.int 999999 tk15)))
 {rd:Addr} (yd:PySem.W.nsIn K mainGlobals "DEEDS" = some (some (.ref rd))) (yk:qd K rd ["count","list","rank","mark","shares","uneven","claim","core","turn","share","place","at","merge","split","pair","turned","draw"]=true) (yh:p8 K rd=(["count","list","rank","mark","shares","uneven","claim","core","turn","share","place","at","merge","split","pair","turned","draw"]:List Str).map (PySem.hashStr w)) (yv1:bV K rd "rank" f42=true) (yv2:bV K rd "mark" f43=true) (yv3:bV K rd "shares" f44=true) (yv4:bV K rd "uneven" f45=true) (yv5:bV K rd "claim" f46=true)
 (z1:PySem.W.nsIn K mainGlobals "len" = some none) (z2:PySem.W.nsIn K mainGlobals "list" = some none) (z3:PySem.W.nsIn K mainGlobals "range" = some none) (z4:PySem.W.nsIn K mainGlobals "min" = some none) (z5:PySem.W.nsIn K mainGlobals "tuple" = some none) (z6:PySem.W.nsIn K mainGlobals "bool" = some none) (z7:PySem.W.nsIn K mainGlobals "int" = some none) (z8:PySem.W.nsIn K mainGlobals "isinstance" = some none) (z9:PySem.W.nsIn K mainGlobals "str" = some none) (z10:PySem.W.nsIn K mainGlobals "all" = some none) (z11:PySem.W.nsIn K mainGlobals "sum" = some none) (z12:PySem.W.nsIn K mainGlobals "abs" = some none) (z13:PySem.W.nsIn K mainGlobals "max" = some none) (z14:PySem.W.nsIn K mainGlobals "sorted" = some none) (z15:PySem.W.nsIn K mainGlobals "set" = some none) :
 ∃ fd:FuncData,(∀ (s:Shared) (v:Value),BindsTo s fd ⟨[v],[]⟩ [("_law_script",v)])/\∀ base:Heap,K.In base->base.Ns mainGlobals mg->FnOk l.prog w K mg base CX0 12 fa fd ["_law_script"] (ji K):=by
 have e:=hfa.symm.trans (PySem.W.mg_of X G a61)
 cases e
 obtain ⟨f1,fd1,F1,b1,k1,a1⟩:=hfO X G h1 ["most"] fun _ _ _ _ _ _=>us1 fun _=>rfl;obtain ⟨f2,fd2,F2,b2,k2,a2⟩:=hfO X G h2 ["row","size"] fun _ _ _ _ _ _=>us2 fun _ _=>rfl;obtain ⟨f3,fd3,F3,b3,k3,a3⟩:=hfO X G h3 ["row","size"] fun _ _ _ _ _ _=>us2 fun _ _=>rfl;obtain ⟨f4,fd4,F4,b4,k4,a4⟩:=hfO X G h4 ["some","most"] fun _ _ _ _ _ _=>us2 fun _ _=>rfl;obtain ⟨f5,fd5,F5,b5,k5,a5⟩:=hfO X G h5 ["some","m","most"] fun _ _ _ _ _ _=>us3 fun _ _ _=>rfl;obtain ⟨f6,fd6,F6,b6,k6,a6⟩:=hfO X G h6 ["k","l","most"] fun _ _ _ _ _ _=>us3 fun _ _ _=>rfl;obtain ⟨f7,fd7,F7,b7,k7,a7⟩:=hfO X G h7 ["d","most"] fun _ _ _ _ _ _=>us2 fun _ _=>rfl;obtain ⟨f8,fd8,F8,b8,k8,a8⟩:=hfO X G h8 ["kind","most"] fun _ _ _ _ _ _=>us2 fun _ _=>rfl;obtain ⟨f9,fd9,F9,b9,k9,a9⟩:=hfO X G h9 ["kind","most"] fun _ _ _ _ _ _=>us2 fun _ _=>rfl;obtain ⟨f10,fd10,F10,b10,k10,a10⟩:=hfO X G h10 ["row","claim"] fun _ _ _ _ _ _=>us2 fun _ _=>rfl;obtain ⟨f11,fd11,F11,b11,k11,a11⟩:=hfO X G h11 ["thing"] fun _ _ _ _ _ _=>us1 fun _=>rfl;obtain ⟨f12,fd12,F12,b12,k12,a12⟩:=hfO X G h12 ["thing","least","most"] fun _ _ _ _ _ _=>us3 fun _ _ _=>rfl;obtain ⟨f13,fd13,F13,b13,k13,a13⟩:=hfO X G h13 ["thing"] fun _ _ _ _ _ _=>us1 fun _=>rfl;obtain ⟨f14,fd14,F14,b14,k14,a14⟩:=hfO X G h14 ["thing"] fun _ _ _ _ _ _=>us1 fun _=>rfl;obtain ⟨f15,fd15,F15,b15,k15,a15⟩:=hfO X G h15 ["thing","m"] fun _ _ _ _ _ _=>us2 fun _ _=>rfl;obtain ⟨f16,fd16,F16,b16,k16,a16⟩:=hfO X G h16 ["word","given"] fun _ _ _ _ _ _=>us2 fun _ _=>rfl;obtain ⟨f17,fd17,F17,b17,k17,a17⟩:=hfO X G h17 ["thing"] fun _ _ _ _ _ _=>us1 fun _=>rfl;obtain ⟨f18,fd18,F18,b18,k18,a18⟩:=hfO X G h18 ["thing"] fun _ _ _ _ _ _=>us1 fun _=>rfl;obtain ⟨f19,fd19,F19,b19,k19,a19⟩:=hfO X G h19 ["text"] fun _ _ _ _ _ _=>us1 fun _=>rfl;obtain ⟨f20,fd20,F20,b20,k20,a20⟩:=hfO X G h20 ["words"] fun _ _ _ _ _ _=>us1 fun _=>rfl;obtain ⟨f21,fd21,F21,b21,k21,a21⟩:=hfO X G h21 ["words"] fun _ _ _ _ _ _=>us1 fun _=>rfl;obtain ⟨f22,fd22,F22,b22,k22,a22⟩:=hfO X G h22 ["thing"] fun _ _ _ _ _ _=>us1 fun _=>rfl;obtain ⟨f23,fd23,F23,b23,k23,a23⟩:=hfO X G h23 ["thing"] fun _ _ _ _ _ _=>us1 fun _=>rfl;obtain ⟨f24,fd24,F24,b24,k24,a24⟩:=hfO X G h24 ["thing"] fun _ _ _ _ _ _=>us1 fun _=>rfl;obtain ⟨f25,fd25,F25,b25,k25,a25⟩:=hfO X G h25 ["parting"] fun _ _ _ _ _ _=>us1 fun _=>rfl;obtain ⟨f26,fd26,F26,b26,k26,a26⟩:=hfO X G h26 ["parting"] fun _ _ _ _ _ _=>us1 fun _=>rfl;obtain ⟨f27,fd27,F27,b27,k27,a27⟩:=hfO X G h27 ["parting"] fun _ _ _ _ _ _=>us1 fun _=>rfl;obtain ⟨f28,fd28,F28,b28,k28,a28⟩:=hfO X G h28 ["which","parting"] fun _ _ _ _ _ _=>us2 fun _ _=>rfl;obtain ⟨f29,fd29,F29,b29,k29,a29⟩:=hfO X G h29 ["which","value","everything"] fun _ _ _ _ _ _=>us3 fun _ _ _=>rfl;obtain ⟨f30,fd30,F30,b30,k30,a30⟩:=hfO X G h30 ["which","n"] fun _ _ _ _ _ _=>us2 fun _ _=>rfl;obtain ⟨f31,fd31,F31,b31,k31,a31⟩:=hfO X G h31 ["which","n","t"] fun _ _ _ _ _ _=>us3 fun _ _ _=>rfl;obtain ⟨f32,fd32,F32,b32,k32,a32⟩:=hfO X G h32 ["which","t","a","most"] fun _ _ _ _ _ _=>us4 fun _ _ _ _=>rfl;obtain ⟨f33,fd33,F33,b33,k33,a33⟩:=hfO X G h33 ["word","least","most"] fun _ _ _ _ _ _=>us3 fun _ _ _=>rfl;obtain ⟨f34,fd34,F34,b34,k34,a34⟩:=hfO X G h34 ["word","most"] fun _ _ _ _ _ _=>us2 fun _ _=>rfl;obtain ⟨f35,fd35,F35,b35,k35,a35⟩:=hfO X G h35 ["words","many"] fun _ _ _ _ _ _=>us2 fun _ _=>rfl;obtain ⟨f36,fd36,F36,b36,k36,a36⟩:=hfO X G h36 ["words"] fun _ _ _ _ _ _=>us1 fun _=>rfl;obtain ⟨f37,fd37,F37,b37,k37,a37⟩:=hfO X G h37 ["words","many"] fun _ _ _ _ _ _=>us2 fun _ _=>rfl;obtain ⟨f38,fd38,F38,b38,k38,a38⟩:=hfO X G h38 ["thing"] fun _ _ _ _ _ _=>us1 fun _=>rfl;obtain ⟨f39,fd39,F39,b39,k39,a39⟩:=hfO X G h39 ["word"] fun _ _ _ _ _ _=>us1 fun _=>rfl;obtain ⟨f40,fd40,F40,b40,k40,a40⟩:=hfO X G h40 ["words"] fun _ _ _ _ _ _=>us1 fun _=>rfl;obtain ⟨f41,fd41,F41,b41,k41,a41⟩:=hfO X G h41 ["number","word"] fun _ _ _ _ _ _=>us2 fun _ _=>rfl;have F42:=fZ (st:=top 139) l42 c42 k42;have b42:=F42.binds (ps:=["words"]) fun _ _ _ _ _ _=>us1 fun _=>rfl;have F43:=fZ (st:=top 140) l43 c43 k43;have b43:=F43.binds (ps:=["words"]) fun _ _ _ _ _ _=>us1 fun _=>rfl;have F44:=fZ (st:=top 141) l44 c44 k44;have b44:=F44.binds (ps:=["words"]) fun _ _ _ _ _ _=>us1 fun _=>rfl;have F45:=fZ (st:=top 142) l45 c45 k45;have b45:=F45.binds (ps:=["words"]) fun _ _ _ _ _ _=>us1 fun _=>rfl;have F46:=fZ (st:=top 143) l46 c46 k46;have b46:=F46.binds (ps:=["words"]) fun _ _ _ _ _ _=>us1 fun _=>rfl;obtain ⟨f47,fd47,F47,b47,k47,a47⟩:=hfO X G h47 ["line"] fun _ _ _ _ _ _=>us1 fun _=>rfl;obtain ⟨f48,fd48,F48,b48,k48,a48⟩:=hfO X G h48 ["_law_script"] fun _ _ _ _ _ _=>us1 fun _=>rfl;obtain ⟨f49,fd49,F49,b49,k49,a49⟩:=hfO X G h49 ["_law_spool_here","_law_many"] fun _ _ _ _ _ _=>us2 fun _ _=>rfl;obtain ⟨f50,fd50,F50,b50,k50,a50⟩:=hfO X G h50 ["_law_spool_here","_law_most"] fun _ _ _ _ _ _=>us2 fun _ _=>rfl;obtain ⟨f51,fd51,F51,b51,k51,a51⟩:=hfO X G h51 ["_law_kind_here","_law_parting_here"] fun _ _ _ _ _ _=>us2 fun _ _=>rfl;obtain ⟨f52,fd52,F52,b52,k52,a52⟩:=hfO X G h52 ["_law_n"] fun _ _ _ _ _ _=>us1 fun _=>rfl;obtain ⟨f53,fd53,F53,b53,k53,a53⟩:=hfO X G h53 ["_law_spool_here","_law_most"] fun _ _ _ _ _ _=>us2 fun _ _=>rfl;obtain ⟨f54,fd54,F54,b54,k54,a54⟩:=hfO X G h54 ["_law_parting_here"] fun _ _ _ _ _ _=>us1 fun _=>rfl;obtain ⟨f55,fd55,F55,b55,k55,a55⟩:=hfO X G h55 ["_law_kind_here"] fun _ _ _ _ _ _=>us1 fun _=>rfl;obtain ⟨f56,fd56,F56,b56,k56,a56⟩:=hfO X G h56 ["_law_which","_law_parting_here"] fun _ _ _ _ _ _=>us2 fun _ _=>rfl;obtain ⟨f57,fd57,F57,b57,k57,a57⟩:=hfO X G h57 ["_law_which","_law_n","_law_t"] fun _ _ _ _ _ _=>us3 fun _ _ _=>rfl;obtain ⟨f58,fd58,F58,b58,k58,a58⟩:=hfO X G h58 ["_law_spool_here"] fun _ _ _ _ _ _=>us1 fun _=>rfl;obtain ⟨f59,fd59,F59,b59,k59,a59⟩:=hfO X G h59 ["_law_spool_here"] fun _ _ _ _ _ _=>us1 fun _=>rfl;obtain ⟨f60,fd60,F60,b60,k60,a60⟩:=hfO X G h60 ["_law_spool_here"] fun _ _ _ _ _ _=>us1 fun _=>rfl;have F61:=fZ (st:=top 170) l61 c61 k61;have m_len:=PySem.W.mg_none_of X G z1;have m_list:=PySem.W.mg_none_of X G z2;have m_range:=PySem.W.mg_none_of X G z3;have m_min:=PySem.W.mg_none_of X G z4;have m_tuple:=PySem.W.mg_none_of X G z5;have m_bool:=PySem.W.mg_none_of X G z6;have m_int:=PySem.W.mg_none_of X G z7;have m_isinstance:=PySem.W.mg_none_of X G z8;have m_str:=PySem.W.mg_none_of X G z9;have m_all:=PySem.W.mg_none_of X G z10;have m_sum:=PySem.W.mg_none_of X G z11;have m_abs:=PySem.W.mg_none_of X G z12;have m_max:=PySem.W.mg_none_of X G z13;have m_sorted:=PySem.W.mg_none_of X G z14;have m_set:=PySem.W.mg_none_of X G z15;have g_MOST_SIZE:cN mg "MOST_SIZE" 600:=⟨_,PySem.W.mg_of X G y1⟩
 have g_LEAST_DIVISOR_kinds:cN mg "LEAST_DIVISOR_kinds" 2:=⟨_,PySem.W.mg_of X G y2⟩
 have g_MOST_DIVISOR_kinds:cN mg "MOST_DIVISOR_kinds" 60:=⟨_,PySem.W.mg_of X G y3⟩
 have g_MOST_SIGNS:cN mg "MOST_SIGNS" 2000:=⟨_,PySem.W.mg_of X G y4⟩
 have g_MOST_FIGURES:cN mg "MOST_FIGURES" 6:=⟨_,PySem.W.mg_of X G y5⟩
 have g_FIGURES:StrG mg "FIGURES" "0123456789":=⟨_,PySem.W.mg_of X G y6⟩
 have g_MOST_COUNTED:cN mg "MOST_COUNTED" 600:=⟨_,PySem.W.mg_of X G y7⟩
 have g_MOST_WEIGHT:cN mg "MOST_WEIGHT" 300:=⟨_,PySem.W.mg_of X G y8⟩
 have g_MOST_STEP:cN mg "MOST_STEP" 600:=⟨_,PySem.W.mg_of X G y9⟩
 have g_LEAST_PARTER:cN mg "LEAST_PARTER" 2:=⟨_,PySem.W.mg_of X G y10⟩
 have g_MOST_PARTER:cN mg "MOST_PARTER" 1000000:=⟨_,PySem.W.mg_of X G y11⟩
 have g_LEAST_DIVISOR_answers:cN mg "LEAST_DIVISOR_answers" 2:=⟨_,PySem.W.mg_of X G y12⟩
 have g_MOST_DIVISOR_answers:cN mg "MOST_DIVISOR_answers" 60:=⟨_,PySem.W.mg_of X G y13⟩
 have g_MOST_SHARED:cN mg "MOST_SHARED" 100:=⟨_,PySem.W.mg_of X G y14⟩
 have g_MOST_NUMBER:cN mg "MOST_NUMBER" 999999:=⟨_,PySem.W.mg_of X G y15⟩
 have D_DEEDS:DeedG w K mg "DEEDS" rd:=⟨PySem.W.mg_of X G yd,_,yk,yh⟩
 refine ⟨PySem.W.fnOf "law" "law" (bH (top 170)) (bh (top 170)) (ap (top 170)) .none kV61 dc61 pm61 an61 cd61 ct61,fun s v=>.of_eq rfl,fun base _ _=>?_⟩;have fA:=@fnA l.prog w K mg base;have A1:=fA (pM F1) b1 k1 a1;have A2:=fA (l5 F2 m_len m_list m_range) b2 k2 a2;have A3:=fA (ok_to F3 m_len m_list m_range) b3 k3 a3;have A4:=fA (iS F4 A1 A2) b4 k4 a4;have A5:=fA (ok_osb F5 A1 A2 A3) b5 k5 a5;have A6:=fA (ok_ib F6 m_min m_range A1 A2 A3) b6 k6 a6;have A7:=fA (ok_fb F7 m_range A1 A2) b7 k7 a7;have A8:=fA (j5 F8 m_list m_min m_range A7 A6 A4 A5) b8 k8 a8;have A9:=fA (l8 F9 m_tuple A8) b9 k9 a9;have A10:=fA (hZ F10 m_len m_range) b10 k10 a10;have A11:=fA (pI F11 m_bool m_int m_isinstance) b11 k11 a11;have A12:=fA (lZ F12 A11) b12 k12 a12;have A13:=fA (uc F13 g_MOST_SIZE A12) b13 k13 a13;have A14:=fA (ok_div F14 g_LEAST_DIVISOR_kinds g_MOST_DIVISOR_kinds A12) b14 k14 a14;have A15:=fA (pK F15 m_isinstance m_len m_tuple A12) b15 k15 a15;have A16:=fA (uh F16 m_len A13 A14 A15) b16 k16 a16;have A17:=fA (ok_isk F17 m_isinstance m_len m_str m_tuple A16) b17 k17 a17;have A18:=fA (ua F18 m_isinstance m_len m_str g_MOST_SIGNS) b18 k18 a18;have A19:=fA (l7 F19 m_all m_len g_MOST_FIGURES g_FIGURES) b19 k19 a19;have A20:=fA (ud F20 m_all m_int m_tuple A19) b20 k20 a20;have A21:=fA (ok_kow F21 m_len A20) b21 k21 a21;have A22:=fA (ok_rk F22 A18 A21 A17) b22 k22 a22;have A23:=fA (ok_is F23 m_isinstance m_len m_range m_tuple A11) b23 k23 a23;have A24:=fA (ok_rp F24 A23 A18 A20) b24 k24 a24;have A25:=fA (ok_w F25 m_sum) b25 k25 a25;have A26:=fA (ue F26 m_len) b26 k26 a26;have A27:=fA (uf F27 m_len) b27 k27 a27;have A28:=fA (ok_vo F28 A27 A26) b28 k28 a28;have A29:=fA (ok_mw F29 m_abs m_len m_range) b29 k29 a29;have A30:=fA (ok_spr F30 m_range m_tuple A9 A29 A28) b30 k30 a30;have A31:=fA (ok_sh F31 m_tuple A30) b31 k31 a31;have A32:=fA (ok_fu F32 m_max m_min m_range A31) b32 k32 a32;have A33:=fA (ok_ni F33 m_int A19 A12) b33 k33 a33;have A34:=fA (ok_pin F34 A24 A25) b34 k34 a34;have A35:=fA (ok_lf F35 m_len) b35 k35 a35;have A36:=fA (ok_ki F36 A22) b36 k36 a36;have A37:=fA (ok_ka F37 A36) b37 k37 a37;have A38:=fA (ok_icl F38 m_isinstance m_len m_tuple g_MOST_STEP g_LEAST_PARTER g_MOST_PARTER A12) b38 k38 a38;have A39:=fA (ok_wi F39) b39 k39 a39;have A40:=fA (ok_op F40 g_MOST_WEIGHT A35 A34) b40 k40 a40;have A41:=fA (ok_or F41 m_str) b41 k41 a41;have A42:=fA (ok_ark F42 m_str A40 A26) b42 k42 (PySem.W.mg_of X G a42);have A43:=fA (ok_amk F43 m_str A27 A40) b43 k43 (PySem.W.mg_of X G a43);have A44:=fA (ok_ash F44 m_str g_LEAST_DIVISOR_answers g_MOST_DIVISOR_answers g_MOST_SHARED A35 A33 A31 A39) b44 k44 (PySem.W.mg_of X G a44);have A45:=fA (ok_aun F45 g_LEAST_DIVISOR_answers g_MOST_DIVISOR_answers g_MOST_SHARED A32 A35 A33 A41 A39) b45 k45 (PySem.W.mg_of X G a45);have A46:=fA (ok_acl F46 m_tuple g_MOST_NUMBER g_MOST_COUNTED A9 A10 A38 A37 A33 A41) b46 k46 (PySem.W.mg_of X G a46);have A47:=fA (ok_an F47 D_DEEDS yv1 (PySem.W.mg_of X G a42) yv2 (PySem.W.mg_of X G a43) yv3 (PySem.W.mg_of X G a44) yv4 (PySem.W.mg_of X G a45) yv5 (PySem.W.mg_of X G a46) A18 A42 A43 A44 A45 A46) b47 k47 a47;have A48:=fA (pJ F48 m_abs m_len) b48 k48 a48;have A49:=fA (ub F49) b49 k49 a49;have A50:=fA (ug F50 m_range m_tuple A49) b50 k50 a50;have A51:=fA (ok_io F51 m_all m_len m_range m_tuple) b51 k51 a51;have A52:=fA (ok_ll F52 m_range m_sorted) b52 k52 a52;have A53:=fA (j4 F53 m_max m_min m_sorted m_tuple A49) b53 k53 a53;have A54:=fA (pL F54 m_str) b54 k54 a54;have A55:=fA (ok_kt F55 m_str) b55 k55 a55;have A56:=fA (ok_lv F56 m_len) b56 k56 a56;have A57:=fA (ok_ls F57 A52 A56) b57 k57 a57;have A58:=fA (ok_sr F58 m_len m_range m_set m_str A57 A49 A47 A32 A31) b58 k58 a58;have A59:=fA (ok_cr F59 m_len m_range m_str A51 A50 A55 A52 A49 A47 A9 A10) b59 k59 a59;have A60:=fA (ok_fr F60 m_str A50 A55 A49 A47 A9 A10 A32 A31) b60 k60 a60;exact ok_law F61 m_range m_str A59 A60 A53 A48 A58 A54 A56 A47
theorem walk {l:PySem.W.OpenLaw} {q:Program} {loose:List Str} {XP:(Str->Option Value)->Heap->Prop} {YP:World->Heap->Prop} {d:DefRec} {K:Params->PySem.W.Frag} (hn:l.most=some 63) (hdf:d.params.defaults=[])
 (hY:∀ (w:World) (h:Heap),YP w h->(K w.params).In h)
 (F:∀ (w:World) (mg:.(32)) (fa:Addr) (h:Heap),(K w.params).In h->h.Ns mainGlobals mg->mg d.name=some (.ref fa) ->
   ∃ fd:FuncData,(∀ (s:Shared) (u:Value),BindsTo s fd ⟨[u],[]⟩ [("_law_script",u)])/\∀ base:Heap,(K w.params).In base->base.Ns mainGlobals mg->FnOk l.prog w (K w.params) mg base CX0 12 fa fd ["_law_script"] (ji (K w.params))) :
 PySem.W.WalkO q loose XP YP l.row.toRowW d [] (fun f vs=>PySem.call f vs):=
 L2.walk_of (n:=63) (k:=12) (x:="_law_script") (CX:=fun _=>CX0) (sp:=fun w=>ji (K w.params)) hn (by decide) hdf ⟨rfl,by decide,by decide,rfl⟩ hY F (fun _ _ a ns hl _ hS=>⟨a,ns,rfl,hS,hl,fun _=>rfl⟩) fun _ _ _ _ _ z=>z
end K73
namespace PySem.W.Fast
theorem tw11843705962287968423:True:=⟨⟩
theorem tw3110739655737821117:True:=⟨⟩
theorem tw5272026680061523379:True:=⟨⟩
theorem tw8141824854146212662:True:=⟨⟩
theorem tw5942406675502941625:True:=⟨⟩
theorem tw17595137814549691402:True:=⟨⟩
theorem tw12384603126470594175:True:=⟨⟩
theorem tw13395370828690492795:True:=⟨⟩
theorem tw12862518124889250621:True:=⟨⟩
theorem tw17675353156974850298:True:=⟨⟩
theorem tw2973576606549989868:True:=⟨⟩
theorem tw6696599838882421519:True:=⟨⟩
theorem tw8695626325743605344:True:=⟨⟩
theorem tw4763449103258958323:True:=⟨⟩
theorem tw18352036009591521031:True:=⟨⟩
theorem tw2978535092938142562:True:=⟨⟩
theorem tw5721538968163880574:True:=⟨⟩
theorem tw3263532710956144302:True:=⟨⟩
theorem tw14289359887571859504:True:=⟨⟩
theorem tw4088619450405676580:True:=⟨⟩
theorem tw1938379734510642046:True:=⟨⟩
theorem tw8578456903131188338:True:=⟨⟩
theorem tw9971384230803758303:True:=⟨⟩
theorem tw16120273637514271040:True:=⟨⟩
theorem tw11905156832084734371:True:=⟨⟩
theorem tw11226097232952613801:True:=⟨⟩
theorem tw1185803852836808226:True:=⟨⟩
theorem tw18386775582163680790:True:=⟨⟩
theorem tw5614025290060536602:True:=⟨⟩
theorem tw4172034882473792747:True:=⟨⟩
theorem tw7763479805521601878:True:=⟨⟩
theorem tw8332796816216406650:True:=⟨⟩
theorem tw17030031301450185809:True:=⟨⟩
theorem tw12356958462531077116:True:=⟨⟩
theorem tw3708259117631579397:True:=⟨⟩
theorem tw15205702138472516493:True:=⟨⟩
theorem tw11599517510021486772:True:=⟨⟩
theorem tw4571858860428312097:True:=⟨⟩
theorem tw5549545722890039730:True:=⟨⟩
theorem tw3783827553319996239:True:=⟨⟩
theorem tw2309241074857378365:True:=⟨⟩
theorem tw5939001702633863072:True:=⟨⟩
theorem tw14219894903637400513:True:=⟨⟩
theorem tw1664434197758946951:True:=⟨⟩
theorem tw13688617448924510297:True:=⟨⟩
theorem tw6501371948999995710:True:=⟨⟩
theorem tw5482110256253266698:True:=⟨⟩
theorem tw7400506263004073061:True:=⟨⟩
theorem tw14875009960116840554:True:=⟨⟩
theorem tw16182177612413815453:True:=⟨⟩
theorem tw11712473498401244670:True:=⟨⟩
theorem tw17566321487418286064:True:=⟨⟩
theorem tw15752692908977282231:True:=⟨⟩
theorem tw5943364853726721529:True:=⟨⟩
theorem tw13307725164156421721:True:=⟨⟩
theorem tw4052585033845543736:True:=⟨⟩
theorem tw12588522565896515601:True:=⟨⟩
theorem tw1759794792946344069:True:=⟨⟩
theorem tw1563418850982366505:True:=⟨⟩
theorem tw5525316836504485083:True:=⟨⟩
theorem tw10471400030353689331:True:=⟨⟩
theorem tw822091521890438881:True:=⟨⟩
theorem tw10113072600907992207:True:=⟨⟩
theorem tw1314280165829614512:True:=⟨⟩
theorem tw12927298630340296067:True:=⟨⟩
theorem tw381649296608918651:True:=⟨⟩
theorem tw10054199985409519047:True:=⟨⟩
theorem tw13406394152295958545:True:=⟨⟩
theorem tw16773100843175142484:True:=⟨⟩
theorem tw3682755051162758547:True:=⟨⟩
theorem tw10917339865025587973:True:=⟨⟩
theorem tw187377716860642422:True:=⟨⟩
theorem tw348616553680436847:True:=⟨⟩
theorem tw8769013454038631138:True:=⟨⟩
theorem tw489427528696292972:True:=⟨⟩
theorem tw639047748563949998:True:=⟨⟩
theorem tw15847727215557099087:True:=⟨⟩
theorem tw1067654226673201350:True:=⟨⟩
theorem tw14916737694539136301:True:=⟨⟩
theorem tw3037339213146705593:True:=⟨⟩
theorem tw14654197274919327836:True:=⟨⟩
theorem tw16773983773395004750:True:=⟨⟩
theorem tw14765907898191120341:True:=⟨⟩
theorem tw15156478585168828578:True:=⟨⟩
theorem tw3618900173346971250:True:=⟨⟩
theorem tw1936084901789224710:True:=⟨⟩
theorem tw12210113555616732635:True:=⟨⟩
theorem tw18444344407161092444:True:=⟨⟩
theorem tw10060728274221301385:True:=⟨⟩
theorem tw15568186239959046509:True:=⟨⟩
theorem tw17175806551113380855:True:=⟨⟩
theorem tw1801999223047077439:True:=⟨⟩
theorem tw12870411711370891084:True:=⟨⟩
theorem tw14720111475298846087:True:=⟨⟩
theorem tw7566322534815077256:True:=⟨⟩
theorem tw4336501647196265159:True:=⟨⟩
theorem tw2853232913793631129:True:=⟨⟩
theorem tw8843431117300051571:True:=⟨⟩
theorem tw9483697680890502559:True:=⟨⟩
theorem tw15100438194667638649:True:=⟨⟩
theorem tw9685949989489676204:True:=⟨⟩
theorem tw7254149121839888309:True:=⟨⟩
theorem tw16280565312714549508:True:=⟨⟩
theorem tw6290142863561232584:True:=⟨⟩
theorem tw8339998214590859398:True:=⟨⟩
theorem tw10743653453122794385:True:=⟨⟩
theorem tw4906748051919554422:True:=⟨⟩
theorem tw10841951299460379078:True:=⟨⟩
theorem tw6992027455744259438:True:=⟨⟩
theorem tw10114319897061993612:True:=⟨⟩
theorem tw17617815549888111770:True:=⟨⟩
theorem tw14187542800784700961:True:=⟨⟩
theorem tw5534832759326504028:True:=⟨⟩
theorem tw16715307777751232664:True:=⟨⟩
theorem tw17172069048139454043:True:=⟨⟩
theorem tw18013591866008325834:True:=⟨⟩
theorem tw7610606458139397099:True:=⟨⟩
theorem tw10683390616738507109:True:=⟨⟩
theorem tw11180064279566152231:True:=⟨⟩
theorem tw13945379109253353904:True:=⟨⟩
theorem tw10289457613308471115:True:=⟨⟩
theorem tw2327333880560250662:True:=⟨⟩
theorem tw11731112085399155969:True:=⟨⟩
theorem tw3053377860160363700:True:=⟨⟩
theorem tw13357471295992970632:True:=⟨⟩
theorem tw995711579453304518:True:=⟨⟩
theorem tw12063558155850982432:True:=⟨⟩
theorem tw9864584144100066937:True:=⟨⟩
theorem tw17837247366630173772:True:=⟨⟩
theorem tw3522459504605855216:True:=⟨⟩
theorem tw5381875322324883457:True:=⟨⟩
theorem tw6125644697260645556:True:=⟨⟩
theorem tw15746233597065640228:True:=⟨⟩
theorem tw898306988730072791:True:=⟨⟩
theorem tw12689118960258711956:True:=⟨⟩
theorem tw10988520292815731734:True:=⟨⟩
theorem tw4171616068575068449:True:=⟨⟩
theorem tw11478530460833976656:True:=⟨⟩
theorem tw12973938665713860941:True:=⟨⟩
theorem tw4638050996826758713:True:=⟨⟩
theorem tw8039479643035824915:True:=⟨⟩
theorem tw4766025795207825103:True:=⟨⟩
theorem tw12722634801468427772:True:=⟨⟩
theorem tw2015772135505716622:True:=⟨⟩
theorem tw7566703117607094954:True:=⟨⟩
theorem tw16255900493579011819:True:=⟨⟩
theorem tw12674508876339804519:True:=⟨⟩
theorem tw7788206585980765972:True:=⟨⟩
theorem tw17788035718592999261:True:=⟨⟩
theorem tw8356702119878807148:True:=⟨⟩
theorem tw3440625290296370096:True:=⟨⟩
theorem tw14830891320257377142:True:=⟨⟩
theorem tw2596820579452561102:True:=⟨⟩
theorem tw15431748739441223690:True:=⟨⟩
theorem tw4720501875651624135:True:=⟨⟩
theorem tw10132568870914762332:True:=⟨⟩
theorem tw16811508859403640762:True:=⟨⟩
theorem tw14303481104216970472:True:=⟨⟩
theorem tw1674353588329353760:True:=⟨⟩
theorem tw13345964844801114011:True:=⟨⟩
theorem tw4554546157633362819:True:=⟨⟩
theorem tw12781660023222351412:True:=⟨⟩
theorem tw17795588454026298856:True:=⟨⟩
theorem tw4538843956402567114:True:=⟨⟩
theorem tw17604485952389338184:True:=⟨⟩
theorem tw15015080966327431480:True:=⟨⟩
theorem tw13352229889902059275:True:=⟨⟩
theorem tw12746574040166790770:True:=⟨⟩
theorem tw1434116747927915158:True:=⟨⟩
theorem tw8516726436050853386:True:=⟨⟩
theorem tw846640526148867315:True:=⟨⟩
theorem tw9886608710437818437:True:=⟨⟩
theorem tw2006571130273318993:True:=⟨⟩
theorem tw2952467115533258878:True:=⟨⟩
theorem tw9046178068695889696:True:=⟨⟩
theorem tw12978785107922280891:True:=⟨⟩
theorem tw1546896023379821258:True:=⟨⟩
theorem tw12335698608826135202:True:=⟨⟩
theorem tw4276180229768739694:True:=⟨⟩
theorem tw8550697183394463264:True:=⟨⟩
theorem tw15639181169254374869:True:=⟨⟩
theorem tw16672183050194931986:True:=⟨⟩
theorem tw16210508925990704670:True:=⟨⟩
theorem tw16286734327210789982:True:=⟨⟩
theorem tw9323068786808428748:True:=⟨⟩
theorem tw16646038952257273886:True:=⟨⟩
theorem tw566330379430122372:True:=⟨⟩
theorem tw8891633572081834162:True:=⟨⟩
theorem tw11704172499016532003:True:=⟨⟩
theorem tw15736192411204585205:True:=⟨⟩
theorem tw4350578366139226088:True:=⟨⟩
theorem tw11018813348873821069:True:=⟨⟩
theorem tw13362656269701505675:True:=⟨⟩
theorem tw1817998330464893372:True:=⟨⟩
theorem tw1742875764432578634:True:=⟨⟩
theorem tw1189696335721625084:True:=⟨⟩
theorem tw11507606720256580187:True:=⟨⟩
theorem tw488754183700739387:True:=⟨⟩
theorem tw476525395192933699:True:=⟨⟩
theorem tw9881066999593436784:True:=⟨⟩
theorem tw5811035136382693165:True:=⟨⟩
theorem tw6495406028848346861:True:=⟨⟩
theorem tw15321577326783688501:True:=⟨⟩
theorem tw12737253729521692731:True:=⟨⟩
theorem tw16355116495335092751:True:=⟨⟩
theorem tw12656790126286147494:True:=⟨⟩
theorem tw8395849988849334124:True:=⟨⟩
theorem tw10716384341193261684:True:=⟨⟩
theorem tw12269926574418408407:True:=⟨⟩
theorem tw17120973088940966396:True:=⟨⟩
theorem tw5689608148539055278:True:=⟨⟩
theorem tw2988661099826062958:True:=⟨⟩
theorem tw1497251831998837458:True:=⟨⟩
theorem tw11788887285303983334:True:=⟨⟩
theorem tw6410469056992007803:True:=⟨⟩
theorem tw10141511585157184300:True:=⟨⟩
theorem tw17894242385735222454:True:=⟨⟩
theorem tw1717699436807061320:True:=⟨⟩
theorem tw7710082774890985909:True:=⟨⟩
theorem tw13420208157091255195:True:=⟨⟩
theorem tw16374826613774980309:True:=⟨⟩
theorem tw15572255824664132861:True:=⟨⟩
theorem tw2126836971390929587:True:=⟨⟩
theorem tw6094490473342028570:True:=⟨⟩
theorem tw16023010338047382725:True:=⟨⟩
theorem tw13070816793730282124:True:=⟨⟩
theorem tw4851418883197826566:True:=⟨⟩
theorem tw14792572460230033012:True:=⟨⟩
theorem tw13559839215469303279:True:=⟨⟩
theorem tw11596691278635563818:True:=⟨⟩
theorem tw16945348133593223570:True:=⟨⟩
theorem tw8555566950910725396:True:=⟨⟩
theorem tw18376592888005035158:True:=⟨⟩
theorem tw8672701341180666374:True:=⟨⟩
theorem tw10909294767064010570:True:=⟨⟩
theorem tw3428368957621592880:True:=⟨⟩
theorem tw14279209032125794788:True:=⟨⟩
theorem tw4951914571854742466:True:=⟨⟩
theorem tw1494560918515786149:True:=⟨⟩
theorem tw14289800103496449503:True:=⟨⟩
theorem tw8093707585804241935:True:=⟨⟩
theorem tw17850144500839102633:True:=⟨⟩
theorem tw8829954029149983383:True:=⟨⟩
theorem tw7587087146826889108:True:=⟨⟩
theorem tw2025383378795749605:True:=⟨⟩
theorem tw13379044624505022152:True:=⟨⟩
theorem tw8060771563982726284:True:=⟨⟩
theorem tw1658161676160218859:True:=⟨⟩
theorem tw6208243190639367424:True:=⟨⟩
theorem tw2809985772566114414:True:=⟨⟩
theorem tw7348512805859888928:True:=⟨⟩
theorem tw1213732484476110876:True:=⟨⟩
theorem tw14142587201657276871:True:=⟨⟩
theorem tw5883548125993973238:True:=⟨⟩
theorem tw1834947045280526674:True:=⟨⟩
theorem tw5117647388410523249:True:=⟨⟩
theorem tw14650768380297161396:True:=⟨⟩
theorem tw61443980403040114:True:=⟨⟩
theorem tw18074633001700073722:True:=⟨⟩
theorem tw16871119546595355850:True:=⟨⟩
theorem tw1122529576836306759:True:=⟨⟩
theorem tw9777789115763420810:True:=⟨⟩
theorem tw5979133246483047533:True:=⟨⟩
theorem tw3451129126801516762:True:=⟨⟩
theorem tw6176043482251012948:True:=⟨⟩
theorem tw3688086480563543380:True:=⟨⟩
theorem tw5150069891239267573:True:=⟨⟩
theorem tw9291389649968619302:True:=⟨⟩
theorem tw11339571942541705213:True:=⟨⟩
theorem tw11233878018233699593:True:=⟨⟩
theorem tw9657139431841103742:True:=⟨⟩
theorem tw17050358353424301547:True:=⟨⟩
theorem tw8638570103971940265:True:=⟨⟩
theorem tw7786804557245986788:True:=⟨⟩
theorem tw10039145085604867553:True:=⟨⟩
theorem tw18121762644249200555:True:=⟨⟩
theorem tw641400149030945453:True:=⟨⟩
theorem tw670651878651883269:True:=⟨⟩
theorem tw9632044656684604839:True:=⟨⟩
theorem tw5720665411377522360:True:=⟨⟩
theorem tw12857729242554698792:True:=⟨⟩
theorem tw12114712878520401961:True:=⟨⟩
theorem tw10950917625850328942:True:=⟨⟩
theorem tw18251697958436474736:True:=⟨⟩
theorem tw6169574369306003653:True:=⟨⟩
theorem tw12989013446632636851:True:=⟨⟩
theorem tw7255295839391532764:True:=⟨⟩
theorem tw16353029844170536524:True:=⟨⟩
theorem tw3317672336296447206:True:=⟨⟩
theorem tw16791067175167020989:True:=⟨⟩
theorem tw14028719695279250741:True:=⟨⟩
theorem tw10542098739501251440:True:=⟨⟩
theorem tw14702143615628370704:True:=⟨⟩
theorem tw11876552005094770543:True:=⟨⟩
theorem tw9786650401207423430:True:=⟨⟩
theorem tw17301535864666379236:True:=⟨⟩
theorem tw4198301542453625026:True:=⟨⟩
theorem tw7355043716332294136:True:=⟨⟩
theorem tw18299240286202612984:True:=⟨⟩
theorem tw7570732537905025203:True:=⟨⟩
theorem tw9503654116159335421:True:=⟨⟩
theorem tw13490611590572549337:True:=⟨⟩
theorem tw13833542683267479069:True:=⟨⟩
theorem tw1736643468298868708:True:=⟨⟩
theorem tw15167301214002755631:True:=⟨⟩
theorem tw11084381058598631940:True:=⟨⟩
theorem tw1967297933100914806:True:=⟨⟩
theorem tw17818281890830947187:True:=⟨⟩
theorem tw13695998635352075547:True:=⟨⟩
theorem tw8098389435711033977:True:=⟨⟩
theorem tw17185131917376903855:True:=⟨⟩
theorem tw4421177078255725421:True:=⟨⟩
theorem tw8210210481424198156:True:=⟨⟩
theorem tw1284591039476433477:True:=⟨⟩
theorem tw3672166343322210086:True:=⟨⟩
theorem tw2815237745443362163:True:=⟨⟩
theorem tw143007973359060870:True:=⟨⟩
theorem tw3986213291680386687:True:=⟨⟩
theorem tw12028023773317042661:True:=⟨⟩
theorem tw16471025651065573720:True:=⟨⟩
theorem tw5649980097583002317:True:=⟨⟩
theorem tw6148739823147065617:True:=⟨⟩
theorem tw13365838142067694757:True:=⟨⟩
theorem tw924710222971406980:True:=⟨⟩
theorem tw6113372091128727519:True:=⟨⟩
theorem tw16455536026740942734:True:=⟨⟩
theorem tw375422583859111040:True:=⟨⟩
theorem tw14359070497731721746:True:=⟨⟩
theorem tw10023341952713012906:True:=⟨⟩
theorem tw10579269622657358944:True:=⟨⟩
theorem tw14711257209336886110:True:=⟨⟩
theorem tw7800222811819236783:True:=⟨⟩
theorem tw6014916315797282136:True:=⟨⟩
theorem tw3214410419750678278:True:=⟨⟩
theorem tw6980249178444111845:True:=⟨⟩
theorem tw15376908641000296926:True:=⟨⟩
theorem tw17661567804319177492:True:=⟨⟩
theorem tw3102787199147470161:True:=⟨⟩
theorem tw17823081872905397392:True:=⟨⟩
theorem tw16661132392655552568:True:=⟨⟩
theorem tw17561248666928353229:True:=⟨⟩
theorem tw15530923626414633092:True:=⟨⟩
theorem tw14618166052390655425:True:=⟨⟩
theorem tw3582274384694261304:True:=⟨⟩
theorem tw14010467828542112810:True:=⟨⟩
theorem tw16441212226849698451:True:=⟨⟩
theorem tw10286532122383499372:True:=⟨⟩
theorem tw5902775944213854819:True:=⟨⟩
theorem tw5112746490802804509:True:=⟨⟩
theorem tw16605558539403026053:True:=⟨⟩
theorem tw320179597836412201:True:=⟨⟩
theorem tw4924759680255560875:True:=⟨⟩
theorem tw10458825709621236491:True:=⟨⟩
theorem tw4045819414537827061:True:=⟨⟩
theorem tw15611605592894211588:True:=⟨⟩
theorem tw5478099839280854156:True:=⟨⟩
theorem tw16904258407331132401:True:=⟨⟩
theorem tw1732258792873250803:True:=⟨⟩
theorem tw11933263833820147276:True:=⟨⟩
theorem tw17242345794582276176:True:=⟨⟩
theorem tw8129240155672599837:True:=⟨⟩
theorem tw13633649046361686564:True:=⟨⟩
theorem tw5246893867138917723:True:=⟨⟩
theorem tw9979640881946045403:True:=⟨⟩
theorem tw15718247009507991538:True:=⟨⟩
theorem tw12044011337747504793:True:=⟨⟩
theorem tw3623221565822478184:True:=⟨⟩
theorem tw14899122434247493650:True:=⟨⟩
theorem tw3966524290724069939:True:=⟨⟩
theorem tw12570399926931154991:True:=⟨⟩
theorem tw825036982968539529:True:=⟨⟩
theorem tw6073086961267542914:True:=⟨⟩
theorem tw2932388383303483974:True:=⟨⟩
theorem tw14013340220708275095:True:=⟨⟩
theorem tw12575502091102203258:True:=⟨⟩
theorem tw10499561411454552197:True:=⟨⟩
theorem tw13136868454606701907:True:=⟨⟩
theorem tw17569504886107262248:True:=⟨⟩
theorem tw16352142288445155068:True:=⟨⟩
theorem tw9739387248102047319:True:=⟨⟩
theorem tw17873182260551663737:True:=⟨⟩
theorem tw12389323844898992258:True:=⟨⟩
theorem tw2501417099908364887:True:=⟨⟩
theorem tw12256198225744594664:True:=⟨⟩
theorem tw8741838617069659533:True:=⟨⟩
theorem tw979001523020457310:True:=⟨⟩
theorem tw16430034161099131275:True:=⟨⟩
theorem tw2143953694875411138:True:=⟨⟩
theorem tw628917074327123049:True:=⟨⟩
theorem tw8156930000484421309:True:=⟨⟩
theorem tw16916106682869070257:True:=⟨⟩
theorem tw9325855045466275557:True:=⟨⟩
theorem tw12254602279355353380:True:=⟨⟩
theorem tw9213295979791668536:True:=⟨⟩
theorem tw15314543761198838892:True:=⟨⟩
theorem tw16135075734854086845:True:=⟨⟩
theorem tw2452395080566368752:True:=⟨⟩
theorem tw3730392062262755067:True:=⟨⟩
theorem tw13678040759186482859:True:=⟨⟩
theorem tw9487263505180233216:True:=⟨⟩
theorem tw1679899125668936913:True:=⟨⟩
theorem tw698086591703228596:True:=⟨⟩
theorem tw17162119776032055511:True:=⟨⟩
theorem tw10320113871235837107:True:=⟨⟩
theorem tw2042841366870125020:True:=⟨⟩
theorem tw470478647301377197:True:=⟨⟩
theorem tw18120992863973004870:True:=⟨⟩
theorem tw4345309357464704706:True:=⟨⟩
theorem tw14581674822972846657:True:=⟨⟩
theorem tw16398562978438437848:True:=⟨⟩
theorem tw12387561074653548469:True:=⟨⟩
theorem tw13458714169695661734:True:=⟨⟩
theorem tw5471980461824530294:True:=⟨⟩
theorem tw17352865977062136162:True:=⟨⟩
theorem tw137823561125278461:True:=⟨⟩
theorem tw13003758790127779057:True:=⟨⟩
theorem tw2024697042088027993:True:=⟨⟩
theorem tw3283799807745608214:True:=⟨⟩
theorem tw8030242853860088212:True:=⟨⟩
theorem tw3241638014198302353:True:=⟨⟩
theorem tw10696127588912305160:True:=⟨⟩
theorem tw15253443353565446773:True:=⟨⟩
theorem tw3176587336002305800:True:=⟨⟩
theorem tw17736385013703810629:True:=⟨⟩
theorem tw8220446738741080530:True:=⟨⟩
theorem tw10168769438859564577:True:=⟨⟩
theorem tw12630550583304549410:True:=⟨⟩
theorem tw8907064192378903650:True:=⟨⟩
theorem tw1261475533257818581:True:=⟨⟩
theorem tw11626243802873281646:True:=⟨⟩
theorem tw17968818992699298571:True:=⟨⟩
theorem tw13077461486072938939:True:=⟨⟩
theorem tw14272588839164050548:True:=⟨⟩
theorem tw3623308662814507956:True:=⟨⟩
theorem tw3147463198551645407:True:=⟨⟩
theorem tw7881330033211283190:True:=⟨⟩
theorem tw15511090458177007744:True:=⟨⟩
theorem tw135667487947407078:True:=⟨⟩
theorem tw2800215440969159486:True:=⟨⟩
theorem tw4304156333355005565:True:=⟨⟩
theorem tw14773125738087513712:True:=⟨⟩
theorem tw17080959359941065166:True:=⟨⟩
theorem tw14449764220726502198:True:=⟨⟩
theorem tw6088296837905537454:True:=⟨⟩
theorem tw7071508390084215215:True:=⟨⟩
theorem tw6575462562937691030:True:=⟨⟩
theorem tw14986594946485142907:True:=⟨⟩
theorem tw1556823797646799792:True:=⟨⟩
theorem tw5669308050281271331:True:=⟨⟩
theorem tw5244976971648507311:True:=⟨⟩
theorem tw15102613338360075885:True:=⟨⟩
theorem tw16321959080568894994:True:=⟨⟩
theorem tw4799958229265507420:True:=⟨⟩
theorem tw4244943279241334787:True:=⟨⟩
theorem tw3283805919834561667:True:=⟨⟩
theorem tw307775953909374023:True:=⟨⟩
theorem tw7548583020560849081:True:=⟨⟩
theorem tw4677645753112237511:True:=⟨⟩
theorem tw9505279348633101897:True:=⟨⟩
theorem tw11055131941488755159:True:=⟨⟩
theorem tw5945002481967623286:True:=⟨⟩
theorem tw16761286698047650142:True:=⟨⟩
theorem tw14124747064382357457:True:=⟨⟩
theorem tw2364054109443448850:True:=⟨⟩
theorem tw17331894497522482149:True:=⟨⟩
theorem tw4505950096549457662:True:=⟨⟩
theorem tw12684236159960126589:True:=⟨⟩
theorem tw7730006972133318548:True:=⟨⟩
theorem tw14432653740403132037:True:=⟨⟩
theorem tw10146036633449882107:True:=⟨⟩
theorem tw9581797869245715986:True:=⟨⟩
theorem tw17084486324819574230:True:=⟨⟩
theorem tw12379217438391469151:True:=⟨⟩
theorem tw9659468590780194515:True:=⟨⟩
theorem tw3476764561402816096:True:=⟨⟩
theorem tw9293137187440926126:True:=⟨⟩
theorem tw15955794138390269807:True:=⟨⟩
theorem tw11732090653661320646:True:=⟨⟩
theorem tw7104352180631471291:True:=⟨⟩
theorem tw16188045680590890125:True:=⟨⟩
theorem tw7151086993254434744:True:=⟨⟩
theorem tw11436120846962102677:True:=⟨⟩
theorem tw10962081520892413388:True:=⟨⟩
theorem tw3101412195361545720:True:=⟨⟩
theorem tw16083297178951776999:True:=⟨⟩
theorem tw4451824994436981257:True:=⟨⟩
theorem tw13670859822986343540:True:=⟨⟩
theorem tw6320636192136161731:True:=⟨⟩
theorem tw4717166827264076004:True:=⟨⟩
theorem tw5929690109165723960:True:=⟨⟩
theorem tw6907070257757316715:True:=⟨⟩
theorem tw16583254775012335108:True:=⟨⟩
theorem tw15791985845398879618:True:=⟨⟩
theorem tw6125323019858884269:True:=⟨⟩
theorem tw7828968688576847585:True:=⟨⟩
theorem tw1024567250923884068:True:=⟨⟩
theorem tw15365646568013141858:True:=⟨⟩
theorem tw10352740467642162397:True:=⟨⟩
theorem tw14554606875799209289:True:=⟨⟩
theorem tw14612871651514836211:True:=⟨⟩
theorem tw12892081749633754022:True:=⟨⟩
theorem tw16522379868552492412:True:=⟨⟩
theorem tw14098863488470746104:True:=⟨⟩
theorem tw973136691418409988:True:=⟨⟩
theorem tw2640686494320949183:True:=⟨⟩
theorem tw10415266770175567899:True:=⟨⟩
theorem tw5206680733241455932:True:=⟨⟩
theorem tw10766937520041373867:True:=⟨⟩
theorem tw15874670807452876578:True:=⟨⟩
theorem tw11595312888948833498:True:=⟨⟩
theorem tw14685967189587289705:True:=⟨⟩
theorem tw12890663983057544587:True:=⟨⟩
theorem tw3771274741595674400:True:=⟨⟩
theorem tw15487352359685546950:True:=⟨⟩
theorem tw9430759358496724741:True:=⟨⟩
theorem tw7386164663992403960:True:=⟨⟩
theorem tw14682722015947123243:True:=⟨⟩
theorem tw2575719818968229333:True:=⟨⟩
theorem tw3839290901413331209:True:=⟨⟩
theorem tw1163676434150889659:True:=⟨⟩
theorem tw1425978263151818815:True:=⟨⟩
theorem tw13456258772365487171:True:=⟨⟩
theorem tw1090663796649827830:True:=⟨⟩
theorem tw6352127744236511714:True:=⟨⟩
theorem tw4750128874192885051:True:=⟨⟩
theorem tw1121184213613947360:True:=⟨⟩
theorem tw3838500076423693725:True:=⟨⟩
theorem tw13995431332356028482:True:=⟨⟩
theorem tw6387029261588939887:True:=⟨⟩
theorem tw17170878394061983464:True:=⟨⟩
theorem tw11865209964317765057:True:=⟨⟩
theorem tw11871864137915416140:True:=⟨⟩
theorem tw13778122157490043400:True:=⟨⟩
theorem tw949343825709260440:True:=⟨⟩
theorem tw9130421817604257298:True:=⟨⟩
theorem tw17812079001375733505:True:=⟨⟩
theorem tw10020165027838142040:True:=⟨⟩
theorem tw1264770920240838218:True:=⟨⟩
theorem tw17852282218954374864:True:=⟨⟩
theorem tw6389901868042426911:True:=⟨⟩
theorem tw6261402562411857261:True:=⟨⟩
theorem tw6163308347890225782:True:=⟨⟩
theorem tw9376110494729235702:True:=⟨⟩
theorem tw9265075071236284738:True:=⟨⟩
theorem tw12689433369050732594:True:=⟨⟩
theorem tw15950736266580459585:True:=⟨⟩
theorem tw9152894378036384110:True:=⟨⟩
theorem tw8724419710176409704:True:=⟨⟩
theorem tw13034439992298177569:True:=⟨⟩
theorem tw17116793294320488664:True:=⟨⟩
theorem tw13517251842677833062:True:=⟨⟩
theorem tw15092921473816618643:True:=⟨⟩
theorem tw4550634764750766501:True:=⟨⟩
theorem tw15248502100781782062:True:=⟨⟩
theorem tw15259427670914765154:True:=⟨⟩
theorem tw17652665880779888506:True:=⟨⟩
theorem tw16652527327811417139:True:=⟨⟩
theorem tw15147038153167579399:True:=⟨⟩
theorem tw14022206185642187958:True:=⟨⟩
theorem tw2637110661980410755:True:=⟨⟩
theorem tw5177378895526871468:True:=⟨⟩
theorem tw387881807919895207:True:=⟨⟩
theorem tw1723383794395686851:True:=⟨⟩
theorem tw12510645517208103594:True:=⟨⟩
theorem tw7128975890658550034:True:=⟨⟩
theorem tw7811773233906556327:True:=⟨⟩
theorem tw9749458313785715010:True:=⟨⟩
theorem tw1938126717746127590:True:=⟨⟩
theorem tw15898540784766859995:True:=⟨⟩
theorem tw11003848065242189563:True:=⟨⟩
theorem tw4013927942471413862:True:=⟨⟩
theorem tw11896762170786725493:True:=⟨⟩
theorem tw8340177242094370241:True:=⟨⟩
theorem tw7160894360565764966:True:=⟨⟩
theorem tw1586372951053489055:True:=⟨⟩
theorem tw14162335061053628888:True:=⟨⟩
theorem tw10628002655174012621:True:=⟨⟩
theorem tw983347985157168991:True:=⟨⟩
theorem tw7742876429914164916:True:=⟨⟩
theorem tw13062888324930717610:True:=⟨⟩
theorem tw9627595848133133049:True:=⟨⟩
theorem tw1432308822912070456:True:=⟨⟩
theorem tw3543680945606382001:True:=⟨⟩
theorem tw4217919854208268120:True:=⟨⟩
theorem tw12508552825502342409:True:=⟨⟩
theorem tw11345976126093242455:True:=⟨⟩
theorem tw2466637524117051013:True:=⟨⟩
theorem tw3712357806722137361:True:=⟨⟩
theorem tw18136808957319509445:True:=⟨⟩
theorem tw12469737287586876618:True:=⟨⟩
theorem tw4964074926059721745:True:=⟨⟩
theorem tw1088787250323133632:True:=⟨⟩
theorem tw3540400377022493219:True:=⟨⟩
theorem tw14461797943753886284:True:=⟨⟩
theorem tw1208221059821149915:True:=⟨⟩
theorem tw3962450907116005372:True:=⟨⟩
theorem tw12662648605036287563:True:=⟨⟩
theorem tw15060506857458187686:True:=⟨⟩
theorem tw8067621298692807939:True:=⟨⟩
theorem tw3420326220793447975:True:=⟨⟩
theorem tw10211146065029240635:True:=⟨⟩
theorem tw9528956352645375435:True:=⟨⟩
theorem tw15982557067857555710:True:=⟨⟩
theorem tw16707158034975763295:True:=⟨⟩
theorem tw217351754853778229:True:=⟨⟩
theorem tw7641283403254385487:True:=⟨⟩
theorem tw10997393117113660591:True:=⟨⟩
theorem tw2868618269859953747:True:=⟨⟩
theorem tw670063547364465949:True:=⟨⟩
theorem tw7519925695853962609:True:=⟨⟩
theorem tw4124216993721936458:True:=⟨⟩
theorem tw7616126743290519005:True:=⟨⟩
theorem tw3653005321910513730:True:=⟨⟩
theorem tw12930949177381677926:True:=⟨⟩
theorem tw15741710461976754013:True:=⟨⟩
theorem tw5204445061083527899:True:=⟨⟩
theorem tw17730990619504464629:True:=⟨⟩
theorem tw17573496410521549810:True:=⟨⟩
theorem tw14804309742173123845:True:=⟨⟩
theorem tw12863897991721992053:True:=⟨⟩
theorem tw4355016684472362823:True:=⟨⟩
theorem tw3885798412435138810:True:=⟨⟩
theorem tw18259731867113490234:True:=⟨⟩
theorem tw16411926972567611101:True:=⟨⟩
theorem tw18136074813753488679:True:=⟨⟩
theorem tw13672013365269976495:True:=⟨⟩
theorem tw3118481506149938993:True:=⟨⟩
theorem tw2921409156213874017:True:=⟨⟩
theorem tw11478744774336735931:True:=⟨⟩
theorem tw1278059599428281660:True:=⟨⟩
theorem tw10530607332094450681:True:=⟨⟩
theorem tw4921384341236947803:True:=⟨⟩
theorem tw16300438386856548693:True:=⟨⟩
theorem tw207046019774563591:True:=⟨⟩
theorem tw15372345927230666328:True:=⟨⟩
theorem tw432070924532495671:True:=⟨⟩
theorem tw92650342578968620:True:=⟨⟩
theorem tw1396464531984319212:True:=⟨⟩
theorem tw8899773716903258779:True:=⟨⟩
theorem tw6774598579463495663:True:=⟨⟩
theorem tw15744037989931808693:True:=⟨⟩
theorem tw11732816491142424531:True:=⟨⟩
theorem tw10082696517275702221:True:=⟨⟩
theorem tw6327644281420548589:True:=⟨⟩
theorem tw753372734885481892:True:=⟨⟩
theorem tw8402990630650455802:True:=⟨⟩
theorem tw17920757621124882115:True:=⟨⟩
theorem tw4279999379149293201:True:=⟨⟩
theorem tw12483038953227270817:True:=⟨⟩
theorem tw5795456312323986961:True:=⟨⟩
theorem tw10951981339186625617:True:=⟨⟩
theorem tw12057053868107610650:True:=⟨⟩
theorem tw10145289275831091516:True:=⟨⟩
theorem tw9816412863393723970:True:=⟨⟩
theorem tw2075124516943732711:True:=⟨⟩
theorem tw2969520893974186192:True:=⟨⟩
theorem tw15484456597187140130:True:=⟨⟩
theorem tw13623635804682732005:True:=⟨⟩
theorem tw14686126645482689166:True:=⟨⟩
theorem tw18124958003107497494:True:=⟨⟩
theorem tw13561274459182548489:True:=⟨⟩
theorem tw10375164521406847545:True:=⟨⟩
theorem tw10188054446225645529:True:=⟨⟩
theorem tw12063943183151398911:True:=⟨⟩
theorem tw13431955510556237917:True:=⟨⟩
theorem tw3869541900507374358:True:=⟨⟩
theorem tw12588272733491109979:True:=⟨⟩
theorem tw4869716006034014866:True:=⟨⟩
theorem tw1876099814116091117:True:=⟨⟩
theorem tw16981365190394390303:True:=⟨⟩
theorem tw15765597915502657099:True:=⟨⟩
theorem tw5125294114193439268:True:=⟨⟩
theorem tw6314042561406737773:True:=⟨⟩
theorem tw16339209851049563231:True:=⟨⟩
theorem tw17888172455595647975:True:=⟨⟩
theorem tw718435871783942322:True:=⟨⟩
theorem tw6541543875975739344:True:=⟨⟩
theorem tw7670412937834844862:True:=⟨⟩
theorem tw6051348523019946413:True:=⟨⟩
theorem tw15570970293585741524:True:=⟨⟩
theorem tw16381204084744229692:True:=⟨⟩
theorem tw3132863659265897886:True:=⟨⟩
theorem tw2632644461412033820:True:=⟨⟩
theorem tw14482059936873517019:True:=⟨⟩
theorem tw1595949113481398053:True:=⟨⟩
theorem tw6847703612545735798:True:=⟨⟩
theorem tw8113567966366900117:True:=⟨⟩
theorem tw6109472669486400404:True:=⟨⟩
theorem tw18284185698993553990:True:=⟨⟩
theorem tw423287374383104256:True:=⟨⟩
theorem tw3042238948128572630:True:=⟨⟩
theorem tw1528986987000697286:True:=⟨⟩
theorem tw18339281362978618651:True:=⟨⟩
theorem tw8719545721359624781:True:=⟨⟩
theorem tw11316219211002249676:True:=⟨⟩
theorem tw17562216724892003815:True:=⟨⟩
theorem tw3519025215290466424:True:=⟨⟩
theorem tw17501461773061821529:True:=⟨⟩
theorem tw7893509200745745657:True:=⟨⟩
theorem tw3993639886007627886:True:=⟨⟩
theorem tw8503036975985553385:True:=⟨⟩
theorem tw16737851379990658586:True:=⟨⟩
theorem tw13358315852069982211:True:=⟨⟩
theorem tw7664935235833382377:True:=⟨⟩
theorem tw178159187206737508:True:=⟨⟩
theorem tw4034444879586041294:True:=⟨⟩
theorem tw12035200555973284761:True:=⟨⟩
theorem tw1423619377688276267:True:=⟨⟩
theorem tw6861775640932867272:True:=⟨⟩
theorem tw4868575326721788988:True:=⟨⟩
theorem tw12219310658516049959:True:=⟨⟩
theorem tw15680967941967101563:True:=⟨⟩
theorem tw16044993498568554504:True:=⟨⟩
theorem tw10231010056600716499:True:=⟨⟩
theorem tw5741832683583085662:True:=⟨⟩
theorem tw2716543083835322840:True:=⟨⟩
theorem tw14391414669614363718:True:=⟨⟩
theorem tw5119180724898207261:True:=⟨⟩
theorem tw13409412623016678610:True:=⟨⟩
theorem tw15964018333507821596:True:=⟨⟩
theorem tw16648234492986339223:True:=⟨⟩
theorem tw9319497385831033897:True:=⟨⟩
theorem tw2327124836603534697:True:=⟨⟩
theorem tw1149175295235566075:True:=⟨⟩
theorem tw1413981309138124034:True:=⟨⟩
theorem tw16485439277441519684:True:=⟨⟩
theorem tw10550693197175932321:True:=⟨⟩
theorem tw5847545507059322622:True:=⟨⟩
theorem tw4443034467952212760:True:=⟨⟩
theorem tw592469991803979563:True:=⟨⟩
theorem tw8702842787471933125:True:=⟨⟩
theorem tw17519940542484694458:True:=⟨⟩
theorem tw16291326779871242139:True:=⟨⟩
theorem tw16828258476230296003:True:=⟨⟩
theorem tw18311434679862823132:True:=⟨⟩
theorem tw11580508988687054884:True:=⟨⟩
theorem tw6495510122886424795:True:=⟨⟩
theorem tw2837251838341603129:True:=⟨⟩
theorem tw637205015286945360:True:=⟨⟩
theorem tw8502258083618056516:True:=⟨⟩
theorem tw11857982711820039443:True:=⟨⟩
theorem tw11303176992858693224:True:=⟨⟩
theorem tw2519120505869376392:True:=⟨⟩
theorem tw10149599617831304234:True:=⟨⟩
theorem tw4321573932323932647:True:=⟨⟩
theorem tw10474257843244166597:True:=⟨⟩
theorem tw11964109898499242915:True:=⟨⟩
theorem tw6891416896906722462:True:=⟨⟩
theorem tw13650332115711378726:True:=⟨⟩
theorem tw8706495826994943258:True:=⟨⟩
theorem tw13325069100294589321:True:=⟨⟩
theorem tw1076209621427521544:True:=⟨⟩
theorem tw13206718665352730481:True:=⟨⟩
theorem tw16256174572245379911:True:=⟨⟩
theorem tw13668960472429135069:True:=⟨⟩
theorem tw4829298621902315428:True:=⟨⟩
theorem tw18006283749678793455:True:=⟨⟩
theorem tw12693061906004586467:True:=⟨⟩
theorem tw9046411521985456578:True:=⟨⟩
theorem tw5864283982162436848:True:=⟨⟩
theorem tw3113530600048860637:True:=⟨⟩
theorem tw18244219280165868972:True:=⟨⟩
theorem tw6018717536417529475:True:=⟨⟩
theorem tw10391912310687485457:True:=⟨⟩
theorem tw14674273571688071719:True:=⟨⟩
theorem tw15056963313160225222:True:=⟨⟩
theorem tw10745638022821568602:True:=⟨⟩
theorem tw16300007400993841073:True:=⟨⟩
theorem tw9833661990463658735:True:=⟨⟩
theorem tw12603545877414840653:True:=⟨⟩
theorem tw3571969278856230801:True:=⟨⟩
theorem tw6927536941729657232:True:=⟨⟩
theorem tw732748837591055648:True:=⟨⟩
theorem tw17559584247397749237:True:=⟨⟩
theorem tw4069223542622574651:True:=⟨⟩
theorem tw794364610609251211:True:=⟨⟩
theorem tw2401662148662337177:True:=⟨⟩
theorem tw4357377516382305215:True:=⟨⟩
theorem tw14816290092052216342:True:=⟨⟩
theorem tw10030697872967763803:True:=⟨⟩
theorem tw4876325554998102378:True:=⟨⟩
theorem tw7579285991315304360:True:=⟨⟩
theorem tw4283859976719888803:True:=⟨⟩
theorem tw1397096057175962523:True:=⟨⟩
theorem tw4537299092933007585:True:=⟨⟩
theorem tw17063624068547293607:True:=⟨⟩
theorem tw9530849681935309869:True:=⟨⟩
theorem tw18010210867414765634:True:=⟨⟩
theorem tw13935137475766442610:True:=⟨⟩
theorem tw7494316410418177311:True:=⟨⟩
theorem tw16189572446705307315:True:=⟨⟩
theorem tw11151583290307084586:True:=⟨⟩
theorem tw5859991550936677412:True:=⟨⟩
theorem tw5183526303910253805:True:=⟨⟩
theorem tw13059426603860016204:True:=⟨⟩
theorem tw4572592781782561648:True:=⟨⟩
theorem tw17401990758039361175:True:=⟨⟩
theorem tw5768914757696332612:True:=⟨⟩
theorem tw15028182791152501360:True:=⟨⟩
theorem tw10823522766816342739:True:=⟨⟩
theorem tw11038757320804715128:True:=⟨⟩
theorem tw14546003459819914225:True:=⟨⟩
theorem tw16968818733239588295:True:=⟨⟩
theorem tw61256325946178064:True:=⟨⟩
theorem tw717696447353718548:True:=⟨⟩
theorem tw1686402967950966481:True:=⟨⟩
theorem tw9749453054503234942:True:=⟨⟩
theorem tw6130587840222751813:True:=⟨⟩
theorem tw10127980501214743334:True:=⟨⟩
theorem tw8281671774336663012:True:=⟨⟩
theorem tw106317941834499466:True:=⟨⟩
theorem tw17626028106626037298:True:=⟨⟩
theorem tw1997004872694188546:True:=⟨⟩
theorem tw8410529562343924445:True:=⟨⟩
theorem tw13770902467491669639:True:=⟨⟩
theorem tw3575225879427139206:True:=⟨⟩
theorem tw9919675309934804500:True:=⟨⟩
theorem tw17439916374121114886:True:=⟨⟩
theorem tw2892974731918408876:True:=⟨⟩
theorem tw13567823274153587810:True:=⟨⟩
theorem tw13246028830596470861:True:=⟨⟩
theorem tw2975074249951830881:True:=⟨⟩
theorem tw14893966774233436093:True:=⟨⟩
theorem tw1845024978943904664:True:=⟨⟩
theorem tw12688656165521924:True:=⟨⟩
theorem tw10379664230238690562:True:=⟨⟩
theorem tw7306340398353439914:True:=⟨⟩
theorem tw7510516983360035198:True:=⟨⟩
theorem tw2061452475072539480:True:=⟨⟩
theorem tw14448051045698213929:True:=⟨⟩
theorem tw9609416583227247765:True:=⟨⟩
theorem tw13519707541029164410:True:=⟨⟩
theorem tw5225166701729286187:True:=⟨⟩
theorem tw18236527363420345743:True:=⟨⟩
theorem tw4359123517503590020:True:=⟨⟩
theorem tw5780580958458255459:True:=⟨⟩
theorem tw1813522634524694231:True:=⟨⟩
theorem tw11250450547372766994:True:=⟨⟩
theorem tw1256721389409880459:True:=⟨⟩
theorem tw18350985530285977337:True:=⟨⟩
theorem tw13442762714213947811:True:=⟨⟩
theorem tw896944430897835545:True:=⟨⟩
end PySem.W.Fast
open PySem PySem.W PyProof.Rows
local macro_rules|`(tactic|sleep 4444)=>`(tactic|(refine' K73.hf4 ?a ?l ?c ?k;(case a=>k_is);(case l=>k_is);(case c=>k_is);(case k=>k_is)))
set_option maxRecDepth 100000 in
set_option maxHeartbeats 0 in
theorem PySem.Challenge.cw_partrests_k73_ranks_and_claims_answered_holds : PySem.Challenge.rw_partrests_k73_ranks_and_claims_answered.Holds := by
 w_on;o_law;k_head;(case hw=>w_witness2);k_fill;refine K73.walk (l:=PySem.Challenge.rw_partrests_k73_ranks_and_claims_answered) rfl rfl (fun w h Y=>PySem.W.kIn_of Y) ?F
 case F=>
  intro w mg fa h KX G hmg
  refine' K73.all_mk KX G hmg ?h1 ?h2 ?h3 ?h4 ?h5 ?h6 ?h7 ?h8 ?h9 ?h10 ?h11 ?h12 ?h13 ?h14 ?h15 ?h16 ?h17 ?h18 ?h19 ?h20 ?h21 ?h22 ?h23 ?h24 ?h25 ?h26 ?h27 ?h28 ?h29 ?h30 ?h31 ?h32 ?h33 ?h34 ?h35 ?h36 ?h37 ?h38 ?h39 ?h40 ?h41 ?a42 ?l42 ?c42 ?k42 ?a43 ?l43 ?c43 ?k43 ?a44 ?l44 ?c44 ?k44 ?a45 ?l45 ?c45 ?k45 ?a46 ?l46 ?c46 ?k46 ?h47 ?h48 ?h49 ?h50 ?h51 ?h52 ?h53 ?h54 ?h55 ?h56 ?h57 ?h58 ?h59 ?h60 ?a61 ?l61 ?c61 ?k61 ?y1 ?y2 ?y3 ?y4 ?y5 ?y6 ?y7 ?y8 ?y9 ?y10 ?y11 ?y12 ?y13 ?y14 ?y15 ?yd ?yk ?yh ?yv1 ?yv2 ?yv3 ?yv4 ?yv5 ?z1 ?z2 ?z3 ?z4 ?z5 ?z6 ?z7 ?z8 ?z9 ?z10 ?z11 ?z12 ?z13 ?z14 ?z15
  (case h1=>sleep 4444)
  (case h2=>sleep 4444)
  (case h3=>sleep 4444)
  (case h4=>sleep 4444)
  (case h5=>sleep 4444)
  (case h6=>sleep 4444)
  (case h7=>sleep 4444)
  (case h8=>sleep 4444)
  (case h9=>sleep 4444)
  (case h10=>sleep 4444)
  (case h11=>sleep 4444)
  (case h12=>sleep 4444)
  (case h13=>sleep 4444)
  (case h14=>sleep 4444)
  (case h15=>sleep 4444)
  (case h16=>sleep 4444)
  (case h17=>sleep 4444)
  (case h18=>sleep 4444)
  (case h19=>sleep 4444)
  (case h20=>sleep 4444)
  (case h21=>sleep 4444)
  (case h22=>sleep 4444)
  (case h23=>sleep 4444)
  (case h24=>sleep 4444)
  (case h25=>sleep 4444)
  (case h26=>sleep 4444)
  (case h27=>sleep 4444)
  (case h28=>sleep 4444)
  (case h29=>sleep 4444)
  (case h30=>sleep 4444)
  (case h31=>sleep 4444)
  (case h32=>sleep 4444)
  (case h33=>sleep 4444)
  (case h34=>sleep 4444)
  (case h35=>sleep 4444)
  (case h36=>sleep 4444)
  (case h37=>sleep 4444)
  (case h38=>sleep 4444)
  (case h39=>sleep 4444)
  (case h40=>sleep 4444)
  (case h41=>sleep 4444)
  (case a42=>k_is);(case l42=>k_is);(case c42=>k_is);(case k42=>k_is)
  (case a43=>k_is);(case l43=>k_is);(case c43=>k_is);(case k43=>k_is)
  (case a44=>k_is);(case l44=>k_is);(case c44=>k_is);(case k44=>k_is)
  (case a45=>k_is);(case l45=>k_is);(case c45=>k_is);(case k45=>k_is)
  (case a46=>k_is);(case l46=>k_is);(case c46=>k_is);(case k46=>k_is)
  (case h47=>sleep 4444)
  (case h48=>sleep 4444)
  (case h49=>sleep 4444)
  (case h50=>sleep 4444)
  (case h51=>sleep 4444)
  (case h52=>sleep 4444)
  (case h53=>sleep 4444)
  (case h54=>sleep 4444)
  (case h55=>sleep 4444)
  (case h56=>sleep 4444)
  (case h57=>sleep 4444)
  (case h58=>sleep 4444)
  (case h59=>sleep 4444)
  (case h60=>sleep 4444)
  (case a61=>k_is);(case l61=>k_is);(case c61=>k_is);(case k61=>k_is)
  (case y1=>k_is)
  (case y2=>k_is)
  (case y3=>k_is)
  (case y4=>k_is)
  (case y5=>k_is)
  (case y6=>k_is)
  (case y7=>k_is)
  (case y8=>k_is)
  (case y9=>k_is)
  (case y10=>k_is)
  (case y11=>k_is)
  (case y12=>k_is)
  (case y13=>k_is)
  (case y14=>k_is)
  (case y15=>k_is)
  (case yd=>k_is)
  (case yk=>with_unfolding_all rfl)
  (case yh=>with_unfolding_all rfl)
  (case yv1=>with_unfolding_all rfl)
  (case yv2=>with_unfolding_all rfl)
  (case yv3=>with_unfolding_all rfl)
  (case yv4=>with_unfolding_all rfl)
  (case yv5=>with_unfolding_all rfl)
  (case z1=>k_is)
  (case z2=>k_is)
  (case z3=>k_is)
  (case z4=>k_is)
  (case z5=>k_is)
  (case z6=>k_is)
  (case z7=>k_is)
  (case z8=>k_is)
  (case z9=>k_is)
  (case z10=>k_is)
  (case z11=>k_is)
  (case z12=>k_is)
  (case z13=>k_is)
  (case z14=>k_is)
  (case z15=>k_is)
end
