import PyProof.Rows.All
import Wide.All
import OpenK.AllK
import Wide.FinOn
import Lean
import PyProof.EqAt
import PyProof.EqKinds
import PyProof.TupleCall
import PySem.Challenge.RW_partrests_k79_whole_shares_part_the_coun
set_option Elab.async false
set_option linter.all false
set_option maxRecDepth 100000
set_option hygiene false
local macro_rules
|`(.($n:num))=>do
 let s<-`(f
  ⟨rfl,rfl,rfl,by decide +kernel,rfl,by decide +kernel,by decide +kernel⟩
  (starEach (e::es) X.env=(false,eval e X.env)::starEach es X.env)
  ((backTo pos (starEach es X.env)).any (·.1)=false)
  (fun cdv A outer s H vs Q E hr h=>?_)
  ⟨rfl,by decide +kernel,by decide +kernel,rfl,rfl⟩
  (.ListComp elt [⟨t1,i1,c1,0⟩,⟨t2,i2,c2,0⟩] scope pos)
  (backTo pos (starEach es X.env))
  (bj X nv ix scope C s₀ H₀ fp)
  (List.range t)
  (model prog w)
  (Inv X pins σ H s)
  (bj X nv ix scope (s.heap.objs.size+1) s H fp)
  (Or.inl rfl)
  (false,eval e X.env)
  (Value->Shared->Prop)
  (model X.prog X.w)
  (fun vs H Q E h=>?_)
  (s.heap.objs.size+1)
  (SortSt.mk' (kindOf st3) (arrOf st3) (pendingOf st3) g (failedOf st3))
  (mlt l t (Builtin.Range.rangeSize (l:Int) 27 (t:Int)).toNat)
  (List.range m)
  (.ref s.heap.objs.size)
  (.ListComp elt [⟨tg,iter,ifs,0⟩] scope pos)
  (bd ns (t*rd ns t))
  (∀ σ' H',N σ' H'->∃ m',m' < m/\W (i+1) m' σ' H')
  (Option.some.inj hx)
  (List (Addr×Obj))
  (ns.map V.int)
  (b % (t:Int)=(r:Int))
  (∀ b∈ch,(b∈X.ex\/X.s₀.heap.objs.size<=b)/\b≠X.env.locals/\(∀ x c,X.env.cells.lookup x=some c->c≠b)/\∀ p∈X.pn++pins,p.1≠b)
  (cP dz (pn 0) av (fun _ _=>rfl))
  (aa (zn 0) (aa (zn 1) af))
  ((e::es).length+([]:List Keyword).length+(if ([]:List Keyword).isEmpty then 0 else 1)<30)
  (fun _ _=>rfl)
  (x == ("__debug__" : Str))
  ((bds t (nf ns)).drop 1)
  (s.heap.objs.size,cA its k)
  (fun _ _ _ _=>aN)
  (.Call (.Name "len" p) (e::es) [] pos)
  (.lst ((mlt l t (Builtin.Range.rangeSize (l:Int) 20 (t:Int)).toNat).map V.int))
  ⟨by lia,by lia⟩
  (nf (mvl t (fr ns t)))
  (insertAt es (t.put j).2 (hs prog w ks,.ref b))
  (bd lss[i] (ct cs (t*(rd cs t+M)) t i))
  (Heap.lt_size e)
  ((items.toList.drop (sIx items.size 0 lo)).take (sIx items.size items.size hi - sIx items.size 0 lo))
  (∀ z∈xb.toList,kv z<=kv (xa.toList[xa.toList.length - 1]'(by lia)))
  (t*(rd cs t+M))
  (∃ res rest,c=(some res,rest)/\Mer xa.toList xb.toList res.toList)
  (ou.push e++(xb.extract t (j - 1)).reverse))
 return s.raw[1][n.getNat]
local macro_rules
|`(.($n:num))=>do
 unless n.getNat>=50 do Lean.Macro.throwUnsupported
 let s<-`(f
  (aa (zn 0) af)
  (L1.flatten.length+R1.length)
  (CompOk X nv ix scope)
  (Str->Option Value)
  (List (List Keyed))
  (∀ b∈fp,H' b=none)
  ⟨xs.length - (i+1),by lia,rfl,hlt,p'⟩
  (fun r s'=>r=.ok (.ret (.bool true))/\OldK s₁.heap s'.heap/\s'.os=s₁.os/\AllBare s'.gens)
  (wpAny_bind (wpAny_mono h₃ (fun x s₄ h₄=>wpAny_bind (wpAny_mono h₄ (fun _ s₅ h₅=>wpAny_pure (wpAny_pure ⟨rfl,h₅⟩)) fun _ _ h'=>h'.elim)) fun _ _ h'=>h'.elim))
  (fun _ _=>False)
  (List.replicate (k - ns.length) (0:Int))
  (ha pos pins s σ H _ I h)
  (List.range (min (n+1) m))
  (∀ D C s' H' ys,Inv X pins σ (upd H' D (.lst ys)) s'->H' D=none->Fin ys H'->(∃ m,s'.heap.Ns C m)->dY X pins (upd H' D (.lst ys)) C->RR (.ref D) C (.ok .next) s')
  (s1.heap.push { cls:=.type "range",data:=.fields #[.int i t,.int j t',.int c t''] })
  (cf rfl m_len (aA (pn 0) aZ) rfl rfl)
  (s.heap.push { cls:=.type "range",data:=.fields #[.int lo t,.int hi u,.int 1 v] })
  (xb.toList.Pairwise Le)
  (xa.toList.Pairwise Le)
  (I.hok.fresh (zA1 _))
  (Builtin.Range.rangeSize i j c)
  (.lst (((lss.take (qs.map V.ref).length).map fun ls=>(ls.length:Int)).map V.int))
  (xb.toList[j - 1]'(by lia))
  ⟨by decide,by decide,by decide⟩
  ⟨xs,xs[i],q,by simp [hlt]⟩
  (by simpa using e1)
  (envOfC qual scope s.heap.objs.size f cd)
  (.lst ((List.replicate t (pn / (t:Int))).map V.int))
  (dS (bm (bo hu) (pn 2) eX (aJ _)) bU bC)
  (mg "len" = none)
  (show List.Nodup (["rest","number","at","t"]:List Str) by decide +kernel)
  (mg "range" = none)
  (rq (bd ns k) t r)
  (if (ns.length:Int)<2 then (ns.length:Int) else 2)
  (R1[R1.length - 1]'(by lia))
  ((min (a:Int) (items.size:Int) == 0)&&((m:Int) == 1)&&(K == items.size))
  ⟨xs.length,by simp,zC5 _,h0⟩
  (∀ n v,SX a₀ lo st₀ v->1<=n->n<=m->lJ (arrOf v) lo n->Q (some n) v)
  (List V->Hp->Prop)
  (ai (aH (cU (aR (bo hu) (zn 0) dN (aJ _)) (az F_rank hr (by decide) rfl (aa (zn 1) af)) (az F_mark hr (by decide) rfl (aa (zn 1) af)))))
  (PySem.W.fnOf x qual (aq st) (ak st) (ag st) .none kV doc pm an cdv ct)
  (pt (aE t c))
  (((HT.sIx items.size 0 lo:Nat):Int) == 0&&(1:Int) == 1&&(HT.sIx items.size items.size hi - HT.sIx items.size 0 lo) == items.size)
  (fun r s'=>r=.ok .next/\∃ H' ys' its' k',Inv X ([(D,cA its' k')]++pl) σ H' s'/\Vals ys' its'/\ys'.length<=sizeLine/\N ys' H')
  (Nat->List V->Hp->Prop)
  (EP X pins σ Q)
  (.lst [V.int 0])
  ((t=5/\l=4)\/(t=7/\l=5)\/(t=11/\l=6))
  (st0 nv ix σ)
  (mg "tuple" = none))
 return s.raw[1][n.getNat-50]
local macro_rules
|`(tactic|sleep $n:num)=>do
 let s<-`(tactic|(
  have:=(List.getElem?_eq_some_iff.mp hx).1
  intro X hP hw hK hc i pins s σ H E I hf st hg
  intro pins s σ H x y v u Q I rx ry h
  (have tl:5<=t/\t<=11:=by rcases h3 with rfl | rfl | rfl <;> decide)
  obtain ⟨f0,f1,f2,f3,f4,f5⟩:=hf it (by simp)
  intro pins s σ H xs us Q I r h
  rcases zB0.mp hb with rfl | hb
  refine wpS_bind (gV (c:=c1) ((sm3 _).kind.trans hk) hIa (hIb _ (zC0 _)) (by lia) (by lia) hc1 cut1 ?_)
  refine wpAny_bind (wpAny_mono h₁' (fun _ s₂ h₂=>wpAny_bind (wpAny_mono h₂ (fun ok s₃ h₃=>?_) fun _ _ h'=>h'.elim)) fun _ _ h'=>h'.elim)
  (refine ⟨by show 1<=sizeLine;decide,fun d hd=>?_⟩)
  refine ⟨m',hm,i+1,H7,ys',its',k',(I8.unpinned).weak kp.1 kp.2,rv',hz',T.keep _ _ _ st5 fun b hb o e=>(pn b o hb e).1,fun b hb=>?_,w8⟩
  intro pins s σ H Q I h
  refine ⟨.int _,H,I.kept fun b o e=>hk b o (by simpa using zC3 .(44)) (Heap.get?_push_of_some _ e),⟨t,rfl⟩,?_⟩
  have I1:Inv X pins σ H { s with heap:=h' }:=I.turned (t':=s.toks) (fun b o hb e=>(sb.2 b hb).trans e) f0 f1 f3 f4 f5
  refine wpS_bind (wpS_lift (wpAny_rule ⟨rfl,?_⟩))
  refine wpAny_bind (wpAny_standAt (wpAny_bind (wpAny_mono (turn n s hI) (fun r s₁ h₁=>?_) fun _ _ h'=>h'.elim)))
  refine ⟨s.heap.objs.size,_,_,_,_,_,_,fun i=>ns.getD i 0,rfl,(Walks.tuple hh s.heap.objs.size p (zC3 hlt) its.toArray).toS,⟨⟨_,Heap.get?_push_size _ rfl,rfl,rfl⟩,?_⟩,?_,fun i v hv=>bM rv hv,fun s' t' m=>?_⟩
  (obtain ⟨a,ns,t,rfl,_⟩:=h;rfl)
  (refine ⟨?_,(show (0:Int)<2147483629 by decide),nR (by decide) (by decide),vP (by lia) (by lia),⟨by decide,by decide,by lia⟩,(show (0:Int)<2147483647 by decide),(by show 3<=sizeLine;decide),fun p hp=>?_⟩)
  have pn:=fun (b:Addr) (o:Obj) (hb:b∈fp) (e:s5.heap.get? b=some o)=>I8.pin (b,o) (zB3 _ (zB3 _ (bV hb e)))
  have I1:Inv X pins σ H s':=I.moved m fun b o e=>⟨by simpa using zC3 .(44),Heap.get?_push_of_some _ e⟩
  refine wpAny_bind (wpAny_callSpecial?_slot hit.typeIs F.slot_tuple_iterator_next (wpAny_call_entry F.slot_tuple_iterator_next hit.typeIs F.entry_tuple_iterator_next ?_ (F.args_tuple_iterator_next_1 _)))
  refine ⟨p,_,rfl,SqT.of ae,rfl,_,_,rfl,_,_,rfl,rfl,?_⟩
  simp only [zB6,zF8,zB4,zI6]
  rcases zD4.mp hx with hx | hx
  obtain ⟨u,rfl,rx⟩:=cv r
  (have e2:(n:Int) - (((i+1:Nat):Int)*((b:Int)*((i+1:Nat):Int) - 1) / 2+((i+1:Nat):Int)*(if v<0 then -v else v)+((i+1:Nat):Int))=((n - (near b v.natAbs (i+1)+(i+1)):Nat):Int):=by rw [enr];lia)
  (have ex:x=.ref rs[i]:=by rw [List.getElem?_map,List.getElem?_eq_getElem hi] at hx;exact .(25).symm)
  have h4:(t - 1) / t=0:=Nat.div_eq_of_lt (Nat.sub_lt ht (by decide))
  refine wpAny_bind (wpAny_pure ?_)
  have old:∀ b o,s.heap.get? b=some o->h₁.get? b=some o:=fun b o e=>hsb₁.extBut b o (below b .(44)).1 (Heap.get?_push_of_some _ (hH2▸Heap.get?_push_of_some _ e))
  intro pins s σ H D I h
  rcases h with ⟨rfl,rfl⟩ | ⟨rfl,rfl⟩ | ⟨rfl,rfl⟩
  rw [this,Int.add_mul,Int.one_mul,show (m:Int)+1 - 1=(m:Int) by lia,Int.mul_sub,zL5]
  refine wpAny_comprehension_free (use:=none) rfl hs (dL (co.cells I.ok)) co.kind co.names (thn (hit pins s σ H _ I h) fun v s1 h1=>thn h1 fun itv s2 h2=>?_)
  (have ex:x=.int ns[i]:=by rw [fP hi] at hx;exact .(25).symm)
  (rcases h3 with rfl | rfl | rfl <;> lia)
  (exact wpAny_pyNext_range_end (I.ok.hd hc) st (by have:n<=i:=hg;lia) fun h' eb=>⟨rfl,I.turned (t':=s.toks) (fun b o hb e=>eb b o hb e) f0 f1 f3 f4 f5⟩)
  refine zA4 fun j hj=>?_
  refine wpAny_bind (wpAny_mono h₁ (fun _ s₁' h₁'=>?_) fun _ _ h'=>h'.elim)))
 return s.raw[1][0][0][2*n.getNat]
noncomputable section
abbrev zA0:=@List.length_map
abbrev zA1:=@Nat.le_refl
abbrev zA2:=@List.getD_eq_getElem?_getD
abbrev zA3:=@List.map_append
abbrev zA4:=@List.map_congr_left
abbrev zA5:=@List.length_append
abbrev zA6:=@List.mem_range
abbrev zA7:=@List.mem_cons_self
abbrev zA8:=@List.size_toArray
abbrev zA9:=@List.mem_cons_of_mem
abbrev zB0:=@List.mem_cons
abbrev zB1:=@Array.length_toList
abbrev zB2:=@List.range_succ
abbrev zB3:=@List.mem_append_right
abbrev zB4:=@List.sum_cons
abbrev zB5:=@Bool.false_eq_true
abbrev zB6:=@List.map_cons
abbrev zB7:=@List.append_assoc
abbrev zB8:=@List.take_of_length_le
abbrev zB9:=@List.length_take
abbrev zC0:=@List.getElem_mem
abbrev zC1:=@List.length_range
abbrev zC2:=@List.sum_append
abbrev zC3:=@Nat.ne_of_lt
abbrev zC4:=@List.length_cons
abbrev zC5:=@Nat.zero_le
abbrev zC6:=@List.mem_singleton
abbrev zC7:=@List.pairwise_append
abbrev zC8:=@Bool.and_eq_true
abbrev zC9:=@Bool.false_ne_true
abbrev zD0:=@List.mem_map
abbrev zD1:=@List.length_drop
abbrev zD2:=@List.ext_getElem
abbrev zD3:=@List.take_succ
abbrev zD4:=@List.mem_append
abbrev zD5:=@Nat.le_trans
abbrev zD6:=@List.append_nil
abbrev zD7:=@Nat.lt_of_lt_of_le
abbrev zD8:=@List.flatten_cons
abbrev zD9:=@Int.toNat_natCast
abbrev zE0:=@List.flatMap_cons
abbrev zE1:=@List.drop_eq_getElem_cons
abbrev zE2:=@List.take_append_drop
abbrev zE3:=@Int.emod_lt_of_pos
abbrev zE4:=@List.filterMap_cons
abbrev zE5:=@Int.emod_nonneg
abbrev zE6:=@List.map_map
abbrev zE7:=@List.mem_iff_getElem
abbrev zE8:=@Int.le_trans
abbrev zE9:=@Nat.mod_eq_of_lt
abbrev zF0:=@List.Perm.append_left
abbrev zF1:=@Int.le_refl
abbrev zF2:=@List.pairwise_iff_getElem
abbrev zF3:=@List.getElem_append_right
abbrev zF4:=@List.getElem_append_left
abbrev zF5:=@List.lookup_cons
abbrev zF6:=@Nat.lt_succ_self
abbrev zF7:=@Int.le_of_lt
abbrev zF8:=@List.map_nil
abbrev zF9:=@List.not_mem_nil
abbrev zG0:=@List.getElem_take
abbrev zG1:=@List.pairwise_map
abbrev zG2:=@Nat.mul_comm
abbrev zG3:=@List.pairwise_cons
abbrev zG4:=@List.filter_append
abbrev zG5:=@List.getElem_range
abbrev zG6:=@Nat.not_lt_zero
abbrev zG7:=@Nat.lt_irrefl
abbrev zG8:=@List.getElem_map
abbrev zG9:=@List.replicate_succ
abbrev zH0:=@List.length_pos_iff
abbrev zH1:=@List.length_replicate
abbrev zH2:=@List.perm_append_comm
abbrev zH3:=@Nat.lt_succ_of_lt
abbrev zH4:=@Array.toList_push
abbrev zH5:=@List.reverse_perm
abbrev zH6:=@Array.getD_eq_getD_getElem?
abbrev zH7:=@List.mem_of_getElem?
abbrev zH8:=@List.mem_filter
abbrev zH9:=@Nat.zero_add
abbrev zI0:=@Int.mul_le_mul_of_nonneg_right
abbrev zI1:=@Nat.pow_succ
abbrev zI2:=@List.extract_eq_drop_take
abbrev zI3:=@Nat.add_assoc
abbrev zI4:=@Nat.add_zero
abbrev zI5:=@Int.natCast_mul
abbrev zI6:=@List.sum_nil
abbrev zI7:=@List.mem_append_left
abbrev zI8:=@List.all_eq_true
abbrev zI9:=@List.filter_cons_of_pos
abbrev zJ0:=@List.filter_cons_of_neg
abbrev zJ1:=@List.range_succ_eq_map
abbrev zJ2:=@List.Perm.append_right
abbrev zJ3:=@Array.perm_iff_toList_perm
abbrev zJ4:=@Int.emod_eq_of_lt
abbrev zJ5:=@List.pairwise_lt_range
abbrev zJ6:=@Int.add_mul_emod_self_left
abbrev zJ7:=@Array.toList_append
abbrev zJ8:=@List.flatten_append
abbrev zJ9:=@List.length_reverse
abbrev zK0:=@Int.natCast_add
abbrev zK1:=@List.length_singleton
abbrev zK2:=@Nat.le_add_right
abbrev zK3:=@List.cons_append
abbrev zK4:=@Int.mul_nonneg
abbrev zK5:=@List.take_zero
abbrev zK6:=@Array.toList_extract
abbrev zK7:=@Nat.div_le_div_right
abbrev zK8:=@Int.mul_add
abbrev zK9:=@List.take_sublist
abbrev zL0:=@List.drop_sublist
abbrev zL1:=@List.getElem_drop
abbrev zL2:=@List.length_eq_zero_iff
abbrev zL3:=@List.reverse_append
abbrev zL4:=@Int.mul_comm
abbrev zL5:=@Int.mul_one
abbrev zL6:=@Bool.not_true
namespace L2
open PySem PySem.Spec PyProof.Rows
abbrev Key:=Sum Int Str
def keyIs:Key->Value->Bool
 | .inl k,v=>Value.isInt k v
 | .inr x,v=>Value.isStrOf x v
def keyH (w:World):Key->Int
 | .inl k=>hashInt k
 | .inr x=>hashStr w x
theorem aU:∀ {k:Key} {v:Value},keyIs k v=true->(∃ i t,k=Sum.inl i/\v=Value.int i t)\/(∃ x t,k=Sum.inr x/\v=Value.str x t)
 | .inl i,v,h=>by
   obtain ⟨t,e⟩:=Value.isInt_shape (k:=i) (v:=v) h;exact .inl ⟨i,t,rfl,e⟩
 | .inr x,v,h=>by
   obtain ⟨t,e⟩:=Value.isStrOf_shape (x:=x) (v:=v) h;exact .inr ⟨x,t,rfl,e⟩
theorem key_ll (a b:Int):decide ((Sum.inl a:Key)=Sum.inl b)=(a == b):=by
 by_cases e:a=b
 · subst e;simp
 · have h:¬ (Sum.inl a:Key)=Sum.inl b:=fun q=>e (Sum.inl.inj q);rw [decide_eq_false h];exact (beq_eq_false_iff_ne.mpr e).symm
theorem key_rr (a b:Str):decide ((Sum.inr a:Key)=Sum.inr b)=decide (a=b):=by
 by_cases e:a=b
 · subst e;simp
 · have h:¬ (Sum.inr a:Key)=Sum.inr b:=fun q=>e (Sum.inr.inj q);rw [decide_eq_false h,decide_eq_false e]
theorem key_lr (a:Int) (b:Str):decide ((Sum.inl a:Key)=Sum.inr b)=false:=decide_eq_false (fun q=>nomatch q)
theorem key_rl (a:Str) (b:Int):decide ((Sum.inr a:Key)=Sum.inl b)=false:=decide_eq_false (fun q=>nomatch q)
def nU (prog:Program) (w:World):PySem.KeyKind prog w Key where
 is:=keyIs
 hash:=keyH w
 inj:=fun v a b ha hb=>by
  rcases aU ha with ⟨i,t,rfl,rfl⟩ | ⟨x,t,rfl,rfl⟩
  · rcases aU hb with ⟨j,u,rfl,e⟩ | ⟨y,u,rfl,e⟩
    · injection e with e1 _;rw [e1]
    · exact nomatch e
  · rcases aU hb with ⟨j,u,rfl,e⟩ | ⟨y,u,rfl,e⟩
    · exact nomatch e
    · injection e with e1 _;rw [e1]
 byValue:=fun k v h=>by
  rcases aU h with ⟨i,t,rfl,rfl⟩ | ⟨x,t,rfl,rfl⟩ <;> rfl
 pyHash:=fun hv h=>by
  rcases aU hv with ⟨i,t,rfl,rfl⟩ | ⟨x,t,rfl,rfl⟩
  · exact wpAny_pyHash_int h
  · exact wpAny_pyHash_str h
 eqBool:=fun hu hv h=>by
  rcases aU hu with ⟨i,t,rfl,rfl⟩ | ⟨x,t,rfl,rfl⟩
  · rcases aU hv with ⟨j,u,rfl,rfl⟩ | ⟨y,u,rfl,rfl⟩
    · rw [key_ll] at h;exact wpAny_eqBool_int h
    · rw [key_lr] at h;exact SeqAt.EqAt.int_str i t y u _ _ _ _ h
  · rcases aU hv with ⟨j,u,rfl,rfl⟩ | ⟨y,u,rfl,rfl⟩
    · rw [key_rl] at h;exact SeqAt.EqAt.str_int x t j u _ _ _ _ h
    · rw [key_rr] at h;exact wpAny_eqBool_str h
 «strs»:=fun k x t v h=>by
  rcases aU h with ⟨i,u,rfl,e⟩ | ⟨y,u,rfl,e⟩
  · exact nomatch e
  · injection e with e1 _
    subst e1
    cases v <;> rfl
inductive V where
 | non | bl (b:Bool) | int (i:Int) | str (x:Str) | byt (b:Array UInt8) | flt (b:UInt64) | ref (a:Addr) | ty (n:String)
 deriving DecidableEq
def RelV:V->Value->Prop
 | .non,u=>u=Value.none
 | .bl b,u=>u=Value.bool b
 | .int i,u=>∃ t,u=Value.int i t
 | .str x,u=>∃ t,u=Value.str x t
 | .byt b,u=>∃ t,u=Value.bytes b t
 | .flt b,u=>∃ t,u=Value.float b t
 | .ref a,u=>u=Value.ref a
 | .ty n,u=>u=Value.type n
abbrev Vals:List V->List Value->Prop:=Paired RelV
theorem Vals.length {xs:List V} {us:List Value} (r:Vals xs us):xs.length=us.length:=Paired.length r
theorem Vals.get:∀ {xs:List V} {us:List Value} {i:Nat} {x:V},Vals xs us->xs[i]? = some x->∃ u,us[i]? = some u/\RelV x u
 | _,_,_,_,.nil,e=>by simp at e
 | _,_,0,_,.cons r _,e=>by simp at e;subst e;exact ⟨_,rfl,r⟩
 | _,_,i+1,x,.cons _ t,e=>by
   obtain ⟨u,h1,h2⟩:=Vals.get (i:=i) (x:=x) t (by simpa using e);exact ⟨u,by simpa using h1,h2⟩
theorem Vals.set {x:V} {u:Value} (r:RelV x u):∀ {xs:List V} {us:List Value} (i:Nat),Vals xs us->Vals (xs.set i x) (us.set i u)
 | _,_,_,.nil=>.nil
 | _,_,0,.cons _ t=>.cons r t
 | _,_,i+1,.cons q t=>.cons q (Vals.set r i t)
theorem Vals.append:∀ {xs ys:List V} {us ws:List Value},Vals xs us->Vals ys ws->Vals (xs++ys) (us++ws)
 | _,_,_,_,.nil,s=>s
 | _,_,_,_,.cons r t,s=>.cons r (Vals.append t s)
theorem Vals.take:∀ {xs:List V} {us:List Value} (n:Nat),Vals xs us->Vals (xs.take n) (us.take n)
 | _,_,0,_=>.nil
 | _,_,_+1,.nil=>.nil
 | _,_,n+1,.cons r t=>.cons r (Vals.take n t)
theorem Vals.drop:∀ {xs:List V} {us:List Value} (n:Nat),Vals xs us->Vals (xs.drop n) (us.drop n)
 | _,_,0,r=>r
 | _,_,_+1,.nil=>.nil
 | _,_,n+1,.cons _ t=>Vals.drop n t
def TupD (h:Heap) (a:Addr) (items:Array Value):Prop:=∃ n,h.get? a=some { cls:=.type "tuple",data:=.seq items n }
theorem TupD.tup {h:Heap} {a:Addr} {items:Array Value} (p:TupD h a items):IsTup h a items:=let ⟨n,e⟩:=p;⟨_,e,rfl,n,rfl⟩
theorem TupD.new (h:Heap) (items:Array Value):TupD (h.push { cls:=.type "tuple",data:=.seq items }) h.objs.size items:=⟨_,Heap.get?_push_size _ rfl⟩
def RelO:Option V->Option Value->Prop
 | some v,some u=>RelV v u
 | none,none=>True
 | _,_=>False
def KV {κ:Type}:List (κ×V)->List (κ×Value)->Prop:=Paired fun (p:κ×V) (q:κ×Value)=>p.1=q.1/\RelV p.2 q.2
def kV:Key->V
 | .inl i=>.int i
 | .inr x=>.str x
inductive HO where
 /-- a list -/
 | lst (xs:List V)
 /-- a tuple (never changes) -/
 | tup (xs:List V)
 /-- a dict whose keys are ints and texts;one whose keys are tuples of ints and texts (the empty one is both) -/
 | dK (kvs:List (Key×V)) | dT (kvs:List (List Key×V))
 /-- a set of ints: its members,its size -/
 | set (S:Int->Bool) (n:Nat)
 /-- an instance of the class at C,its dict at dx,its attributes -/
 | ins (C dx:Addr) (fs:List (Str×V))
 /-- the dict of the instance at x -/
 | own (x:Addr)
 /-- the dict of an exception -/
 | xd (fs:List (Str×V))
 /-- a bound method,f of x -/
 | met (f x:Addr)
 /-- a range object lo,lo+1,.. below hi -/
 | rng (lo hi:Int)
 /-- a thing that is known to the object (the script;a dict while a loop walks it): read,never written while it is so -/
 | frz (o:Obj) (u:HO)
 /-- a code object's table -/
 | tbl (ps:Array Value)
 /-- any other thing,by what is true of its one object (a def of one's own: SetO a S n:=HO.ext fun h=>..) -/
 | ext (φ:Heap->Prop)
abbrev Hp:=Addr->Option HO
def upd (H:Hp) (a:Addr) (o:HO):Hp:=fun b=>if b=a then some o else H b
theorem ae {H:Hp} {a:Addr} {o:HO}:upd H a o a=some o:=by unfold upd;rw [if_pos rfl]
theorem au {H:Hp} {a b:Addr} {o:HO} (h:b≠a):upd H a o b=H b:=by unfold upd;rw [if_neg h]
theorem kW {H:Hp} {a b:Addr} {o u:HO} (h:H a=some o) (h':H b=some u) (d:o≠u):a≠b:=by
 intro e;subst e;rw [h] at h';exact d (Option.some.inj h')
theorem aM {H:Hp} {a b:Addr} {o:HO} (h:H a=some o) (h':H b=none):a≠b:=by
 intro e;subst e;rw [h] at h';cases h'
section
variable (P:Program) (w:World)
def ObjOk (H:Hp) (h:Heap) (a:Addr):HO->Prop
 | .lst xs=>xs.length<=sizeLine/\∃ (its:List Value) (n:Nat),Vals xs its/\h.get? a=some { cls:=.type "list",data:=.seq its.toArray n }
 | .tup xs=>xs.length<=sizeLine/\∃ its:List Value,Vals xs its/\TupD h a its.toArray
 | .dK kvs=>kvs.length<=sizeLine/\(a == sysModules)=false/\∃ vs,KV kvs vs/\h.DictOf (nU P w) a vs
 | .dT kvs=>kvs.length<=sizeLine/\(a == sysModules)=false/\∃ xs:List (List Key×Addr×Value),
  Paired (fun (p:List Key×V) (q:List Key×Addr×Value)=>p.1=q.1/\H q.2.1=some (.tup (p.1.map kV))/\RelV p.2 q.2.2) kvs xs /\
  ∃ o es ep,h.get? a=some o/\o.ExactDict/\o.data=.dict es ep/\es.toList=xs.map (entryOfKey (tupleKind (nU P w)))/\(xs.map (·.1)).Nodup
 | .set S n=>h.SetOf (intKind P w) a S n
 | .ins C dx fs=>H dx=some (.own a)/\fs.length<=1000/\dx≠a/\h.get? a=some (PySem.W.instObj C dx) /\
  ∃ mA,h.Ns1 dx mA/\(∀ f,RelO (fs.lookup f) (mA f))/\PySem.Within mA (fs.map (·.1))
 | .own _=>∃ o,h.get? a=some o
 | .xd fs=>∃ mA,h.Ns1 a mA/\∀ f,RelO (fs.lookup f) (mA f)
 | .rng lo hi=>∃ t u v,h.get? a=some { cls:=.type "range",data:=.fields #[.int lo t,.int hi u,.int 1 v] }
 | .frz o u=>h.get? a=some o/\ObjOk H h a u
 | .tbl ps=>h.get? a=some { cls:=.none,data:=.fields ps }
 | .met f x=>h.get? a=some (PySem.W.methodObj (.ref f) (.ref x))
 | .ext φ=>φ h/\(∃ o,h.get? a=some o)/\∀ h1 h2:Heap,φ h1->(∀ o,h1.get? a=some o->h2.get? a=some o)->φ h2
def HOk (H:Hp) (h:Heap):Prop:=∀ a o,H a=some o->ObjOk P w H h a o
end
section
variable {P:Program} {w:World} {H H':Hp} {h h':Heap} {a:Addr} {o:HO}
theorem ObjOk.lt (x:ObjOk P w H h a o):a<h.objs.size:=by
 cases o with
 | lst xs=>obtain ⟨_,_,_,_,e⟩:=x;exact Heap.lt_size e
 | tup xs=>obtain ⟨_,_,_,p⟩:=x;exact p.tup.lt
 | dK kvs=>obtain ⟨_,_,_,_,o,_,_,e,_⟩:=x;exact Heap.lt_size e
 | dT kvs=>obtain ⟨_,_,_,_,o,_,_,e,_⟩:=x;exact Heap.lt_size e
 | set S n=>obtain ⟨o,_,_,_,e,_⟩:=x;exact Heap.lt_size e
 | ins C dx fs=>obtain ⟨_,_,_,e,_⟩:=x;exact Heap.lt_size e
 | own y=>obtain ⟨_,e⟩:=x;exact Heap.lt_size e
 | xd fs=>obtain ⟨_,⟨_,_,_,e,_⟩,_⟩:=x;exact Heap.lt_size e
 | rng lo hi=>obtain ⟨_,_,_,e⟩:=x;exact Heap.lt_size e
 | frz ob u=>obtain ⟨e,_⟩:=x;exact Heap.lt_size e
 | tbl ps=>exact Heap.lt_size (show h.get? a=some _ from x)
 | met f y=>exact Heap.lt_size (show h.get? a=some _ from x)
 | ext φ=>obtain ⟨_,⟨_,e⟩,_⟩:=x;exact Heap.lt_size e
theorem Paired.mapP {α β:Type} {F G:α->β->Prop}:∀ {l₁:List α} {l₂:List β},Paired F l₁ l₂->(∀ a b,F a b->G a b)->Paired G l₁ l₂
 | _,_,.nil,_=>.nil
 | _,_,.cons r t,f=>.cons (f _ _ r) (Paired.mapP t f)
theorem ObjOk.stay (x:ObjOk P w H h a o) (k:∀ b u,(b=a\/H b=some (.own a))->h.get? b=some u->h'.get? b=some u)
 (ho:∀ b,H b=some (.own a)->H' b=some (.own a)) (ht:∀ b xs,H b=some (.tup xs)->H' b=some (.tup xs)):ObjOk P w H' h' a o:=by
 induction o with
 | lst xs=>obtain ⟨z,its,n,r,e⟩:=x;exact ⟨z,its,n,r,k _ _ (.inl rfl) e⟩
 | tup xs=>obtain ⟨z,its,r,ob,e⟩:=x;exact ⟨z,its,r,ob,k _ _ (.inl rfl) e⟩
 | dK kvs=>obtain ⟨z,y,vs,r,ob,es,ep,e,c⟩:=x;exact ⟨z,y,vs,r,ob,es,ep,k _ _ (.inl rfl) e,c⟩
 | dT kvs=>
   obtain ⟨z,y,xs,r,ob,es,ep,e,c⟩:=x
   exact ⟨z,y,xs,Paired.mapP r fun p q z=>⟨z.1,ht _ _ z.2.1,z.2.2⟩,ob,es,ep,k _ _ (.inl rfl) e,c⟩
 | set S n=>obtain ⟨ob,es,ep,t,e,c⟩:=x;exact ⟨ob,es,ep,t,k _ _ (.inl rfl) e,c⟩
 | ins C dx fs=>
   obtain ⟨d,z,ne,e,mA,⟨od,es,ep,e2,c⟩,r⟩:=x
   exact ⟨ho _ d,z,ne,k _ _ (.inl rfl) e,mA,⟨od,es,ep,k _ _ (.inr d) e2,c⟩,r⟩
 | own y=>obtain ⟨ob,e⟩:=x;exact ⟨ob,k _ _ (.inl rfl) e⟩
 | xd fs=>obtain ⟨mA,⟨od,es,ep,e,c⟩,r⟩:=x;exact ⟨mA,⟨od,es,ep,k _ _ (.inl rfl) e,c⟩,r⟩
 | rng lo hi=>obtain ⟨t,u,v,e⟩:=x;exact ⟨t,u,v,k _ _ (.inl rfl) e⟩
 | frz ob u ih=>obtain ⟨e,q⟩:=x;exact ⟨k _ _ (.inl rfl) e,ih q⟩
 | tbl ps=>
   have e:h.get? a=some { cls:=.none,data:=.fields ps }:=x
   show h'.get? a=some { cls:=.none,data:=.fields ps }
   exact k a _ (.inl rfl) e
 | met f y=>
   have e:h.get? a=some (PySem.W.methodObj (.ref f) (.ref y)):=x
   show h'.get? a=some (PySem.W.methodObj (.ref f) (.ref y))
   exact k a _ (.inl rfl) e
 | ext φ=>obtain ⟨p,⟨o,e⟩,st⟩:=x;exact ⟨st _ _ p fun o q=>k _ _ (.inl rfl) q,⟨o,k _ _ (.inl rfl) e⟩,st⟩
theorem HOk.lt (x:HOk P w H h) (e:H a=some o):a<h.objs.size:=(x a o e).lt
theorem HOk.fresh (x:HOk P w H h) (e:h.objs.size<=a):H a=none:=by
 cases q:H a with
 | none=>rfl
 | some u=>exact absurd (zD7 (x.lt q) e) (zG7 _)
theorem HOk.kept (x:HOk P w H h) (k:∀ b u,h.get? b=some u->h'.get? b=some u):HOk P w H h':=fun a o e=>
 (x a o e).stay (fun b u _ q=>k b u q) (fun _ q=>q) fun _ _ q=>q
theorem HOk.laid (x:HOk P w H h) (k:∀ b u,h.get? b=some u->h'.get? b=some u) (hp:h.objs.size<=a) (new:ObjOk P w (upd H a o) h' a o):HOk P w (upd H a o) h':=fun b u e=>by
 have hn:=x.fresh hp;by_cases hb:b=a
 · subst hb;rw [ae] at e;cases e;exact new
 · rw [au hb] at e;exact (x b u e).stay (fun c v _ q=>k c v q) (fun c q=>by rw [au (aM q hn)];exact q) fun c xs q=>by rw [au (aM q hn)];exact q
end
def Rd (H:Hp) (a:Addr) (u:HO):Prop:=H a=some u\/∃ o,H a=some (.frz o u)
theorem Rd.ok {P:Program} {w:World} {H:Hp} {h:Heap} {a:Addr} {u:HO} (r:Rd H a u) (x:HOk P w H h):ObjOk P w H h a u:=by
 rcases r with r | ⟨o,r⟩
 · exact x a u r
 · obtain ⟨_,q⟩:=x a _ r;exact q
def Mut:Option HO->Prop
 | some (.lst _)=>True
 | some (.dK _)=>True
 | some (.dT _)=>True
 | some (.set _ _)=>True
 | some (.ins _ _ _)=>True
 | some (.ext _)=>True
 | _=>False
section
variable {P:Program} {w:World} {H:Hp} {h h':Heap} {x e:Addr} {o':HO}
theorem HOk.write (ok:HOk P w H h) (mu:Mut (H x)) (he:e=x\/H e=some (.own x)) (k:∀ b u,b≠e->h.get? b=some u->h'.get? b=some u) (heo:∃ u,h'.get? e=some u)
 (new:ObjOk P w (upd H x o') h' x o'):HOk P w (upd H x o') h':=fun b u q=>by
 have nown:∀ c y,H c=some (.own y)->c≠x:=fun c y r z=>by subst z;rw [r] at mu;exact mu
 have ntup:∀ c xs,H c=some (.tup xs)->c≠x:=fun c xs r z=>by subst z;rw [r] at mu;exact mu
 by_cases hb:b=x
 · subst hb;rw [ae] at q;cases q;exact new
 · rw [au hb] at q;by_cases hbe:b=e
   · have q':H b=some (.own x):=by
      rcases he with z | z
      · exact absurd (hbe.trans z) hb
      · rw [hbe];exact z
     rw [q] at q';cases q';obtain ⟨v,hv⟩:=heo;exact ⟨v,by rw [hbe];exact hv⟩
   · refine (ok b u q).stay (fun c v hc r=>k c v ?_ r) (fun c r=>by rw [au (nown c b r)];exact r) fun c xs r=>by rw [au (ntup c xs r)];exact r
     rcases hc with rfl | hc
     · exact hbe
     · rintro rfl;rcases he with z | z
       · exact nown c b hc z
       · rw [hc] at z;cases z;exact hb rfl
end
structure Un (fs ex:List Addr) (H H':Hp) (h h':Heap):Prop where
 keep:∀ b o,h.get? b=some o->H b=none->b∉fs->b∉ex->h'.get? b=some o
 slot:∀ b o,h.get? b=some o->H b=none->b∈fs->b∉ex->∃ sl,h'.get? b=some { o with slots:=sl }
 free:∀ b o,h.get? b=some o->H b=none->b∉ex->H' b=none
 there:∀ b o,h.get? b=some o->b∉ex->∃ o',h'.get? b=some o'
 tups:∀ b xs,H b=some (.tup xs)->H' b=some (.tup xs)
 frzs:∀ b o u,H b=some (.frz o u)->H' b=some (.frz o u)
 tbls:∀ b ps,H b=some (.tbl ps)->∃ more,H' b=some (.tbl (ps++more))
section
variable {fs fs' ex ex':List Addr} {H H1 H2:Hp} {h h1 h2 h':Heap} {a x e:Addr} {o:HO}
theorem Un.any (u:Un fs ex H H1 h h1) {b:Addr} {ob:Obj} (q:h.get? b=some ob) (n:H b=none) (hx:b∉ex):∃ sl,h1.get? b=some { ob with slots:=sl }:=by
 by_cases hb:b∈fs
 · exact u.slot b ob q n hb hx
 · exact ⟨ob.slots,u.keep b ob q n hb hx⟩
theorem Un.kept (k:∀ b u,h.get? b=some u->h'.get? b=some u):Un fs ex H H h h':=
 ⟨fun b ob q _ _ _=>k b ob q,fun b ob q _ _ _=>⟨ob.slots,k b ob q⟩,fun _ _ _ n _=>n,fun b ob q _=>⟨ob,k b ob q⟩,fun _ _ q=>q,fun _ _ _ q=>q,fun _ ps q=>⟨#[],by rw [q];simp⟩⟩
theorem Un.refl:Un fs ex H H h h:=Un.kept fun _ _ q=>q
theorem Un.laid (k:∀ b u,h.get? b=some u->h'.get? b=some u) (hp:h.objs.size<=a) (hn:H a=none):Un fs ex H (upd H a o) h h' where
 keep:=fun b u q _ _ _=>k b u q
 slot:=fun b u q _ _ _=>⟨u.slots,k b u q⟩
 free:=fun b u q n _=>by rw [au (zC3 (zD7 (Heap.lt_size q) hp))];exact n
 there:=fun b u q _=>⟨u,k b u q⟩
 tups:=fun b xs q=>by rw [au (aM q hn)];exact q
 frzs:=fun b u xs q=>by rw [au (aM q hn)];exact q
 tbls:=fun b ps q=>⟨#[],by rw [au (aM q hn),q];simp⟩
theorem Un.write (mu:Mut (H x)) (he:e=x\/H e=some (.own x)) (k:∀ b u,b≠e->h.get? b=some u->h'.get? b=some u) (heo:∃ u,h'.get? e=some u):Un fs ex H (upd H x o) h h':=by
 have hx:∀ b,H b=none->b≠x:=fun b n z=>by subst z;rw [n] at mu;exact mu
 have hb:∀ b,H b=none->b≠e:=fun b n z=>by
  subst z;rcases he with r | r
  · exact hx b n r
  · rw [n] at r;cases r
 have hm:∀ b u,H b=some u->¬ Mut (some u)->b≠x:=fun b u q nm z=>by subst z;rw [q] at mu;exact nm mu
 refine ⟨fun b u q n _ _=>k b u (hb b n) q,fun b u q n _ _=>⟨u.slots,k b u (hb b n) q⟩,fun b u q n _=>by rw [au (hx b n)];exact n,fun b u q _=>?_,
  fun b xs q=>by rw [au (hm b _ q fun z=>z)];exact q,fun b u xs q=>by rw [au (hm b _ q fun z=>z)];exact q,fun b ps q=>⟨#[],by rw [au (hm b _ q fun z=>z),q];simp⟩⟩
 by_cases hbe:b=e
 · subst hbe;exact heo
 · exact ⟨u,k b u hbe q⟩
end
def trk (h:Heap) (H:Hp):List Addr:=(List.range h.objs.size).filter fun a=>(H a).isSome
def rK (h:Heap) (H:Hp):Heap:=PySem.W.hideAll h (trk h H)
theorem oh (h:Heap) (H:Hp):(rK h H).objs.size=h.objs.size:=PySem.W.hideAll_size _ _
theorem rJ {h:Heap} {H:Hp} {b:Addr} {o:Obj} (e:h.get? b=some o) (n:H b=none):(rK h H).get? b=some o:=
 PySem.W.hideAll_get _ e fun hm=>by
  have q:(H b).isSome=true:=(zH8.mp hm).2;rw [n] at q;simp at q
theorem vM {h:Heap} {H:Hp} {b:Addr} {o:Obj} (e:(rK h H).get? b=some o):h.get? b=some o/\H b=none:=by
 have e':h.get? b=some o:=PySem.W.of_hideAll (trk h H) e;refine ⟨e',?_⟩
 cases q:H b with
 | none=>rfl
 | some x=>
   have hm:b∈trk h H:=zH8.mpr ⟨zA6.mpr (Heap.lt_size e'),by simp [q]⟩
   have z:(rK h H).get? b=none:=PySem.W.hideAll_none (trk h H) hm
   rw [z] at e;cases e
structure Mod (K:PySem.W.Frag) (mg:Str->Option Value) (base:Heap):Prop where
 kin:K.In base
 glob:base.Ns mainGlobals mg
 blt:∃ mb,base.Ns builtinsNs mb/\∀ x:Str,x≠"__name__"->mb x=bootBuiltins x
 nolimit:base.NoLimit
structure Cx where
 prog:Program
 w:World
 K:PySem.W.Frag
 mg:Str->Option Value
 base:Heap
 A:Around
 N:List Str
 s₀:Shared
 H₀:Hp
 env:Env
 outer:List Env
 stack:List Env
 ex:List Addr
 fn:Str->Bool
 calm:Bool
 pn:List (Addr×Obj)
 xe:Value->Shared->Prop
def frs (l:List Env):List Addr:=l.filterMap (·.frame)
abbrev Cx.fs (X:Cx):List Addr:=frs X.outer
def Vis (sc:Scope) (x:Str):Prop:=sc.names.lookup x=some .local\/sc.names.lookup x=some .cell\/sc.names.lookup x=some .free
def Loc (sc:Scope) (x:Str):Prop:=sc.names.lookup x=some .local\/sc.names.lookup x=some .cell
def Look (env:Env) (h:Heap) (m:.(53)) (x:Str) (u:Value):Prop:=
 (env.kindOf x=some .local/\m x=some u)\/((env.kindOf x=some .cell\/env.kindOf x=some .free)/\∃ c,env.cells.lookup x=some c/\h.IsCell c (some u))
structure Cx.Ok (X:Cx):Prop where
 mod:Mod X.K X.mg X.base
 kind:X.env.scope.kind=.function
 glob:X.env.globals=mainGlobals
 blt:X.env.builtins=builtinsNs
 above:X.s₀.heap.objs.size<=X.env.locals
 inj:∀ x y c,X.env.cells.lookup x=some c->X.env.cells.lookup y=some c->x=y
 has:∀ x,(X.env.kindOf x=some .cell\/X.env.kindOf x=some .free)->∃ c,X.env.cells.lookup x=some c
 cab:∀ x c,X.fn x=true->X.env.cells.lookup x=some c->X.s₀.heap.objs.size<=c
 hd:X.calm=true->X.A.handled=none
 frames:X.A.frames=some X.stack
 stk:X.stack=X.outer\/(X.stack=X.env::X.outer/\X.env.frame=some X.env.locals)
 exf:∀ b∈X.ex,b≠X.env.locals/\∀ x c,X.env.cells.lookup x=some c->c≠b
 bs:∀ b o,X.base.get? b=some o->X.s₀.heap.get? b=some o/\X.H₀ b=none
 bsz:X.base.objs.size<=X.s₀.heap.objs.size
 noex:∀ b o,X.base.get? b=some o->b∉X.ex
 exfs:∀ b∈X.ex,b∉X.fs
 funs:X.s₀.heap.FunFrames X.base X.outer
 frf:∀ b∈X.fs,X.H₀ b=none
structure Inv (X:Cx) (pins:List (Addr×Obj)) (σ:List (Option V)) (H:Hp) (s:Shared):Prop where
 ok:X.Ok
 os:s.os=X.s₀.os
 bare:AllBare s.gens
 base:Un X.fs X.ex X.H₀ H X.s₀.heap s.heap
 loc:∃ m,s.heap.Ns X.env.locals m/\∀ (i:Nat) (x:Str) (v:V),X.N[i]? = some x->σ[i]? = some (some v)->Vis X.env.scope x->∃ u,RelV v u/\Look X.env s.heap m x u
 cell:∀ x c,X.env.cells.lookup x=some c->∃ v,s.heap.IsCell c v
 free:H X.env.locals=none
 freeC:∀ x c,X.env.cells.lookup x=some c->H c=none
 pin:∀ p∈X.pn++pins,s.heap.get? p.1=some p.2/\H p.1=none/\p.1≠X.env.locals/\p.1∉X.fs/\∀ v,p.2.data≠.cell v
 hok:HOk X.prog X.w H s.heap
 len:σ.length=X.N.length
section
variable {X:Cx} {pins:List (Addr×Obj)} {σ:List (Option V)} {H H':Hp} {s:Shared} {h':Heap}
theorem Cx.Ok.nofr (ok:X.Ok) {b:Addr} {o:Obj} (e:X.base.get? b=some o):b∉X.fs:=fun hb=>by
 have:=(ok.funs.mem hb).1;rw [e] at this;cases this
theorem Inv.bs (I:.(10)):∀ b o,X.base.get? b=some o->s.heap.get? b=some o/\H b=none:=fun b o e=>
 ⟨I.base.keep b o (I.ok.bs b o e).1 (I.ok.bs b o e).2 (I.ok.nofr e) (I.ok.noex b o e),I.base.free b o (I.ok.bs b o e).1 (I.ok.bs b o e).2 (I.ok.noex b o e)⟩
theorem Inv.bk (I:.(10)):∀ b o,X.base.get? b=some o->s.heap.get? b=some o:=fun b o e=>(I.bs b o e).1
theorem Inv.mod (I:.(10)):Mod X.K X.mg X.base:=I.ok.mod
theorem Inv.kIn (I:.(10)):X.K.In s.heap:=I.ok.mod.kin.keeps I.bk
theorem Inv.lt (I:.(10)):X.env.locals<s.heap.objs.size:=let ⟨_,hn,_⟩:=I.loc;hn.lt
theorem Inv.sz (I:.(10)):X.s₀.heap.objs.size<=s.heap.objs.size:=zD5 I.ok.above (Nat.le_of_lt I.lt)
theorem Inv.nofs (I:.(10)) {a:Addr} (h:s.heap.objs.size<=a):a∉X.fs:=fun hb=>by
 obtain ⟨_,o,ho,_⟩:=I.ok.funs.mem hb;exact absurd (zD7 (Heap.lt_size ho) (zD5 I.sz h)) (zG7 _)
theorem Inv.cne (I:.(10)):∀ x c,X.env.cells.lookup x=some c->c≠X.env.locals:=fun x c e z=>by
 obtain ⟨v,o,ho,hd⟩:=I.cell x c e;obtain ⟨m,⟨o',es,ep,ho',hd',_⟩,_⟩:=I.loc;rw [z,ho'] at ho;cases ho;rw [hd'] at hd;cases hd
theorem Inv.funs (I:.(10)):s.heap.FunFrames X.base X.outer:=by
 have all:∀ (l:List Env),(∀ b∈frs l,b∈X.fs)->X.s₀.heap.FunFrames X.base l->s.heap.FunFrames X.base l:=by
  intro l;induction l with
  | nil=>intro _ _;trivial
  | cons env r ih=>
    intro hs hl
    obtain ⟨hk,⟨L,o,hf,hn,ho,hd⟩,hr⟩:=hl
    have hL:L∈X.fs:=hs L (by unfold frs;rw [zE4,hf];exact zA7)
    obtain ⟨sl,e⟩:=I.base.slot L o ho (I.ok.frf L hL) hL fun z=>I.ok.exfs L z hL
    exact ⟨hk,⟨L,_,hf,hn,e,hd⟩,ih (fun b hb=>hs b (by unfold frs;rw [zE4,hf];exact zA9 _ hb)) hr⟩
 exact all X.outer (fun _ hb=>hb) I.ok.funs
theorem Inv.stack (I:.(10)):s.heap.FunFrames X.base X.stack:=by
 rcases I.ok.stk with e | ⟨e,hf⟩
 · rw [e];exact I.funs
 · rw [e];obtain ⟨m,hn,_⟩:=I.loc;refine .cons (by rw [I.ok.kind];decide) hf hn ?_ I.funs;exact Heap.get?_none_of_le (zD5 I.ok.bsz I.ok.above)
theorem Inv.stkSub (I:.(10)):∀ b∈frs X.stack,b∈X.env.locals::X.fs:=fun b hb=>by
 rcases I.ok.stk with e | ⟨e,hf⟩
 · rw [e] at hb;exact zA9 _ hb
 · rw [e] at hb;unfold frs at hb;rw [zE4,hf] at hb;exact hb
theorem Inv.stkFree (I:.(10)):∀ b∈frs X.stack,H b=none:=fun b hb=>by
 rcases zB0.mp (I.stkSub b hb) with e | hb
 · rw [e];exact I.free
 · obtain ⟨_,o,ho,_⟩:=I.ok.funs.mem hb;exact I.base.free b o ho (I.ok.frf b hb) fun z=>I.ok.exfs b z hb
theorem Inv.step {g':Array GenState} {t':Nat} {d':Drawn} {ch:List Addr} (I:.(10))
 (hch:.(29))
 (keep:∀ b o,b≠X.env.locals->b∉X.fs->b∉ch->s.heap.get? b=some o->H b=none->h'.get? b=some o)
 (slot:∀ b o,b≠X.env.locals->b∈X.fs->b∉ch->s.heap.get? b=some o->H b=none->∃ sl,h'.get? b=some { o with slots:=sl }) (free:∀ b o,b∉ch->s.heap.get? b=some o->H b=none->H' b=none)
 (there:∀ b o,b∉ch->s.heap.get? b=some o->∃ o',h'.get? b=some o')
 (tups:∀ b xs,H b=some (.tup xs)->H' b=some (.tup xs)) (frzs:∀ b o u,H b=some (.frz o u)->H' b=some (.frz o u)) (tbls:∀ b ps,H b=some (.tbl ps)->∃ more,H' b=some (.tbl (ps++more)))
 (ns:∀ m,s.heap.Ns X.env.locals m->h'.Ns X.env.locals m) (hok:HOk X.prog X.w H' h') (hg:AllBare g') :
 Inv X pins σ H' { s with heap:=h',gens:=g',drawn:=d',toks:=t' }:=by
 have neL:∀ b o,X.s₀.heap.get? b=some o->b≠X.env.locals:=fun b o e=>zC3 (zD7 .(44) I.ok.above);have neC:∀ b o,X.s₀.heap.get? b=some o->b∉X.ex->b∉ch:=fun b o e hx hb=>by
  rcases (hch b hb).1 with z | z
  · exact hx z
  · exact absurd (zD7 .(44) z) (zG7 _)
 have cellK:∀ x c,X.env.cells.lookup x=some c->∀ v,s.heap.IsCell c v->h'.IsCell c v:=fun x c e v ⟨o,ho,hd⟩=>by
  have nch:c∉ch:=fun z=>(hch c z).2.2.1 x c e rfl;by_cases hc:c∈X.fs
  · obtain ⟨sl,q⟩:=slot c o (I.cne x c e) hc nch ho (I.freeC x c e);exact ⟨_,q,hd⟩
  · exact ⟨o,keep c o (I.cne x c e) hc nch ho (I.freeC x c e),hd⟩
 refine ⟨I.ok,I.os,hg,⟨fun b o e n hb hx=>?_,fun b o e n hb hx=>?_,fun b o e n hx=>?_,fun b o e hx=>?_,fun b xs e=>tups b xs (I.base.tups b xs e),fun b o xs e=>frzs b o xs (I.base.frzs b o xs e),fun b ps e=>?_⟩,?_,fun x c e=>?_,?_,fun x c e=>?_,fun p hp=>?_,hok,I.len⟩
 · exact keep b o (neL b o e) hb (neC b o e hx) (I.base.keep b o e n hb hx) (I.base.free b o e n hx)
 · obtain ⟨sl,e1⟩:=I.base.slot b o e n hb hx;obtain ⟨sl',e2⟩:=slot b _ (neL b o e) hb (neC b o e hx) e1 (I.base.free b o e n hx);exact ⟨sl',e2⟩
 · obtain ⟨o',e1⟩:=I.base.there b o e hx;exact free b o' (neC b o e hx) e1 (I.base.free b o e n hx)
 · obtain ⟨o',e1⟩:=I.base.there b o e hx;exact there b o' (neC b o e hx) e1
 · obtain ⟨m1,e1⟩:=I.base.tbls b ps e;obtain ⟨m2,e2⟩:=tbls b _ e1;exact ⟨m1++m2,by rw [e2,Array.append_assoc]⟩
 · obtain ⟨m,hn,hl⟩:=I.loc;refine ⟨m,ns m hn,fun i x v e1 e2 e3=>?_⟩;obtain ⟨u,r,l⟩:=hl i x v e1 e2 e3;refine ⟨u,r,?_⟩;rcases l with l | ⟨k,c,e,z⟩
   · exact .inl l
   · exact .inr ⟨k,c,e,cellK x c e _ z⟩
 · obtain ⟨v,z⟩:=I.cell x c e;exact ⟨v,cellK x c e v z⟩
 · obtain ⟨m,⟨o,_,_,ho,_⟩,_⟩:=I.loc;exact free _ o (fun z=>(hch _ z).2.1 rfl) ho I.free
 · obtain ⟨v,o,ho,hd⟩:=I.cell x c e;exact free c o (fun z=>(hch c z).2.2.1 x c e rfl) ho (I.freeC x c e)
 · obtain ⟨e,n,ne,nf,d⟩:=I.pin p hp;have nch:p.1∉ch:=fun z=>(hch p.1 z).2.2.2 p hp rfl;exact ⟨keep p.1 p.2 ne nf nch e n,free p.1 p.2 nch e n,ne,nf,d⟩
theorem Inv.un {t':Nat} (I:.(10)) (u:Un X.fs [] H H' s.heap h') (hok:HOk X.prog X.w H' h'):Inv X pins σ H' { s with heap:=h',toks:=t' }:=by
 obtain ⟨m,⟨o,es,ep,ho,r⟩,_⟩:=id I.loc;obtain ⟨sl,hL⟩:=u.any ho I.free (by simp);exact I.step (g':=s.gens) (d':=s.drawn) (ch:=[]) (fun _ z=>nomatch z) (fun b o _ hb _ e n=>u.keep b o e n hb (by simp)) (fun b o _ hb _ e n=>u.slot b o e n hb (by simp)) (fun b o _ e n=>u.free b o e n (by simp)) (fun b o _ e=>u.there b o e (by simp)) u.tups u.frzs u.tbls (fun m' hm=>by
  obtain ⟨o',es',ep',ho',r'⟩:=hm;rw [ho] at ho';cases ho';exact ⟨_,es',ep',hL,r'⟩) hok I.bare
theorem Inv.call {g':Array GenState} {t':Nat} {d':Drawn} {ch:List Addr} (I:.(10)) (u:Un (frs X.stack) ch H H' s.heap h') (hok:HOk X.prog X.w H' h') (hg:AllBare g')
 (hch:.(29)) :
 Inv X pins σ H' { s with heap:=h',gens:=g',drawn:=d',toks:=t' }:=by
 obtain ⟨m,⟨o,es,ep,ho,r⟩,_⟩:=id I.loc;obtain ⟨sl,hL⟩:=u.any ho I.free fun z=>(hch _ z).2.1 rfl;exact I.step (ch:=ch) hch (fun b o hL hb hc e n=>u.keep b o e n (fun z=>(zB0.mp (I.stkSub b z)).elim hL hb) hc) (fun b o _ _ hc e n=>u.any e n hc) (fun b o hc e n=>u.free b o e n hc) (fun b o hc e=>u.there b o e hc) u.tups u.frzs u.tbls (fun m' hm=>by
  obtain ⟨o',es',ep',ho',r'⟩:=hm;rw [ho] at ho';cases ho';exact ⟨_,es',ep',hL,r'⟩) hok hg
theorem Inv.turned {t':Nat} {it:Addr} (I:.(10)) (k:∀ b o,b≠it->s.heap.get? b=some o->h'.get? b=some o) (hn:H it=none) (hL:it≠X.env.locals)
 (h1:it∈X.ex\/X.s₀.heap.objs.size<=it) (h2:∀ x c,X.env.cells.lookup x=some c->c≠it) (h3:∀ p∈X.pn++pins,p.1≠it):Inv X pins σ H { s with heap:=h',toks:=t' }:=by
 have nit:∀ b u,H b=some u->b≠it:=fun b u e z=>by rw [z,hn] at e;cases e
 refine I.step (g':=s.gens) (d':=s.drawn) (ch:=[it]) (fun b hb=>?_) (fun b o _ _ hc e _=>k b o (fun z=>hc (by simp [z])) e) (fun b o _ _ hc e _=>⟨o.slots,k b o (fun z=>hc (by simp [z])) e⟩) (fun _ _ _ _ n=>n)
  (fun b o hc e=>⟨o,k b o (fun z=>hc (by simp [z])) e⟩) (fun _ _ e=>e) (fun _ _ _ e=>e) (fun b ps e=>⟨#[],by rw [e];simp⟩) (fun m hm=>?_) (fun b u e=>?_) I.bare
 · have e:b=it:=by simpa using hb
   subst e;exact ⟨h1,hL,h2,h3⟩
 · obtain ⟨o,es,ep,ho,r⟩:=hm;exact ⟨o,es,ep,k _ o (Ne.symm hL) ho,r⟩
 · refine (I.hok b u e).stay (fun c v hc q=>k c v ?_ q) (fun _ q=>q) fun _ _ q=>q;rcases hc with z | z
   · rw [z];exact nit b u e
   · exact nit c _ z
theorem Inv.tok (I:.(10)) (t:Nat):Inv X pins σ H { s with toks:=t }:=I.un (h':=s.heap) (t':=t) Un.refl I.hok
theorem Inv.kept {t':Nat} (I:.(10)) (k:∀ b u,s.heap.get? b=some u->h'.get? b=some u):Inv X pins σ H { s with heap:=h',toks:=t' }:=I.un (Un.kept k) (I.hok.kept k)
theorem Inv.laid {a:Addr} {o:HO} {t':Nat} (I:.(10)) (k:∀ b u,s.heap.get? b=some u->h'.get? b=some u) (hp:s.heap.objs.size<=a) (new:ObjOk X.prog X.w (upd H a o) h' a o) :
 Inv X pins σ (upd H a o) { s with heap:=h',toks:=t' }:=I.un (Un.laid k hp (I.hok.fresh hp)) (I.hok.laid k hp new)
theorem Inv.write {x e:Addr} {o:HO} {t':Nat} (I:.(10)) (mu:Mut (H x)) (he:e=x\/H e=some (.own x)) (k:∀ b u,b≠e->s.heap.get? b=some u->h'.get? b=some u) (heo:∃ u,h'.get? e=some u)
 (new:ObjOk X.prog X.w (upd H x o) h' x o):Inv X pins σ (upd H x o) { s with heap:=h',toks:=t' }:=I.un (Un.write mu he k heo) (I.hok.write mu he k heo new)
theorem Inv.weak {σ':List (Option V)} (I:.(10)) (hl:σ'.length=σ.length) (w:∀ (i:Nat) v,σ'[i]? = some (some v)->σ[i]? = some (some v)):Inv X pins σ' H s:=
 ⟨I.ok,I.os,I.bare,I.base,let ⟨m,hn,hl'⟩:=I.loc;⟨m,hn,fun i x v e1 e2 e3=>hl' i x v e1 (w i v e2) e3⟩,I.cell,I.free,I.freeC,I.pin,I.hok,hl.trans I.len⟩
theorem Inv.pins_of {pins':.(26)} (I:.(10)) (h:∀ p∈pins',s.heap.get? p.1=some p.2/\H p.1=none/\p.1≠X.env.locals/\p.1∉X.fs/\∀ v,p.2.data≠.cell v):Inv X pins' σ H s:=
 ⟨I.ok,I.os,I.bare,I.base,I.loc,I.cell,I.free,I.freeC,fun p hp=>(zD4.mp hp).elim (fun z=>I.pin p (zI7 _ z)) (h p),I.hok,I.len⟩
theorem jS {N:List Str} (hN:N.Nodup) {i j:Nat} {x:Str} (a:N[i]? = some x) (b:N[j]? = some x):i=j:=by
 obtain ⟨h1,e1⟩:=List.getElem?_eq_some_iff.mp a;obtain ⟨h2,e2⟩:=List.getElem?_eq_some_iff.mp b;exact (List.getElem_inj hN).mp (e1.trans e2.symm)
theorem gR {M:Model} {A:Around} {E:.(14)} {i:Nat} {x:Str} {v:V} {u:Value} {Q:Unit->Shared->Prop} (I:.(10)) (hN:X.N.Nodup) (hi:X.N[i]? = some x) (hx:Loc X.env.scope x) (r:RelV v u)
 (h:∀ s',Inv X pins (σ.set i (some v)) H s'->(∃ a,Heap.SameBut a s.heap s'.heap/\(a=X.env.locals\/X.env.cells.lookup x=some a))->Q () s') (hf:X.fn x=true\/X.env.scope.names.lookup x=some .local:=by first | exact .inl rfl | exact .inr rfl | assumption):wpAny M A (storeName X.env x u) Q E s:=by
 obtain ⟨m,hn,hl⟩:=id I.loc;have hcls:(X.env.scope.kind == .class||(X.env.scope.kind == .module&&X.env.locals != X.env.globals))=false:=by rw [I.ok.kind];rfl
 have hiσ:i<σ.length:=by rw [I.len];exact (List.getElem?_eq_some_iff.mp hi).1
 have cne:=I.cne;have tracked:∀ {a:Addr} {h':Heap},(∃ o,s.heap.get? a=some o/\H a=none)->Heap.SameBut a s.heap h'->HOk X.prog X.w H h':=fun {a h'} ha hs b ob e=>by
  obtain ⟨_,_,hfree⟩:=ha;refine (I.hok b ob e).stay (fun c w' hc q=>(hs.2 c ?_).trans q) (fun _ q=>q) fun _ _ q=>q;rintro rfl;rcases hc with rfl | hc
  · rw [hfree] at e;cases e
  · rw [hfree] at hc;cases hc
 rcases hx with hk | hk
 · refine wpAny_storeName_local hk hn (fun h' hn' hs=>?_) hcls;obtain ⟨oL,_,_,hoL,_⟩:=id hn;refine h _ ⟨I.ok,I.os,I.bare,⟨fun b o e n hb hx=>?_,fun b o e n hb hx=>?_,I.base.free,fun b o e hx=>?_,I.base.tups,I.base.frzs,I.base.tbls⟩,⟨_,hn',fun j y v' e1 e2 e3=>?_⟩,fun y c e=>?_,I.free,I.freeC,fun p hp=>?_,tracked ⟨oL,hoL,I.free⟩ hs,by simpa using I.len⟩ ⟨_,hs,.inl rfl⟩
   · exact (hs.2 b (zC3 (zD7 .(44) I.ok.above))).trans (I.base.keep b o e n hb hx)
   · obtain ⟨sl,e1⟩:=I.base.slot b o e n hb hx;exact ⟨sl,(hs.2 b (zC3 (zD7 .(44) I.ok.above))).trans e1⟩
   · obtain ⟨o',e1⟩:=I.base.there b o e hx;exact ⟨o',(hs.2 b (zC3 (zD7 .(44) I.ok.above))).trans e1⟩
   · by_cases hj:j=i
     · subst hj;rw [hi] at e1;cases e1;rw [List.getElem?_set_self hiσ] at e2
       cases e2
       exact ⟨u,r,.inl ⟨hk,by simp⟩⟩
     · rw [List.getElem?_set_ne (Ne.symm hj)] at e2;obtain ⟨u',r',q⟩:=hl j y v' e1 e2 e3;refine ⟨u',r',?_⟩;rcases q with ⟨k,e⟩ | ⟨k,c,e,z⟩
       · refine .inl ⟨k,?_⟩;have:y≠x:=fun e=>hj (jS hN e1 (e▸hi));simp [this,e]
       · exact .inr ⟨k,c,e,z.sameBut hs (cne y c e)⟩
   · obtain ⟨w',z⟩:=I.cell y c e;exact ⟨w',z.sameBut hs (cne y c e)⟩
   · obtain ⟨e,n,ne,nf,d⟩:=I.pin p hp;exact ⟨(hs.2 p.1 ne).trans e,n,ne,nf,d⟩
 · have hfn:X.fn x=true:=by
    rcases hf with z | z
    · exact z
    · rw [z] at hk;cases hk
   obtain ⟨c,hc⟩:=I.ok.has x (.inl hk);obtain ⟨w',z⟩:=I.cell x c hc;refine wpAny_storeName_cell I.ok.kind hk hc z (fun h' hc' hs=>?_);obtain ⟨oc,hoc,hocd⟩:=id z;refine h { s with heap:=h' } ⟨I.ok,I.os,I.bare,⟨fun b o e n hb hx=>?_,fun b o e n hb hx=>?_,I.base.free,fun b o e hx=>?_,I.base.tups,I.base.frzs,I.base.tbls⟩,⟨m,hn.sameBut hs (Ne.symm (cne x c hc)),fun j y v' e1 e2 e3=>?_⟩,fun y c' e=>?_,I.free,I.freeC,fun p hp=>?_,tracked ⟨oc,hoc,I.freeC x c hc⟩ hs,by simpa using I.len⟩ ⟨c,hs,.inr hc⟩
   · exact (hs.2 b (zC3 (zD7 .(44) (I.ok.cab x c hfn hc)))).trans (I.base.keep b o e n hb hx)
   · obtain ⟨sl,e1⟩:=I.base.slot b o e n hb hx;exact ⟨sl,(hs.2 b (zC3 (zD7 .(44) (I.ok.cab x c hfn hc)))).trans e1⟩
   · obtain ⟨o',e1⟩:=I.base.there b o e hx;exact ⟨o',(hs.2 b (zC3 (zD7 .(44) (I.ok.cab x c hfn hc)))).trans e1⟩
   · by_cases hj:j=i
     · subst hj;rw [hi] at e1;cases e1;rw [List.getElem?_set_self hiσ] at e2
       cases e2
       exact ⟨u,r,.inr ⟨.inl hk,c,hc,hc'⟩⟩
     · rw [List.getElem?_set_ne (Ne.symm hj)] at e2;obtain ⟨u',r',q⟩:=hl j y v' e1 e2 e3;refine ⟨u',r',?_⟩;rcases q with q | ⟨k,c',e,z'⟩
       · exact .inl q
       · refine .inr ⟨k,c',e,z'.sameBut hs ?_⟩;rintro rfl;exact hj (jS hN e1 (I.ok.inj _ _ _ e hc▸hi))
   · by_cases hcc:c'=c
     · subst hcc;exact ⟨_,hc'⟩
     · obtain ⟨w2,z2⟩:=I.cell y c' e;exact ⟨w2,z2.sameBut hs hcc⟩
   · obtain ⟨e,n,ne,nf,d⟩:=I.pin p hp;refine ⟨(hs.2 p.1 ?_).trans e,n,ne,nf,d⟩;intro q;rw [q,hoc] at e;have q':oc=p.2:=Option.some.inj e;exact d w' (by rw [← q'];exact hocd)
theorem cE {M:Model} {A:Around} {E:.(14)} {i:Nat} {x:Str} {v:V} {u:Value} {Q:Unit->Shared->Prop} (I:.(10)) (hN:X.N.Nodup) (hi:X.N[i]? = some x) (hx:Loc X.env.scope x) (r:RelV v u)
 (h:∀ s',Inv X pins (σ.set i (some v)) H s'->Q () s') (hf:X.fn x=true\/X.env.scope.names.lookup x=some .local:=by first | exact .inl rfl | exact .inr rfl | assumption):wpAny M A (storeName X.env x u) Q E s:=
 gR I hN hi hx r (fun s' I' _=>h s' I') hf
theorem Inv.call' {s':Shared} {ch:List Addr} (I:.(10)) (ho:s'.os=s.os) (u:Un (frs X.stack) ch H H' s.heap s'.heap) (hok:HOk X.prog X.w H' s'.heap) (hg:AllBare s'.gens)
 (hch:.(29)):Inv X pins σ H' s':=by
 obtain ⟨h',g',d',t',o'⟩:=s';have e:o'=s.os:=ho;subst e;exact I.call (g':=g') (t':=t') (d':=d') u hok hg hch
end
abbrev XK:=Value->Option Addr->Hp->Prop
abbrev St:=List (Option V)
abbrev VK:=V->Hp->Prop
abbrev TE:=St->Hp->VK->Prop
abbrev TT:=St->Hp->(Bool->Hp->Prop)->Prop
abbrev TA:=St->Hp->(List V->Hp->Prop)->Prop
structure Ends where
 nx:St->Hp->Prop
 rt:VK
 bk:St->Hp->Prop:=fun _ _=>False
 ct:St->Hp->Prop:=fun _ _=>False
abbrev TS:=Ends->St->Hp->Prop
def EP (X:Cx) (pins:.(26)) (σ:St) (Q:VK) (u:Value) (s':Shared):Prop:=∃ v H',Inv X pins σ H' s'/\RelV v u/\Q v H'
def TP (X:Cx) (pins:.(26)) (σ:St) (Q:Bool->Hp->Prop) (b:Bool) (s':Shared):Prop:=∃ H',Inv X pins σ H' s'/\Q b H'
def AP (X:Cx) (pins:.(26)) (σ:St) (Q:.(88)) (us:List Value) (s':Shared):Prop:=∃ vs H',Inv X pins σ H' s'/\Vals vs us/\Q vs H'
def SP (X:Cx) (pins:.(26)) (D:Ends) (f:Flow) (s':Shared):Prop:=
 match f with
 | .next=>∃ σ' H',Inv X pins σ' H' s'/\D.nx σ' H'
 | .brk=>∃ σ' H',Inv X pins σ' H' s'/\D.bk σ' H'
 | .cont=>∃ σ' H',Inv X pins σ' H' s'/\D.ct σ' H'
 | .ret u=>∃ v σ' H',Inv X pins σ' H' s'/\RelV v u/\D.rt v H'
def PE (X:Cx) (e:Expr) (t:TE):Prop:=
 ∀ (pins:List (Addr×Obj)) (s:Shared) (σ:St) (H:Hp) (Q:VK),Inv X pins σ H s->t σ H Q->wpAny .(15) X.A (eval e X.env) .(95) X.xe s
@[irreducible] def ZE (X:Cx) (e:Expr) (t:TE):Prop:=PE X e t
theorem ZE.p {X:Cx} {e:Expr} {t:TE}  (h:ZE X e t):PE X e t:=by unfold ZE at h;exact h
def PT (X:Cx) (e:Expr) (t:TT):Prop:=
 ∀ (pins:List (Addr×Obj)) (s:Shared) (σ:St) (H:Hp) (Q:Bool->Hp->Prop),Inv X pins σ H s->t σ H Q->wpAny .(15) X.A (isTrue e X.env (eval e X.env)) (TP X pins σ Q) X.xe s
@[irreducible] def ZT (X:Cx) (e:Expr) (t:TT):Prop:=PT X e t
def PW (X:Cx) (e:Expr) (t:TT):Prop:=
 ∀ (whole:Sem Value) (pins:.(26)) (s:Shared) (σ:St) (H:Hp) (Q:Bool->Hp->Prop),Inv X pins σ H s->t σ H Q->wpAny .(15) X.A (isTrue e X.env whole) (TP X pins σ Q) X.xe s
@[irreducible] def ZW (X:Cx) (e:Expr) (t:TT):Prop:=PW X e t
theorem PW.pt {X:Cx} {e:Expr} {t:TT} (h:PW X e t):PT X e t:=h _
theorem ZW.zt {X:Cx} {e:Expr} {t:TT} (h:ZW X e t):ZT X e t:=by with_unfolding_all exact PW.pt h
def PA (X:Cx) (es:List Expr) (t:TA):Prop:=
 ∀ (pos:Pos) (pins:.(26)) (s:Shared) (σ:St) (H:Hp) (Q:.(88)),Inv X pins σ H s->t σ H Q->wpAny .(15) X.A (spliced .(6)) (AP X pins σ Q) X.xe s
@[irreducible] def ZA (X:Cx) (es:List Expr) (t:TA):Prop:=PA X es t
def PS (X:Cx) (st:Stmt) (t:TS):Prop:=
 ∀ (pins:List (Addr×Obj)) (s:Shared) (σ:St) (H:Hp) (D:Ends),Inv X pins σ H s->t D σ H->wpAny .(15) X.A (exec st X.env) (SP X pins D) X.xe s
@[irreducible] def ZS (X:Cx) (st:Stmt) (t:TS):Prop:=PS X st t
def PSs (X:Cx) (st:List Stmt) (t:TS):Prop:=
 ∀ (pins:List (Addr×Obj)) (s:Shared) (σ:St) (H:Hp) (D:Ends),Inv X pins σ H s->t D σ H->wpAny .(15) X.A (execs st X.env) (SP X pins D) X.xe s
@[irreducible] def ZSs (X:Cx) (st:List Stmt) (t:TS):Prop:=PSs X st t
theorem ZSs.p {X:Cx} {st:List Stmt} {t:TS}  (h:ZSs X st t):PSs X st t:=by unfold ZSs at h;exact h
theorem thn {α:Type} {t:Sem α} {Q Q':α->Shared->Prop} {M:Model} {A:Around} {E:.(14)} {s:Shared} (h:wpAny M A t Q E s) (hQ:∀ a s,Q a s->Q' a s):wpAny M A t Q' E s:=wpAny_mono h hQ fun _ _ x=>x
section
variable {X:Cx}
def tVar (i:Nat):TE:=fun σ H Q=>∃ v,σ[i]? = some (some v)/\Q v H
def tC (v:V):TE:=fun _ H Q=>Q v H
theorem pe_var {i:Nat} {x:Str} {pos:Pos} (hN:X.N[i]? = some x) (hv:Vis X.env.scope x) (hd:.(34)=false:=by decide) (hcd:(x == ("__classdict__" : Str))=false:=by decide):PE X (.Name x pos) (tVar i):=by
 sleep 11;obtain ⟨v,e,h⟩:=h;obtain ⟨m,hn,hl⟩:=I.loc;obtain ⟨u,r,l⟩:=hl i x v hN e hv;have fin:EP X pins σ Q u s:=⟨v,H,I,r,h⟩
 rcases l with ⟨hk,hm⟩ | ⟨hk,c,hc,hcell⟩
 · exact wpAny_Name (wpAny_loadName_local I.ok.kind hk hn hm fin) hd
 · rcases hk with hk | hk
   · exact wpAny_Name (wpAny_loadName_cell I.ok.kind hk hc hcell fin) hd
   · exact wpAny_Name (wpAny_loadName_free I.ok.kind hk hc hcell fin hcd) hd
theorem av {i j pos}:PE X (.Constant (.int i) j pos) (tC (.int i)):=fun _ _ _ H _ I h=>wpAny_Constant_int ⟨.int i,H,I.tok _,⟨_,rfl⟩,h⟩
theorem am {i j pos}:ZE X (.Constant (.int i) j pos) (tC (.int i)):=by with_unfolding_all exact av
theorem pe_bl {b j pos}:PE X (.Constant (.bool b) j pos) (tC (.bl b)):=fun _ _ _ H _ I h=>Constant_bool ⟨.bl b,H,I,rfl,h⟩
theorem lP {b j pos}:ZE X (.Constant (.bool b) j pos) (tC (.bl b)):=by with_unfolding_all exact pe_bl
theorem sZ {j pos}:PE X (.Constant .none j pos) (tC .non):=fun _ _ _ H _ I h=>Constant_none ⟨.non,H,I,rfl,h⟩
theorem sD {j pos}:ZE X (.Constant .none j pos) (tC .non):=by with_unfolding_all exact sZ
theorem eX {x j pos}:PE X (.Constant (.str x) j pos) (tC (.str x)):=fun _ _ _ H _ I h=>Calls.Constant_str ⟨.str x,H,I.tok _,⟨_,rfl⟩,h⟩
theorem dN {x j pos}:ZE X (.Constant (.str x) j pos) (tC (.str x)):=by with_unfolding_all exact eX
def Gl (X:Cx) (x:Str):Prop:=X.env.kindOf x=some .globalImplicit
theorem nZ {E:.(14)} {pins:.(26)} {s:Shared} {σ:St} {H:Hp} {x:Str} {u:Value} {pos:Pos} {Q:.(14)} (I:.(10)) (hg:Gl X x) (hm:X.mg x=some u) (h:Q u s)
 (hd:.(34)=false:=by decide):wpAny .(15) X.A (eval (.Name x pos) X.env) Q E s:=
 Calls.Name_function_global I.ok.kind hg (Calls.loadGlobal_global (by rw [I.ok.glob];exact I.mod.glob.keeps I.bk) hm h) hd
theorem dP {E:.(14)} {pins:.(26)} {s:Shared} {σ:St} {H:Hp} {x:Str} {u:Value} {pos:Pos} {Q:.(14)} (I:.(10)) (hg:Gl X x) (hm:X.mg x=none) (hv:bootBuiltins x=some u) (h:Q u s)
 (hn:x≠"__name__":=by decide) (hd:.(34)=false:=by decide):wpAny .(15) X.A (eval (.Name x pos) X.env) Q E s:=by
 obtain ⟨mb,h1,h2⟩:=I.mod.blt;exact Calls.Name_function_global I.ok.kind hg (Calls.loadGlobal_builtin (by rw [I.ok.glob];exact I.mod.glob.keeps I.bk) hm (by rw [I.ok.blt];exact h1.keeps I.bk) ((h2 x hn).trans hv) h) hd
theorem vp {x:Str} {v:V} {u:Value} {pos:Pos} (hg:Gl X x) (hm:X.mg x=some u) (r:RelV v u) (hd:.(34)=false:=by decide):PE X (.Name x pos) (tC v):=
 fun _ _ _ H _ I h=>nZ I hg hm ⟨v,H,I,r,h⟩ hd
variable {a b:Expr} {ta tb:TE} {pos:Pos}
variable {tA tB':TT} {rest:List Expr}
def tOr (t u:TT):TT:=fun σ H Q=>t σ H fun c H1=>if c=true then Q true H1 else u σ H1 Q
def tNot (t:TT):TT:=fun σ H Q=>t σ H fun c H1=>Q (!c) H1
theorem pw_or1 (ha:PT X a tA):PW X (.BoolOp .Or [a] pos) tA:=by
 intro wh pins s σ H Q I h;refine isTrue_or (thn (ha pins s σ H Q I h) fun c s1 e=>?_)
 cases c with
 | false=>exact isTrue_or_nil e
 | true=>exact e
theorem lK (ha:ZT X a tA):ZW X (.BoolOp .Or [a] pos) tA:=by with_unfolding_all exact pw_or1 ha
theorem pw_or (ha:PT X a tA) (hb:PW X (.BoolOp .Or (b::rest) pos) tB'):PW X (.BoolOp .Or (a::b::rest) pos) (tOr tA tB'):=by
 intro wh pins s σ H Q I h;refine isTrue_or (thn (ha pins s σ H _ I h) fun c s1 ⟨H1,I1,q1⟩=>?_)
 cases c with
 | true=>exact ⟨H1,I1,q1⟩
 | false=>exact hb wh pins s1 σ H1 Q I1 q1
theorem t9 (ha:ZT X a tA) (hb:ZW X (.BoolOp .Or (b::rest) pos) tB'):ZW X (.BoolOp .Or (a::b::rest) pos) (tOr tA tB'):=by with_unfolding_all exact pw_or ha hb
theorem pt_not (ha:PT X a tA):PT X (.UnaryOp .Not a pos) (tNot tA):=by
 sleep 11;exact isTrue_not (ha pins s σ H (fun c H1=>Q (!c) H1) I h)
theorem sv (ha:ZT X a tA):ZT X (.UnaryOp .Not a pos) (tNot tA):=by with_unfolding_all exact pt_not ha
theorem pe_one {op} {t:TE} (h:PE X a t):PE X (.BoolOp op [a] pos) t:=fun pins s σ H Q I hw=>BoolOp_one (h pins s σ H Q I hw)
theorem ze_one {op} {t:TE} (h:ZE X a t):ZE X (.BoolOp op [a] pos) t:=by with_unfolding_all exact pe_one h
def tIf (t:TT) (ta tb:TE):TE:=fun σ H Q=>t σ H fun c H1=>if c=true then ta σ H1 Q else tb σ H1 Q
theorem jO {c:Expr} (hc:PT X c tA) (ha:PE X a ta) (hb:PE X b tb):PE X (.IfExp c a b pos) (tIf tA ta tb):=by
 sleep 11;refine wpAny_IfExp (thn (hc pins s σ H _ I h) fun d s1 ⟨H1,I1,q1⟩=>?_)
 cases d with
 | true=>exact ha pins s1 σ H1 Q I1 q1
 | false=>exact hb pins s1 σ H1 Q I1 q1
theorem cU {c:Expr} (hc:ZT X c tA) (ha:ZE X a ta) (hb:ZE X b tb):ZE X (.IfExp c a b pos) (tIf tA ta tb):=by with_unfolding_all exact jO hc ha hb
end
def SqL (K:PySem.W.Frag) (H:Hp) (a:Addr) (xs:List V):Prop:=
 Rd H a (.lst xs) \/
  ∃ (o:Obj) (its:Array Value) (n:Nat),K.lookup a=some o/\o.cls=.type "list"/\o.dict=none/\o.data=.seq its n/\its.size<=sizeLine/\Vals xs its.toList
def SqT (K:PySem.W.Frag) (H:Hp) (a:Addr) (xs:List V):Prop:=
 Rd H a (.tup xs) \/
  ∃ (o:Obj) (its:Array Value) (n:Nat),K.lookup a=some o/\o.cls=.type "tuple"/\o.data=.seq its n/\its.size<=sizeLine/\Vals xs its.toList
def absV:Value->Option V
 | .none=>some .non
 | .bool b=>some (.bl b)
 | .int i _=>some (.int i)
 | .str x _=>some (.str x)
 | .bytes b _=>some (.byt b)
 | .float b _=>some (.flt b)
 | .ref a=>some (.ref a)
 | .type n=>some (.ty n)
 | _=>none
theorem RelV.abs {x:V} {u:Value} (r:RelV x u):absV u=some x:=by
 cases x with
 | non=>cases r;rfl
 | bl _=>cases r;rfl
 | int _=>obtain ⟨t,rfl⟩:=r;rfl
 | str _=>obtain ⟨t,rfl⟩:=r;rfl
 | byt _=>obtain ⟨t,rfl⟩:=r;rfl
 | flt _=>obtain ⟨t,rfl⟩:=r;rfl
 | ref _=>cases r;rfl
 | ty _=>cases r;rfl
theorem RelV.inj {x y:V} {u:Value} (r:RelV x u) (q:RelV y u):x=y:=Option.some.inj (r.abs.symm.trans q.abs)
theorem Vals.inj:∀ {xs ys:List V} {us:List Value},Vals xs us->Vals ys us->xs=ys
 | _,_,_,.nil,.nil=>rfl
 | _,_,_,.cons r t,.cons r' t'=>by rw [r.inj r',Vals.inj t t']
section
variable {X:Cx} {pins:List (Addr×Obj)} {σ:St} {H:Hp} {s:Shared} {a:Addr} {xs ys:List V}
theorem SqL.of {K:PySem.W.Frag} (h:H a=some (.lst xs)):SqL K H a xs:=.inl (.inl h)
theorem SqT.of {K:PySem.W.Frag} (h:H a=some (.tup xs)):SqT K H a xs:=.inl (.inl h)
theorem Inv.list (I:.(10)) (h:SqL X.K H a xs):∃ its:List Value,Vals xs its/\PlainL s.heap a its.toArray/\xs.length<=sizeLine:=by
 rcases h with h | ⟨o,its,n,hk,hc,hd,hs,hz,r⟩
 · obtain ⟨z,its,n,r,e⟩:=h.ok I.hok;exact ⟨its,r,⟨_,n,e,rfl,rfl,rfl⟩,z⟩
 · refine ⟨its.toList,r,⟨o,n,I.kIn a o hk,hc,hd,by simpa using hs⟩,?_⟩;have e:=r.length;simp only [zB1] at e;lia
theorem Inv.tuple (I:.(10)) (h:SqT X.K H a xs):∃ its:List Value,Vals xs its/\IsTup s.heap a its.toArray/\xs.length<=sizeLine:=by
 rcases h with h | ⟨o,its,n,hk,hc,hs,hz,r⟩
 · obtain ⟨z,its,r,p⟩:=h.ok I.hok;exact ⟨its,r,p.tup,z⟩
 · refine ⟨its.toList,r,⟨o,I.kIn a o hk,hc,n,by simpa using hs⟩,?_⟩;have e:=r.length;simp only [zB1] at e;lia
theorem Inv.list_inj (I:.(10)) (h:SqL X.K H a xs) (h':SqL X.K H a ys):xs=ys:=by
 obtain ⟨its,r,⟨o,n,e,_,_,d⟩,_⟩:=I.list h;obtain ⟨its',r',⟨o',n',e',_,_,d'⟩,_⟩:=I.list h';rw [e] at e';cases e';rw [d] at d';injection d' with d1 _
 have:its=its':=by simpa using congrArg Array.toList d1
 subst this;exact r.inj r'
theorem Inv.tuple_inj (I:.(10)) (h:SqT X.K H a xs) (h':SqT X.K H a ys):xs=ys:=by
 obtain ⟨its,r,⟨o,e,_,n,d⟩,_⟩:=I.tuple h;obtain ⟨its',r',⟨o',e',_,n',d'⟩,_⟩:=I.tuple h';rw [e] at e';cases e';rw [d] at d';injection d' with d1 _
 have:its=its':=by simpa using congrArg Array.toList d1
 subst this;exact r.inj r'
end
abbrev Cx.wish (X:Cx) (E:.(14)):Cx:={ X with xe:=E }
abbrev Cx.nox (X:Cx):Cx:=X.wish fun _ _=>False
theorem Cx.Ok.wish {X:Cx} (ok:X.Ok) (E:.(14)):(X.wish E).Ok:=
 ⟨ok.mod,ok.kind,ok.glob,ok.blt,ok.above,ok.inj,ok.has,ok.cab,ok.hd,ok.frames,ok.stk,ok.exf,ok.bs,ok.bsz,ok.noex,ok.exfs,ok.funs,ok.frf⟩
theorem Cx.Ok.unwish {X:Cx} {E:.(14)} (ok:(X.wish E).Ok):X.Ok:=
 ⟨ok.mod,ok.kind,ok.glob,ok.blt,ok.above,ok.inj,ok.has,ok.cab,ok.hd,ok.frames,ok.stk,ok.exf,ok.bs,ok.bsz,ok.noex,ok.exfs,ok.funs,ok.frf⟩
section
variable {X:Cx} {pins:List (Addr×Obj)} {σ:St} {H:Hp} {s:Shared} {E:Value->Shared->Prop}
theorem Inv.wish (I:.(10)) (E:.(14)):Inv (X.wish E) pins σ H s:=⟨I.ok.wish E,I.os,I.bare,I.base,I.loc,I.cell,I.free,I.freeC,I.pin,I.hok,I.len⟩
theorem Inv.unwish (I:Inv (X.wish E) pins σ H s):Inv X pins σ H s:=⟨I.ok.unwish,I.os,I.bare,I.base,I.loc,I.cell,I.free,I.freeC,I.pin,I.hok,I.len⟩
theorem SP.unwish {D:Ends} {f:Flow} {s':Shared} (h:SP (X.wish E) pins D f s'):SP X pins D f s':=by
 cases f with
 | next=>obtain ⟨σ',H',I,q⟩:=h;exact ⟨σ',H',I.unwish,q⟩
 | brk=>obtain ⟨σ',H',I,q⟩:=h;exact ⟨σ',H',I.unwish,q⟩
 | cont=>obtain ⟨σ',H',I,q⟩:=h;exact ⟨σ',H',I.unwish,q⟩
 | ret u=>obtain ⟨v,σ',H',I,r,q⟩:=h;exact ⟨v,σ',H',I.unwish,r,q⟩
theorem PSs.nox {st:List Stmt} {t:TS} (h:PSs X.nox st t):PSs X st t:=fun pins s σ H D I hw=>
 wpAny_mono (h pins s σ H D (I.wish _) hw) (fun _ _ q=>q.unwish) fun _ _ z=>False.elim z
end
section
variable {X:Cx} {st:Stmt} {rest:List Stmt} {t u:TS} {e:Expr} {te:TE} {pos:Pos}
def tNext:TS:=fun D σ H=>D.nx σ H
def tSeq (t u:TS):TS:=fun D σ H=>t { D with nx:=u D } σ H
theorem bC:PSs X [] tNext:=fun _ _ σ H _ I h=>wpAny_execs_nil ⟨σ,H,I,h⟩
theorem bA:ZSs X [] tNext:=by with_unfolding_all exact bC
theorem aC (h1:PS X st t) (h2:PSs X rest u):PSs X (st::rest) (tSeq t u):=by
 sleep 31;refine wpAny_execs_cons (thn (h1 pins s σ H { D with nx:=u D } I h) fun f s1 q=>?_)
 cases f with
 | next=>
   obtain ⟨σ',H',I',q⟩:=q
   exact h2 pins s1 σ' H' D I' q
 | ret v=>exact q
 | brk=>exact q
 | cont=>exact q
theorem ah (h1:ZS X st t) (h2:ZSs X rest u):ZSs X (st::rest) (tSeq t u):=by with_unfolding_all exact aC h1 h2
theorem aT (h1:PS X st t):PSs X [st] t:=by
 sleep 31;refine wpAny_execs_cons (thn (h1 pins s σ H D I h) fun f s1 q=>?_)
 cases f with
 | next=>exact wpAny_execs_nil q
 | ret v=>exact q
 | brk=>exact q
 | cont=>exact q
theorem ai (h1:ZS X st t):ZSs X [st] t:=by with_unfolding_all exact aT h1
def sL:TS:=fun D σ H=>D.bk σ H
theorem qL:PS X (.Break pos) sL:=fun _ _ σ H _ I h=>wpAny_Break ⟨σ,H,I,h⟩
theorem Inv.quiet {pins:.(26)} {σ:St} {H:Hp} {s:Shared} (I:.(10)):interactive X.env=false:=by simp [interactive,I.ok.kind]
def tDrop (te:TE):TS:=fun D σ H=>te σ H fun _ H1=>D.nx σ H1
theorem vh (he:PE X e te) (hs:swapsWith e none pos.line X.env=pure false:=by rfl):PS X (.Expr e pos) (tDrop te):=by
 sleep 31;exact wpAny_Expr_any (thn (he pins s σ H _ I h) fun v s1 ⟨x,H1,I1,r1,q1⟩=>⟨σ,H1,I1,q1⟩) I.quiet hs
theorem dA (he:ZE X e te) (hs:swapsWith e none pos.line X.env=pure false:=by rfl):ZS X (.Expr e pos) (tDrop te):=by with_unfolding_all exact vh he hs
def tRet (te:TE):TS:=fun D σ H=>te σ H D.rt
theorem bD (he:PE X e te):PS X (.Return (some e) pos) (tRet te):=by
 sleep 31;exact wpAny_Return_some (thn (he pins s σ H _ I h) fun v s1 ⟨x,H1,I1,r1,q1⟩=>⟨x,σ,H1,I1,r1,q1⟩)
theorem aH (he:ZE X e te):ZS X (.Return (some e) pos) (tRet te):=by with_unfolding_all exact bD he
def tIfS (c:TT) (t u:TS):TS:=fun D σ H=>c σ H fun b H1=>if b=true then t D σ H1 else u D σ H1
theorem dS {c:Expr} {a b:List Stmt} {tc:TT} (hc:PT X c tc) (ha:PSs X a t) (hb:PSs X b u):PS X (.If c a b pos) (tIfS tc t u):=by
 sleep 31;refine wpAny_If (thn (hc pins s σ H _ I h) fun d s1 ⟨H1,I1,q1⟩=>?_)
 cases d with
 | true=>exact ha pins s1 σ H1 D I1 q1
 | false=>exact hb pins s1 σ H1 D I1 q1
theorem dR {c:Expr} {a b:List Stmt} {tc:TT} (hc:ZT X c tc) (ha:ZSs X a t) (hb:ZSs X b u):ZS X (.If c a b pos) (tIfS tc t u):=by with_unfolding_all exact dS hc ha hb
def tNever:TS:=fun _ _ _=>False
theorem bU {sts:List Stmt}:PSs X sts tNever:=fun _ _ _ _ _ _ h=>h.elim
end
abbrev TG:=V->St->Hp->(St->Hp->Prop)->Prop
abbrev TGs:=List V->St->Hp->(St->Hp->Prop)->Prop
def PG (X:Cx) (target:Expr) (t:TG):Prop:=
 ∀ (pins:List (Addr×Obj)) (s:Shared) (σ:St) (H:Hp) (v:V) (u:Value) (Q:St->Hp->Prop),Inv X pins σ H s->RelV v u->t v σ H Q ->
   wpAny .(15) X.A (assign target X.env u) (fun _ s'=>∃ σ' H',Inv X pins σ' H' s'/\Q σ' H') X.xe s
@[irreducible] def ZG (X:Cx) (target:Expr) (t:TG):Prop:=PG X target t
def PGs (X:Cx) (ts:List Expr) (t:TGs):Prop:=
 ∀ (pins:List (Addr×Obj)) (s:Shared) (σ:St) (H:Hp) (vs:List V) (us:List Value) (Q:St->Hp->Prop),Inv X pins σ H s->Vals vs us->t vs σ H Q ->
   wpAny .(15) X.A (assignInOrder ((assignEach ts X.env).map (·.2)) us) (fun _ s'=>∃ σ' H',Inv X pins σ' H' s'/\Q σ' H') X.xe s
@[irreducible] def ZGs (X:Cx) (ts:List Expr) (t:TGs):Prop:=PGs X ts t
abbrev wK:=V->V->V->Hp->(Hp->Prop)->Prop
def wU (X:Cx) (t:wK):Prop:=
 ∀ (pins:List (Addr×Obj)) (s:Shared) (σ:St) (H:Hp) (o i v:V) (ov iv u:Value) (Q:Hp->Prop),Inv X pins σ H s->RelV o ov->RelV i iv->RelV v u->t o i v H Q ->
   wpAny .(15) X.A (setItem ov iv u) (fun _ s'=>∃ H',Inv X pins σ H' s'/\Q H') X.xe s
abbrev TIp:=V->V->Hp->VK->Prop
def PIp (X:Cx) (op:Operator) (t:TIp):Prop:=
 ∀ (pins:List (Addr×Obj)) (s:Shared) (σ:St) (H:Hp) (x y:V) (v u:Value) (Q:VK),Inv X pins σ H s->RelV x v->RelV y u->t x y H Q ->
   wpAny .(15) X.A (inplaceOp op v u) .(95) X.xe s
section
variable {X:Cx} {pos:Pos}
def dW (i:Nat):TG:=fun v σ H Q=>Q (σ.set i (some v)) H
theorem cy {i:Nat} {x:Str} (hN:X.N.Nodup) (hi:X.N[i]? = some x) (hx:Loc X.env.scope x) (hf:X.fn x=true\/X.env.scope.names.lookup x=some .local:=by first | exact .inl rfl | exact .inr rfl | assumption):PG X (.Name x pos) (dW i):=by
 intro pins s σ H v u Q I r h;exact wpAny_assign_Name (cE I hN hi hx r (fun s' I'=>⟨_,H,I',h⟩) hf)
theorem aj {i:Nat} {x:Str} (hN:X.N.Nodup) (hi:X.N[i]? = some x) (hx:Loc X.env.scope x) (hf:X.fn x=true\/X.env.scope.names.lookup x=some .local:=by first | exact .inl rfl | exact .inr rfl | assumption):ZG X (.Name x pos) (dW i):=by with_unfolding_all exact cy hN hi hx hf
def gNil:TGs:=fun vs σ H Q=>vs=[]/\Q σ H
def lh (t:TG) (u:TGs):TGs:=fun vs σ H Q=>∃ v r,vs=v::r/\t v σ H fun σ' H'=>u r σ' H' Q
theorem nA:PGs X [] gNil:=by
 intro pins s σ H vs us Q I r h;obtain ⟨e,h⟩:=h;subst e
 cases r
 exact assignInOrder_nil ⟨σ,H,I,h⟩
theorem bB:ZGs X [] gNil:=by with_unfolding_all exact nA
theorem eh {e:Expr} {es:List Expr} {t:TG} {u:TGs} (h1:PG X e t) (h2:PGs X es u)
 (hs:(assignEach (e::es) X.env).map (·.2)=assign e X.env::(assignEach es X.env).map (·.2):=by rfl):PGs X (e::es) (lh t u):=by
 intro pins s σ H vs us Q I r h;obtain ⟨v,vr,e1,h⟩:=h;subst e1
 cases r with
 | cons r rr=>
   rw [hs]
   refine assignInOrder_cons (thn (h1 pins s σ H _ _ _ I r h) fun _ s1 ⟨σ1,H1,I1,q1⟩=>?_)
   exact h2 pins s1 σ1 H1 _ _ Q I1 rr q1
theorem aB {e:Expr} {es:List Expr} {t:TG} {u:TGs} (h1:ZG X e t) (h2:ZGs X es u)
 (hs:(assignEach (e::es) X.env).map (·.2)=assign e X.env::(assignEach es X.env).map (·.2):=by rfl):ZGs X (e::es) (lh t u):=by with_unfolding_all exact eh h1 h2 hs
def gTup (K:PySem.W.Frag) (n:Nat) (t:TGs):TG:=fun v σ H Q=>∃ a xs,v=.ref a/\SqT K H a xs/\xs.length=n/\t xs σ H Q
theorem sY {es:List Expr} {k:Nat} {t:TGs} {n:Nat} (hc:X.calm=true) (h:PGs X es t)
 (hn:(assignEach es X.env).length=n:=by rfl) (hst:(assignEach es X.env).findIdx? (·.1)=none:=by rfl):PG X (.Tuple es k pos) (gTup X.K n t):=by
 intro pins s σ H v u Q I r hw;obtain ⟨a,xs,e1,hq,hl,hw⟩:=hw;subst e1
 cases r
 obtain ⟨its,rv,ht,hz⟩:=I.tuple hq;refine assign_Tuple_tuple (I.ok.hd hc) ht (by simp [hn,← hl,rv.length]) hst fun h' hx=>?_;have I1:Inv X pins σ H { s with heap:=h' }:=I.kept (t':=s.toks) fun b o e=>hx b o (zC3 .(44)) e;exact h pins _ σ H xs _ Q I1 (by simpa using rv) hw
theorem cr {es:List Expr} {k:Nat} {t:TGs} {n:Nat} (hc:X.calm=true) (h:ZGs X es t)
 (hn:(assignEach es X.env).length=n:=by rfl) (hst:(assignEach es X.env).findIdx? (·.1)=none:=by rfl):ZG X (.Tuple es k pos) (gTup X.K n t):=by with_unfolding_all exact sY hc h hn hst
def gSub (to ti:TE) (t:wK):TG:=fun v σ H Q=>to σ H fun o H1=>ti σ H1 fun i H2=>t o i v H2 fun H3=>Q σ H3
theorem jM {o i:Expr} {to ti:TE} {t:wK} (ho:PE X o to) (hi:PE X i ti) (hs:wU X t)
 (ha:∀ v,assign (.Subscript o i pos) X.env v=(do
   let ov ← holding [v] (eval o X.env)
   let iv ← holding [v,ov] (eval i X.env)
   standAt pos
   holding [v,ov,iv] (setItem ov iv v)
   release [v,ov,iv] []):=by intro _;rfl):PG X (.Subscript o i pos) (gSub to ti t):=by
 intro pins s σ H v u Q I r h;rw [ha];refine wpAny_bind (wpAny_holding (thn (ho pins s σ H _ I h) fun ov s1 ⟨x,H1,I1,r1,q1⟩=>?_));refine wpAny_bind (wpAny_holding (thn (hi pins s1 σ H1 _ I1 q1) fun iv s2 ⟨y,H2,I2,r2,q2⟩=>?_));refine wpAny_bind (wpAny_standAt (wpAny_bind (wpAny_holding (thn (hs pins s2 σ H2 x y v ov iv u _ I2 r1 r2 r q2) fun _ s3 ⟨H3,I3,q3⟩=>?_))));exact wpAny_release ⟨σ,H3,I3,q3⟩
theorem zg_sub {o i:Expr} {to ti:TE} {t:wK} (ho:ZE X o to) (hi:ZE X i ti) (hs:wU X t)
 (ha:∀ v,assign (.Subscript o i pos) X.env v=(do
   let ov ← holding [v] (eval o X.env)
   let iv ← holding [v,ov] (eval i X.env)
   standAt pos
   holding [v,ov,iv] (setItem ov iv v)
   release [v,ov,iv] []):=by intro _;rfl):ZG X (.Subscript o i pos) (gSub to ti t):=by with_unfolding_all exact jM ho hi hs ha
def wQ (te:TE) (g:TG):TS:=fun D σ H=>te σ H fun x H1=>g x σ H1 D.nx
theorem hZ {tg e:Expr} {te:TE} {g:TG} (he:PE X e te) (hg:PG X tg g) (hs:swapsWithSole [tg] e pos.line X.env=pure false:=by rfl) (hw:swappedStores [tg] e X.env=pure none:=by rfl)
 (h1:(assignEach [tg] X.env).map (·.2)=[assign tg X.env]:=by rfl):PS X (.Assign [tg] e pos) (wQ te g):=by
 sleep 31;refine wpAny_Assign_stores (thn (he pins s σ H _ I h) fun v s1 ⟨x,H1,I1,r1,q1⟩=>?_) hs hw;rw [h1];exact thn (hg pins s1 σ H1 x v _ I1 r1 q1) fun _ s2 q=>q
theorem lN {tg e:Expr} {te:TE} {g:TG} (he:ZE X e te) (hg:ZG X tg g) (hs:swapsWithSole [tg] e pos.line X.env=pure false:=by rfl) (hw:swappedStores [tg] e X.env=pure none:=by rfl)
 (h1:(assignEach [tg] X.env).map (·.2)=[assign tg X.env]:=by rfl):ZS X (.Assign [tg] e pos) (wQ te g):=by with_unfolding_all exact hZ he hg hs hw h1
theorem dc {i:Nat} {x:Str} {e:Expr} {te:TE} {pos':Pos} (hN:X.N.Nodup) (hi:X.N[i]? = some x) (hx:Loc X.env.scope x) (he:PE X e te) (hs:swapsWith e (some (.Name x pos')) pos.line X.env=pure false:=by rfl) (hf:X.fn x=true\/X.env.scope.names.lookup x=some .local:=by first | exact .inl rfl | exact .inr rfl | assumption) :
 PS X (.Assign [.Name x pos'] e pos) (wQ te (dW i)):=by
 sleep 31;refine wpAny_Assign_Name (thn (he pins s σ H _ I h) fun v s1 ⟨y,H1,I1,r1,q1⟩=>?_) hs;exact cE I1 hN hi hx r1 (fun s2 I2=>⟨_,H1,I2,q1⟩) hf
theorem ay {i:Nat} {x:Str} {e:Expr} {te:TE} {pos':Pos} (hN:X.N.Nodup) (hi:X.N[i]? = some x) (hx:Loc X.env.scope x) (he:ZE X e te) (hs:swapsWith e (some (.Name x pos')) pos.line X.env=pure false:=by rfl) (hf:X.fn x=true\/X.env.scope.names.lookup x=some .local:=by first | exact .inl rfl | exact .inr rfl | assumption) :
 ZS X (.Assign [.Name x pos'] e pos) (wQ te (dW i)):=by with_unfolding_all exact dc hN hi hx he hs hf
def tAug (i:Nat) (te:TE) (ti:TIp):TS:=fun D σ H=>∃ x,σ[i]? = some (some x)/\te σ H fun y H1=>ti x y H1 fun z H2=>D.nx (σ.set i (some z)) H2
theorem ps_aug {i:Nat} {x:Str} {e:Expr} {te:TE} {op:Operator} {ti:TIp} {pos':Pos} (hN:X.N.Nodup) (hi:X.N[i]? = some x) (hx:Loc X.env.scope x) (he:PE X e te) (ho:PIp X op ti) (hf:X.fn x=true\/X.env.scope.names.lookup x=some .local:=by first | exact .inl rfl | exact .inr rfl | assumption) :
 PS X (.AugAssign (.Name x pos') op e pos) (tAug i te ti):=by
 sleep 31;obtain ⟨v,e1,h⟩:=h;obtain ⟨m,hn,hl⟩:=I.loc;have vis:Vis X.env.scope x:=by rcases hx with k | k;exact .inl k;exact .inr (.inl k)
 obtain ⟨u,r,l⟩:=hl i x v hi e1 vis;refine wpAny_AugAssign_Name ?_;have go:wpAny .(15) X.A (eval e X.env) (fun w s₂=>wpAny .(15) X.A (inplaceOp op u w) (fun r s₃=>wpAny .(15) X.A (storeName X.env x r) (fun _=>SP X pins D .next) X.xe s₃) X.xe s₂) X.xe s:=by
  refine thn (he pins s σ H _ I h) fun w s1 ⟨y,H1,I1,r1,q1⟩=>?_;refine thn (ho pins s1 σ H1 v y u w _ I1 r r1 q1) fun z s2 ⟨zv,H2,I2,r2,q2⟩=>?_;exact cE I2 hN hi hx r2 (fun s3 I3=>⟨_,H2,I3,q2⟩) hf
 rcases l with ⟨hk,hm⟩ | ⟨hk,c,hc,hcell⟩
 · exact wpAny_loadName_local I.ok.kind hk hn hm go
 · rcases hk with hk | hk
   · exact wpAny_loadName_cell I.ok.kind hk hc hcell go
   · rcases hx with k | k
     · have:X.env.scope.names.lookup x=some .free:=hk;rw [k] at this;cases this
     · have:X.env.scope.names.lookup x=some .free:=hk;rw [k] at this;cases this
theorem sw {i:Nat} {x:Str} {e:Expr} {te:TE} {op:Operator} {ti:TIp} {pos':Pos} (hN:X.N.Nodup) (hi:X.N[i]? = some x) (hx:Loc X.env.scope x) (he:ZE X e te) (ho:PIp X op ti) (hf:X.fn x=true\/X.env.scope.names.lookup x=some .local:=by first | exact .inl rfl | exact .inr rfl | assumption) :
 ZS X (.AugAssign (.Name x pos') op e pos) (tAug i te ti):=by with_unfolding_all exact ps_aug hN hi hx he ho hf
def tAugS (to ti te:TE) (tget:V->V->Hp->VK->Prop) (tip:TIp) (tset:wK):TS:=fun D σ H=>to σ H fun o H1=>ti σ H1 fun i H2=>tget o i H2 fun x H3=>te σ H3 fun y H4=>tip x y H4 fun z H5=>tset o i z H5 fun H6=>D.nx σ H6
def PGet (X:Cx) (t:V->V->Hp->VK->Prop):Prop:=
 ∀ (pins:List (Addr×Obj)) (s:Shared) (σ:St) (H:Hp) (o i:V) (ov iv:Value) (Q:VK),Inv X pins σ H s->RelV o ov->RelV i iv->t o i H Q ->
   wpAny .(15) X.A (getItem ov iv) .(95) X.xe s
theorem nk {o i e:Expr} {to ti te:TE} {tget:V->V->Hp->VK->Prop} {tip:TIp} {tset:wK} {op:Operator} {tpos:Pos} (ho:PE X o to) (hi:PE X i ti) (hg:PGet X tget) (he:PE X e te) (hp:PIp X op tip) (hs:wU X tset)
 (ha:∀ ov iv new,augStore i ov iv new=(do holding [new,ov,iv] (setItem ov iv new);release [new,ov,iv] [];pure .next):=by intros;rfl):PS X (.AugAssign (.Subscript o i tpos) op e pos) (tAugS to ti te tget tip tset):=by
 sleep 31;refine wpAny_AugAssign_SubscriptAny (thn (ho pins s σ H _ I h) fun ov s1 ⟨x1,H1,I1,r1,q1⟩=>?_) ha;refine thn (hi pins s1 σ H1 _ I1 q1) fun iv s2 ⟨x2,H2,I2,r2,q2⟩=>?_;refine thn (hg pins s2 σ H2 x1 x2 ov iv _ I2 r1 r2 q2) fun old s3 ⟨x3,H3,I3,r3,q3⟩=>?_;refine thn (he pins s3 σ H3 _ I3 q3) fun v s4 ⟨x4,H4,I4,r4,q4⟩=>?_;refine thn (hp pins s4 σ H4 x3 x4 old v _ I4 r3 r4 q4) fun new s5 ⟨x5,H5,I5,r5,q5⟩=>?_;exact thn (hs pins s5 σ H5 x1 x2 x5 ov iv new _ I5 r1 r2 r5 q5) fun _ s6 ⟨H6,I6,q6⟩=>⟨σ,H6,I6,q6⟩
theorem lM {o i e:Expr} {to ti te:TE} {tget:V->V->Hp->VK->Prop} {tip:TIp} {tset:wK} {op:Operator} {tpos:Pos} (ho:ZE X o to) (hi:ZE X i ti) (hg:PGet X tget) (he:ZE X e te) (hp:PIp X op tip) (hs:wU X tset)
 (ha:∀ ov iv new,augStore i ov iv new=(do holding [new,ov,iv] (setItem ov iv new);release [new,ov,iv] [];pure .next):=by intros;rfl):ZS X (.AugAssign (.Subscript o i tpos) op e pos) (tAugS to ti te tget tip tset):=by with_unfolding_all exact nk ho hi hg he hp hs ha
def ipI (f:Int->Int->Int):TIp:=fun x y H Q=>∃ i j,x=.int i/\y=.int j/\Q (.int (f i j)) H
theorem ip_add:PIp X .Add (ipI fun i j=>i+j):=by
 intro pins s σ H x y v u Q I r1 r2 h;obtain ⟨i,j,e1,e2,q⟩:=h;subst e1;subst e2;obtain ⟨t,rfl⟩:=r1;obtain ⟨t',rfl⟩:=r2;exact iadd_int ⟨.int _,H,I.tok _,⟨_,rfl⟩,q⟩
theorem ip_sub:PIp X .Sub (ipI fun i j=>i - j):=by
 intro pins s σ H x y v u Q I r1 r2 h;obtain ⟨i,j,e1,e2,q⟩:=h;subst e1;subst e2;obtain ⟨t,rfl⟩:=r1;obtain ⟨t',rfl⟩:=r2;exact isub_int ⟨.int _,H,I.tok _,⟨_,rfl⟩,q⟩
end
structure It where
 go:Nat->Hp->Prop
 yld:Nat->Hp->V->Hp->Prop
 stop:Nat->Hp->Prop
def dY (X:Cx) (pins:.(26)) (H:Hp) (b:Addr):Prop:=
 H b=none/\b≠X.env.locals/\b∉X.fs/\(b∈X.ex\/X.s₀.heap.objs.size<=b)/\(∀ x c,X.env.cells.lookup x=some c->c≠b)/\∀ p∈X.pn++pins,p.1≠b
theorem Inv.fpOk {X:Cx} {pins:.(26)} {σ:St} {H H':Hp} {s:Shared} {b:Addr} (I:.(10)) (hb:s.heap.objs.size<=b) (hn:H' b=none):dY X pins H' b:=by
 refine ⟨hn,Nat.ne_of_gt (zD7 I.lt hb),I.nofs hb,.inr (zD5 I.sz hb),fun x c e z=>?_,fun p hp z=>?_⟩
 · obtain ⟨v,q⟩:=I.cell x c e;exact absurd (zD7 q.lt (by rw [z];exact hb)) (zG7 _)
 · exact absurd (zD7 (Heap.lt_size (I.pin p hp).1) (by rw [z];exact hb)) (zG7 _)
structure Turn (P:Program) (w:World) (K:PySem.W.Frag) (tg:Expr) (J:It) (fp:List Addr) (it:Addr) (tn:Nat->Heap->Prop):Prop where
 mem:it∈fp
 obj:∀ i h,tn i h->∀ b∈fp,∃ o,h.get? b=some o/\∀ v,o.data≠.cell v
 keep:∀ i h h',tn i h->(∀ b∈fp,∀ o,h.get? b=some o->h'.get? b=some o)->tn i h'
 item:∀ (X:Cx),X.prog=P->X.w=w->X.K=K->X.calm=true->∀ (i:Nat) (pins:.(26)) (s:Shared) (σ:St) (H:Hp) (E:.(14)),Inv X pins σ H s->(∀ b∈fp,dY X pins H b)->tn i s.heap->J.go i H ->
  wpAny (model P w) X.A (pyNext (.ref it)) (fun r s1=>∃ u,r=some u /\
   wpAny (model P w) X.A (letOwnedTupleGo tg (.ref it) u) (fun _ s2=>∃ x H',Inv X pins σ H' s2/\RelV x u/\J.yld i H x H'/\tn (i+1) s2.heap/\∀ b∈fp,H' b=none) E s1) E s
 done:∀ (X:Cx),X.prog=P->X.w=w->X.K=K->X.calm=true->∀ (i:Nat) (pins:.(26)) (s:Shared) (σ:St) (H:Hp) (E:.(14)),Inv X pins σ H s->(∀ b∈fp,dY X pins H b)->tn i s.heap->J.stop i H ->
  wpAny (model P w) X.A (pyNext (.ref it)) (fun r s1=>r=none/\Inv X pins σ H s1) E s
 self:∀ (A:Around) (i:Nat) (s:Shared) (Q:.(14)) (E:.(14)),tn i s.heap->Q (.ref it) s->wpAny (model P w) A (pyIter (.ref it)) Q E s
abbrev TI:=St->Hp->(It->Hp->Prop)->Prop
def PIE (X:Cx) (pins:.(26)) (σ:St) (tg:Expr) (R:It->Hp->Prop) (itv:Value) (s2:Shared):Prop:=
 ∃ (it:Addr) (fp:List Addr) (tn:Nat->Heap->Prop) (J:It) (H':Hp),itv=.ref it/\Inv X pins σ H' s2/\Turn X.prog X.w X.K tg J fp it tn/\tn 0 s2.heap/\(∀ b∈fp,dY X pins H' b)/\R J H'
def PI (X:Cx) (tg iter:Expr) (wi:TI):Prop:=
 ∀ (pins:List (Addr×Obj)) (s:Shared) (σ:St) (H:Hp) (R:It->Hp->Prop),Inv X pins σ H s->wi σ H R ->
   wpAny .(15) X.A (eval iter X.env) (fun v s1=>wpAny .(15) X.A (pyIter v) (PIE X pins σ tg R) X.xe s1) X.xe s
@[irreducible] def ZI (X:Cx) (tg iter:Expr) (wi:TI):Prop:=PI X tg iter wi
theorem on {M:Model} {A:Around} {E:.(14)} {s:Shared} {tg:Expr} {it:Addr} {u:Value} {o:Obj} {n:String} {vs:Array Value} {Q:Unit->Shared->Prop} (ho:s.heap.get? it=some o) (hc:o.cls=.type n) (hd:o.data=.fields vs)
 (hn:["enumerate","zip","dict_itemiterator","dict_reverseitemiterator","odict_iterator","itertools.zip_longest","itertools.pairwise"].contains n=false) (hQ:Q () s):wpAny M A (letOwnedTupleGo tg (.ref it) u) Q E s:=by
 unfold letOwnedTupleGo
 cases tg <;> first
  | exact wpAny_pure hQ
  | (cases u <;> first
      | exact wpAny_pure hQ
      | (refine wpAny_bind (wpAny_load ho ?_)
         rw [hc,hd]
         show wpAny M A (if (["enumerate","zip","dict_itemiterator","dict_reverseitemiterator","odict_iterator","itertools.zip_longest","itertools.pairwise"].contains n&&vs[0]? == some (rawInt _))=true then _ else _) Q E s
         rw [if_neg (by intro h;rw [hn,Bool.false_and] at h;cases h)]
         exact wpAny_pure hQ))
def Itl (K:PySem.W.Frag) (a:Addr):It:=
 ⟨fun i H=>∃ xs x,SqL K H a xs/\xs[i]? = some x,fun i H x H'=>H'=H/\∀ xs,SqL K H a xs->xs[i]? = some x,fun i H=>∃ xs,SqL K H a xs/\xs.length<=i⟩
def Itt (K:PySem.W.Frag) (a:Addr):It:=
 ⟨fun i H=>∃ xs x,SqT K H a xs/\xs[i]? = some x,fun i H x H'=>H'=H/\∀ xs,SqT K H a xs->xs[i]? = some x,fun i H=>∃ xs,SqT K H a xs/\xs.length<=i⟩
def Itr (lo:Int) (n:Nat):It:=⟨fun i _=>i<n,fun i H x H'=>H'=H/\x=.int (lo+i),fun i _=>n<=i⟩
theorem mh {P:Program} {w:World} {K:PySem.W.Frag} {tg:Expr} (a it:Addr):Turn P w K tg (Itl K a) [it] it (fun i h=>h.IsListIter it a i) where
 mem:=by simp
 obj:=fun i h st b hb=>by
  have e:b=it:=by simpa using hb
  subst e;obtain ⟨o,e,c,d⟩:=st;exact ⟨o,e,fun v z=>by rw [d] at z;cases z⟩
 keep:=fun i h h' st k=>st.at fun o e=>k it (by simp) o e
 item:=by
  sleep 1;subst hP hw hK;obtain ⟨xs,x,hq,hx⟩:=hg;obtain ⟨its,rv,p,hz⟩:=I.list hq;obtain ⟨u,hu,ru⟩:=rv.get hx;sleep 4;refine wpAny_pyNext_list_item st p.isList (x:=u) (by simpa using hu) fun h' st' sb=>?_;sleep 13;obtain ⟨o,e,c,d⟩:=id st';exact ⟨u,rfl,on (s:={ s with heap:=h' }) e c d (by decide) ⟨x,H,I1,ru,⟨rfl,fun ys hy=>by rw [I.list_inj hy hq];exact hx⟩,st',fun b hb=>(hf b hb).1⟩⟩
 done:=by
  sleep 1;subst hP hw hK;obtain ⟨xs,hq,hx⟩:=hg;obtain ⟨its,rv,p,hz⟩:=I.list hq;sleep 4;have hl:=rv.length;exact wpAny_pyNext_list_end (I.ok.hd hc) st p.isList (by simp;lia) fun h' eb=>⟨rfl,I.turned (t':=s.toks) (fun b o hb e=>eb b o hb e) f0 f1 f3 f4 f5⟩
 self:=fun _ _ _ _ _ st h=>wpAny_pyIter_listiter st h
theorem kG {P:Program} {w:World} {K:PySem.W.Frag} {tg:Expr} (a it:Addr):Turn P w K tg (Itt K a) [it] it (fun i h=>h.IsTupleIter it a i) where
 mem:=by simp
 obj:=fun i h st b hb=>by
  have e:b=it:=by simpa using hb
  subst e;obtain ⟨o,e,c,d⟩:=st;exact ⟨o,e,fun v z=>by rw [d] at z;cases z⟩
 keep:=fun i h h' st k=>st.at fun o e=>k it (by simp) o e
 item:=by
  sleep 1;subst hP hw hK;obtain ⟨xs,x,hq,hx⟩:=hg;obtain ⟨its,rv,p,hz⟩:=I.tuple hq;obtain ⟨u,hu,ru⟩:=rv.get hx;sleep 4;refine wpAny_pyNext_tuple_item st (show s.heap.IsTuple a its.toArray from p) (x:=u) (by simpa using hu) fun h' st' sb=>?_;sleep 13;obtain ⟨o,e,c,d⟩:=id st';exact ⟨u,rfl,on (s:={ s with heap:=h' }) e c d (by decide) ⟨x,H,I1,ru,⟨rfl,fun ys hy=>by rw [I.tuple_inj hy hq];exact hx⟩,st',fun b hb=>(hf b hb).1⟩⟩
 done:=by
  sleep 1;subst hP hw hK;obtain ⟨xs,hq,hx⟩:=hg;obtain ⟨its,rv,p,hz⟩:=I.tuple hq;sleep 4;have hl:=rv.length;exact wpAny_pyNext_tuple_end (I.ok.hd hc) st (show s.heap.IsTuple a its.toArray from p) (by simp;lia) fun h' eb=>⟨rfl,I.turned (t':=s.toks) (fun b o hb e=>eb b o hb e) f0 f1 f3 f4 f5⟩
 self:=fun _ _ _ _ _ st h=>wpAny_pyIter_tupleiter st h
theorem kH {P:Program} {w:World} {K:PySem.W.Frag} {tg:Expr} (it:Addr) (lo:Int) (n:Nat):Turn P w K tg (Itr lo n) [it] it (fun i h=>IsRangeIter h it (lo+(i:Nat)*1) ((n:Int) - (i:Nat)) 1) where
 mem:=by simp
 obj:=fun i h st b hb=>by
  have e:b=it:=by simpa using hb
  subst e;exact ⟨_,st,fun v z=>by
   have z':Data.fields _=Data.cell v:=z
   cases z'⟩
 keep:=fun i h h' st k=>k it (by simp) _ st
 item:=by
  sleep 1;subst hP hw hK;sleep 4;have W:=Walks.range (prog:=X.prog) (w:=X.w) (I.ok.hd hc) it lo 1 n;refine W.item i s _ _ hg st fun v h' tk hv st' kk=>?_;obtain ⟨t,rfl⟩:=hv;have I1:Inv X pins σ H { s with heap:=h',toks:=tk }:=I.turned (fun b o hb e=>kk b o (by simpa using hb) e) f0 f1 f3 f4 f5;refine ⟨_,rfl,on (s:={ s with heap:=h',toks:=tk }) (n:="range_iterator") st' rfl rfl (by decide) ⟨.int (lo+i),H,I1,⟨t,?_⟩,⟨rfl,rfl⟩,st',fun b hb=>(hf b hb).1⟩⟩;rw [zL5]
 done:=by
  sleep 1;subst hP hw hK;sleep 4;sleep 37
 self:=fun _ _ _ _ _ st h=>wpAny_pyIter_rangeiter st h
section
variable {X:Cx} {tg:Expr}
def iList (K:PySem.W.Frag) (tl:TE):TI:=fun σ H R=>tl σ H fun x H1=>∃ a,x=.ref a/\(∃ xs,SqL K H1 a xs)/\R (Itl K a) H1
def iTup (K:PySem.W.Frag) (tl:TE):TI:=fun σ H R=>tl σ H fun x H1=>∃ a,x=.ref a/\(∃ xs,SqT K H1 a xs)/\R (Itt K a) H1
theorem nz {l:Expr} {tl:TE} (hl:PE X l tl):PI X tg l (iList X.K tl):=by
 intro pins s σ H R I h;refine thn (hl pins s σ H _ I h) fun v s1 ⟨x,H1,I1,r1,q1⟩=>?_;obtain ⟨a,e,⟨xs,hq⟩,q⟩:=q1;subst e
 cases r1
 obtain ⟨its,rv,p,hz⟩:=I1.list hq;refine wpAny_pyIter_list p.isList ?_;refine ⟨s1.heap.objs.size,[s1.heap.objs.size],_,_,H1,rfl,I1.kept (t':=s1.toks) fun b o e=>Heap.get?_push_of_some _ e,mh a _,⟨_,Heap.get?_push_size _ rfl,rfl,rfl⟩,fun b hb=>?_,q⟩;have e:b=s1.heap.objs.size:=by simpa using hb
 subst e;exact I1.fpOk (zA1 _) (I1.hok.fresh (zA1 _))
theorem bF {l:Expr} {tl:TE} (hl:ZE X l tl):ZI X tg l (iList X.K tl):=by with_unfolding_all exact nz hl
theorem sX {l:Expr} {tl:TE} (hl:PE X l tl):PI X tg l (iTup X.K tl):=by
 intro pins s σ H R I h;refine thn (hl pins s σ H _ I h) fun v s1 ⟨x,H1,I1,r1,q1⟩=>?_;obtain ⟨a,e,⟨xs,hq⟩,q⟩:=q1;subst e
 cases r1
 obtain ⟨its,rv,p,hz⟩:=I1.tuple hq;refine wpAny_pyIter_tuple (show s1.heap.IsTuple a its.toArray from p) ?_;refine ⟨s1.heap.objs.size,[s1.heap.objs.size],_,_,H1,rfl,I1.kept (t':=s1.toks) fun b o e=>Heap.get?_push_of_some _ e,kG a _,⟨_,Heap.get?_push_size _ rfl,rfl,rfl⟩,fun b hb=>?_,q⟩;have e:b=s1.heap.objs.size:=by simpa using hb
 subst e;exact I1.fpOk (zA1 _) (I1.hok.fresh (zA1 _))
theorem dM {l:Expr} {tl:TE} (hl:ZE X l tl):ZI X tg l (iTup X.K tl):=by with_unfolding_all exact sX hl
theorem jI {pins:.(26)} {σ:St} {H:Hp} {s:Shared} {R:It->Hp->Prop} {E:.(14)} {lo hi:Int} {t u v:Tok} {tk:Nat} (I:.(10)) (h1:-(2 ^ 62)<=lo) (h2:lo<2 ^ 62) (h3:-(2 ^ 62)<=hi) (h4:hi<2 ^ 62)
 (q:R (Itr lo (hi - lo).toNat) H):wpAny .(15) X.A (pyIter .(21)) (PIE X pins σ tg R) E { s with heap:=s.heap.push { cls:=.type "range",data:=.fields #[.int lo t,.int hi u,.int 1 v] },toks:=tk }:=by
 refine wpAny_pyIter_range (IsRange.new ..) (small_one h1 h2 h3 h4) ?_;have I1:Inv X pins σ H { s with heap:=s.heap.push { cls:=.type "range",data:=.fields #[.int lo t,.int hi u,.int 1 v] },toks:=tk }:=I.kept fun b o e=>Heap.get?_push_of_some _ e;refine ⟨.(66).objs.size,[.(66).objs.size],_,_,H,rfl,
  I1.kept (t':=tk) fun b o e=>Heap.get?_push_of_some _ e,kH _ lo (hi - lo).toNat,?_,fun b hb=>?_,q⟩
 · have e1:lo+((0:Nat):Int)*1=lo:=by simp
   have e2:(((hi - lo).toNat:Nat):Int) - ((0:Nat):Int)=Builtin.Range.rangeSize lo hi 1:=by rw [rangeSize_one];split <;> lia
   show IsRangeIter _ _ (lo+((0:Nat):Int)*1) ((((hi - lo).toNat:Nat):Int) - ((0:Nat):Int)) 1;rw [e1,e2];exact Heap.get?_push_size _ rfl
 · have e:b=.(66).objs.size:=by simpa using hb
   subst e;exact I1.fpOk (zA1 _) (I1.hok.fresh (zA1 _))
def iRng1 (ta:TA):TI:=fun σ H R=>ta σ H fun vs H1=>∃ j:Int,vs=[.int j]/\-(2 ^ 62)<=j/\j<2 ^ 62/\R (Itr 0 j.toNat) H1
def iRng2 (ta:TA):TI:=fun σ H R=>ta σ H fun vs H1=>∃ i j:Int,vs=[.int i,.int j]/\(-(2 ^ 62)<=i/\i<2 ^ 62/\-(2 ^ 62)<=j/\j<2 ^ 62)/\R (Itr i (j - i).toNat) H1
theorem ny {a:Expr} {ta:TA} {p pos:Pos} (hg:Gl X "range") (hm:X.mg "range" = none) (ha:PA X [a] ta) (hs:starEach [a] X.env=[(false,eval a X.env)]:=by rfl):PI X tg (.Call (.Name "range" p) [a] [] pos) (iRng1 ta):=by
 intro pins s σ H R I h;refine Call_ (dP I hg hm boot_range (PyProof.Rows.callWith_type1 (thn .(61) fun us s1 ⟨vs,H1,I1,r1,q1⟩=>?_) hs rfl));obtain ⟨j,e,q1,q2,q⟩:=q1;subst e
 cases r1 with
 | cons r rr=>
   cases rr
   obtain ⟨t,rfl⟩:=r
   exact call_range_1 (jI I1 (by lia) (by lia) q1 q2 (by simpa using q))
theorem bO {a:Expr} {ta:TA} {p pos:Pos} (hg:Gl X "range") (hm:X.mg "range" = none) (ha:ZA X [a] ta) (hs:starEach [a] X.env=[(false,eval a X.env)]:=by rfl):ZI X tg (.Call (.Name "range" p) [a] [] pos) (iRng1 ta):=by with_unfolding_all exact ny hg hm ha hs
theorem ie {a b:Expr} {ta:TA} {p pos:Pos} (hg:Gl X "range") (hm:X.mg "range" = none) (ha:PA X [a,b] ta) (hs:starEach [a,b] X.env=[(false,eval a X.env),(false,eval b X.env)]:=by rfl) (hs2:starEach [b] X.env=[(false,eval b X.env)]:=by rfl) :
 PI X tg (.Call (.Name "range" p) [a,b] [] pos) (iRng2 ta):=by
 intro pins s σ H R I h;refine Call_ (dP I hg hm boot_range (PyProof.Rows.callWith_type1 (thn .(61) fun us s1 ⟨vs,H1,I1,r1,q1⟩=>?_) (by rw [hs,hs2]) (by rw [hs2];rfl)));obtain ⟨i,j,e,⟨q1,q2,q3,q4⟩,q⟩:=q1;subst e
 cases r1 with
 | cons r rr=>
   cases rr with
   | cons r' rr=>
     cases rr
     obtain ⟨t,rfl⟩:=r
     obtain ⟨t',rfl⟩:=r'
     exact call_range_2 (jI I1 q1 q2 q3 q4 q)
theorem eF {a b:Expr} {ta:TA} {p pos:Pos} (hg:Gl X "range") (hm:X.mg "range" = none) (ha:ZA X [a,b] ta) (hs:starEach [a,b] X.env=[(false,eval a X.env),(false,eval b X.env)]:=by rfl) (hs2:starEach [b] X.env=[(false,eval b X.env)]:=by rfl) :
 ZI X tg (.Call (.Name "range" p) [a,b] [] pos) (iRng2 ta):=by with_unfolding_all exact ie hg hm ha hs hs2
def tFor (wi:TI) (g:TG) (tb:TS):TS:=fun D σ H=>wi σ H fun J H1=>∃ W:Nat->Nat->St->Hp->Prop,(∃ m,W 0 m σ H1)/\∀ i m σ H,W i m σ H ->
 (J.stop i H/\D.nx σ H)\/(J.go i H/\∃ N:St->Hp->Prop,.(24)/\∀ x H',J.yld i H x H'->g x σ H' fun σ2 H2=>tb { D with nx:=N,ct:=N,bk:=D.nx } σ2 H2)
def bJ (fp:List Addr) (h:Heap):List (Addr×Obj):=fp.filterMap fun b=>(h.get? b).map fun o=>(b,o)
theorem bV {fp:List Addr} {h:Heap} {b:Addr} {o:Obj} (hb:b∈fp) (e:h.get? b=some o):(b,o)∈bJ fp h:=List.mem_filterMap.mpr ⟨b,hb,by rw [e];rfl⟩
theorem df {fp:List Addr} {h:Heap} {p:Addr×Obj} (hp:p∈bJ fp h):p.1∈fp/\h.get? p.1=some p.2:=by
 obtain ⟨b,hb,e⟩:=List.mem_filterMap.mp hp
 cases q:h.get? b with
 | none=>rw [q] at e;cases e
 | some o=>
   rw [q] at e
   have e':(b,o)=p:=Option.some.inj e
   subst e'
   exact ⟨hb,q⟩
theorem Inv.pinned {pins:.(26)} {σ:St} {H:Hp} {s:Shared} {fp:List Addr} (I:.(10)) (hf:∀ b∈fp,dY X pins H b) (ho:∀ b∈fp,∃ o,s.heap.get? b=some o/\∀ v,o.data≠.cell v):Inv X (pins++bJ fp s.heap) σ H s:=
 I.pins_of fun p hp=>(zD4.mp hp).elim (fun z=>I.pin p (zB3 _ z)) fun z=>by
  obtain ⟨hb,e⟩:=df z;obtain ⟨f0,f1,f2,_⟩:=hf p.1 hb;obtain ⟨o,e',d⟩:=ho p.1 hb;rw [e] at e';cases e';exact ⟨e,f0,f1,f2,d⟩
theorem Inv.unpinned {pins pl:.(26)} {σ:St} {H:Hp} {s:Shared} (I:Inv X (pins++pl) σ H s):Inv X pins σ H s:=I.pins_of fun p hp=>I.pin p (zB3 _ (zI7 _ hp))
theorem jK {iter:Expr} {body:List Stmt} {wi:TI} {g:TG} {tb:TS} {pos:Pos} (hp:PassesOwn .(15) X.A X.env X.xe) (hc:X.calm=true) (hi:PI X tg iter wi) (hg:PG X tg g) (hb:PSs X body tb)
 (hs:∀ x,foldedSetIterable iter X.env x=pure x:=by intro _;rfl):PS X (.For tg iter body [] pos) (tFor wi g tb):=by
 sleep 31;refine wpAny_For (thn (hi pins s σ H _ I h) fun v s1 h1=>thn h1 fun itv s2 h2=>?_) hs;obtain ⟨it,fp,tn,J,H2,e,I2,T,st2,f2,W,⟨m0,w0⟩,turn⟩:=h2;subst e;-- what stays true of the iterator's objects through the loop
 have stat:∀ {H':Hp},.(55)->∀ b∈fp,dY X pins H' b:=fun hn b hb=>⟨hn b hb,(f2 b hb).2⟩
 refine codeAny_forLoop_any (fun n s'=>∃ i σ' H',Inv X pins σ' H' s'/\tn i s'.heap/\.(55)/\W i n σ' H') ?_ m0 ⟨0,σ,H2,I2,st2,fun b hb=>(f2 b hb).1,w0⟩;rintro n s3 ⟨i,σ3,H3,I3,st3,fr3,w3⟩;rcases turn i n σ3 H3 w3 with ⟨stop,qn⟩ | ⟨go,N,hN,step⟩
 · refine wpAny_passesOwn hp (thn (T.done X rfl rfl rfl hc i pins s3 σ3 H3 X.xe I3 (stat fr3) st3 stop) fun r s4 ⟨hr,I4⟩=>?_);subst hr;exact wpAny_execs_nil ⟨σ3,H3,I4,qn⟩
 · refine wpAny_passesOwn hp (thn (T.item X rfl rfl rfl hc i pins s3 σ3 H3 X.xe I3 (stat fr3) st3 go) fun r s4 ⟨u,hr,h4⟩=>?_);subst hr;refine wpAny_passesOwn hp (thn h4 fun _ s5 ⟨x,H5,I5,r5,y5,st5,fr5⟩=>?_);have I5':=I5.pinned (stat fr5) (T.obj _ _ st5);refine wpAny_passesOwn hp (thn (hg _ s5 σ3 H5 x u _ I5' r5 (step x H5 y5)) fun _ s6 ⟨σ6,H6,I6,q6⟩=>?_);refine wpAny_passesOwn hp (thn (hb _ s6 σ6 H6 _ I6 q6) fun f s7 q7=>?_);have again:∀ {σ7:St} {H7:Hp},Inv X (pins++bJ fp s5.heap) σ7 H7 s7->N σ7 H7->∃ m,m<n/\∃ i σ' H',Inv X pins σ' H' s7/\tn i s7.heap/\.(55)/\W i m σ' H':=fun {σ7 H7} I7 n7=>by
    obtain ⟨m',hm,w7⟩:=hN σ7 H7 n7;refine ⟨m',hm,i+1,σ7,H7,I7.unpinned,T.keep _ _ _ st5 fun b hb o e=>(I7.pin (b,o) (zB3 _ (zB3 _ (bV hb e)))).1,fun b hb=>?_,w7⟩;obtain ⟨o,e,d⟩:=T.obj _ _ st5 b hb;exact (I7.pin (b,o) (zB3 _ (zB3 _ (bV hb e)))).2.1
   cases f with
   | next=>obtain ⟨σ7,H7,I7,n7⟩:=q7;exact again I7 n7
   | cont=>obtain ⟨σ7,H7,I7,n7⟩:=q7;exact again I7 n7
   | brk=>obtain ⟨σ7,H7,I7,q7⟩:=q7;exact ⟨σ7,H7,I7.unpinned,q7⟩
   | ret v=>obtain ⟨x7,σ7,H7,I7,r7,q7⟩:=q7;exact ⟨x7,σ7,H7,I7.unpinned,r7,q7⟩
theorem bE {iter:Expr} {body:List Stmt} {wi:TI} {g:TG} {tb:TS} {pos:Pos} (hp:PassesOwn .(15) X.A X.env X.xe) (hc:X.calm=true) (hi:ZI X tg iter wi) (hg:ZG X tg g) (hb:ZSs X body tb)
 (hs:∀ x,foldedSetIterable iter X.env x=pure x:=by intro _;rfl):ZS X (.For tg iter body [] pos) (tFor wi g tb):=by with_unfolding_all exact jK hp hc hi hg hb hs
end
theorem cG {K:PySem.W.Frag} {a:Addr} {xs:List V} {g:TG} {tb:TS} {D:Ends} {σ:St} {H:Hp} (Pv:Nat->St->Hp->Prop) (h0:Pv 0 σ H) (hl:∀ i σ H,i<=xs.length->Pv i σ H->SqL K H a xs)
 (hs:∀ i x σ H,xs[i]? = some x->Pv i σ H->g x σ H fun σ2 H2=>tb { D with nx:=Pv (i+1),ct:=Pv (i+1),bk:=D.nx } σ2 H2) (hd:∀ σ H,Pv xs.length σ H->D.nx σ H) :
 ∃ W:Nat->Nat->St->Hp->Prop,(∃ m,W 0 m σ H)/\∀ i m σ H,W i m σ H ->
   ((Itl K a).stop i H/\D.nx σ H)\/((Itl K a).go i H/\∃ N:St->Hp->Prop,.(24)/\∀ x H',(Itl K a).yld i H x H'->g x σ H' fun σ2 H2=>tb { D with nx:=N,ct:=N,bk:=D.nx } σ2 H2):=by
 refine ⟨fun i m σ H=>m=xs.length - i/\i<=xs.length/\Pv i σ H,.(86),?_⟩;rintro i m σ H ⟨rfl,hi,p⟩;have q:=hl i σ H hi p;by_cases hlt:i<xs.length
 · refine .inr ⟨.(74),Pv (i+1),fun σ' H' p'=>.(56),fun x H' y=>?_⟩;obtain ⟨e,y⟩:=y;subst e;exact hs i x σ _ (y xs q) p
 · have e:i=xs.length:=by lia
   subst e;exact .inl ⟨⟨xs,q,zA1 _⟩,hd σ H p⟩
theorem ox {K:PySem.W.Frag} {a:Addr} {xs:List V} {g:TG} {tb:TS} {D:Ends} {σ:St} {H:Hp} (Pv:Nat->St->Hp->Prop) (h0:Pv 0 σ H) (hl:∀ i σ H,i<=xs.length->Pv i σ H->SqT K H a xs)
 (hs:∀ i x σ H,xs[i]? = some x->Pv i σ H->g x σ H fun σ2 H2=>tb { D with nx:=Pv (i+1),ct:=Pv (i+1),bk:=D.nx } σ2 H2) (hd:∀ σ H,Pv xs.length σ H->D.nx σ H) :
 ∃ W:Nat->Nat->St->Hp->Prop,(∃ m,W 0 m σ H)/\∀ i m σ H,W i m σ H ->
   ((Itt K a).stop i H/\D.nx σ H)\/((Itt K a).go i H/\∃ N:St->Hp->Prop,.(24)/\∀ x H',(Itt K a).yld i H x H'->g x σ H' fun σ2 H2=>tb { D with nx:=N,ct:=N,bk:=D.nx } σ2 H2):=by
 refine ⟨fun i m σ H=>m=xs.length - i/\i<=xs.length/\Pv i σ H,.(86),?_⟩;rintro i m σ H ⟨rfl,hi,p⟩;have q:=hl i σ H hi p;by_cases hlt:i<xs.length
 · refine .inr ⟨.(74),Pv (i+1),fun σ' H' p'=>.(56),fun x H' y=>?_⟩;obtain ⟨e,y⟩:=y;subst e;exact hs i x σ _ (y xs q) p
 · have e:i=xs.length:=by lia
   subst e;exact .inl ⟨⟨xs,q,zA1 _⟩,hd σ H p⟩
theorem bI {lo:Int} {n:Nat} {g:TG} {tb:TS} {D:Ends} {σ:St} {H:Hp} (Pv:Nat->St->Hp->Prop) (h0:Pv 0 σ H)
 (hs:∀ i σ H,i<n->Pv i σ H->g (.int (lo+i)) σ H fun σ2 H2=>tb { D with nx:=Pv (i+1),ct:=Pv (i+1),bk:=D.nx } σ2 H2) (hd:∀ σ H,Pv n σ H->D.nx σ H) :
 ∃ W:Nat->Nat->St->Hp->Prop,(∃ m,W 0 m σ H)/\∀ i m σ H,W i m σ H ->
   ((Itr lo n).stop i H/\D.nx σ H)\/((Itr lo n).go i H/\∃ N:St->Hp->Prop,.(24)/\∀ x H',(Itr lo n).yld i H x H'->g x σ H' fun σ2 H2=>tb { D with nx:=N,ct:=N,bk:=D.nx } σ2 H2):=by
 refine ⟨fun i m σ H=>m=n - i/\i<=n/\Pv i σ H,⟨n,by simp,zC5 _,h0⟩,?_⟩;rintro i m σ H ⟨rfl,hi,p⟩;by_cases hlt:i<n
 · refine .inr ⟨hlt,Pv (i+1),fun σ' H' p'=>⟨n - (i+1),by lia,rfl,hlt,p'⟩,fun x H' y=>?_⟩;obtain ⟨e,y⟩:=y;subst e y;exact hs i σ _ hlt p
 · have e:i=n:=by lia
   subst e;exact .inl ⟨zA1 _,hd σ H p⟩
abbrev R2:=V->V->Hp->VK->Prop
def OpR (X:Cx) (f:Value->Value->Sem Value) (r:R2):Prop:=
 ∀ (pins:List (Addr×Obj)) (s:Shared) (σ:St) (H:Hp) (x y:V) (v u:Value) (Q:VK),Inv X pins σ H s->RelV x v->RelV y u->r x y H Q ->
   wpAny .(15) X.A (f v u) .(95) X.xe s
def UnR (X:Cx) (f:Value->Sem Value) (r:V->Hp->VK->Prop):Prop:=
 ∀ (pins:List (Addr×Obj)) (s:Shared) (σ:St) (H:Hp) (x:V) (v:Value) (Q:VK),Inv X pins σ H s->RelV x v->r x H Q ->
   wpAny .(15) X.A (f v) .(95) X.xe s
def CallR (X:Cx) (f:Value) (r:List V->Hp->VK->Prop):Prop:=
 ∀ (pins:List (Addr×Obj)) (s:Shared) (σ:St) (H:Hp) (xs:List V) (us:List Value) (Q:VK),Inv X pins σ H s->Vals xs us->r xs H Q ->
   wpAny .(15) X.A (call f us) .(95) X.xe s
def tOp (r:R2) (ta tb:TE):TE:=fun σ H Q=>ta σ H fun x H1=>tb σ H1 fun y H2=>r x y H2 Q
def tUn (r:V->Hp->VK->Prop) (ta:TE):TE:=fun σ H Q=>ta σ H fun x H1=>r x H1 Q
def rI (C:Int->Int->Prop) (g:Int->Int->V):R2:=fun x y H Q=>∃ i j,x=.int i/\y=.int j/\C i j/\Q (g i j) H
def rI0 (g:Int->Int->V):R2:=fun x y H Q=>∃ i j,x=.int i/\y=.int j/\Q (g i j) H
def rU (g:Int->V):V->Hp->VK->Prop:=fun x H Q=>∃ i,x=.int i/\Q (g i) H
section
variable {X:Cx} {a b c:Expr} {ta tb tc:TE} {pos:Pos}
theorem binT (ha:PE X a ta) (hb:PE X b tb) {pins:.(26)} {s:Shared} {σ:St} {H:Hp} {R:V->V->Hp->Prop} (I:.(10))
 (h:ta σ H fun x H1=>tb σ H1 fun y H2=>R x y H2) {Q:.(14)} {f:Value->Value->Sem Value}
 (hf:∀ v u s2 x y H2,Inv X pins σ H2 s2->RelV x v->RelV y u->R x y H2->wpAny .(15) X.A (f v u) Q X.xe s2) :
 wpAny .(15) X.A (eval a X.env) (fun v s₁=>wpAny .(15) X.A (eval b X.env) (fun u s₂=>wpAny .(15) X.A (f v u) Q X.xe s₂) X.xe s₁) X.xe s:=by
 refine thn (ha pins s σ H _ I h) fun v s1 ⟨x,H1,I1,r1,q1⟩=>?_;refine thn (hb pins s1 σ H1 _ I1 q1) fun u s2 ⟨y,H2,I2,r2,q2⟩=>?_;exact hf v u s2 x y H2 I2 r1 r2 q2
theorem aY {op:Operator} {r:R2} (ho:OpR X (binaryOp op) r) (ha:PE X a ta) (hb:PE X b tb):PE X (.BinOp a op b pos) (tOp r ta tb):=by
 sleep 11;exact wpAny_BinOp (binT ha hb I h fun v u s2 x y H2 I2 rx ry q=>ho pins s2 σ H2 x y v u Q I2 rx ry q)
theorem ax {op:Operator} {r:R2} (ho:OpR X (binaryOp op) r) (ha:ZE X a ta) (hb:ZE X b tb):ZE X (.BinOp a op b pos) (tOp r ta tb):=by with_unfolding_all exact aY ho ha hb
theorem pe_un {op:UnaryOp} {r:V->Hp->VK->Prop} (ho:UnR X (unaryOp op) r) (ha:PE X a ta):PE X (.UnaryOp op a pos) (tUn r ta):=by
 sleep 11;exact UnaryOp_ (thn (ha pins s σ H _ I h) fun v s1 ⟨x,H1,I1,r1,q1⟩=>ho pins s1 σ H1 x v Q I1 r1 q1)
theorem fU {op:UnaryOp} {r:V->Hp->VK->Prop} (ho:UnR X (unaryOp op) r) (ha:ZE X a ta):ZE X (.UnaryOp op a pos) (tUn r ta):=by with_unfolding_all exact pe_un ho ha
theorem opI {f:Value->Value->Sem Value} {C:Int->Int->Prop} {g:Int->Int->Int}
 (rule:∀ (i j:Int) (t u:Tok) (s:Shared) (Q:.(14)) (E:.(14)),C i j->Q (.int (g i j) s.toks) { s with toks:=s.toks+1 }->wpAny .(15) X.A (f (.int i t) (.int j u)) Q E s) :
 OpR X f (rI C fun i j=>.int (g i j)):=by
 sleep 2;obtain ⟨i,j,rfl,rfl,hc,q⟩:=h;obtain ⟨t,rfl⟩:=rx;obtain ⟨t',rfl⟩:=ry;exact rule i j t t' s _ _ hc ⟨.int (g i j),H,I.tok _,⟨_,rfl⟩,q⟩
theorem opI0 {f:Value->Value->Sem Value} {g:Int->Int->Int}
 (rule:∀ (i j:Int) (t u:Tok) (s:Shared) (Q:.(14)) (E:.(14)),Q (.int (g i j) s.toks) { s with toks:=s.toks+1 }->wpAny .(15) X.A (f (.int i t) (.int j u)) Q E s) :
 OpR X f (rI0 fun i j=>.int (g i j)):=by
 sleep 2;obtain ⟨i,j,rfl,rfl,q⟩:=h;obtain ⟨t,rfl⟩:=rx;obtain ⟨t',rfl⟩:=ry;exact rule i j t t' s _ _ ⟨.int (g i j),H,I.tok _,⟨_,rfl⟩,q⟩
theorem opB0 {f:Value->Value->Sem Value} {g:Int->Int->Bool}
 (rule:∀ (i j:Int) (t u:Tok) (s:Shared) (Q:.(14)) (E:.(14)),Q (.bool (g i j)) s->wpAny .(15) X.A (f (.int i t) (.int j u)) Q E s) :
 OpR X f (rI0 fun i j=>.bl (g i j)):=by
 sleep 2;obtain ⟨i,j,rfl,rfl,q⟩:=h;obtain ⟨t,rfl⟩:=rx;obtain ⟨t',rfl⟩:=ry;exact rule i j t t' s _ _ ⟨.bl (g i j),H,I,rfl,q⟩
def CDiv (i j:Int):Prop:=0<j/\j<1073741824
def CPow (i j:Int):Prop:=0<=j/\j<=1000000/\i.natAbs<2 ^ 64
theorem tj:OpR X (binaryOp .Add) (rI0 fun i j=>.int (i+j)):=opI0 fun _ _ _ _ _ _ _ q=>add_int q
theorem op_sub:OpR X (binaryOp .Sub) (rI0 fun i j=>.int (i - j)):=opI0 fun _ _ _ _ _ _ _ q=>sub_int q
theorem op_fdiv:OpR X (binaryOp .FloorDiv) (rI CDiv fun i j=>.int (i / j)):=opI fun i j _ _ _ _ _ hc q=>by
 have h1:(0:Int)<j:=hc.1;have h2:j<1073741824:=hc.2;exact floordiv_int (by lia) (by rw [Int.fdiv_eq_ediv_of_nonneg i (by lia)];exact q) (.inl (PyProof.noPylong_small (by lia)))
theorem op_mod:OpR X (binaryOp .Mod) (rI (fun _ j=>0<j) fun i j=>.int (i % j)):=opI fun i j _ _ _ _ _ hc q=>by
 have h1:(0:Int)<j:=hc;exact mod_int' (by lia) (by rw [Int.fmod_eq_emod_of_nonneg i (by lia)];exact q)
theorem op_pow:OpR X (binaryOp .Pow) (rI CPow fun i j=>.int (i ^ j.toNat)):=opI fun _ _ _ _ _ _ _ hc q=>pow_int_small hc.1 hc.2.1 hc.2.2 q
theorem unI {f:Value->Sem Value} {g:Int->Int}
 (rule:∀ (i:Int) (t:Tok) (s:Shared) (Q:.(14)) (E:.(14)),Q (.int (g i) s.toks) { s with toks:=s.toks+1 }->wpAny .(15) X.A (f (.int i t)) Q E s) :
 UnR X f (rU fun i=>.int (g i)):=by
 intro pins s σ H x v Q I rx h;obtain ⟨i,rfl,q⟩:=h;obtain ⟨t,rfl⟩:=rx;exact rule i t s _ _ ⟨.int (g i),H,I.tok _,⟨_,rfl⟩,q⟩
theorem cV:UnR X (unaryOp .USub) (rU fun i=>.int (-i)):=unI fun _ _ _ _ _ q=>neg_int q
end
def scal:V->V->Bool
 | .non,.non=>true | .non,.int _=>true | .int _,.non=>true | .non,.bl _=>true | .bl _,.non=>true | .non,.str _=>true | .str _,.non=>true
 | .int _,.int _=>true | .bl _,.bl _=>true | .str _,.str _=>true | .byt _,.byt _=>true
 | .int _,.str _=>true | .str _,.int _=>true | .bl _,.str _=>true | .str _,.bl _=>true
 | _,_=>false
def rEq:R2:=fun x y H Q=>scal x y=true/\Q (.bl (decide (x=y))) H
def rNe:R2:=fun x y H Q=>scal x y=true/\Q (.bl (!decide (x=y))) H
theorem oD {i j:Int}:decide (V.int i=V.int j)=(i == j):=by
 rw [Bool.eq_iff_iff];simp
theorem tH {i j:Bool}:decide (V.bl i=V.bl j)=(i == j):=by
 rw [Bool.eq_iff_iff];simp
theorem oC {i j:Str}:decide (V.str i=V.str j)=(i == j):=by
 rw [Bool.eq_iff_iff];simp
theorem oE {i j:Array UInt8}:decide (V.byt i=V.byt j)=(i.toList == j.toList):=by
 rw [Bool.eq_iff_iff]
 cases i
 cases j
 simp
section
variable {X:Cx} {a b c:Expr} {ta tb tc:TE} {pos:Pos}
theorem aK {pins:.(26)} {σ:St} {H:Hp} {s:Shared} {Q:VK} {k k':Bool} (I:.(10)) (q:Q (.bl k) H) (e:k=k'):EP X pins σ Q (.bool k') s:=by
 subst e;exact ⟨.bl k,H,I,rfl,q⟩
theorem op_eq:OpR X (compareOp .Eq) rEq:=by
 sleep 2;obtain ⟨hs,q⟩:=h
 cases x with
 | non=>
   cases rx
   cases y with
   | non=>cases ry;exact PySem.EqNone.eq_none_none (aK I q (by simp))
   | bl j=>cases ry;exact PySem.EqNone.eq_none_bool (aK I q (by simp))
   | int j=>obtain ⟨t',rfl⟩:=ry;exact PySem.EqNone.eq_none_int (aK I q (by simp))
   | str j=>obtain ⟨t',rfl⟩:=ry;exact PySem.EqNone.eq_none_str (aK I q (by simp))
   | _=>exact absurd (show false=true from hs) zC9
 | bl i=>
   cases rx
   cases y with
   | non=>cases ry;exact PySem.EqNone.eq_bool_none (aK I q (by simp))
   | bl j=>cases ry;exact eq_bool (aK I q tH)
   | str j=>obtain ⟨t',rfl⟩:=ry;exact PySem.EqMixed.eq_bool_str (aK I q (by simp))
   | _=>exact absurd (show false=true from hs) zC9
 | int i=>
   obtain ⟨t,rfl⟩:=rx
   cases y with
   | non=>cases ry;exact PySem.EqNone.eq_int_none (aK I q (by simp))
   | int j=>obtain ⟨t',rfl⟩:=ry;exact eq_int (aK I q oD)
   | str j=>obtain ⟨t',rfl⟩:=ry;exact PySem.EqMixed.eq_int_str (aK I q (by simp))
   | _=>exact absurd (show false=true from hs) zC9
 | str i=>
   obtain ⟨t,rfl⟩:=rx
   cases y with
   | non=>cases ry;exact PySem.EqNone.eq_str_none (aK I q (by simp))
   | bl j=>cases ry;exact PySem.EqMixed.eq_str_bool (aK I q (by simp))
   | int j=>obtain ⟨t',rfl⟩:=ry;exact PySem.EqMixed.eq_str_int (aK I q (by simp))
   | str j=>obtain ⟨t',rfl⟩:=ry;exact eq_str (aK I q oC)
   | _=>exact absurd (show false=true from hs) zC9
 | byt i=>
   obtain ⟨t,rfl⟩:=rx
   cases y with
   | byt j=>obtain ⟨t',rfl⟩:=ry;exact PySem.W.eq_bytes (aK I q oE)
   | _=>exact absurd (show false=true from hs) zC9
 | _=>cases y <;> exact absurd (show false=true from hs) zC9
theorem op_ne:OpR X (compareOp .NotEq) rNe:=by
 sleep 2;obtain ⟨hs,q⟩:=h
 cases x with
 | non=>
   cases rx
   cases y with
   | non=>cases ry;exact PySem.EqNone.ne_none_none (aK I q (by simp))
   | bl j=>cases ry;exact PySem.EqNone.ne_none_bool (aK I q (by simp))
   | int j=>obtain ⟨t',rfl⟩:=ry;exact PySem.EqNone.ne_none_int (aK I q (by simp))
   | str j=>obtain ⟨t',rfl⟩:=ry;exact PySem.EqNone.ne_none_str (aK I q (by simp))
   | _=>exact absurd (show false=true from hs) zC9
 | bl i=>
   cases rx
   cases y with
   | non=>cases ry;exact PySem.EqNone.ne_bool_none (aK I q (by simp))
   | bl j=>cases ry;exact ne_bool (aK I q (congrArg not tH))
   | str j=>obtain ⟨t',rfl⟩:=ry;exact PySem.EqMixed.ne_bool_str (aK I q (by simp))
   | _=>exact absurd (show false=true from hs) zC9
 | int i=>
   obtain ⟨t,rfl⟩:=rx
   cases y with
   | non=>cases ry;exact PySem.EqNone.ne_int_none (aK I q (by simp))
   | int j=>obtain ⟨t',rfl⟩:=ry;exact ne_int (aK I q (congrArg not oD))
   | str j=>obtain ⟨t',rfl⟩:=ry;exact PySem.EqMixed.ne_int_str (aK I q (by simp))
   | _=>exact absurd (show false=true from hs) zC9
 | str i=>
   obtain ⟨t,rfl⟩:=rx
   cases y with
   | non=>cases ry;exact PySem.EqNone.ne_str_none (aK I q (by simp))
   | bl j=>cases ry;exact PySem.EqMixed.ne_str_bool (aK I q (by simp))
   | int j=>obtain ⟨t',rfl⟩:=ry;exact PySem.EqMixed.ne_str_int (aK I q (by simp))
   | str j=>obtain ⟨t',rfl⟩:=ry;exact ne_str (aK I q (congrArg not oC))
   | _=>exact absurd (show false=true from hs) zC9
 | byt i=>
   obtain ⟨t,rfl⟩:=rx
   cases y with
   | byt j=>obtain ⟨t',rfl⟩:=ry;exact PySem.W.ne_bytes (aK I q (congrArg not oE))
   | _=>exact absurd (show false=true from hs) zC9
 | _=>cases y <;> exact absurd (show false=true from hs) zC9
theorem op_lt:OpR X (compareOp .Lt) (rI0 fun i j=>.bl (decide (i<j))):=opB0 fun _ _ _ _ _ _ _ q=>lt_int q
theorem op_le:OpR X (compareOp .LtE) (rI0 fun i j=>.bl (decide (i<=j))):=opB0 fun _ _ _ _ _ _ _ q=>le_int q
theorem op_gt:OpR X (compareOp .Gt) (rI0 fun i j=>.bl (decide (j<i))):=opB0 fun _ _ _ _ _ _ _ q=>gt_int q
theorem op_ge:OpR X (compareOp .GtE) (rI0 fun i j=>.bl (decide (j<=i))):=opB0 fun _ _ _ _ _ _ _ q=>ge_int q
theorem vD:OpR X (compareOp .IsNot) (fun x y H Q=>y=.non/\Q (.bl (!decide (x=.non))) H):=by
 sleep 2;obtain ⟨rfl,q⟩:=h
 cases ry
 refine isnot_none_gen (aK I q ?_)
 cases x <;> first
  | (cases rx;rfl)
  | (obtain ⟨t,rfl⟩:=rx;rfl)
theorem aJ (b:Expr) {op:CmpOp} (h:op≠.In:=by decide) (h2:op≠.NotIn:=by decide):behindInMarks op b=false:=by
 have e1:(op == CmpOp.In)=false:=by cases op <;> first | rfl | exact absurd rfl h
 have e2:(op == CmpOp.NotIn)=false:=by cases op <;> first | rfl | exact absurd rfl h2
 cases b <;> simp [behindInMarks,e1,e2]
theorem nE {op:CmpOp} {r:R2} (ho:OpR X (compareOp op) r) (ha:PE X a ta) (hb:PE X b tb) (hm:behindInMarks op b=false):PE X (.Compare a [op] [b] pos) (tOp r ta tb):=by
 sleep 11;exact wpAny_Compare1 (binT ha hb I h fun v u s2 x y H2 I2 rx ry q=>ho pins s2 σ H2 x y v u Q I2 rx ry q) hm
theorem iQ {op:CmpOp} {r:R2} (ho:OpR X (compareOp op) r) (ha:ZE X a ta) (hb:ZE X b tb) (hm:behindInMarks op b=false):ZE X (.Compare a [op] [b] pos) (tOp r ta tb):=by with_unfolding_all exact nE ho ha hb hm
theorem ip:(sizeLine:Nat)<2 ^ 63:=by rw [sizeLine_eq];decide
theorem kS:OpR X (binaryOp .Add) (fun x y H Q=>∃ i j,x=.str i/\y=.str j/\i.length+j.length<=sizeLine/\Q (.str (i++j)) H):=by
 sleep 2;obtain ⟨i,j,rfl,rfl,hz,q⟩:=h;obtain ⟨t,rfl⟩:=rx;obtain ⟨t',rfl⟩:=ry;exact add_str (fun t' tk=>⟨.str (i++j),H,I.tok _,⟨_,rfl⟩,q⟩) hz
theorem cv {x:V} {us:List Value} (r:Vals [x] us):∃ u,us=[u]/\RelV x u:=by
 cases r with
 | cons r1 r2=>cases r2;exact ⟨_,rfl,r1⟩
theorem pW {x y:V} {us:List Value} (r:Vals [x,y] us):∃ u w',us=[u,w']/\RelV x u/\RelV y w':=by
 cases r with
 | cons r1 r2=>
   cases r2 with
   | cons r3 r4=>cases r4;exact ⟨_,_,rfl,r1,r3⟩
theorem call_abs:CallR X (.builtin "abs") (fun xs H Q=>∃ i,xs=[.int i]/\Q (.int (if i<0 then -i else i)) H):=by
 sleep 5;obtain ⟨i,rfl,q⟩:=h;obtain ⟨u,rfl,t,rfl⟩:=cv r;exact call_abs_int fun u tk=>⟨.int (if i<0 then -i else i),H,I.tok _,⟨_,rfl⟩,q⟩
theorem oZ (hc:X.calm=true):CallR X (.builtin "max") (fun xs H Q=>∃ i j,xs=[.int i,.int j]/\Q (.int (if j > i then j else i)) H):=by
 sleep 5;obtain ⟨i,j,rfl,q⟩:=h;obtain ⟨u,w',rfl,⟨t,rfl⟩,⟨t',rfl⟩⟩:=pW r;refine max_two_ints (I.ok.hd hc) fun h' tk k=>⟨_,H,I.kept k,?_,q⟩
 by_cases hj:j > i
 · rw [if_pos hj,if_pos hj];exact ⟨_,rfl⟩
 · rw [if_neg hj,if_neg hj];exact ⟨_,rfl⟩
theorem oX (hc:X.calm=true):CallR X (.builtin "min") (fun xs H Q=>∃ i j,xs=[.int i,.int j]/\Q (.int (if j<i then j else i)) H):=by
 sleep 5;obtain ⟨i,j,rfl,q⟩:=h;obtain ⟨u,w',rfl,⟨t,rfl⟩,⟨t',rfl⟩⟩:=pW r;refine min_two_ints (I.ok.hd hc) fun h' tk k=>⟨_,H,I.kept k,?_,q⟩
 by_cases hj:j<i
 · rw [if_pos hj,if_pos hj];exact ⟨_,rfl⟩
 · rw [if_neg hj,if_neg hj];exact ⟨_,rfl⟩
theorem call_int1:CallR X (.type "int") (fun xs H Q=>(∃ i,xs=[.int i]/\Q (.int i) H)\/∃ k,xs=[.bl k]/\Q (.int (if k then 1 else 0)) H):=by
 sleep 5;rcases h with ⟨i,rfl,q⟩ | ⟨k,rfl,q⟩
 · obtain ⟨u,rfl,t,rfl⟩:=cv r;exact call_int_int ⟨.int i,H,I,⟨_,rfl⟩,q⟩
 · obtain ⟨u,rfl,r1⟩:=cv r
   cases r1
   exact call_int_bool ⟨.int (if k then 1 else 0),H,I.tok _,⟨_,rfl⟩,q⟩
end
structure Room (k:Nat) (A:Around):Prop where
 hd:A.handled=none
 dp:A.depth+3*k+5<recursionLimit
 un:A.units+16*k+200<cLine
 gd:A.guards=some []
theorem Room.mono {j k:Nat} {A:Around} (r:Room k A) (h:j<=k):Room j A:=⟨r.hd,by have:=r.dp;lia,by have:=r.un;lia,r.gd⟩
theorem Room.deeper {k:Nat} {A:Around} (r:Room (k+1) A) (env:Env):Room k (A.deeper env):=
 ⟨r.hd,by have:=r.dp;show A.depth+1+3*k+5<_;lia,by have:=r.un;show A.units+3+16*k+200<_;lia,r.gd⟩
theorem Room.depth {k:Nat} {A:Around} (r:Room k A):A.depth<recursionLimit:=by have:=r.dp;lia
theorem Room.units {k:Nat} {A:Around} (r:Room k A):A.units+64<cLine:=by have:=r.un;lia
def tNil:TA:=fun _ H Q=>Q [] H
def tCons (ta:TE) (tr:TA):TA:=fun σ H Q=>ta σ H fun x H1=>tr σ H1 fun xs H2=>Q (x::xs) H2
section
variable {X:Cx} {e:Expr} {es:List Expr} {te:TE} {t:TA} {pos:Pos}
theorem aZ:PA X [] tNil:=fun _ _ _ _ H Q I h=>Calls.spliced_nil ⟨[],H,I,.nil,h⟩
theorem af:ZA X [] tNil:=by with_unfolding_all exact aZ
theorem aA (ha:PE X e te) (hr:PA X es t) (hs:starEach (e::es) X.env=.(13)::starEach es X.env:=by rfl):PA X (e::es) (tCons te t):=by
 intro pos pins s σ H Q I h;rw [hs];show wpAny _ _ (spliced (.(13)::backTo pos (starEach es X.env))) _ _ s;refine Calls.spliced_cons (thn (ha pins s σ H _ I h) fun u s1 ⟨x,H1,I1,r1,q1⟩=>?_);exact thn (hr pos pins s1 σ H1 _ I1 q1) fun us s2 ⟨xs,H2,I2,r2,q2⟩=>⟨x::xs,H2,I2,.cons r1 r2,q2⟩
theorem aa (ha:ZE X e te) (hr:ZA X es t) (hs:starEach (e::es) X.env=.(13)::starEach es X.env:=by rfl):ZA X (e::es) (tCons te t):=by with_unfolding_all exact aA ha hr hs
def tTup (t:TA):TE:=fun σ H Q=>t σ H fun xs H1=>xs.length<=sizeLine/\∀ p,H1 p=none->Q (.ref p) (upd H1 p (.tup xs))
def tLst (t:TA):TE:=fun σ H Q=>t σ H fun xs H1=>xs.length<=sizeLine/\∀ p,H1 p=none->Q (.ref p) (upd H1 p (.lst xs))
theorem pe_tup {x1} (h:PA X es t):PE X (.Tuple es x1 pos) (tTup t):=by
 intro pins s σ H Q I hq;refine wpAny_Tuple_spliced (thn (h pos pins s σ H _ I hq) fun us s1 ⟨xs,H1,I1,r,z,q⟩=>⟨by rw [← r.length];exact z,?_⟩);have hf:H1 s1.heap.objs.size=none:=I1.hok.fresh (zA1 _);refine ⟨.ref s1.heap.objs.size,upd H1 s1.heap.objs.size (.tup xs),I1.laid (t':=s1.toks) (fun b u e=>Heap.get?_push_of_some _ e) (zA1 _) ?_,rfl,q _ hf⟩;exact ⟨z,us,r,⟨_,Heap.get?_push_size _ rfl⟩⟩
theorem bq {x1} (h:ZA X es t):ZE X (.Tuple es x1 pos) (tTup t):=by with_unfolding_all exact pe_tup h
theorem jN (h:PA X es t):PE X (.List es pos) (tLst t):=by
 intro pins s σ H Q I hq;refine wpAny_List_spliced (thn (h pos pins s σ H _ I hq) fun us s1 ⟨xs,H1,I1,r,z,q⟩=>⟨by rw [← r.length];exact z,?_⟩);have hf:H1 s1.heap.objs.size=none:=I1.hok.fresh (zA1 _);refine ⟨.ref s1.heap.objs.size,upd H1 s1.heap.objs.size (.lst xs),I1.laid (t':=s1.toks) (fun b u e=>Heap.get?_push_of_some _ e) (zA1 _) ?_,rfl,q _ hf⟩;exact ⟨z,us,0,r,Heap.get?_push_size _ rfl⟩
theorem bP (h:ZA X es t):ZE X (.List es pos) (tLst t):=by with_unfolding_all exact jN h
end
abbrev Sp:=List V->Hp->VK->XK->Prop
abbrev CXT:=List Env->Hp->Shared->XK->Value->Shared->Prop
structure Env0 (P:Program) (w:World) (K:PySem.W.Frag) (mg:Str->Option Value) (base:Heap) (A:Around) (outer:List Env) (s:Shared) (H:Hp):Prop where
 frames:A.frames=some outer
 mod:Mod K mg base
 bs:∀ b o,base.get? b=some o->s.heap.get? b=some o/\H b=none
 bsz:base.objs.size<=s.heap.objs.size
 funs:s.heap.FunFrames base outer
 frf:∀ b∈frs outer,H b=none
 hok:HOk P w H s.heap
 bare:AllBare s.gens
def CE (outer:List Env) (P:Program) (w:World) (H:Hp) (s:Shared) (Q:VK) (u:Value) (s':Shared):Prop:=
 ∃ v H',s'.os=s.os/\AllBare s'.gens/\Un (frs outer) [] H H' s.heap s'.heap/\HOk P w H' s'.heap/\RelV v u/\Q v H'
def CR (CX:CXT) (outer:List Env) (P:Program) (w:World) (H:Hp) (s:Shared) (Q:VK) (E:XK) (r:Result) (s':Shared):Prop:=
 match r with
 | .ok (.ret u)=>CE outer P w H s Q u s'
 | .ok _=>False
 | .error e=>CX outer H s E e s'
structure FnOk (P:Program) (w:World) (K:PySem.W.Frag) (mg:Str->Option Value) (base:Heap) (CX:CXT) (k:Nat) (f:Addr) (fd:FuncData) (ps:List Str) (sp:Sp):Prop where
 len:∀ vs H Q E,sp vs H Q E->vs.length=ps.length
 run:∀ (A:Around) (outer:List Env) (s:Shared) (H:Hp) (args:Args) (us:List Value) (vs:List V) (Q:VK) (E:XK),Room k A->Env0 P w K mg base A outer s H->BindsTo s fd args (ps.zip us)->Vals vs us->sp vs H Q E ->
  codeAny (model P w) A (.call (.ref f) args) (CR CX outer P w H s Q E) s
theorem FnOk.mono {P:Program} {w:World} {K:PySem.W.Frag} {mg:.(53)} {base:Heap} {CX:CXT} {j k:Nat} {f:Addr} {fd:FuncData} {ps:List Str} {sp:Sp} (F:FnOk P w K mg base CX j f fd ps sp) (h:j<=k) :
 FnOk P w K mg base CX k f fd ps sp:=⟨F.len,fun A outer s H args us vs Q E hr=>F.run A outer s H args us vs Q E (hr.mono h)⟩
section
variable {X:Cx} {pins:List (Addr×Obj)} {σ:St} {H:Hp} {s s':Shared}
theorem Inv.env0 (I:.(10)):Env0 X.prog X.w X.K X.mg X.base X.A X.stack s H:=
 ⟨I.ok.frames,I.ok.mod,I.bs,zD5 I.ok.bsz I.sz,I.stack,I.stkFree,I.hok,I.bare⟩
theorem Inv.after {Q:VK} {u:Value} (I:.(10)) (h:CE X.stack X.prog X.w H s Q u s'):EP X pins σ Q u s':=by
 obtain ⟨v,H',os,bare,un,hok,r,q⟩:=h;obtain ⟨hh,g,d,t,os'⟩:=s';obtain rfl:os'=s.os:=os;exact ⟨v,H',I.call (h':=hh) (g':=g) (d':=d) (t':=t) (ch:=[]) un hok bare (fun b z=>absurd z (by simp)),r,q⟩
end
def tCall (sp:Sp) (dvs:List V) (E:XK) (t:TA):TE:=fun σ H Q=>t σ H fun vs H1=>sp (vs++dvs) H1 Q E
def Binds (K:PySem.W.Frag) (fd:FuncData) (ps:List Str) (ds:List Value):Prop:=
 ∀ (s:Shared) (us:List Value),K.In s.heap->(us++ds).length=ps.length->BindsTo s fd ⟨us,[]⟩ (ps.zip (us++ds))
theorem Binds.all {K:PySem.W.Frag} {fd:FuncData} {ps:List Str} (h:∀ us:List Value,us.length=ps.length->bindArgs fd ⟨us,[]⟩=pure (ps.zip us)):Binds K fd ps []:=fun s us _ hl=>by
 rw [zD6] at hl ⊢;exact .of_eq (h us hl)
def pK (CX:CXT) (X:Cx) (E:XK):Prop:=∀ (pins:List (Addr×Obj)) (σ:St) (H:Hp) (s:Shared) (e:Value) (s':Shared),Inv X pins σ H s->CX X.stack H s E e s'->X.xe e s'
section
variable {X:Cx} {CX:CXT} {k:Nat} {f C:Addr} {fd:FuncData} {ps:List Str} {sp:Sp} {dvs:List V} {ds:List Value} {E:XK} {x m:Str} {p pos apos:Pos} {e o:Expr} {es:List Expr} {ta:TE} {t:TA}
theorem run_fn {pins:.(26)} {σ:St} {H:Hp} {s:Shared} {Q:VK} {us:List Value} {vs:List V} (F:FnOk X.prog X.w X.K X.mg X.base CX k f fd ps sp) (hr:Room k X.A) (hb:Binds X.K fd ps ds) (hd:Vals dvs ds) (hx:pK CX X E)
 (I:.(10)) (r:Vals vs us) (h:sp (vs++dvs) H Q E):wpAny .(15) X.A (call (.ref f) us) .(95) X.xe s:=by
 have r2:Vals (vs++dvs) (us++ds):=r.append hd;have hl:(us++ds).length=ps.length:=by rw [← r2.length];exact F.len _ _ _ _ h
 refine wpAny_call (codeAny_mono (F.run X.A X.stack s H ⟨us,[]⟩ (us++ds) (vs++dvs) Q E hr I.env0 (hb s us I.kIn hl) r2 h) fun r s' hq=>?_)
 cases r with
 | error e=>exact hx pins σ H s e s' I hq
 | ok fl=>
   cases fl with
   | ret u=>exact I.after hq
   | next=>exact False.elim hq
   | brk=>exact False.elim hq
   | cont=>exact False.elim hq
theorem vt (F:FnOk X.prog X.w X.K X.mg X.base CX k f fd ps sp) (hr:Room k X.A) (hg:Gl X x) (hm:X.mg x=some (.ref f)) (hk:PySem.W.keepIn X.K (.ref f)=true) (hb:Binds X.K fd ps ds) (hd:Vals dvs ds) (hx:pK CX X E)
 (ha:PA X (e::es) t) (hdb:.(34)=false:=by decide) (he:starEach (e::es) X.env=.(13)::starEach es X.env:=by rfl) (hpl:.(6).any (·.1)=false:=by rfl) :
 PE X (.Call (.Name x p) (e::es) [] pos) (tCall sp dvs E t):=by
 sleep 11;refine wpAny_Call_Name_kw (nZ I hg hm ?_ hdb);refine PySem.W.callWith_K (h₀:=X.base) I.ok.mod.kin hk (thn .(61) fun us s1 ⟨vs,H1,I1,r,q⟩=>⟨I1.kIn,?_⟩) he hpl;exact run_fn F hr hb hd hx I1 r q
end
structure FnScope (N P:List Str) (sc:Scope):Prop where
 kind:sc.kind=.function
 co:sc.isCoroutine=false
 gen:sc.isGenerator=false
 nd:N.Nodup
 pre:N.take P.length=P
 par:∀ x∈P,sc.names.lookup x=some .local\/sc.names.lookup x=some .cell
 nofree:∀ y∈sc.names,y.2≠.free
theorem iK {kindOf:Str->Option NameKind} {x:Str}:∀ {binds:List (Str×Value)} {m:.(53)},(∀ v,(x,v)∉binds)->bindL kindOf binds m x=m x
 | [],_,_=>rfl
 | (n,v)::r,m,h=>by
   unfold bindL;rw [iK fun w hw=>h w (zA9 _ hw)];split
   · have:x≠n:=by rintro rfl;exact h v zA7
     simp [this]
   · rfl
theorem iM {kindOf:Str->Option NameKind} {x:Str}:∀ {binds:List (Str×Value)} {m:.(53)},(∀ v,(x,v)∉binds)->bindC kindOf binds m x=m x
 | [],_,_=>rfl
 | (n,v)::r,m,h=>by
   unfold bindC;rw [iM fun w hw=>h w (zA9 _ hw)];split
   · rfl
   · have:x≠n:=by rintro rfl;exact h v zA7
     simp [this]
theorem iL {kindOf:Str->Option NameKind} {x:Str} {v:Value}:∀ {P:List Str} {vs:List Value} {i:Nat} {m:.(53)},P.Nodup->P[i]? = some x->vs[i]? = some v->kindOf x=some .local ->
 bindL kindOf (P.zip vs) m x=some v
 | [],_,_,_,_,h,_,_=>by simp at h
 | _::_,[],_,_,_,_,h,_=>by simp at h
 | p::P,w::vs,0,m,nd,h1,h2,hk=>by
   simp at h1 h2;subst h1;subst h2;show bindL kindOf ((p,w)::P.zip vs) m p=_;unfold bindL;rw [iK fun v hv=>(List.nodup_cons.mp nd).1 (List.of_mem_zip hv).1,if_pos hk];simp
 | p::P,w::vs,i+1,m,nd,h1,h2,hk=>by
   show bindL kindOf ((p,w)::P.zip vs) m x=_;unfold bindL;exact iL (i:=i) (List.nodup_cons.mp nd).2 (by simpa using h1) (by simpa using h2) hk
theorem iN {kindOf:Str->Option NameKind} {x:Str} {v:Value}:∀ {P:List Str} {vs:List Value} {i:Nat} {m:.(53)},P.Nodup->P[i]? = some x->vs[i]? = some v->kindOf x≠some .local ->
 bindC kindOf (P.zip vs) m x=some v
 | [],_,_,_,_,h,_,_=>by simp at h
 | _::_,[],_,_,_,_,h,_=>by simp at h
 | p::P,w::vs,0,m,nd,h1,h2,hk=>by
   simp at h1 h2;subst h1;subst h2;show bindC kindOf ((p,w)::P.zip vs) m p=_;unfold bindC;rw [iM fun v hv=>(List.nodup_cons.mp nd).1 (List.of_mem_zip hv).1,if_neg hk];simp
 | p::P,w::vs,i+1,m,nd,h1,h2,hk=>by
   show bindC kindOf ((p,w)::P.zip vs) m x=_;unfold bindC;exact iN (i:=i) (List.nodup_cons.mp nd).2 (by simpa using h1) (by simpa using h2) hk
def start (N:List Str) (vs:List V):St:=vs.map some++List.replicate (N.length - vs.length) none
def tJ (CX:CXT) (P:Program) (w:World) (K:PySem.W.Frag) (mg:.(53)) (base:Heap) (N:List Str) (qual:Str) (scope:Scope) (f:Addr) (cd:Value) (A:Around) (outer:List Env) (s:Shared) (H:Hp) (E:XK):Cx where
 prog:=P
 w:=w
 K:=K
 mg:=mg
 base:=base
 A:=A.deeper .(76)
 N:=N
 s₀:=s
 H₀:=H
 env:=envOfC qual scope s.heap.objs.size f cd
 outer:=outer
 stack:=envOfC qual scope s.heap.objs.size f cd::outer
 ex:=[]
 calm:=true
 fn:=fun _=>true
 pn:=[]
 xe:=fun e s'=>wpAny (model P w) (A.deeper .(76)) (leaving .(76) e) (fun _ s''=>CX outer H s E e s'') (fun e' s''=>CX outer H s E e' s'') s'
theorem kr {sc:Scope} {n:Nat} {x:Str} (h:sc.names.lookup x=some .cell):∃ c,(cellsFrom n sc.names []).lookup x=some c:=by
 have q:=PySem.W.cellsFrom_some sc.names n [] (.inl h);exact Option.isSome_iff_exists.mp q
theorem n9 {CX:CXT} {P:Program} {w:World} {K:PySem.W.Frag} {mg:.(53)} {base:Heap} {N ps:List Str} {qual:Str} {scope:Scope} {f:Addr} {cd:Value} {A:Around} {outer:List Env} {s s1:Shared} {H:Hp} {E:XK} {us:List Value} {vs:List V}
 (S:FnScope N ps scope) (hd:A.handled=none) (e0:Env0 P w K mg base A outer s H) (hl:vs.length=ps.length) (r:Vals vs us)
 (x:InCallC s s.heap.objs.size (bindL .(76).kindOf (ps.zip us) fun _=>none) (cellsFrom .(17) scope.names []) (bindC .(76).kindOf (ps.zip us) fun _=>none) s1) :
 Inv (tJ CX P w K mg base N qual scope f cd A outer s H E) [] (start N vs) H s1:=by
 have hpl:ps.length<=N.length:=by have:=congrArg List.length S.pre;rw [zB9] at this;lia
 obtain ⟨h1,tk,rfl,hk⟩:=x.done;have noA:∀ b:Addr,b∉(tJ CX P w K mg base N qual scope f cd A outer s H E).ex:=fun b z=>absurd (show b∈([]:List Addr) from z) (by simp);refine ⟨⟨e0.mod,S.kind,rfl,rfl,zA1 _,fun y z c h1 h2=>?_,fun y hy=>?_,fun y c _ h=>?_,fun _=>hd,Around.frames_deeper e0.frames,.inr ⟨rfl,rfl⟩,fun b z=>absurd z (noA b),e0.bs,e0.bsz,fun b _ _=>noA b,fun b z=>absurd z (noA b),e0.funs,e0.frf⟩,
  rfl,e0.bare,Un.kept hk,⟨_,x.toInCall.ns,fun i y v h1 h2 h3=>?_⟩,fun y c h=>⟨_,x.cell y c h⟩,e0.hok.fresh (zA1 _),fun y c h=>?_,fun p hp=>absurd (show p∈([]:List (Addr×Obj)) from hp) (by simp),e0.hok.kept hk,?_⟩
 · exact name_of_addr x.apart (PySem.mem_of_lookup h1) (PySem.mem_of_lookup h2)
 · have hy:scope.names.lookup y=some .cell\/scope.names.lookup y=some .free:=hy;rcases hy with hy | hy
   · exact kr hy
   · exact absurd rfl (S.nofree _ (PySem.mem_of_lookup hy))
 · exact Nat.le_of_lt (x.above y c (PySem.mem_of_lookup h))
 · have hi:i<vs.length:=by
    unfold start at h2;by_cases hi:i<vs.length
    · exact hi
    · rw [List.getElem?_append_right (by simpa using hi)] at h2;rw [List.getElem?_replicate] at h2;split at h2 <;> cases h2
   have ha:vs[i]? = some v:=by
    unfold start at h2;rw [List.getElem?_append_left (by simpa using hi),List.getElem?_map] at h2
    cases e:vs[i]? with
    | none=>rw [e] at h2;cases h2
    | some a=>rw [e] at h2;cases h2;rfl
   obtain ⟨u,hu,rv⟩:=r.get ha;have hp:ps[i]? = some y:=by
    rw [← S.pre,List.getElem?_take_of_lt (by lia)];exact h1
   have ndP:ps.Nodup:=by rw [← S.pre];exact S.nd.sublist (zK9 _ _)
   refine ⟨u,rv,?_⟩;rcases S.par y (zH7 hp) with k | k
   · exact .inl ⟨k,iL ndP hp hu k⟩
   · obtain ⟨c,e⟩:=kr (n:=s.heap.objs.size+1) k;refine .inr ⟨.inl k,c,e,?_⟩;have q:=x.cell y c e;rw [iN ndP hp hu (by show scope.names.lookup y≠_;rw [k];decide)] at q;exact q
 · exact e0.hok.fresh (Nat.le_of_lt (x.above y c (PySem.mem_of_lookup h)))
 · unfold start;show _=N.length;rw [zA5,zA0,zH1];lia
theorem fn_of {CX:CXT} {P:Program} {w:World} {K:PySem.W.Frag} {mg:.(53)} {base:Heap} {k:Nat} {f:Addr} {name qual:Str} {params:Arguments} {body:List Stmt} {scope:Scope} {dV kV doc pm cdv ct oc:Value} {an od:Option Addr}
 {osl:Array (Option Value)} {N ps:List Str} {sp:Sp} (lk:K.lookup f=some ⟨oc,od,.func (PySem.W.fnOf name qual params body scope dV kV doc pm an cdv ct),osl⟩) (hcd:PySem.W.codeIn K cdv qual=true) (S:FnScope N ps scope)
 (len:∀ vs H Q E,sp vs H Q E->vs.length=ps.length)
 (hbody:∀ (A:Around) (outer:List Env) (s:Shared) (H:Hp) (vs:List V) (Q:VK) (E:XK),Room k (A.deeper (envOfC qual scope s.heap.objs.size f cdv))->sp vs H Q E ->
   ∃ t,PSs (tJ CX P w K mg base N qual scope f cdv A outer s H E) body t/\t { nx:=fun _ H'=>Q .non H',rt:=Q } (start N vs) H) :
 FnOk P w K mg base CX (k+1) f (PySem.W.fnOf name qual params body scope dV kV doc pm an cdv ct) ps sp:=by
 refine ⟨len,fun A outer s H args us vs Q E hr e0 hb r hsp=>?_⟩;have hl:=len _ _ _ _ hsp;have KX:K.In s.heap:=e0.mod.kin.keeps fun b o e=>(e0.bs b o e).1;have lim:s.heap.NoLimit:=e0.mod.nolimit.keeps fun b o e=>(e0.bs b o e).1;have hkind:∀ y∈ps.zip us,scope.names.lookup y.1=some .local\/(scope.names.lookup y.1=some .cell/\((cellsFrom .(17) scope.names []).lookup y.1).isSome=true):=fun ⟨n,v⟩ hy=>by
  rcases S.par n (List.of_mem_zip hy).1 with q | q
  · exact .inl q
  · exact .inr ⟨q,PySem.W.cellsFrom_some _ _ _ (.inl q)⟩
 refine codeAny_call_function hr.depth (KX _ _ lk) rfl S.co S.gen rfl (PySem.W.codeRec_of KX hcd) (hb _ _ _ _ ?_);refine wpAny_newFunctionEnv_cells S.kind hkind fun env he s1 x=>?_;subst he;refine ⟨lim.keeps x.toInCall.keep,codeAny_func ?_⟩;obtain ⟨t,ht,hq⟩:=hbody A outer s H vs Q E (hr.deeper _) hsp;have I:Inv (tJ CX P w K mg base N qual scope f cdv A outer s H E) [] (start N vs) H s1:=n9 S hr.hd e0 hl r x;refine wpAny_mono (ht [] s1 (start N vs) H _ I hq) (fun fl s' hs=>?_) fun e s' hs=>hs;have fin:∀ {σ':St} {H':Hp} {v:V} {u:Value},Inv (tJ CX P w K mg base N qual scope f cdv A outer s H E) [] σ' H' s'->RelV v u->Q v H'->CE outer P w H s Q u s':=
  fun {σ' H' v u} J rv q=>⟨v,H',J.os,J.bare,J.base,J.hok,rv,q⟩
 cases fl with
 | ret u=>
   obtain ⟨v,σ',H',J,rv,q⟩:=hs
   exact fin J rv q
 | next=>
   obtain ⟨σ',H',J,q⟩:=hs
   exact fin (v:=V.non) (u:=Value.none) J rfl q
 | brk=>
   obtain ⟨_,_,_,q⟩:=hs
   exact False.elim q
 | cont=>
   obtain ⟨_,_,_,q⟩:=hs
   exact False.elim q
section
variable {X:Cx} {x:Str} {p pos:Pos} {e:Expr} {es:List Expr} {t:TA} {id T:String} {r:List V->Hp->VK->Prop}
def tCB (r:List V->Hp->VK->Prop) (t:TA):TE:=fun σ H Q=>t σ H fun vs H1=>r vs H1 Q
theorem bp (hc:CallR X (.builtin id) r) (hg:Gl X x) (hm:X.mg x=none) (hv:bootBuiltins x=some (.builtin id)) (ha:PA X (e::es) t) (hn:x≠"__name__":=by decide) (hdb:.(34)=false:=by decide)
 (he:starEach (e::es) X.env=.(13)::starEach es X.env:=by rfl) (hpl:.(6).any (·.1)=false:=by rfl):PE X (.Call (.Name x p) (e::es) [] pos) (tCB r t):=by
 sleep 11;refine wpAny_Call_Name_kw (dP I hg hm hv ?_ hn hdb);exact PyProof.Rows.callWith_builtin1 (thn .(61) fun us s1 ⟨vs,H1,I1,r1,q1⟩=>hc pins s1 σ H1 vs us Q I1 r1 q1) he hpl
theorem bH (hc:CallR X (.type T) r) (hg:Gl X x) (hm:X.mg x=none) (hv:bootBuiltins x=some (.type T)) (ha:PA X (e::es) t) (hn:x≠"__name__":=by decide) (hdb:.(34)=false:=by decide)
 (he:starEach (e::es) X.env=.(13)::starEach es X.env:=by rfl) (hpl:.(6).any (·.1)=false:=by rfl):PE X (.Call (.Name x p) (e::es) [] pos) (tCB r t):=by
 sleep 11;refine wpAny_Call_Name_kw (dP I hg hm hv ?_ hn hdb);exact PyProof.Rows.callWith_type1 (thn .(61) fun us s1 ⟨vs,H1,I1,r1,q1⟩=>hc pins s1 σ H1 vs us Q I1 r1 q1) he hpl
end
end L2
namespace HT
open PySem PyProof.Rows
section
variable {prog:Program} {w:World} {A:Around} {E:Value->Shared->Prop} {s:Shared}
theorem cat_tup {t b:Addr} {vs ws:List Value} {Q:.(14)} (ht:IsTup s.heap t vs.toArray) (hb:IsTup s.heap b ws.toArray) (hv:vs≠[])
 (h1:ws=[]->Q (.ref t) s) (h2:ws≠[]->Q .(21) { s with heap:=s.heap.push { cls:=.type "tuple",data:=.seq (vs++ws).toArray } })
 (hsz:vs.length+ws.length<=sizeLine):wpAny .(9) A (binaryOp .Add (.ref t) (.ref b)) Q E s:=by
 obtain ⟨⟨cls,dd,data,sl⟩,ho,hc,n,hd⟩:=id ht;obtain ⟨⟨cls2,dd2,data2,sl2⟩,ho2,hc2,n2,hd2⟩:=id hb;simp only at hc hd hc2 hd2;subst hc hd hc2 hd2;have e:vs.toArray++ws.toArray=(vs++ws).toArray:=by simp
 by_cases hw:ws=[]
 · exact concat_meets ⟨_,ho,rfl⟩ ⟨_,ho2,rfl⟩ noFill_tuple_add seq_tuple_add PySem.F.slot_tuple_add PySem.F.entry_tuple_add (PySem.F.args_tuple_add_2 _ _)
    (tuple_addW1 t b vs.toArray ws.toArray n n2 dd dd2 sl sl2 (by simpa using hv) (by simp [hw])) ⟨ho,ho2,h1 hw⟩
 · refine concat_meets ⟨_,ho,rfl⟩ ⟨_,ho2,rfl⟩ noFill_tuple_add seq_tuple_add PySem.F.slot_tuple_add PySem.F.entry_tuple_add (PySem.F.args_tuple_add_2 _ _)
    (tuple_addW2 t b vs.toArray ws.toArray n n2 dd dd2 sl sl2 (by simpa using hv) (by simpa using hw) (by rw [zA8,zA8];exact hsz)) ⟨ho,ho2,?_⟩
   rw [e];exact h2 hw
def sIx (n d:Nat):Option Int->Nat
 | none=>d
 | some v=>if v<0 then (v+(n:Int)).toNat else min v.toNat n
theorem sIx_none (n d:Nat):sIx n d none=d:=rfl
theorem sIx_nat (n d k:Nat):sIx n d (some (k:Int))=min k n:=by
 show (if (k:Int)<0 then ((k:Int)+(n:Int)).toNat else min (k:Int).toNat n)=min k n;rw [if_neg (by lia),zD9]
theorem sIx_le (n d:Nat) (hd:d<=n) (o:Option Int):sIx n d o<=n:=by
 cases o with
 | none=>exact hd
 | some v=>
   show (if v<0 then (v+(n:Int)).toNat else min v.toNat n)<=n
   by_cases hv:v<0
   · rw [if_pos hv];lia
   · rw [if_neg hv];exact Nat.min_le_right _ _
theorem oN (v:Int) (n d:Nat):(if v<0 then max (v+(n:Int)) 0 else min v (n:Int))=((sIx n d (some v):Nat):Int):=by
 show (if v<0 then max (v+(n:Int)) 0 else min v (n:Int))=(((if v<0 then (v+(n:Int)).toNat else min v.toNat n):Nat):Int)
 by_cases hv:v<0
 · simp only [if_pos hv];lia
 · simp only [if_neg hv];lia
theorem lI (lo hi:Option Int) (n:Nat):Builtin.Slice.sliceAdjust lo hi 1 (n:Int)=(((sIx n 0 lo:Nat):Int),((sIx n n hi:Nat):Int)):=by
 have h1:¬ ((1:Int)<0):=by lia
 unfold Builtin.Slice.sliceAdjust;simp only [h1,if_false];refine Prod.ext ?_ ?_
 · cases lo with
   | none=>rfl
   | some v=>exact oN v n 0
 · cases hi with
   | none=>rfl
   | some v=>exact oN v n n
theorem kP (i j:Nat):Builtin.Slice.slicePlaces (i:Int) (j:Int) 1=j - i:=by
 unfold Builtin.Slice.slicePlaces;have h1:(1:Int) > 0:=by lia
 simp only [h1,if_true,Int.ediv_one];split <;> lia
theorem bT {v:Value} {o:Option Int} {Q:Option Int->Shared->Prop} (p:IsPart v o) (h:Q o s):wpAny .(9) A (Builtin.Slice.slicePartIndex v) Q E s:=by
 cases p with
 | none=>exact slicePart_none h
 | int i t=>exact slicePart_int h
theorem sliceApplied_gen {sl:Addr} {vl vu:Value} {lo hi:Option Int} {n:Nat} {Q:Int×Int×Nat->Shared->Prop} (hs:s.heap.IsSliceOf sl vl vu .none) (pl:IsPart vl lo) (pu:IsPart vu hi)
 (h:Q (((sIx n 0 lo:Nat):Int),1,sIx n n hi - sIx n 0 lo) s):wpAny .(9) A (Builtin.Slice.sliceApplied (.ref sl) (pure (n:Int))) Q E s:=by
 obtain ⟨os,hos,hcs,hds⟩:=id hs;unfold Builtin.Slice.sliceApplied Builtin.Slice.sliceFields;refine wpAny_bind (wpAny_bind (wpAny_field hos hds (x:=vl) rfl (wpAny_bind (wpAny_field hos hds (x:=vu) rfl (wpAny_bind (wpAny_field hos hds (x:=.none) rfl (wpAny_pure ?_)))))));refine wpAny_bind (slicePart_none ?_);show wpAny _ _ (if ((1:Int) == 0)=true then _ else _) _ _ s;rw [if_neg (by decide)];refine wpAny_bind (bT pl (wpAny_bind (bT pu (wpAny_bind (wpAny_pure ?_)))));show wpAny _ _ (match Builtin.Slice.sliceAdjust lo hi 1 (n:Int) with | (lo,hi)=>pure (lo,(1:Int),Builtin.Slice.slicePlaces lo hi 1)) _ _ s;rw [lI lo hi n];show wpAny _ _ (pure (((sIx n 0 lo:Nat):Int),(1:Int),Builtin.Slice.slicePlaces ((sIx n 0 lo:Nat):Int) ((sIx n n hi:Nat):Int) 1)) _ _ s;rw [kP];exact wpAny_pure h
theorem qO (xs:Array Value) (i k:Nat):((List.range k).filterMap fun (m:Nat)=>xs[((i:Int)+(m:Int)*1).toNat]?).toArray=((xs.toList.drop i).take k).toArray:=by
 have e:(fun (m:Nat)=>xs[((i:Int)+(m:Int)*1).toNat]?)=fun m=>xs[i+m]?:=by
  funext m;have:((i:Int)+(m:Int)*1).toNat=i+m:=by lia
  rw [this]
 rw [e];have:=pick_run xs i k;rw [List.filterMap_map] at this;have e2:((fun x=>xs[x]?) ∘ fun x=>i+x)=fun m=>xs[i+m]?:=rfl;rw [e2] at this;rw [this]
theorem getItem_tuple_cut {t sl:Addr} {items:Array Value} {vl vu:Value} {lo hi:Option Int} {Q:.(14)} (ht:IsTup s.heap t items) (hs:s.heap.IsSliceOf sl vl vu .none) (pl:IsPart vl lo) (pu:IsPart vu hi)
 (hw:¬ (sIx items.size 0 lo=0/\sIx items.size items.size hi=items.size))
 (h:Q .(21) { s with heap:=s.heap.push { cls:=.type "tuple",data:=.seq .(45).toArray } })
 (hsz:items.size<=sizeLine):wpAny .(9) A (getItem (.ref t) (.ref sl)) Q E s:=by
 have htake:sizeOk (.seq .(45).toArray):=by
  show .(45).toArray.size<=sizeLine;rw [zA8,zB9,zD1,zB1];lia
 have hj:sIx items.size items.size hi<=items.size:=sIx_le _ _ (zA1 _) hi;obtain ⟨os,hos,hcs,hds⟩:=id hs;have hTs:s.TypeIs (.ref sl) "slice":=⟨os,hos,hcs⟩
 unfold getItem;try with_reducible refine wpAny_holding ?_
 first | refine wpAny_bind (wpAny_pure ?_) | skip
 refine wpAny_bind (wpAny_sequenceKey ht.typeIs (by decide) ?_);refine wpAny_bind (wpAny_callSpecial?_slot (name:=Str.ofString "__getitem__") ht.typeIs PyProof.Rows.slot_tuple_getitem
  (wpAny_call_entry PyProof.Rows.slot_tuple_getitem ht.typeIs entry_tuple_getitem ?_ (args_tuple_getitem _ _)))
 show wpAny _ _ (Builtin.Tuple.tupleItemsOf (.ref t) >>= _) _ _ s;refine wpAny_bind (tupleItemsOf_ ht ?_);refine wpAny_bind (wpAny_typeOf hTs ?_);rw [if_pos (by decide)];refine wpAny_bind (sliceApplied_gen hs pl pu ?_);have hno:¬ ((((sIx items.size 0 lo:Nat):Int) == 0&&(1:Int) == 1&&(sIx items.size items.size hi - sIx items.size 0 lo) == items.size)=true):=by
  intro q;rw [zC8,zC8] at q;have q1:((sIx items.size 0 lo:Nat):Int)=0:=eq_of_beq q.1.1;have q2:sIx items.size items.size hi - sIx items.size 0 lo=items.size:=eq_of_beq q.2;exact hw .(40)
 show wpAny _ _ (if (((sIx items.size 0 lo:Nat):Int) == 0&&(1:Int) == 1&&(sIx items.size items.size hi - sIx items.size 0 lo) == items.size)=true then _ else _) _ _ s;rw [if_neg hno,qO]
 first
  | exact wpAny_bind (m:=Builtin.Tuple.tupleExact _) (wpAny_newObj_type (wpAny_pure ⟨_,rfl,wpAny_pure h⟩) htake)
  | exact wpAny_bind (m:=Builtin.Tuple.tupleExact _) (wpAny_newObj_type (wpAny_bind (wpAny_pure (wpAny_pure ⟨_,rfl,wpAny_pure h⟩))) htake)
  | exact wpAny_bind (wpAny_bind (m:=Builtin.Tuple.tupleExact _) (wpAny_newObj_type (wpAny_pure (wpAny_pure ⟨_,rfl,wpAny_pure h⟩)) htake))
  | exact wpAny_bind (wpAny_bind (m:=Builtin.Tuple.tupleExact _) (wpAny_newObj_type (wpAny_pure ⟨_,rfl,wpAny_pure h⟩) htake))
end
end HT
namespace L2
open PySem PySem.Spec PyProof.Rows
abbrev TO:=St->Hp->(Option Int->Hp->Prop)->Prop
def PO (X:Cx) (e:Option Expr) (t:TO):Prop:=
 ∀ (pins:List (Addr×Obj)) (s:Shared) (σ:St) (H:Hp) (Q:Option Int->Hp->Prop),Inv X pins σ H s->t σ H Q ->
   wpAny .(15) X.A (evalPart e X.env) (fun u s'=>∃ o H',Inv X pins σ H' s'/\IsPart u o/\Q o H') X.xe s
@[irreducible] def ZO (X:Cx) (e:Option Expr) (t:TO):Prop:=PO X e t
def mq:TO:=fun _ H Q=>Q none H
def tPart (t:TE):TO:=fun σ H Q=>t σ H fun x H1=>∃ i,x=.int i/\Q (some i) H1
theorem dI {ns:List Int}:∀ {us:List Value},Vals .(27) us->IntsAre us ns:=by
 induction ns with
 | nil=>intro us r;rw [zF8] at r;cases r;exact .nil
 | cons n ns ih=>
   intro us r
   rw [zB6] at r
   cases r with
   | cons r1 r2=>
     obtain ⟨t,e⟩:=r1
     subst e
     exact .cons n t (ih r2)
section
variable {X:Cx} {e:Expr} {te:TE} {lo hi:Option Expr} {tl th:TO} {pos p2:Pos}
theorem vj:PO X none mq:=by
 sleep 11;rw [evalPart_none];exact wpAny_pure ⟨none,H,I,.none,h⟩
theorem eE:ZO X none mq:=by with_unfolding_all exact vj
theorem vi (h:PE X e te):PO X (some e) (tPart te):=by
 intro pins s σ H Q I hw;rw [evalPart_some];refine thn (h pins s σ H _ I hw) fun u s1 ⟨x,H1,I1,r1,q1⟩=>?_;obtain ⟨i,rfl,q⟩:=q1;obtain ⟨t,rfl⟩:=r1;exact ⟨some i,H1,I1,.int i t,q⟩
theorem eD (h:ZE X e te):ZO X (some e) (tPart te):=by with_unfolding_all exact vi h
def SlR (X:Cx) (r:V->Option Int->Option Int->Hp->VK->Prop):Prop:=
 ∀ (pins:List (Addr×Obj)) (s:Shared) (σ:St) (H:Hp) (x:V) (v vl vu:Value) (lo hi:Option Int) (sl:Addr) (Q:VK),Inv X pins σ H s->RelV x v->s.heap.IsSliceOf sl vl vu .none->IsPart vl lo->IsPart vu hi->r x lo hi H Q ->
   ∃ T id,typeLookup (.type T) "__getitem__" = pure (some (.builtin id))/\s.TypeIs v T/\wpAny .(15) X.A (getItem v (.ref sl)) .(95) X.xe s
def tSl (r:V->Option Int->Option Int->Hp->VK->Prop) (te:TE) (tl th:TO):TE:=fun σ H Q=>te σ H fun x H1=>tl σ H1 fun l H2=>th σ H2 fun u H3=>r x l u H3 Q
theorem qQ {r:V->Option Int->Option Int->Hp->VK->Prop} (hr:SlR X r) (he:PE X e te) (hl:PO X lo tl) (hu:PO X hi th):PE X (.Subscript e (.Slice lo hi none p2) pos) (tSl r te tl th):=by
 sleep 11;refine Subscript_ (thn (he pins s σ H _ I h) fun v s1 ⟨x,H1,I1,r1,q1⟩=>?_);refine wpAny_Slice (thn (hl pins s1 σ H1 _ I1 q1) fun vl s2 ⟨l,H2,I2,pl,q2⟩=>thn (hu pins s2 σ H2 _ I2 q2) fun vu s3 ⟨u,H3,I3,pu,q3⟩=>?_);rw [evalPart_none];refine wpAny_pure ?_;have I4:Inv X pins σ H3 { s3 with heap:=s3.heap.push { cls:=.type "slice",data:=.fields #[vl,vu,.none] } }:=I3.kept (t':=s3.toks) fun b ob q=>Heap.get?_push_of_some _ q;obtain ⟨T,id,hT,ht,hg⟩:=hr pins { s3 with heap:=s3.heap.push { cls:=.type "slice",data:=.fields #[vl,vu,.none] } } σ H3 x v vl vu l u s3.heap.objs.size Q I4 r1 (Heap.IsSliceOf.new ..) pl pu q3;show wpAny .(15) X.A (subscriptTail e (.Slice lo hi none p2) v (.ref s3.heap.objs.size)) .(95) X.xe { s3 with heap:=s3.heap.push { cls:=.type "slice",data:=.fields #[vl,vu,.none] } };exact tail_any (ops:=[.ref s3.heap.objs.size,v]) ht hT hg (by with_unfolding_all rfl)
theorem cT {r:V->Option Int->Option Int->Hp->VK->Prop} (hr:SlR X r) (he:ZE X e te) (hl:ZO X lo tl) (hu:ZO X hi th):ZE X (.Subscript e (.Slice lo hi none p2) pos) (tSl r te tl th):=by with_unfolding_all exact qQ hr he hl hu
def fG (xs:List V) (lo hi:Option Int):List V:=(xs.drop (HT.sIx xs.length 0 lo)).take (HT.sIx xs.length xs.length hi - HT.sIx xs.length 0 lo)
theorem fv (xs:List V) (lo hi:Option Int):(fG xs lo hi).length<=xs.length:=by
 unfold fG;rw [zB9,zD1];lia
def rSlT (K:PySem.W.Frag):V->Option Int->Option Int->Hp->VK->Prop:=fun x lo hi H Q=>∃ a xs,x=.ref a/\SqT K H a xs /\
 ¬ (HT.sIx xs.length 0 lo=0/\HT.sIx xs.length xs.length hi=xs.length)/\∀ p,H p=none->Q (.ref p) (upd H p (.tup (fG xs lo hi)))
theorem sl_tup:SlR X (rSlT X.K):=by
 intro pins s σ H x v vl vu lo hi sl Q I rx hs pl pu h;obtain ⟨a,xs,rfl,hx,hw,q⟩:=h
 cases rx
 obtain ⟨its,r,ht,hz⟩:=I.tuple hx;have hlen:its.toArray.size=xs.length:=by rw [zA8];exact r.length.symm
 refine ⟨"tuple",_,PyProof.Rows.slot_tuple_getitem.lookup,ht.typeIs,?_⟩;refine HT.getItem_tuple_cut ht hs pl pu (by rw [hlen];exact hw) ?_ (by rw [hlen];exact hz);rw [hlen];refine ⟨.ref s.heap.objs.size,_,I.laid (t':=s.toks) (o:=.tup (fG xs lo hi)) (fun b ob q=>Heap.get?_push_of_some _ q) (zA1 _) ?_,rfl,q _ .(69)⟩;exact ⟨zD5 (fv xs lo hi) hz,_,(r.drop (HT.sIx xs.length 0 lo)).take (HT.sIx xs.length xs.length hi - HT.sIx xs.length 0 lo),TupD.new _ _⟩
def rCatT (K:PySem.W.Frag):R2:=fun x y H Q=>∃ a b xs ys,x=.ref a/\y=.ref b/\SqT K H a xs/\SqT K H b ys/\xs≠[]/\xs.length+ys.length<=sizeLine /\
 (ys=[]->Q (.ref a) H)/\(ys≠[]->∀ p,H p=none->Q (.ref p) (upd H p (.tup (xs++ys))))
theorem Vals.nil_iff {xs:List V} {us:List Value} (r:Vals xs us):us=[]↔xs=[]:=by
 cases r with
 | nil=>simp
 | cons _ _=>simp
theorem nH:OpR X (binaryOp .Add) (rCatT X.K):=by
 sleep 2;obtain ⟨a,b,xs,ys,rfl,rfl,ha,hb,hx,hz,q1,q2⟩:=h
 cases rx
 cases ry
 obtain ⟨its,r1,p1,_⟩:=I.tuple ha;obtain ⟨its2,r2,p2,_⟩:=I.tuple hb;refine HT.cat_tup p1 p2 (fun z=>hx (r1.nil_iff.mp z)) (fun z=>⟨.ref a,H,I,rfl,q1 (r2.nil_iff.mp z)⟩) (fun z=>?_) (by rw [← r1.length,← r2.length];exact hz);refine ⟨.ref s.heap.objs.size,_,I.laid (t':=s.toks) (o:=.tup (xs++ys)) (fun b ob q=>Heap.get?_push_of_some _ q) (zA1 _) ?_,rfl,q2 (fun w=>z (r2.nil_iff.mpr w)) _ .(69)⟩;exact ⟨by rw [zA5];exact hz,_,r1.append r2,TupD.new _ _⟩
end
def ixN (n:Nat) (i:Int):Option Nat:=if 0<=i then (if i<n then some i.toNat else none) else if -(n:Int)<=i then some (i+n).toNat else none
def atI {α:Type} (xs:List α) (i:Int):Option α:=(ixN xs.length i).bind fun j=>xs[j]?
theorem n6 {n:Nat} {i:Int} {j:Nat} (h:ixN n i=some j):seqIndex? i n=some j/\j<n/\-(n:Int)<=i/\i<n:=by
 unfold ixN at h;by_cases h0:0<=i
 · rw [if_pos h0] at h;by_cases h1:i<n
   · rw [if_pos h1] at h;have e:i.toNat=j:=Option.some.inj h;exact ⟨by rw [seqIndex_of h0 h1,e],by lia,by lia,h1⟩
   · rw [if_neg h1] at h;cases h
 · rw [if_neg h0] at h;by_cases h1:-(n:Int)<=i
   · rw [if_pos h1] at h;have e:(i+n).toNat=j:=Option.some.inj h;exact ⟨by rw [seqIndex_neg (by lia) h1,e],by lia,h1,by lia⟩
   · rw [if_neg h1] at h;cases h
theorem pB {α:Type} {xs:List α} {i:Int} {v:α} (h:atI xs i=some v):∃ j,seqIndex? i xs.length=some j/\xs[j]? = some v/\j<xs.length/\-(xs.length:Int)<=i/\i<xs.length:=by
 unfold atI at h
 cases e:ixN xs.length i with
 | none=>rw [e] at h;cases h
 | some j=>
   rw [e] at h
   obtain ⟨h1,h2,h3,h4⟩:=n6 e
   exact ⟨j,h1,h,h2,h3,h4⟩
theorem wE {α:Type} {xs:List α} {j:Nat} {v:α} (h:xs[j]? = some v):atI xs (j:Int)=some v:=by
 have hj:j<xs.length:=(List.getElem?_eq_some_iff.mp h).1;have e:ixN xs.length (j:Int)=some j:=by
  unfold ixN;rw [if_pos (by lia),if_pos (by lia)];simp
 unfold atI;rw [e];exact h
theorem sn {α:Type} (xs:List α) (v:α):atI (xs++[v]) (-1)=some v:=by
 have hl:(xs++[v]).length=xs.length+1:=by simp
 have e:ixN (xs++[v]).length (-1)=some xs.length:=by
  unfold ixN;rw [hl,if_neg (by decide),if_pos (by lia)];congr 1;lia
 unfold atI;rw [e];show (xs++[v])[xs.length]? = some v;simp
def pJ (b:Expr):Prop:=∀ o i,subscripted b false o i=operate [o,i] (getItem o i)
def IxR (X:Cx) (r:R2):Prop:=
 ∀ (value slice:Expr) (pins:.(26)) (s:Shared) (σ:St) (H:Hp) (x y:V) (v u:Value) (Q:VK),Inv X pins σ H s->RelV x v->RelV y u->r x y H Q ->
   subscripted slice false v u=operate [v,u] (getItem v u)->wpAny .(15) X.A (subscriptTail value slice v u) .(95) X.xe s
def MtR (X:Cx) (id:String) (r:V->List V->Hp->VK->Prop):Prop:=
 ∀ (pins:List (Addr×Obj)) (s:Shared) (σ:St) (H:Hp) (x:V) (xs:List V) (v:Value) (us:List Value) (Q:VK),Inv X pins σ H s->RelV x v->Vals xs us->r x xs H Q ->
   wpAny .(15) X.A (call (.builtin id) (v::us)) .(95) X.xe s
section
variable {X:Cx} {a b:Expr} {ta tb:TE} {pos:Pos}
theorem cP {r:R2} (hr:IxR X r) (ha:PE X a ta) (hb:PE X b tb) (hs:pJ b):PE X (.Subscript a b pos) (tOp r ta tb):=by
 sleep 11;exact Subscript_ (binT ha hb I h fun v u s2 x y H2 I2 rx ry q=>hr a b pins s2 σ H2 x y v u Q I2 rx ry q (hs _ _))
theorem cJ {r:R2} (hr:IxR X r) (ha:ZE X a ta) (hb:ZE X b tb) (hs:pJ b):ZE X (.Subscript a b pos) (tOp r ta tb):=by with_unfolding_all exact cP hr ha hb hs
def rIxL (K:PySem.W.Frag):R2:=fun x y H Q=>∃ p xs i v,x=.ref p/\y=.int i/\SqL K H p xs/\atI xs i=some v/\Q v H
def rIxT (K:PySem.W.Frag):R2:=fun x y H Q=>∃ p xs i v,x=.ref p/\y=.int i/\SqT K H p xs/\atI xs i=some v/\Q v H
theorem vU:IxR X (rIxL X.K):=by
 intro value slice pins s σ H x y v u Q I rx ry h hs;obtain ⟨p,xs,i,z,rfl,rfl,hq,he,q⟩:=h
 cases rx
 obtain ⟨t,rfl⟩:=ry;obtain ⟨its,r,pl,hz⟩:=I.list hq;obtain ⟨j,h1,h2,h3,h4,h5⟩:=pB he;obtain ⟨w,ew,rw'⟩:=r.get h2;have hl:=r.length;have hn:=ip;have fin:EP X pins σ Q w s:=⟨z,H,I,rw',q⟩
 by_cases h0:0<=i
 · have hj:i.toNat=j:=by
    rw [seqIndex_of h0 h5] at h1;exact Option.some.inj h1
   exact item_listR pl.isList h0 (by lia) (by rw [hj];simpa using ew) fin hs
 · have hj:(i+(its.toArray.size:Int)).toNat=j:=by
    rw [seqIndex_neg (by lia) h4] at h1;rw [zA8,← hl];exact Option.some.inj h1
   exact subscriptTail_builtinR (x:=w) pl.isList.typeIs slot_list_getitem.lookup
    (wpAny_getItem_list_neg (Q:=fun r s'=>r=w/\EP X pins σ Q r s') pl.isList (by lia) (by rw [zA8] <;> lia) (by lia) (by rw [hj];simpa using ew) ⟨rfl,fin⟩) hs
theorem tx:IxR X (rIxT X.K):=by
 intro value slice pins s σ H x y v u Q I rx ry h hs;obtain ⟨p,xs,i,z,rfl,rfl,hq,he,q⟩:=h
 cases rx
 obtain ⟨t,rfl⟩:=ry;obtain ⟨its,r,pl,hz⟩:=I.tuple hq;obtain ⟨j,h1,h2,h3,h4,h5⟩:=pB he;obtain ⟨w,ew,rw'⟩:=r.get h2;have hl:=r.length;have hn:=ip;have fin:EP X pins σ Q w s:=⟨z,H,I,rw',q⟩
 exact subscriptTail_builtinR (x:=w) pl.typeIs slot_tuple_getitem.lookup
  (getItem_tuple (j:=j) (Q:=fun r s'=>r=w/\EP X pins σ Q r s') pl (by lia) (by lia) (by rw [zA8,← hl];exact h1) (by simpa using ew) ⟨rfl,fin⟩) hs
theorem kX (its:List Value) (n j:Nat) (u:Value):Obj.mapSeq (·.setIfInBounds j u) { cls:=.type "list",data:=.seq its.toArray n }={ cls:=.type "list",data:=.seq (its.set j u).toArray n }:=by
 simp [Obj.mapSeq]
theorem Inv.lst {pins:.(26)} {σ:St} {H:Hp} {s:Shared} {p:Addr} {xs:List V} (I:.(10)) (h:H p=some (.lst xs)) :
 ∃ (its:List Value) (n:Nat),Vals xs its/\s.heap.get? p=some { cls:=.type "list",data:=.seq its.toArray n }/\xs.length<=sizeLine:=by
 obtain ⟨z,its,n,r,e⟩:=I.hok p _ h;exact ⟨its,n,r,e,z⟩
theorem Inv.lstUpd {pins:.(26)} {σ:St} {H:Hp} {s:Shared} {p:Addr} {xs ys:List V} {its its':List Value} {n n':Nat} {f:Obj->Obj} (I:.(10)) (h:H p=some (.lst xs))
 (ho:s.heap.get? p=some { cls:=.type "list",data:=.seq its.toArray n }) (hf:f { cls:=.type "list",data:=.seq its.toArray n }={ cls:=.type "list",data:=.seq its'.toArray n' }) (r:Vals ys its') (hz:ys.length<=sizeLine) (t:Nat) :
 Inv X pins σ (upd H p (.lst ys)) { s with heap:=s.heap.update p f,toks:=t }:=by
 have e:(s.heap.update p f).get? p=some { cls:=.type "list",data:=.seq its'.toArray n' }:=by
  rw [Heap.get?_update_self f ho (by rw [hf] <;> rfl),hf]
 refine I.write (x:=p) (e:=p) (by rw [h];trivial) (.inl rfl) (fun b u hb q=>(Heap.get?_update_other _ _ (Ne.symm hb)).trans q) ⟨_,e⟩ ?_;exact ⟨hz,its',n',r,e⟩
def rSetL:V->V->V->Hp->(Hp->Prop)->Prop:=fun o i v H Q=>∃ p xs k j,o=.ref p/\i=.int k/\H p=some (.lst xs)/\ixN xs.length k=some j/\Q (upd H p (.lst (xs.set j v)))
theorem da:wU X rSetL:=by
 intro pins s σ H o i v ov iv u Q I ro ri rv h;obtain ⟨p,xs,k,j,rfl,rfl,hp,hj,q⟩:=h
 cases ro
 obtain ⟨t,rfl⟩:=ri;obtain ⟨its,n,r,ho,hz⟩:=I.lst hp;obtain ⟨h1,h2,h3,h4⟩:=n6 hj;have hl:=r.length;have hn:=ip;have I':Inv X pins σ (upd H p (.lst (xs.set j v))) { s with heap:=s.heap.update p (Obj.mapSeq (·.setIfInBounds j u)) }:=
  I.lstUpd hp ho (kX its n j u) (r.set rv j) (by rw [List.length_set];exact hz) s.toks
 by_cases h0:0<=k
 · have hk:k.toNat=j:=by
    rw [seqIndex_of h0 h4] at h1;exact Option.some.inj h1
   exact PySem.W.ki_setAt ho h0 (by lia) (by rw [zA8,← hl];exact h4) (by rw [hk];exact ⟨_,I',q⟩)
 · have hk:(k+(its.toArray.size:Int)).toNat=j:=by
    rw [seqIndex_neg (by lia) h3] at h1;rw [zA8,← hl];exact Option.some.inj h1
   exact PySem.W.ki_setBack ho (by lia) (by rw [zA8,← hl];exact h3) (by lia) (by rw [hk];exact ⟨_,I',q⟩)
theorem gU (lo hi:Option Int) (n:Nat):(sliceBounds lo hi none n).1=((HT.sIx n 0 lo:Nat):Int)/\(sliceBounds lo hi none n).2.1=((HT.sIx n n hi:Nat):Int)/\(sliceBounds lo hi none n).2.2=1:=by
 refine ⟨?_,?_,rfl⟩
 · cases lo with
   | none=>simp [sliceBounds,HT.sIx]
   | some i=>
     simp only [sliceBounds,HT.sIx,Option.getD_none,show (1:Int) > 0 by decide,if_true]
     by_cases h:i<0
     · simp only [h,if_true] <;> lia
     · simp only [h,if_false] <;> lia
 · cases hi with
   | none=>simp [sliceBounds,HT.sIx]
   | some i=>
     simp only [sliceBounds,HT.sIx,Option.getD_none,show (1:Int) > 0 by decide,if_true]
     by_cases h:i<0
     · simp only [h,if_true] <;> lia
     · simp only [h,if_false] <;> lia
theorem gg (its:List Value) (lo hi:Option Int):slicePick its.toArray lo hi none=((its.drop (HT.sIx its.length 0 lo)).take (HT.sIx its.length its.length hi - HT.sIx its.length 0 lo)).toArray:=by
 obtain ⟨h1,h2,h3⟩:=gU lo hi its.toArray.size;unfold slicePick;rw [h1,h2,h3];simp only [sliceRange_one,pick_run,zA8] <;> rfl
def rSlL (K:PySem.W.Frag):V->Option Int->Option Int->Hp->VK->Prop:=fun x lo hi H Q=>∃ a xs,x=.ref a/\SqL K H a xs/\∀ p,H p=none->Q (.ref p) (upd H p (.lst (fG xs lo hi)))
theorem uL:SlR X (rSlL X.K):=by
 intro pins s σ H x v vl vu lo hi sl Q I rx hs pl pu h;obtain ⟨a,xs,rfl,hx,q⟩:=h
 cases rx
 obtain ⟨its,r,ht,hz⟩:=I.list hx;have hlen:=r.length;refine ⟨"list",_,slot_list_getitem.lookup,ht.isList.typeIs,?_⟩;refine wpAny_getItem_list_slice ht.isList hs pl pu .none (by simp) ?_ (by rw [zA8] <;> lia);rw [gg,← hlen];refine ⟨.ref s.heap.objs.size,_,I.laid (t':=s.toks) (o:=.lst (fG xs lo hi)) (fun b ob q=>Heap.get?_push_of_some _ q) (zA1 _) ?_,rfl,q _ .(69)⟩;exact ⟨zD5 (fv xs lo hi) hz,_,0,(r.drop (HT.sIx xs.length 0 lo)).take (HT.sIx xs.length xs.length hi - HT.sIx xs.length 0 lo),Heap.get?_push_size _ rfl⟩
theorem call_len_seq:CallR X (.builtin "len") (fun xs H Q=>∃ p ys,xs=[.ref p]/\(SqL X.K H p ys\/SqT X.K H p ys)/\Q (.int ys.length) H):=by
 sleep 5;obtain ⟨p,ys,rfl,hq,q⟩:=h;sleep 25
 cases rx
 have hn:=ip;rcases hq with hq | hq
 · obtain ⟨its,r',pl,hz⟩:=I.list hq;have hlen:=r'.length;exact Calls.call_len_list pl.isList (by simp only [zA8] <;> lia) ⟨.int ys.length,H,I.tok _,⟨s.toks+1,by rw [zA8,hlen]⟩,q⟩
 · obtain ⟨its,r',pl,hz⟩:=I.tuple hq;have hlen:=r'.length;exact len_tuple pl (by simp only [zA8] <;> lia) ⟨.int ys.length,H,I.tok _,⟨s.toks+1,by rw [zA8,hlen]⟩,q⟩
theorem call_list_of:CallR X (.type "list") (fun xs H Q=>∃ p ys,xs=[.ref p]/\(SqL X.K H p ys\/SqT X.K H p ys)/\∀ l,H l=none->Q (.ref l) (upd H l (.lst ys))):=by
 sleep 5;obtain ⟨p,ys,rfl,hq,q⟩:=h;sleep 25
 cases rx
 have fin:∀ (its:List Value),Vals ys its->ys.length<=sizeLine->∀ (h':Heap) (c':Nat),(∀ b o',s.heap.get? b=some o'->h'.get? b=some o') ->
  h'.get? s.heap.objs.size=some { cls:=.type "list",dict:=none,data:=.seq its.toArray c',slots:=#[] }->EP X pins σ Q .(21) { s with heap:=h' }:=fun its r' hz h' c' kp e=>
  ⟨.ref s.heap.objs.size,_,I.laid (t':=s.toks) kp (zA1 _) (show ObjOk X.prog X.w _ h' _ (.lst ys) from ⟨hz,its,c',r',e⟩),rfl,q _ .(69)⟩
 rcases hq with hq | hq
 · obtain ⟨its,r',pl,hz⟩:=I.list hq;have hlen:=r'.length;obtain ⟨o,ho,hc,n,hd⟩:=pl.isList;exact call_list_seq p (.inl rfl) ho hc hd (fun h' c' kp e=>fin its r' hz h' c' kp e) (by simp only [zA8] <;> lia)
 · obtain ⟨its,r',pl,hz⟩:=I.tuple hq;have hlen:=r'.length;obtain ⟨o,ho,hc,n,hd⟩:=pl;exact call_list_seq p (.inr rfl) ho hc hd (fun h' c' kp e=>fin its r' hz h' c' kp e) (by simp only [zA8] <;> lia)
theorem call_tuple_of:CallR X (.type "tuple") (fun xs H Q=>∃ p ys,xs=[.ref p]/\((SqL X.K H p ys/\∀ l,H l=none->Q (.ref l) (upd H l (.tup ys)))\/(SqT X.K H p ys/\Q (.ref p) H))):=by
 sleep 5;obtain ⟨p,ys,rfl,h⟩:=h;sleep 25
 cases rx
 rcases h with ⟨hq,q⟩ | ⟨hq,q⟩
 · obtain ⟨its,r',pl,hz⟩:=I.list hq;have hlen:=r'.length;refine call_tuple_list pl.isList (fun h' kp=>?_) (by simp only [zA8] <;> lia);have I1:Inv X pins σ H { s with heap:=h' }:=I.kept (t':=s.toks) kp;have I2:Inv X pins σ (upd H h'.objs.size (.tup ys)) { s with heap:=h'.push { cls:=.type "tuple",data:=.seq its.toArray } }:=
    I1.laid (t':=s.toks) (fun b o e=>Heap.get?_push_of_some _ e) (zA1 _) (show ObjOk X.prog X.w _ _ _ (.tup ys) from ⟨hz,its,r',TupD.new _ _⟩)
   exact ⟨.ref h'.objs.size,_,I2,rfl,q _ (I1.hok.fresh (zA1 _))⟩
 · obtain ⟨its,r',pl,hz⟩:=I.tuple hq;exact call_tuple_same pl ⟨.ref p,H,I,rfl,q⟩
def tyV (K:PySem.W.Frag) (T:String) (x:V) (H:Hp):Prop:=match x with
 | .str _=>T="str"
 | .int _=>T="int"
 | .ref p=>(T="list"/\∃ xs,SqL K H p xs)\/(T="tuple"/\∃ o,K.lookup p=some o/\o.cls=.type "tuple"/\o.dict=none) \/
  (T="dict"/\((∃ kvs,H p=some (.dK kvs))\/∃ kvs,H p=some (.dT kvs)))\/(T="set"/\∃ S n,H p=some (.set S n))\/(T="tuple"/\∃ xs,H p=some (.tup xs))
 | _=>False
theorem tyV_is {pins:.(26)} {σ:St} {H:Hp} {s:Shared} {T:String} {x:V} {v:Value} (I:.(10)) (r:RelV x v) (ty:tyV X.K T x H) :
 s.TypeIs v T/\∀ a,v=.ref a->∃ ob,s.heap.get? a=some ob/\ob.dict=none:=by
 cases x with
 | str z=>
   obtain ⟨t,rfl⟩:=r
   cases (show T="str" from ty)
   exact ⟨typeIs_str s z t,fun _ e=>nomatch e⟩
 | int i=>
   obtain ⟨t,rfl⟩:=r
   cases (show T="int" from ty)
   exact ⟨typeIs_int s i t,fun _ e=>nomatch e⟩
 | ref p=>
   cases r
   rcases ty with ⟨rfl,xs,hq⟩ | ⟨rfl,o,hk,hc,hd⟩ | ⟨rfl,hk⟩ | ⟨rfl,S,n,hk⟩ | ⟨rfl,xs,hk⟩
   · obtain ⟨its,_,pl,_⟩:=I.list hq;refine ⟨pl.isList.typeIs,fun a e=>?_⟩
     cases e
     obtain ⟨o,n,e,c,hd,_⟩:=pl;exact ⟨o,e,hd⟩
   · refine ⟨⟨o,I.kIn p o hk,hc⟩,fun a e=>?_⟩
     cases e
     exact ⟨o,I.kIn _ o hk,hd⟩
   · have z:∃ o,s.heap.get? p=some o/\o.ExactDict:=by
      rcases hk with ⟨kvs,hk⟩ | ⟨kvs,hk⟩
      · obtain ⟨_,_,_,_,o,_,_,e,ex,_⟩:=I.hok p _ hk;exact ⟨o,e,ex⟩
      · obtain ⟨_,_,_,_,o,_,_,e,ex,_⟩:=I.hok p _ hk;exact ⟨o,e,ex⟩
     obtain ⟨o,e,ex⟩:=z;refine ⟨⟨o,e,ex.1⟩,fun a e2=>?_⟩
     cases e2
     exact ⟨o,e,ex.2.1⟩
   · obtain ⟨o,_,_,_,e,ex,_⟩:=I.hok p _ hk;refine ⟨⟨o,e,ex.1⟩,fun a e2=>?_⟩
     cases e2
     exact ⟨o,e,ex.2.1⟩
   · obtain ⟨_,_,_,n,e⟩:=I.hok p _ hk;refine ⟨⟨_,e,rfl⟩,fun a e2=>?_⟩
     cases e2
     exact ⟨_,e,rfl⟩
 | _=>exact False.elim ty
def tBM (K:PySem.W.Frag) (T:String) (r:V->List V->Hp->VK->Prop) (to:TE) (t:TA):TE:=fun σ H Q=>to σ H fun x H1=>tyV K T x H1/\t σ H1 fun xs H2=>r x xs H2 Q
variable {o e:Expr} {es:List Expr} {to:TE} {t:TA} {name:Str} {apos cpos:Pos} {T id:String} {r:V->List V->Hp->VK->Prop}
theorem pe_bm (pa:PlainAttrs T) (slot:Slot T name id) (hty:typeOf (.builtin id)=pure (.type "method_descriptor")) (hm:MtR X id r) (ho:PE X o to) (ha:PA X (e::es) t)
 (hbase:attributeBase o name X.env (eval o X.env)=eval o X.env:=by rfl)
 (hfew:((backTo cpos (starEach (e::es) X.env)).all (fun x=>!x.1)&&(backToKw cpos (keywordEach [] X.env)).all (fun x=>x.1.isSome)
   && decide .(32))=true:=by rfl)
 (hline:(apos.endLine == cpos.line)=true:=by rfl) (hs:starEach (e::es) X.env=.(13)::starEach es X.env:=by rfl) (hplain:(backTo cpos (starEach es X.env)).any (·.1)=false:=by rfl) :
 PE X (.Call (.Attribute o name apos) (e::es) [] cpos) (tBM X.K T r to t):=by
 sleep 11;refine wpAny_Call_method_late hbase hfew hline rfl (thn (ho pins s σ H _ I h) fun v s1 ⟨x,H1,I1,r1,ty,q1⟩=>?_);obtain ⟨h1,h2⟩:=tyV_is I1 r1 ty;refine ⟨T,id,pa,slot,hty,h1,h2,?_⟩;have hA:=ha cpos pins s1 σ H1 _ I1 q1;rw [hs] at hA ⊢;refine Calls.callWith_builtin (by show (false||(backTo cpos (starEach es X.env)).any (·.1))=false;rw [hplain] <;> rfl) (Calls.evalArgs_plain ?_);exact thn hA fun us s2 ⟨vs,H2,I2,r2,q2⟩=>hm pins s2 σ H2 x vs v us Q I2 r1 r2 q2
/- xs.append(e),list.index on a module's tuple .. are MtR facts of 06m -/
end
def MtM (X:Cx) (id:String) (r:V->List V->Hp->VK->Prop):Prop:=
 ∀ (pins:List (Addr×Obj)) (s:Shared) (σ:St) (H:Hp) (x:V) (xs:List V) (v:Value) (us:List Value) (Q:VK),Inv X pins σ H s->RelV x v->Vals xs us->r x xs H Q ->
   wpAny .(15) X.A (call (.builtin id) (v::us)) .(95) X.xe s
theorem Vals.one:∀ {x:V} {us:List Value},Vals [x] us->∃ u,us=[u]/\RelV x u
 | _,_,.cons r .nil=>⟨_,rfl,r⟩
theorem Vals.rep {xs:List V} {us:List Value} (h:Vals xs us):∀ k:Nat,Vals (List.replicate k xs).flatten (List.replicate k us).flatten
 | 0=>.nil
 | k+1=>by
   rw [zG9,zG9,zD8,zD8];exact Vals.append h (Vals.rep h k)
theorem fu (its:List Value):∀ (k:Nat) (acc:List Value),
 List.foldl (fun x1 x2=>x1++x2) acc.toArray (List.replicate k its.toArray)=(acc++(List.replicate k its).flatten).toArray
 | 0,acc=>by simp
 | k+1,acc=>by
   have e:acc.toArray++its.toArray=(acc++its).toArray:=by simp
   have e2:(acc++its)++(List.replicate k its).flatten=acc++(List.replicate (k+1) its).flatten:=by
    rw [zG9,zD8,zB7]
   rw [← e2,← fu its k (acc++its),← e,zG9,List.foldl_cons]
section
variable {X:Cx} {pins:List (Addr×Obj)} {σ:St} {H:Hp} {s:Shared} {l b:Addr} {xs ys zs:List V}
theorem Inv.lset {its its':List Value} {n:Nat} {f:Array Value->Array Value} {t':Nat} (I:.(10)) (hH:H l=some (.lst xs))
 (e:s.heap.get? l=some { cls:=.type "list",data:=.seq its.toArray n }) (hf:f its.toArray=its'.toArray) (hv:Vals ys its') (hz:ys.length<=sizeLine) :
 Inv X pins σ (upd H l (.lst ys)) { s with heap:=s.heap.update l (Obj.mapSeq f),toks:=t' }:=by
 have q:=PySem.IsL.update e f;rw [hf] at q;refine I.write (x:=l) (e:=l) (by rw [hH];exact trivial) (.inl rfl) (fun b' u hb hu=>(Heap.get?_update_other s.heap (Obj.mapSeq f) (Ne.symm hb)).trans hu) ⟨_,q⟩ ?_;exact ⟨hz,its',_,hv,q⟩
theorem Inv.lnew {its:List Value} {t':Nat} (I:.(10)) (hv:Vals ys its) (hz:ys.length<=sizeLine) :
 Inv X pins σ (upd H s.heap.objs.size (.lst ys)) { s with heap:=s.heap.push { cls:=.type "list",data:=.seq its.toArray },toks:=t' }:=
 I.laid (fun _ _ q=>Heap.get?_push_of_some _ q) (zA1 _) ⟨hz,its,0,hv,Heap.get?_push_size _ rfl⟩
theorem Inv.fresh (I:.(10)):H s.heap.objs.size=none:=I.hok.fresh (zA1 _)
theorem Inv.lstM (I:.(10)) (hH:H l=some (.lst xs)):xs.length<=sizeLine/\∃ (its:List Value) (n:Nat),Vals xs its/\xs.length=its.length/\s.heap.get? l=some { cls:=.type "list",data:=.seq its.toArray n }:=by
 obtain ⟨z,its,n,r,e⟩:=I.hok l _ hH;exact ⟨z,its,n,r,r.length,e⟩
theorem rc {n:Nat} (h:n<=sizeLine):Builtin.List.listTooLong n=false:=by
 unfold Builtin.List.listTooLong;exact decide_eq_false (by lia)
end
section
variable {X:Cx}
def u4:V->List V->Hp->VK->Prop:=fun x vs H Q=>∃ l xs y,x=.ref l/\vs=[y]/\H l=some (.lst xs)/\xs.length<sizeLine/\Q .non (upd H l (.lst (xs++[y])))
theorem nT:MtM X "list.append" u4:=by
 intro pins s σ H x vs v us Q I rx rv h;obtain ⟨l,xs,y,rfl,rfl,hH,hz,q⟩:=h
 cases rx
 obtain ⟨u,rfl,ru⟩:=rv.one;obtain ⟨z,its,n,r,hl,e⟩:=I.lstM hH;refine call_meets F.slot_list_append ⟨_,e,rfl⟩ F.entry_list_append (F.args_list_append_2 _ _) (PySem.list_append l its.toArray n u (by rw [zA8];lia)) ⟨e,?_⟩;refine ⟨.non,_,I.lset (its':=its++[u]) hH e (by simp) (r.append (.cons ru .nil)) ?_,rfl,q⟩;rw [zA5,zK1];lia
def rCat:R2:=fun x y H Q=>∃ l b xs zs,x=.ref l/\y=.ref b/\H l=some (.lst xs)/\H b=some (.lst zs)/\xs.length+zs.length<=sizeLine/\∀ p,H p=none->Q (.ref p) (upd H p (.lst (xs++zs)))
theorem op_cat:OpR X (binaryOp .Add) rCat:=by
 sleep 2;obtain ⟨l,b,xs,zs,rfl,rfl,hH,hB,hz,q⟩:=h
 cases rx
 cases ry
 obtain ⟨z,its,n,r,hl,e⟩:=I.lstM hH;obtain ⟨z2,its2,n2,r2,hl2,e2⟩:=I.lstM hB;refine PySem.P.add_list e e2 ?_ (by rw [zA8,zA8];lia);have ea:its.toArray++its2.toArray=(its++its2).toArray:=by simp
 rw [ea];exact ⟨.ref _,_,I.lnew (t':=s.toks) (r.append r2) (by rw [zA5];lia),rfl,q _ I.fresh⟩
def rRep:R2:=fun x y H Q=>∃ l k xs,x=.ref l/\y=.int k/\H l=some (.lst xs)/\-(2 ^ 63)<=k/\k<2 ^ 63/\xs.length*k.toNat<=sizeLine /\
 ∀ p,H p=none->Q (.ref p) (upd H p (.lst (List.replicate k.toNat xs).flatten))
theorem gx {α:Type} (xs:List α) (k:Nat):(List.replicate k xs).flatten.length=k*xs.length:=by
 induction k with
 | zero=>simp
 | succ k ih=>rw [zG9,zD8,zA5,ih,Nat.succ_mul,Nat.add_comm]
theorem op_rep:OpR X (binaryOp .Mult) rRep:=by
 sleep 2;obtain ⟨l,k,xs,rfl,rfl,hH,h1,h2,hz,q⟩:=h
 cases rx
 obtain ⟨t,rfl⟩:=ry;obtain ⟨z,its,n,r,hl,e⟩:=I.lstM hH;have hlen:its.toArray.size*k.toNat<=sizeLine:=by rw [zA8,← hl];exact hz
 have hcap:¬ its.toArray.size*k.toNat > (2 ^ 63 - 1) / 8:=by
  have:(sizeLine:Nat)<=(2 ^ 63 - 1) / 8:=by decide
  lia
 have hfit:¬ (!Builtin.List.listFitsIndex k)=true:=by
  rw [fitsIndex_both h1 h2];exact zC9
 have hlong:¬ Builtin.List.listTooLong (its.toArray.size*k.toNat)=true:=by
  rw [rc hlen];exact zC9
 have hnew:List.foldl (fun x1 x2=>x1++x2) #[] (List.replicate (if its.toArray.isEmpty=true then 0 else k.toNat) its.toArray)=(List.replicate k.toNat its).flatten.toArray:=by
  have f0:∀ m:Nat,List.foldl (fun x1 x2=>x1++x2) #[] (List.replicate m its.toArray)=(List.replicate m its).flatten.toArray:=fun m=>by
   have:=fu its m [];rw [List.nil_append] at this;exact this
  rw [f0]
  cases its with
  | nil=>simp
  | cons a r'=>rw [if_neg (by simp)]
 refine wpAny_binaryOp_repeat_ref (T:="list") (U:="int") (by decide) ⟨_,e,rfl⟩ (fun s'=>typeIs_int s' k t) noFill_list_mul F.fills_int_mul F.slot_int_rmul repeat_list F.slot_int_index.lookup
  (call_meets F.slot_int_rmul (typeIs_int s k t) F.entry_int_rmul (F.args_int_rmul_2 _ _) (int___rmul___int_list k t l its.toArray n)
    ⟨e,rfl,⟨_,e,rfl⟩,call_meets F.slot_list_mul ⟨_,e,rfl⟩ F.entry_list_mul (F.args_list_mul_2 _ _) (AutoListH.list___mul___list_int_3 l its.toArray n k t hfit hcap hlong) ⟨e,?_⟩⟩)
 rw [hnew];exact ⟨.ref _,_,I.lnew (t':=s.toks) (r.rep k.toNat) (by rw [gx,zG2];exact hz),rfl,q _ I.fresh⟩
end
end L2
namespace Att
open PySem PySem.W PySem.Calls PyProof.Rows
theorem fq {P:Params} {h:Heap}:∀ (ns:List Int) (vs:List Value),WellAll P h vs (ns.map WData.int)->IntsAre vs ns:=by
 intro ns;induction ns with
 | nil=>
   intro vs w
   rw [zF8] at w
   cases w
   exact .nil
 | cons n ns ih=>
   intro vs w
   rw [zB6] at w
   cases w with
   | cons a b=>
     cases a
     exact .cons _ _ (ih _ b)
theorem mM {l:OpenLaw} {n:Nat} (hn:l.most=some n) {P:Params} {h:Heap} {args:List WData} {vals:List Value}
 (hpre:l.row.toRowW.claim.pre args=true) (hwl:WellAll P h vals args) :
 ∃ a vs ns,vals=[Value.ref a]/\args=[WData.list (ns.map WData.int)]/\h.get? a=some { cls:=.type "list",data:=.seq vs.toArray }/\IntsAre vs ns/\ns.length<=n:=by
 have hsh:WShape.hasAll [] args [.list .int]=true:=(pre_splitW hpre).1;have hc:l.pre.holds [] { args:=args }=true:=(pre_splitW hpre).2;obtain ⟨d,r,rfl,h1,h2⟩:=hasAllW_cons hsh;obtain rfl:=hasAllW_nil h2;obtain ⟨xs,rfl,h3⟩:=hasW_list h1;obtain ⟨ns,rfl⟩:=items_int h3;have hlen:ns.length<=n:=by
  unfold OpenLaw.pre at hc;have h4:(WTm.not (.lt (.lit (.int (n:Int))) (.len (.arg 0)))).holds [] { args:=[.list (ns.map .int)] }=true:=by
   have h4:=(holds_andW hc).1;rw [hn] at h4;exact h4
  have h5:=condW_of h4 (w_not (w_lt w_lit (w_len_list (w_arg rfl))));rw [zA0] at h5;refine Nat.le_of_not_lt fun q=>?_;have q':(n:Int)<((ns.length:Nat):Int):=by lia
  first
   | (rw [decide_eq_true q'] at h5;exact absurd h5 (by decide))
   | (simp at h5;lia)
 cases hwl with
 | cons w1 w2=>
   cases w2
   cases w1 with
   | list ho hall=>exact ⟨_,_,ns,rfl,rfl,ho,fq ns _ hall,hlen⟩
theorem np (l:OpenLaw) (args:List WData):l.row.toRowW.claim.post args (.bool true) args=true:=
 postW_of (r:=l.row.toRowW) (X:=(true == true))
  (show WShape.has [] (.bool true) .bool=true by first | rfl | decide | simp [WShape.has,WShape.arms,WShape.armsAll])
  (show (WTm.eq .res (.lit (.bool true))).value [] { args:=args,res:=some (.bool true),after:=args }=some (.bool (true == true)) from w_eq_bool (w_res rfl) w_lit) rfl
theorem attach_call {l:OpenLaw} {n:Nat} {q:Program} {loose:List Str} {XP:(Str->Option Value)->Heap->Prop} {YP:World->Heap->Prop} {d:DefRec}
 (hn:l.most=some n) (hdf:d.params.defaults=[])
 (call:∀ (w:World) (s₀ s₁:Shared) (mg mb:.(53)) (fa:Addr) (o:Obj) (pm cd doc:Value) (a:Addr) (vs:List Value) (ns:List Int),
   Ground q loose [] XP w s₀ mg mb s₁.heap->YP w s₁.heap ->
   s₁.heap.get? fa=some o->o.data=.func (docDef d.name d.params d.body d.scope pm cd doc)->s₁.heap.CodeRec cd d.name->mg d.name=some (.ref fa) ->
   s₁.heap.get? a=some { cls:=.type "list",data:=.seq vs.toArray }->IntsAre vs ns->ns.length<=n->s₁.gens=#[] ->
   codeAny (model l.prog w) callerA (.call (.ref fa) ⟨[.ref a],[]⟩) .(57) s₁) :
 WalkO q loose XP YP l.row.toRowW d [] (fun f vs=>PySem.call f vs):=by
 intro w s₀ s₁ mg mb G Y fa o pm cd doc dV kV ho hd hcd hD hmg hg args vals as hpre hlay hrd hwl hlo;obtain rfl:dV=.none:=Dflts.none hD hdf;obtain rfl:kV=.none:=Dflts.noKw hD;obtain ⟨a,vs,ns,rfl,rfl,hobj,hints,hlen⟩:=mM hn hpre hwl;refine enter_call (codeAny_mono (call w s₀ s₁ mg mb fa o pm cd doc a vs ns G Y ho (fd_plain hd) hcd hmg hobj hints hlen hg) fun r s' hq=>?_);obtain ⟨rfl,h2,h3,h4⟩:=hq;exact ⟨.inl ⟨.bool true,.bool true,[],rfl,fun _=>rfl,.bool true,np l _,fun _=>⟨List.Pairwise.nil,fun _ hm=>(nomatch hm)⟩⟩,h2,h3,h4⟩
end Att
namespace L2
open PySem PySem.Spec PyProof.Rows
theorem eI:∀ {vs:List Value} {ns:List Int},IntsAre vs ns->Vals .(27) vs
 | _,_,.nil=>.nil
 | _,_,.cons n t h=>.cons ⟨t,rfl⟩ (eI h)
def Only (H:Hp):Prop:=∀ b,H b=none\/∃ o xs,H b=some (.frz o (.lst xs))
theorem rE {P:Program} {w:World} {K:PySem.W.Frag} {mg mb:.(53)} {CX:CXT} {k:Nat} {fa a:Addr} {fd:FuncData} {x:Str} {sp:Sp} {s₁:Shared} {vs:List Value} {ns:List Int}
 (KX:K.In s₁.heap) (hns:s₁.heap.Ns mainGlobals mg) (hb:s₁.heap.Ns builtinsNs mb) (hbb:∀ x:Str,x≠"__name__"->mb x=bootBuiltins x) (hlim:s₁.heap.NoLimit) (hg:s₁.gens=#[])
 (ha:s₁.heap.get? a=some { cls:=.type "list",data:=.seq vs.toArray }) (hi:IntsAre vs ns) (hl:ns.length<=sizeLine) (hr:Room k callerA)
 (F:∀ base:Heap,K.In base->base.Ns mainGlobals mg->FnOk P w K mg base CX k fa fd [x] sp) (hbind:∀ (s:Shared) (u:Value),BindsTo s fd ⟨[u],[]⟩ [(x,u)])
 (hsp:∀ H:Hp,Only H->SqL K H a .(27)->sp [.ref a] H (fun v _=>v=.bl true) fun _ _ _=>False)
 (hCX:∀ H e s',CX [] H s₁ (fun _ _ _=>False) e s'->False) :
 codeAny (model P w) callerA (.call (.ref fa) ⟨[.ref a],[]⟩) .(57) s₁:=by
 have rv:=eI hi;have lenV:=hi.length;-- from an abstract heap in which nothing but the script may be tracked
 have core:∀ H:Hp,Only H->SqL K H a .(27)->HOk P w H s₁.heap->(∀ b,H b≠none->b=a)->(H a≠none->K.lookup a=none) ->
  codeAny (model P w) callerA (.call (.ref fa) ⟨[.ref a],[]⟩) .(57) s₁:=by
  intro H hO hS hok hA hK;have base_of:∀ {b:Addr} {o:Obj},s₁.heap.get? b=some o->H b=none->(rK s₁.heap H).get? b=some o:=fun e n=>rJ e n;have noA:∀ {b:Addr} {o:Obj} {es:Array DictEntry} {ep:Nat},s₁.heap.get? b=some o->o.data=.dict es ep->H b=none:=fun {b o es ep} e d=>by
   cases q:H b with
   | none=>rfl
   | some u=>
     have e':b=a:=hA b (by rw [q];simp)
     subst e'
     rw [ha] at e;cases e
     have d':Data.seq vs.toArray _=Data.dict es ep:=d
     cases d'
  have nsK:∀ {b:Addr} {m:.(53)},s₁.heap.Ns b m->(rK s₁.heap H).Ns b m:=fun {b m} ⟨o,es,ep,e,d,r⟩=>⟨o,es,ep,base_of e (noA e d),d,r⟩
  have hKb:K.In (rK s₁.heap H):=fun b o e=>base_of (KX b o e) (by
   cases q:H b with
   | none=>rfl
   | some u=>
     have e':b=a:=hA b (by rw [q];simp)
     subst e'
     rw [hK (by rw [q];simp)] at e;cases e)
  have hM:Mod K mg (rK s₁.heap H):=⟨hKb,nsK hns,⟨mb,nsK hb,hbb⟩,let ⟨mc,h1,h2⟩:=hlim;⟨mc,nsK h1,h2⟩⟩
  have e0:Env0 P w K mg (rK s₁.heap H) callerA [] s₁ H:=⟨rfl,hM,fun b o e=>vM e,Nat.le_of_eq (oh _ _),trivial,fun b hb=>absurd (show b∈([]:List Addr) from hb) (by simp),hok,.of_eq hg⟩
  refine codeAny_mono ((F _ hKb (nsK hns)).run callerA [] s₁ H ⟨[.ref a],[]⟩ [.ref a] [.ref a] _ _ hr e0 (hbind s₁ (.ref a)) (.cons rfl .nil) (hsp H hO hS)) fun r s' h=>?_
  cases r with
  | error e=>exact (hCX H e s' h).elim
  | ok fl=>
    cases fl with
    | next=>exact False.elim h
    | brk=>exact False.elim h
    | cont=>exact False.elim h
    | ret u=>
      obtain ⟨v,H',os,bare,un,hok',r',q⟩:=h
      have q':v=.bl true:=q
      subst q'
      obtain rfl:u=Value.bool true:=r'
      refine ⟨rfl,OldK.of_keep fun b o e=>?_,os,bare⟩
      cases q:H b with
      | none=>exact un.keep b o e q (by intro z;exact absurd (show b∈([]:List Addr) from z) (by simp)) (by simp)
      | some u=>
        rcases hO b with z | ⟨ob,xs,z⟩
        · rw [q] at z;cases z
        · have z2:=un.frzs b ob _ z;obtain ⟨e1,_⟩:=hok b _ z;obtain ⟨e2,_⟩:=hok' b _ z2;rw [e] at e1;cases e1;exact e2
 cases hk:K.lookup a with
 | some o=>
   -- the script is one of the module's own objects
   have e:=KX a o hk
   rw [ha] at e
   cases e
   refine core (fun _=>none) (fun _=>.inl rfl) (.inr ⟨_,vs.toArray,_,hk,rfl,rfl,rfl,by rw [zA8,lenV];exact hl,by simpa using rv⟩) (fun b u z=>by have z':(none:Option HO)=some u:=z;cases z') (fun b z=>absurd rfl z) fun z=>absurd rfl z
 | none=>
   refine core (fun b=>if b=a then some (.frz { cls:=.type "list",data:=.seq vs.toArray } (.lst .(27))) else none) (fun b=>?_) (.inl (.inr ⟨{ cls:=.type "list",data:=.seq vs.toArray },if_pos rfl⟩)) (fun b u z=>?_) (fun b z=>?_) fun _=>hk
   · by_cases hb:b=a
     · exact .inr ⟨_,_,if_pos hb⟩
     · exact .inl (if_neg hb)
   · by_cases hb:b=a
     · have z':=(if_pos hb).symm.trans z
       cases z'
       subst hb;exact ⟨ha,by rw [zA0];exact hl,vs,_,rv,ha⟩
     · have z':=(if_neg hb).symm.trans z
       cases z'
   · by_cases hb:b=a
     · exact hb
     · exact absurd (if_neg hb) z
theorem walk_of {l:PySem.W.OpenLaw} {n k:Nat} {q:Program} {loose:List Str} {XP:(Str->Option Value)->Heap->Prop} {YP:World->Heap->Prop} {d:DefRec} {K:Params->PySem.W.Frag} {CX:World->CXT} {sp:World->Sp} {x:Str}
 (hn:l.most=some n) (hn2:n<=sizeLine) (hdf:d.params.defaults=[]) (hr:Room k callerA)
 (hY:∀ (w:World) (h:Heap),YP w h->(K w.params).In h)
 (F:∀ (w:World) (mg:.(53)) (fa:Addr) (h:Heap),(K w.params).In h->h.Ns mainGlobals mg->mg d.name=some (.ref fa) ->
   ∃ fd:FuncData,(∀ (s:Shared) (u:Value),BindsTo s fd ⟨[u],[]⟩ [(x,u)]) /\
     ∀ base:Heap,(K w.params).In base->base.Ns mainGlobals mg->FnOk l.prog w (K w.params) mg base (CX w) k fa fd [x] (sp w))
 (hsp:∀ (w:World) (H:Hp) (a:Addr) (ns:List Int),ns.length<=n->Only H->SqL (K w.params) H a .(27)->sp w [.ref a] H (fun v _=>v=.bl true) fun _ _ _=>False)
 (hCX:∀ (w:World) (H:Hp) (s:Shared) (e:Value) (s':Shared),CX w [] H s (fun _ _ _=>False) e s'->False) :
 PySem.W.WalkO q loose XP YP l.row.toRowW d [] (fun f vs=>PySem.call f vs):=by
 refine Att.attach_call hn hdf fun w s₀ s₁ mg mb fa o pm cd doc a vs ns G Y ho hd hcd hmg hobj hints hlen hg=>?_;have KX:=hY w _ Y;obtain ⟨fd,hb,hF⟩:=F w mg fa _ KX G.T.g hmg;exact rE KX G.T.g G.T.b G.T.builtins G.T.nolimit hg hobj hints (zD5 hlen hn2) hr hF hb (fun H hO hS=>hsp w H a ns hlen hO hS) fun H e s'=>hCX w H s₁ e s'
end L2
/- THE LAST THEOREM (shape;LID,My.* are yours):
   My.Adr: a structure of the addresses that your layer names (classes,functions);My.Txt K t: a structure (Prop) of the equations over K;
   My.txt_mk:{K} {implicit addresses ..} (e1:nsIn K mainGlobals "law" = some (some (.ref f))) (e2:K.lookup f=some ⟨oc,od,.func (fnOf "law" "law" params body scope dV kV doc pm an cdv ct),sl⟩) (e3:codeIn K cdv "law" = true) .. : ∃ t,My.Txt K t
(the tactic k_is has no namespace: write k_is) -/
namespace L2
open PySem PySem.Spec PyProof.Rows
def aq (s:Stmt):Arguments:=match s with
 | .FunctionDef _ a _ _ _ _ _ _ _ _=>a
 | _=>{ posonlyargs:=[],args:=[],vararg:=none,kwonlyargs:=[],kw_defaults:=[],kwarg:=none,defaults:=[] }
def ak (s:Stmt):List Stmt:=match s with
 | .FunctionDef _ _ b _ _ _ _ _ _ _=>b
 | _=>[]
def ag (s:Stmt):Scope:=match s with
 | .FunctionDef _ _ _ _ _ _ sc _ _ _=>sc
 | _=>{ kind:=.function,names:=[],isGenerator:=false,isCoroutine:=false }
abbrev CX0:CXT:=fun _ _ _ _ _ _=>False
abbrev E0:XK:=fun _ _ _=>False
theorem pass0 {X:Cx}:pK CX0 X E0:=fun _ _ _ _ _ _ _ h=>h.elim
structure Fun (K:PySem.W.Frag) (x qual:Str) (st:Stmt) (f:Addr) (fd:FuncData):Prop where
 ex:∃ (oc:Value) (od:Option Addr) (kV doc pm:Value) (an:Option Addr) (cdv ct:Value) (osl:Array (Option Value)),
  fd=PySem.W.fnOf x qual (aq st) (ak st) (ag st) .none kV doc pm an cdv ct/\K.lookup f=some ⟨oc,od,.func fd,osl⟩/\PySem.W.codeIn K cdv qual=true
 kp:PySem.W.keepIn K (.ref f)=true
section
variable {P:Program} {w:World} {K:PySem.W.Frag} {mg:Str->Option Value} {base:Heap}
theorem Fun.ok {x qual:Str} {st:Stmt} {f:Addr} {fd:FuncData} {N ps:List Str} {k:Nat} {sp:Sp} (F:Fun K x qual st f fd) (S:FnScope N ps (ag st)) (len:∀ vs H Q E,sp vs H Q E->vs.length=ps.length)
 (hbody:∀ (cdv:Value) (A:Around) (outer:List Env) (s:Shared) (H:Hp) (vs:List V) (Q:VK) (E:XK),Room k (A.deeper (envOfC qual (ag st) s.heap.objs.size f cdv))->sp vs H Q E ->
   ∃ t,PSs (tJ CX0 P w K mg base N qual (ag st) f cdv A outer s H E).nox (ak st) t/\t { nx:=fun _ H'=>Q .non H',rt:=Q } (start N vs) H):FnOk P w K mg base CX0 (k+1) f fd ps sp:=by
 obtain ⟨oc,od,kV,doc,pm,an,cdv,ct,osl,rfl,lk,hcd⟩:=F.ex;refine fn_of lk hcd S len fun A outer s H vs Q E hr hsp=>?_;obtain ⟨t,h,q⟩:=hbody cdv A outer s H vs Q E hr hsp;exact ⟨t,h.nox,q⟩
theorem Fun.okz {x qual:Str} {st:Stmt} {f:Addr} {fd:FuncData} {N ps:List Str} {k:Nat} {sp:Sp} (F:Fun K x qual st f fd) (S:FnScope N ps (ag st)) (len:∀ vs H Q E,sp vs H Q E->vs.length=ps.length)
 (hbody:∀ (cdv:Value) (A:Around) (outer:List Env) (s:Shared) (H:Hp) (vs:List V) (Q:VK) (E:XK),Room k (A.deeper (envOfC qual (ag st) s.heap.objs.size f cdv))->sp vs H Q E ->
   ∃ t,ZSs (tJ CX0 P w K mg base N qual (ag st) f cdv A outer s H E).nox (ak st) t/\t { nx:=fun _ H'=>Q .non H',rt:=Q } (start N vs) H):FnOk P w K mg base CX0 (k+1) f fd ps sp:=
 F.ok S len fun cdv A outer s H vs Q E hr h=>let ⟨t,h1,h2⟩:=hbody cdv A outer s H vs Q E hr h;⟨t,h1.p,h2⟩
theorem Fun.binds {x qual:Str} {st:Stmt} {f:Addr} {fd:FuncData} {ps:List Str} (F:Fun K x qual st f fd)
 (h:∀ (kV doc pm:Value) (an:Option Addr) (cdv ct:Value) (us:List Value),us.length=ps.length->bindArgs .(90) ⟨us,[]⟩=pure (ps.zip us)):Binds K fd ps []:=by
 obtain ⟨oc,od,kV,doc,pm,an,cdv,ct,osl,rfl,lk,hcd⟩:=F.ex;exact .all (h kV doc pm an cdv ct)
theorem aF {x qual:Str} {st:Stmt} {f:Addr} {oc:Value} {od an:Option Addr} {osl:Array (Option Value)} {kV doc pm cdv ct:Value} (l:K.lookup f=some ⟨oc,od,.func .(90),osl⟩)
 (c:PySem.W.codeIn K cdv qual=true) (k:PySem.W.keepIn K (.ref f)=true):Fun K x qual st f .(90):=⟨⟨oc,od,kV,doc,pm,an,cdv,ct,osl,rfl,l,c⟩,k⟩
end
theorem hu_of {A:Around} {k:Nat} (hr:Room k A):A.units+1<cLine:=Nat.lt_of_le_of_lt (Nat.add_le_add_left (by decide:1<=64) _) hr.units
theorem ao {n:Nat} (h:n<=1000):n<sizeLine:=Nat.lt_of_le_of_lt h (by decide)
theorem iteF {A B:Prop} (h:B):if false=true then A else B:=by
 rw [if_neg zC9];exact h
theorem iteT {A B:Prop} (h:A):if true=true then A else B:=by
 rw [if_pos rfl];exact h
def Same (H H':Hp):Prop:=∀ b o,H b=some o->H' b=some o
theorem Same.refl (H:Hp):Same H H:=fun _ _ h=>h
theorem Same.trans {H H1 H2:Hp} (a:Same H H1) (b:Same H1 H2):Same H H2:=fun c o h=>b c o (a c o h)
end L2
set_option maxHeartbeats 4000000
namespace L2
open PySem PySem.Spec PyProof.Rows
def dJ (env:Env):List (Str×NameKind)->List (Str×Addr)->List (Str×Addr)
 | [],cs=>cs
 | y::r,cs=>dJ env r (if (y.2 == .free)=true then (y.1,(env.cells.lookup y.1).getD 0)::cs else cs)
theorem dL {env:Env} {scope:Scope} (h:∀ y∈scope.names,y.2=.free->∃ c,env.cells.lookup y.1=some c):closureFor scope env=pure (dJ env scope.names []):=by
 simp only [closureFor];generalize scope.names=ns at h;have go:∀ (ns:List (Str×NameKind)) (cs:List (Str×Addr)),(∀ y∈ns,y.2=.free->∃ c,env.cells.lookup y.1=some c) ->
  (forIn ns cs fun (x:Str×NameKind) (r:List (Str×Addr))=>(if (x.2 == NameKind.free)=true then do let a ← cellOf env x.1;pure (ForInStep.yield ((x.1,a)::r)) else pure (ForInStep.yield r):Sem (ForInStep (List (Str×Addr)))))=(pure (dJ env ns cs):Sem (List (Str×Addr))):=by
  intro ns;induction ns with
  | nil=>intro cs _;rfl
  | cons y r ih=>
    intro cs hy
    rw [List.forIn_cons]
    have hr:=fun z hz=>hy z (zA9 _ hz)
    by_cases hf:(y.2 == NameKind.free)=true
    · obtain ⟨c,hc⟩:=hy y zA7 (by simpa using hf);have e:cellOf env y.1=pure c:=by unfold cellOf;rw [hc]
      rw [if_pos hf,e];refine Eq.trans (ih ((y.1,c)::cs) hr) (congrArg pure ?_);show _=dJ env r (if (y.2 == .free)=true then (y.1,(env.cells.lookup y.1).getD 0)::cs else cs);rw [if_pos hf,hc];rfl
    · rw [if_neg hf];refine Eq.trans (ih cs hr) (congrArg pure ?_);show _=dJ env r (if (y.2 == .free)=true then (y.1,(env.cells.lookup y.1).getD 0)::cs else cs);rw [if_neg hf]
 have e:=go ns [] h;exact (congrArg (fun (t:Sem (List (Str×Addr)))=>t >>= fun cs=>pure cs) e).trans rfl
theorem fS {env:Env}:∀ (ns:List (Str×NameKind)) (cs:List (Str×Addr)),(∀ y∈ns,y.2=.free->∃ c,env.cells.lookup y.1=some c)->(∀ n c,cs.lookup n=some c->env.cells.lookup n=some c) ->
 ∀ n c,(dJ env ns cs).lookup n=some c->env.cells.lookup n=some c
 | [],cs,_,hc=>hc
 | y::r,cs,hy,hc=>by
   refine fS r _ (fun z hz=>hy z (zA9 _ hz)) fun n c e=>?_;by_cases hf:(y.2 == NameKind.free)=true
   · rw [if_pos hf,zF5] at e;obtain ⟨c',hc'⟩:=hy y zA7 (by simpa using hf)
     cases hn:n == y.1 with
     | true=>
       rw [hn] at e
       have en:n=y.1:=by simpa using hn
       rw [hc'] at e
       rw [en,hc']
       exact e
     | false=>rw [hn] at e;exact hc n c e
   · rw [if_neg hf] at e;exact hc n c e
theorem fz {env:Env}:∀ (ns:List (Str×NameKind)) (cs:List (Str×Addr)) (n:Str),((n,NameKind.free)∈ns\/∃ c,cs.lookup n=some c)->∃ c,(dJ env ns cs).lookup n=some c
 | [],cs,n,h=>by
   rcases h with h | h
   · cases h
   · exact h
 | y::r,cs,n,h=>by
   refine fz r _ n ?_;rcases h with h | ⟨c,h⟩
   · rcases zB0.mp h with e | h
     · refine .inr ⟨(env.cells.lookup n).getD 0,?_⟩;have e2:y.2=.free:=by rw [← e]
       have e1:y.1=n:=by rw [← e]
       rw [if_pos (by rw [e2];rfl),e1,zF5];simp
     · exact .inl h
   · refine .inr ?_;by_cases hf:(y.2 == NameKind.free)=true
     · rw [if_pos hf,zF5]
       cases hn:n == y.1 with
       | true=>exact ⟨_,rfl⟩
       | false=>exact ⟨c,h⟩
     · rw [if_neg hf];exact ⟨c,h⟩
def sU (env:Env) (y:Str×NameKind):Str×NameKind:=if (y.2 == NameKind.free&&env.scope.kind == .function&&env.kindOf y.1 == some .cell)=true then (y.1,NameKind.cell) else (y.1,y.2)
theorem gn {env:Env}:∀ {names:List (Str×NameKind)} {x:Str} {k':NameKind},(names.map (sU env)).lookup x=some k' ->
 ∃ k,(x,k)∈names/\names.lookup x=some k/\(k'=k\/(k=.free/\k'=.cell))
 | [],_,_,h=>by simp at h
 | (n,k)::r,x,k',h=>by
   have ih:=@gn env r x k';rw [zB6] at h;unfold sU at h;dsimp only at h
   cases hx:x == n with
   | true=>
     have en:x=n:=by simpa using hx
     refine ⟨k,by rw [en];exact zA7,by simp [zF5,hx],?_⟩
     by_cases hc:(k == NameKind.free&&env.scope.kind == .function&&env.kindOf n == some .cell)=true
     · rw [if_pos hc,zF5,hx] at h;have hk:k=.free:=by
        have:=(Bool.and_eq_true_iff.mp (Bool.and_eq_true_iff.mp hc).1).1;simpa using this
       exact .inr ⟨hk,by cases h;rfl⟩
     · rw [if_neg hc,zF5,hx] at h;exact .inl (by cases h;rfl)
   | false=>
     have h':(r.map (sU env)).lookup x=some k':=by
      by_cases hc:(k == NameKind.free&&env.scope.kind == .function&&env.kindOf n == some .cell)=true
      · rw [if_pos hc,zF5,hx] at h;exact h
      · rw [if_neg hc,zF5,hx] at h;exact h
     obtain ⟨k,h1,h2,h3⟩:=ih h'
     exact ⟨k,zA9 _ h1,by rw [zF5,hx];exact h2,h3⟩
theorem sT {env:Env}:∀ {names:List (Str×NameKind)} {x:Str} {k:NameKind},names.lookup x=some k->∃ k',(names.map (sU env)).lookup x=some k'
 | [],_,_,h=>by simp at h
 | (n,k0)::r,x,k,h=>by
   have ih:=@sT env r x k;rw [zB6];have e1:(sU env (n,k0)).1=n:=by unfold sU;split <;> rfl
   have e0:sU env (n,k0)=(n,(sU env (n,k0)).2):=by rw [Prod.ext_iff];exact ⟨e1,rfl⟩
   rw [e0,zF5]
   cases hx:x == n with
   | true=>exact ⟨_,rfl⟩
   | false=>
     rw [zF5,hx] at h
     exact ih h
def bj (X:Cx) (nv:List Str) (ix:List (Str×Nat)) (scope:Scope) (C:Addr) (s₀:Shared) (H₀:Hp) (fp:List Addr):Cx:=
 { X with N:=nv++ix.map (·.1),s₀:=s₀,H₀:=H₀,env:=compEnvC scope (dJ X.env scope.names []) C X.env,outer:=X.stack,stack:=X.stack,ex:=fp,fn:=fun _=>false,pn:=[],xe:=fun _ _=>False }
def frV (σ:St) (ix:List (Str×Nat)):St:=ix.map fun p=>(σ[p.2]?).join
def st0 (nv:List Str) (ix:List (Str×Nat)) (σ:St):St:=nv.map (fun _=>none)++frV σ ix
structure CompOk (X:Cx) (nv:List Str) (ix:List (Str×Nat)) (scope:Scope):Prop where
 kind:scope.kind=.function
 nocell:∀ y∈scope.names,y.2≠.cell
 names:∀ y∈scope.names,y.2=.local->scope.names.lookup y.1=some .local
 free:(scope.names.all fun y=>!(y.2 == NameKind.free)||(X.env.kindOf y.1 == some NameKind.cell||X.env.kindOf y.1 == some NameKind.free))=true
 ix:(ix.all fun p=>(scope.names.lookup p.1 == some NameKind.free)&&(X.N[p.2]? == some p.1))=true
section
variable {X:Cx} {nv:List Str} {ix:List (Str×Nat)} {scope:Scope} {pins:List (Addr×Obj)} {σ:St} {H:Hp} {s:Shared}
theorem CompOk.fk (co:.(52)) {y:Str×NameKind} (hy:y∈scope.names) (hf:y.2=.free):X.env.kindOf y.1=some .cell\/X.env.kindOf y.1=some .free:=by
 have q:=zI8.mp co.free y hy;rw [hf] at q;simpa using q
theorem CompOk.cells (co:.(52)) (ok:X.Ok):∀ y∈scope.names,y.2=.free->∃ c,X.env.cells.lookup y.1=some c:=fun y hy hf=>ok.has y.1 (co.fk hy hf)
theorem CompOk.look (co:.(52)) (ok:X.Ok) {n:Str} {c:Addr} (h:(dJ X.env scope.names []).lookup n=some c):X.env.cells.lookup n=some c:=
 fS _ _ (co.cells ok) (fun _ _ e=>by cases e) n c h
theorem CompOk.ixp (co:.(52)) {p:Str×Nat} (hp:p∈ix):scope.names.lookup p.1=some .free/\X.N[p.2]? = some p.1:=by
 have q:=Bool.and_eq_true_iff.mp (zI8.mp co.ix p hp);exact ⟨by simpa using q.1,by simpa using q.2⟩
theorem dG {α:Type}:∀ {l:List (Str×α)} {n:Str} {k:α},l.lookup n=some k->(n,k)∈l
 | [],_,_,h=>by cases h
 | (m,j)::r,n,k,h=>by
   rw [zF5] at h
   cases e:n == m with
   | true=>rw [e] at h;cases h;have:n=m:=by simpa using e
           rw [this];exact zA7
   | false=>rw [e] at h;exact zA9 _ (dG h)
theorem wx (co:.(52)) (I:.(10)) {fp:List Addr} {C:Addr} (hC:s.heap.objs.size<=C) (hf:∀ b∈fp,dY X pins H b) (hlt:∀ b∈fp,b<s.heap.objs.size):(bj X nv ix scope C s H fp).Ok where
 mod:=I.mod
 kind:=co.kind
 glob:=I.ok.glob
 blt:=I.ok.blt
 above:=hC
 inj:=fun x y c a b=>I.ok.inj x y c (co.look I.ok a) (co.look I.ok b)
 has:=fun x hk=>by
  have z:∃ k,(x,k)∈scope.names/\k=.free:=by
   rcases hk with hk | hk
   · obtain ⟨k,h1,_,h3⟩:=gn (env:=X.env) (names:=scope.names) hk;rcases h3 with h3 | ⟨h3,_⟩
     · exact absurd h3.symm (co.nocell _ h1)
     · exact ⟨k,h1,h3⟩
   · obtain ⟨k,h1,_,h3⟩:=gn (env:=X.env) (names:=scope.names) hk;rcases h3 with h3 | ⟨_,h3⟩
     · exact ⟨k,h1,h3.symm⟩
     · cases h3
  obtain ⟨k,h1,rfl⟩:=z;exact fz _ _ x (.inl h1)
 cab:=fun x c h _=>by cases h
 hd:=I.ok.hd
 frames:=I.ok.frames
 stk:=.inl rfl
 exf:=fun b hb=>⟨zC3 (zD7 (hlt b hb) hC),fun x c e=>(hf b hb).2.2.2.2.1 x c (co.look I.ok e)⟩
 bs:=fun b o e=>I.bs b o e
 bsz:=zD5 I.ok.bsz I.sz
 noex:=fun b o e hb=>by
  rcases (hf b hb).2.2.2.1 with z | z
  · exact I.ok.noex b o e z
  · exact absurd (zD7 .(44) (zD5 I.ok.bsz z)) (zG7 _)
 exfs:=fun b hb hs=>by
  rcases zB0.mp (I.stkSub b hs) with e | h
  · exact (hf b hb).2.1 e
  · exact (hf b hb).2.2.1 h
 funs:=I.stack
 frf:=I.stkFree
abbrev cA (its:List Value) (k:Nat):Obj:={ cls:=.type "list",data:=.seq its.toArray k }
theorem n4 {o:Option (Option V)} {v:V} (h:o.join=some v):o=some (some v):=by
 cases o with
 | none=>cases h
 | some o'=>exact congrArg some h
theorem iF (co:.(52)) (I:.(10)) {fp:List Addr} {h₁:Heap} {tk:Nat} {m:.(53)} (hf:∀ b∈fp,dY X pins H b) (hlt:∀ b∈fp,b<s.heap.objs.size)
 (hn:h₁.Ns .(17) m) (old:∀ b o,s.heap.get? b=some o->h₁.get? b=some o) (hD:h₁.get? s.heap.objs.size=some (cA [] 0)) :
 Inv .(11) [(s.heap.objs.size,cA [] 0)] .(98) H { s with heap:=h₁,toks:=tk } where
 ok:=wx co I (Nat.le_succ _) hf hlt
 os:=rfl
 bare:=I.bare
 base:=Un.kept old
 loc:=by
  refine ⟨m,hn,fun i x v e1 e2 hv=>?_⟩;obtain ⟨m₀,_,hl⟩:=I.loc;have e1':(nv++ix.map (·.1))[i]? = some x:=e1;unfold st0 at e2;by_cases hi:i<nv.length
  · rw [List.getElem?_append_left (by rw [zA0];exact hi),List.getElem?_map] at e2
    cases q:nv[i]? with
    | none=>rw [q] at e2;cases e2
    | some z=>rw [q] at e2;cases e2
  · have hi':nv.length<=i:=Nat.not_lt.mp hi;rw [List.getElem?_append_right hi',List.getElem?_map] at e1';rw [List.getElem?_append_right (by rw [zA0];exact hi'),zA0] at e2;unfold frV at e2;rw [List.getElem?_map] at e2
    cases q:ix[i - nv.length]? with
    | none=>rw [q] at e1';cases e1'
    | some p=>
      rw [q] at e1' e2
      have hp:p∈ix:=zH7 q
      have ex:p.1=x:=Option.some.inj e1'
      have ev:σ[p.2]? = some (some v):=n4 (Option.some.inj e2)
      obtain ⟨f1,f2⟩:=co.ixp hp
      have hk:=co.fk (dG f1) rfl
      obtain ⟨u,r,l⟩:=hl p.2 p.1 v f2 ev (hk.elim (fun z=>.inr (.inl z)) fun z=>.inr (.inr z))
      refine ⟨u,r,.inr ⟨?_,?_⟩⟩
      · obtain ⟨k',hk'⟩:=sT (env:=X.env) f1;obtain ⟨k,h1,h2,h3⟩:=gn hk';rw [f1] at h2
        cases h2
        rw [← ex];rcases h3 with h3 | ⟨_,h3⟩
        · exact .inr (hk'.trans (congrArg some h3))
        · exact .inl (hk'.trans (congrArg some h3))
      · obtain ⟨c,hc⟩:=fz (env:=X.env) scope.names [] p.1 (.inl (dG f1));refine ⟨c,by rw [← ex];exact hc,?_⟩;have hc':=co.look I.ok hc;rcases l with ⟨z,_⟩ | ⟨_,c',z1,o,z2,z3⟩
        · have z':X.env.kindOf p.1=some .local:=z;rcases hk with hk | hk
          · have hk':X.env.kindOf p.1=some .cell:=hk;rw [z'] at hk';cases hk'
          · have hk':X.env.kindOf p.1=some .free:=hk;rw [z'] at hk';cases hk'
        · rw [hc'] at z1
          cases z1
          exact ⟨o,old _ _ z2,z3⟩
 cell:=fun x c e=>by
  obtain ⟨v,o,h1,h2⟩:=I.cell x c (co.look I.ok e);exact ⟨v,o,old _ _ h1,h2⟩
 free:=I.hok.fresh (Nat.le_succ _)
 freeC:=fun x c e=>I.freeC x c (co.look I.ok e)
 pin:=fun p hp=>by
  have e:p=(s.heap.objs.size,cA [] 0):=by simpa [bj] using hp
  subst e;refine ⟨hD,I.hok.fresh (zA1 _),zC3 (zF6 _),fun hb=>?_,fun v z=>by cases z⟩;rcases zB0.mp (I.stkSub _ hb) with e | h
  · exact absurd I.lt (by rw [← e];exact zG7 _)
  · exact I.nofs (zA1 _) h
 hok:=I.hok.kept old
 len:=by
  show (nv.map (fun _=>none)++frV σ ix).length=(nv++ix.map (·.1)).length;unfold frV;simp
theorem Inv.track {D:Addr} {ys its:List _} {k:Nat} (I:.(10)) (rv:Vals ys its) (hz:ys.length<=sizeLine) (e:s.heap.get? D=some (cA its k)) (hn:H D=none) (hd:dY X pins H D):Inv X pins σ (upd H D (.lst ys)) s:=by
 have nD:∀ b u,H b=some u->b≠D:=fun b u q z=>by rw [z,hn] at q;cases q
 obtain ⟨h1,h2,h3,h4,h5,h6⟩:=hd;refine I.step (s:=s) (h':=s.heap) (g':=s.gens) (t':=s.toks) (d':=s.drawn) (ch:=[D]) (fun b hb=>?_) (fun b o _ _ _ q _=>q) (fun b o _ _ _ q _=>⟨o.slots,q⟩) (fun b o hb _ q=>?_) (fun b o _ q=>⟨o,q⟩)
  (fun b xs q=>by rw [au (nD b _ q)];exact q) (fun b o u q=>by rw [au (nD b _ q)];exact q) (fun b ps q=>⟨#[],by rw [au (nD b _ q),q];simp⟩) (fun m hm=>hm) (fun b u q=>?_) I.bare
 · have e:b=D:=by simpa using hb
   subst e;exact ⟨h4,h2,h5,h6⟩
 · rw [au (fun z=>hb (by simp [z]))];exact q
 · by_cases hb:b=D
   · subst hb;rw [ae] at q
     cases q
     exact ⟨hz,its,k,rv,e⟩
   · rw [au hb] at q;exact (I.hok b u q).stay (fun c v _ r=>r) (fun c r=>by rw [au (nD c _ r)];exact r) fun c xs r=>by rw [au (nD c _ r)];exact r
theorem oM {ps2:.(26)} {σ2:St} {H':Hp} {s':Shared} {fp:List Addr} {C:Addr} (I:.(10)) (hf:∀ b∈fp,dY X pins H b) (Ic:Inv (bj X nv ix scope C s H fp) ps2 σ2 H' s'):Inv X pins σ H' s':=
 I.call' (ch:=fp) Ic.os Ic.base Ic.hok Ic.bare fun b hb=>⟨(hf b hb).2.2.2.1,(hf b hb).2.1,(hf b hb).2.2.2.2.1,(hf b hb).2.2.2.2.2⟩
def PIf (X:Cx) (ifs:List Expr) (t:TT):Prop:=
 ∀ (pins:List (Addr×Obj)) (s:Shared) (σ:St) (H:Hp) (Q:Bool->Hp->Prop),Inv X pins σ H s->t σ H Q ->
   wpAny .(15) X.A (forIn ifs true fun c r=>if r=true then do let ok ← isTrue c X.env (eval c X.env);pure (ForInStep.yield ok) else pure (ForInStep.yield r)) (TP X pins σ Q) X.xe s
@[irreducible] def ZIf (X:Cx) (ifs:List Expr) (t:TT):Prop:=PIf X ifs t
def tYes:TT:=fun _ H Q=>Q true H
theorem vn:PIf X [] tYes:=fun _ _ _ H _ I h=>wpAny_tests_nil ⟨H,I,h⟩
theorem aN:ZIf X [] tYes:=by with_unfolding_all exact vn
theorem nt {c:Expr} {t:TT} (h:PT X c t):PIf X [c] t:=fun pins s σ H Q I q=>wpAny_tests_one (h pins s σ H Q I q)
theorem lO {c:Expr} {t:TT} (h:ZT X c t):ZIf X [c] t:=by with_unfolding_all exact nt h
end
section
variable {prog:Program} {w:World} {A:Around} {E:Value->Shared->Prop} {R:Result->Shared->Prop} {s:Shared}
theorem jh {elt target iter:Expr} {ifs:List Expr} {scope:Scope} {pos:Pos} {it acc:Value} {env:Env} (I:Nat->Shared->Prop)
 (turn:∀ n s,I n s->wpAny .(9) A (pyNext it) (fun r s₁=>match r with
   | none=>R (.ok .next) s₁
   | some v=>wpAny (model prog w) A (letOwnedTupleGo target it v) (fun _ s₁'=>wpAny (model prog w) A (assign target env v) (fun _ s₂=>
    wpAny .(9) A (forIn ifs true fun c r=>if r=true then do let ok ← isTrue c env (eval c env);pure (ForInStep.yield ok) else pure (ForInStep.yield r)) (fun ok s₃=>
     if ok=true then wpAny .(9) A (eval elt env) (fun x s₄=>
      wpAny .(9) A (call (.builtin "list.append") [acc,x]) (fun _ s₅=>∃ m,m<n/\I m s₅) .(59) s₄) .(59) s₃
     else ∃ m,m<n/\I m s₃) .(59) s₂) .(59) s₁') .(59) s₁) .(59) s)
 (n:Nat) (h:I n s) :
 codeAny .(9) A (.compLoop (.ListComp elt [⟨target,iter,ifs,0⟩] scope pos) 0 it acc env) R s:=by
 refine codeAny_loop rfl I (fun n s hI=>?_) n h;show wpAny _ A ((compTurn (.ListComp elt [⟨target,iter,ifs,0⟩] scope pos) 0 it acc env).onRaise (fun x=>do noteFrame x env;theTreesLotGoes x)) _ _ s;refine wpAny_noted ?_;rw [compTurn_list];sleep 15
 cases r with
 | none=>exact wpAny_pure h₁
 | some v=>
   sleep 39
   sleep 8
   cases ok with
   | false=>exact wpAny_pure ⟨rfl,h₃⟩
   | true=>
     exact wpAny_bind .(58)
end
section
variable {X:Cx} {nv:List Str} {ix:List (Str×Nat)} {scope:Scope} {pins:List (Addr×Obj)} {σ:St} {H:Hp} {s:Shared} {elt tg iter:Expr} {ifs:List Expr} {pos:Pos}
def Kp (σ σ2:St):Prop:=σ.length=σ2.length/\∀ (i:Nat) v,σ[i]? = some (some v)->σ2[i]? = some (some v)
def KpG (nv:List Str) (g:TG):Prop:=∀ (fr:St) (v:V) (H:Hp) (Q:St->Hp->Prop),g v (nv.map (fun _=>none)++fr) H Q->g v (nv.map (fun _=>none)++fr) H fun σ2 H2=>Kp (nv.map (fun _=>none)++fr) σ2/\Q σ2 H2
theorem aQ {x:Str}:KpG [x] (dW 0):=fun fr v H Q h=>by
 refine ⟨⟨by simp,fun i w e=>?_⟩,h⟩
 cases i with
 | zero=>cases e
 | succ i=>exact e
def su (nv:List Str) (ix:List (Str×Nat)) (g:TG) (ti:TT) (te:TE) (σ:St) (J:It) (Fin:.(88)) (H1:Hp):Prop:=
 ∃ W:Nat->Nat->List V->Hp->Prop,(∃ m,W 0 m [] H1)/\∀ i m ys H,W i m ys H ->
   (J.stop i H/\Fin ys H)\/(J.go i H/\ys.length<sizeLine/\∃ N:List V->Hp->Prop,(∀ ys' H',N ys' H'->∃ m',m' < m/\W (i+1) m' ys' H') /\
     ∀ x H',J.yld i H x H'->g x .(98) H' fun σ2 H2=>ti σ2 H2 fun b H3=>if b=true then te σ2 H3 fun y H4=>N (ys++[y]) H4 else N ys H3)
theorem kn {J:It} {fp:List Addr} {it:Addr} {tn:Nat->Heap->Prop} {g:TG} {ti:TT} {te:TE} {Fin:.(88)} {E:.(14)} {RR:Value->Addr->Result->Shared->Prop}
 (co:.(52)) (hc:X.calm=true) (I:.(10)) (T:Turn X.prog X.w X.K tg J fp it tn) (st:tn 0 s.heap) (hf:∀ b∈fp,dY X pins H b)
 (kg:KpG nv g) (hg:∀ C s₀ H₀ fp,PG .(7) tg g) (hi:∀ C s₀ H₀ fp,PIf .(7) ifs ti) (he:∀ C s₀ H₀ fp,PE .(7) elt te)
 (q:su nv ix g ti te σ J Fin H)
 (fin:.(63)) :
 wpAny .(15) X.A (newList []) (fun acc s₃=>wpAny .(15) X.A (newFunctionEnv scope X.env.globals (dJ X.env scope.names []) [] X.env.qual none .none (some X.env)) (fun cenv s₄=>
  codeAny .(15) X.A (.compStart .(22) 0 (.ref it) acc { cenv with scope:=relabel scope X.env }) (RR acc cenv.locals) s₄) E s₃) E s:=by
 obtain ⟨W,⟨m0,w0⟩,turn⟩:=q;refine wpAny_newObj_type (wpAny_newFunctionEnv co.nocell (by intro y hy;simp at hy) (fun h₁ hns₁ hsb₁=>?_) co.kind);dsimp only at hns₁ hsb₁ ⊢;generalize hH2:s.heap.push { cls:=.type "list",dict:=none,data:=.seq ([]:List Value).toArray }=H2 at hns₁ hsb₁ ⊢;have hC:H2.objs.size=s.heap.objs.size+1:=by rw [← hH2,Heap.size_push]
 rw [hC] at hns₁ hsb₁ ⊢;have hDC:s.heap.objs.size≠s.heap.objs.size+1:=zC3 (zF6 _);have below:∀ b,b<s.heap.objs.size->b≠s.heap.objs.size+1/\b≠s.heap.objs.size:=fun b hb=>⟨zC3 (zH3 hb),zC3 hb⟩
 sleep 30;have hacc:h₁.get? s.heap.objs.size=some (cA [] 0):=hsb₁.extBut _ _ hDC (Heap.get?_push_of_some _ (hH2▸Heap.get?_push_size _ rfl));have hlt:∀ b∈fp,b<s.heap.objs.size:=fun b hb=>by
  obtain ⟨o,e,_⟩:=T.obj 0 _ st b hb;exact Heap.lt_size e
 have I₁:=fun tk=>iF (tk:=tk) co I hf hlt hns₁ old hacc;have st₁:tn 0 h₁:=T.keep 0 _ _ st fun b _ o e=>old b o e;have fpD:∀ {H':Hp},H' s.heap.objs.size=none->dY X pins H' s.heap.objs.size:=fun hn=>I.fpOk (zA1 _) hn;have loop:∀ tk:Nat,codeAny .(15) X.A (.compLoop .(22) 0 (.ref it) .(21) (compEnvC scope (dJ X.env scope.names []) .(17) X.env))
  (RR .(21) .(17)) { s with heap:=h₁,toks:=tk }:=by
  intro tk;refine jh (fun n s'=>∃ i H' ys its k,Inv .(11) [.(36)] .(98) H' s'/\Vals ys its/\ys.length<=sizeLine/\tn i s'.heap/\.(55)/\W i n ys H')
   ?_ m0 ⟨0,H,[],[],0,I₁ tk,.nil,zC5 _,st₁,fun b hb=>(hf b hb).1,w0⟩
  rintro n s3 ⟨i,H3,ys,its,k,I3,rv,hz,st3,fr3,w3⟩;have fpc:∀ {H':Hp} {its:List Value} {k:Nat},.(55)->∀ b∈fp,dY .(11) [.(36)] H' b:=fun {H' its k} hn b hb=>by
   refine ⟨hn b hb,(below b (hlt b hb)).1,fun hs=>?_,.inl hb,fun x c e=>(hf b hb).2.2.2.2.1 x c (co.look I.ok e),fun p hp z=>?_⟩
   · rcases zB0.mp (I.stkSub b hs) with e | h
     · exact (hf b hb).2.1 e
     · exact (hf b hb).2.2.1 h
   · have e:p=.(36):=by simpa [bj] using hp
     subst e;exact (below b (hlt b hb)).2 z.symm
  have pD:=fun {ps:List (Addr×Obj)} {σ':St} {H':Hp} {s':Shared} (I':Inv .(11) (.(36)::ps) σ' H' s')=>
   I'.pin .(36) (zB3 _ zA7)
  rcases turn i n ys H3 w3 with ⟨stop,fin0⟩ | ⟨go,hlt',N,hN,step⟩
  · refine thn (T.done .(11) rfl rfl rfl hc i _ s3 _ H3 _ I3 (fpc fr3) st3 stop) fun r s4 ⟨hr,I4⟩=>?_;subst hr;obtain ⟨p1,p2,_⟩:=pD I4;have I5:=(oM I hf I4).track rv hz p1 p2 (fpD p2);obtain ⟨mC,hmC,_⟩:=I4.loc;exact fin _ _ s4 H3 ys I5 p2 fin0 ⟨mC,hmC⟩ (I.fpOk (Nat.le_succ _) (by rw [au (Ne.symm hDC)];exact I4.free))
  · refine thn (T.item .(11) rfl rfl rfl hc i _ s3 _ H3 _ I3 (fpc fr3) st3 go) fun r s4 ⟨u,hr,h4⟩=>?_;subst hr;refine thn h4 fun _ s5 ⟨x,H5,I5,r5,y5,st5,fr5⟩=>?_;have I5':=I5.pinned (fpc fr5) (T.obj _ _ st5);refine thn (hg _ _ _ _ _ s5 _ H5 x u _ I5' r5 (kg _ _ _ _ (step x H5 y5))) fun _ s6 ⟨σ6,H6,I6,kp,q6⟩=>?_;refine thn (hi _ _ _ _ _ s6 σ6 H6 _ I6 q6) fun b s7 ⟨H7,I7,q7⟩=>?_;have again:∀ {s7:Shared} {H7:Hp} {ys' its':List _} {k':Nat},Inv .(11) ([(s.heap.objs.size,cA its' k')]++bJ fp s5.heap) σ6 H7 s7->Vals ys' its'->ys'.length<=sizeLine->N ys' H7 ->
     ∃ m,m<n/\∃ i H' ys its k,Inv .(11) [.(36)] .(98) H' s7/\Vals ys its/\ys.length<=sizeLine/\tn i s7.heap/\.(55)/\W i m ys H':=fun {s7 H7 ys' its' k'} I8 rv' hz' n8=>by
     obtain ⟨m',hm,w8⟩:=hN _ _ n8;sleep 19;sleep 10;obtain ⟨o,e,d⟩:=T.obj _ _ st5 b hb;exact (pn b o hb e).2.1
    cases b with
    | false=>
      rw [if_neg zC9] at q7 ⊢
      exact again I7 rv hz q7
    | true=>
      rw [if_pos rfl] at q7 ⊢
      refine thn (he _ _ _ _ _ s7 σ6 H7 _ I7 q7) fun u8 s8 ⟨y,H8,I8,r8,q8⟩=>?_
      obtain ⟨p1,p2,p3,p4,p5⟩:=pD I8
      refine append_at (hsz:=by rw [zA8,← rv.length];exact Nat.le_of_lt hlt') p1 fun h9 hs9 hD9=>?_
      have I9:Inv .(11) (bJ fp s5.heap) σ6 H8 { s8 with heap:=h9 }:=by
       have Iu:Inv .(11) (bJ fp s5.heap) σ6 H8 s8:=I8.pins_of fun p hp=>I8.pin p (zB3 _ (zB3 _ hp));refine Iu.turned (t':=s8.toks) (it:=s.heap.objs.size) (fun b o hb e=>(hs9.2 b hb).trans e) p2 p3 (.inr (zA1 _)) (fun x c e z=>?_) fun p hp z=>?_
       · obtain ⟨v,o,e1,_⟩:=I.cell x c (co.look I.ok e);exact absurd (Heap.lt_size e1) (by rw [z];exact zG7 _)
       · have hp':p∈bJ fp s5.heap:=by simpa [bj] using hp
         obtain ⟨hb,_⟩:=df hp';exact (below _ (hlt _ hb)).2 z
      have I10:Inv .(11) ([(s.heap.objs.size,cA (its++[u8]) (k+1))]++bJ fp s5.heap) σ6 H8 { s8 with heap:=h9 }:=
       I9.pins_of fun p hp=>by
        rcases zD4.mp hp with hp | hp
        · have e:p=(s.heap.objs.size,cA (its++[u8]) (k+1)):=by simpa using hp
          subst e;refine ⟨?_,p2,p3,p4,fun v z=>by cases z⟩;rw [List.push_toArray] at hD9;exact hD9
        · exact I9.pin p (zB3 _ hp)
      exact again I10 (rv.append (.cons r8 .nil)) (by rw [zA5,zK1];exact hlt') q8
 exact codeAny_compStart_list (loop _) (T.self _ 0 _ _ _ st₁ (loop _))
def qc (nv:List Str) (ix:List (Str×Nat)) (wi:TI) (g:TG) (ti:TT) (te:TE):TE:=fun σ H Q=>wi σ H fun J H1=>su nv ix g ti te σ J (fun ys H2=>∀ D,H2 D=none->Q (.ref D) (upd H2 D (.lst ys))) H1
theorem nC {wi:TI} {g:TG} {ti:TT} {te:TE} (nv:List Str) (ix:List (Str×Nat)) (hc:X.calm=true) (co:.(52)) (hit:PI X tg iter wi) (kg:KpG nv g) (hg:∀ C s₀ H₀ fp,PG .(7) tg g)
 (hi:∀ C s₀ H₀ fp,PIf .(7) ifs ti) (he:∀ C s₀ H₀ fp,PE .(7) elt te)
 (hs:∀ x,foldedSetIterable iter X.env x=pure x:=by intro _;rfl):PE X .(22) (qc nv ix wi g ti te):=by
 sleep 11;rw [eval_ListComp];sleep 34;obtain ⟨it,fp,tn,J,H2,e,I2,T,st2,f2,q⟩:=h2;subst e;refine kn co hc I2 T st2 f2 kg hg hi he q fun D C s' H' ys I' hD fin ⟨m,hm⟩ hC=>?_;obtain ⟨c0,c1,c2,c3,c4,c5⟩:=hC;exact ⟨m,hm,fun h' hs'=>⟨.ref D,_,I'.turned (t':=s'.toks) (fun b o hb e=>(hs'.2 b hb).trans e) c0 c1 c3 c4 c5,rfl,fin D hD⟩⟩
theorem aV {wi:TI} {g:TG} {ti:TT} {te:TE} (nv:List Str) (ix:List (Str×Nat)) (hc:X.calm=true) (co:.(52)) (hit:ZI X tg iter wi) (kg:KpG nv g) (hg:∀ C s₀ H₀ fp,ZG .(7) tg g)
 (hi:∀ C s₀ H₀ fp,ZIf .(7) ifs ti) (he:∀ C s₀ H₀ fp,ZE .(7) elt te)
 (hs:∀ x,foldedSetIterable iter X.env x=pure x:=by intro _;rfl):ZE X .(22) (qc nv ix wi g ti te):=by with_unfolding_all exact nC nv ix hc co hit kg hg hi he hs
theorem kN {wi:TI} {g:TG} {ti:TT} {te:TE} {i:Nat} {y:Str} {py spos:Pos} (nv:List Str) (ix:List (Str×Nat)) (hc:X.calm=true) (hN:X.N.Nodup) (hi':X.N[i]? = some y) (hy:Loc X.env.scope y) (co:.(52)) (hit:PI X tg iter wi) (kg:KpG nv g)
 (hg:∀ C s₀ H₀ fp,PG .(7) tg g) (hi:∀ C s₀ H₀ fp,PIf .(7) ifs ti) (he:∀ C s₀ H₀ fp,PE .(7) elt te)
 (hsw:swapsWith .(22) (some (.Name y py)) spos.line X.env=pure true:=by rfl)
 (hs:∀ x,foldedSetIterable iter X.env x=pure x:=by intro _;rfl) (hfn:X.fn y=true\/X.env.scope.names.lookup y=some .local:=by first | exact .inl rfl | exact .inr rfl | assumption) :
 PS X (.Assign [.Name y py] .(22) spos) (wQ (qc nv ix wi g ti te) (dW i)):=by
 sleep 31;rw [exec_Assign_Name_used _ _ _ _ hsw];refine wpAny_bind (wpAny_standAt (wpAny_bind ?_));show wpAny _ X.A (do let _ ← comprehension .(22) scope X.env _ (newList []) false (eval iter X.env) (some (assign (.Name y py) X.env))) _ _ s;refine wpAny_bind (wpAny_mono (wpAny_comprehension_free (use:=some (assign (.Name y py) X.env)) (Q:=fun _ s'=>SP X pins D .next s') rfl hs (dL (co.cells I.ok)) co.kind co.names
  (thn (hit pins s σ H _ I h) fun v s1 h1=>thn h1 fun itv s2 h2=>?_)) (fun _ s' hq=>wpAny_pure (wpAny_pure hq)) fun _ _ e=>e)
 obtain ⟨it,fp,tn,J,H2,e,I2,T,st2,f2,q⟩:=h2;subst e;refine kn co hc I2 T st2 f2 kg hg hi he q fun DD C s' H' ys I' hD fin ⟨m,hm⟩ hC=>?_;obtain ⟨c0,c1,c2,c3,c4,c5⟩:=hC;show wpAny _ X.A (assign (.Name y py) X.env (.ref DD)) _ _ s';refine wpAny_assign_Name (gR I' hN hi' hy (show RelV (.ref DD) (.ref DD) from rfl) (fun s'' I'' ⟨a,sb,ha⟩=>?_) hfn);have hCa:C≠a:=by
  rcases ha with rfl | ha
  · exact c1
  · exact fun z=>c4 y a ha z.symm
 refine ⟨m,hm.sameBut sb hCa,fun h' hs'=>⟨_,_,I''.turned (t':=s''.toks) (fun b o hb e=>(hs'.2 b hb).trans e) c0 c1 c3 c4 c5,fin DD hD⟩⟩
theorem cC {wi:TI} {g:TG} {ti:TT} {te:TE} {i:Nat} {y:Str} {py spos:Pos} (nv:List Str) (ix:List (Str×Nat)) (hc:X.calm=true) (hN:X.N.Nodup) (hi':X.N[i]? = some y) (hy:Loc X.env.scope y) (co:.(52)) (hit:ZI X tg iter wi) (kg:KpG nv g)
 (hg:∀ C s₀ H₀ fp,ZG .(7) tg g) (hi:∀ C s₀ H₀ fp,ZIf .(7) ifs ti) (he:∀ C s₀ H₀ fp,ZE .(7) elt te)
 (hsw:swapsWith .(22) (some (.Name y py)) spos.line X.env=pure true:=by rfl)
 (hs:∀ x,foldedSetIterable iter X.env x=pure x:=by intro _;rfl) (hfn:X.fn y=true\/X.env.scope.names.lookup y=some .local:=by first | exact .inl rfl | exact .inr rfl | assumption) :
 ZS X (.Assign [.Name y py] .(22) spos) (wQ (qc nv ix wi g ti te) (dW i)):=by with_unfolding_all exact kN nv ix hc hN hi' hy co hit kg hg hi he hsw hs hfn
end
section
variable {nv:List Str} {ix:List (Str×Nat)} {σ:St} {H:Hp} {g:TG} {ti:TT} {te:TE} {Fin:List V->Hp->Prop} {K:PySem.W.Frag} {a:Addr} {xs:List V}
theorem cH (Pv:.(94)) (h0:Pv 0 [] H) (hl:∀ i ys H,i<=xs.length->Pv i ys H->SqL K H a xs)
 (hs:∀ i x ys H,xs[i]? = some x->Pv i ys H->ys.length<sizeLine/\g x .(98) H fun σ2 H2=>ti σ2 H2 fun b H3=>if b=true then te σ2 H3 fun y H4=>Pv (i+1) (ys++[y]) H4 else Pv (i+1) ys H3)
 (hd:∀ ys H,Pv xs.length ys H->Fin ys H):su nv ix g ti te σ (Itl K a) Fin H:=by
 refine ⟨fun i m ys H=>m=xs.length - i/\i<=xs.length/\Pv i ys H,.(86),?_⟩;rintro i m ys H ⟨rfl,hi,p⟩;have q:=hl i ys H hi p;by_cases hlt:i<xs.length
 · have e:=hs i xs[i] ys H (by simp [hlt]) p;refine .inr ⟨.(74),e.1,Pv (i+1),fun σ' H' p'=>.(56),fun x H' y=>?_⟩;obtain ⟨e',y⟩:=y;subst e';exact (hs i x ys _ (y xs q) p).2
 · have e:i=xs.length:=by lia
   subst e;exact .inl ⟨⟨xs,q,zA1 _⟩,hd ys H p⟩
theorem cR (Pv:.(94)) (h0:Pv 0 [] H) (hl:∀ i ys H,i<=xs.length->Pv i ys H->SqT K H a xs)
 (hs:∀ i x ys H,xs[i]? = some x->Pv i ys H->ys.length<sizeLine/\g x .(98) H fun σ2 H2=>ti σ2 H2 fun b H3=>if b=true then te σ2 H3 fun y H4=>Pv (i+1) (ys++[y]) H4 else Pv (i+1) ys H3)
 (hd:∀ ys H,Pv xs.length ys H->Fin ys H):su nv ix g ti te σ (Itt K a) Fin H:=by
 refine ⟨fun i m ys H=>m=xs.length - i/\i<=xs.length/\Pv i ys H,.(86),?_⟩;rintro i m ys H ⟨rfl,hi,p⟩;have q:=hl i ys H hi p;by_cases hlt:i<xs.length
 · have e:=hs i xs[i] ys H (by simp [hlt]) p;refine .inr ⟨.(74),e.1,Pv (i+1),fun σ' H' p'=>.(56),fun x H' y=>?_⟩;obtain ⟨e',y⟩:=y;subst e';exact (hs i x ys _ (y xs q) p).2
 · have e:i=xs.length:=by lia
   subst e;exact .inl ⟨⟨xs,q,zA1 _⟩,hd ys H p⟩
theorem iG {lo:Int} {n:Nat} (Pv:.(94)) (h0:Pv 0 [] H)
 (hs:∀ i ys H,i<n->Pv i ys H->ys.length<sizeLine/\g (.int (lo+i)) .(98) H fun σ2 H2=>ti σ2 H2 fun b H3=>if b=true then te σ2 H3 fun y H4=>Pv (i+1) (ys++[y]) H4 else Pv (i+1) ys H3)
 (hd:∀ ys H,Pv n ys H->Fin ys H):su nv ix g ti te σ (Itr lo n) Fin H:=by
 refine ⟨fun i m ys H=>m=n - i/\i<=n/\Pv i ys H,⟨n,by simp,zC5 _,h0⟩,?_⟩;rintro i m ys H ⟨rfl,hi,p⟩;by_cases hlt:i<n
 · refine .inr ⟨hlt,(hs i ys H hlt p).1,Pv (i+1),fun σ' H' p'=>⟨n - (i+1),by lia,rfl,hlt,p'⟩,fun x H' y=>?_⟩;obtain ⟨e',y⟩:=y;subst e' y;exact (hs i ys _ hlt p).2
 · have e:i=n:=by lia
   subst e;exact .inl ⟨zA1 _,hd ys H p⟩
end
theorem Same.new {H:Hp} {p:Addr} (h:H p=none) (o:HO):Same H (upd H p o):=fun b u q=>by rw [au (aM q h)];exact q
section
variable {X:Cx} {a b c:Expr} {ta tb tc:TE} {pos:Pos}
theorem vE:OpR X (binaryOp .Mult) (rI (fun i j=>IntMulOk i j) fun i j=>.int (i*j)):=opI fun _ _ _ _ _ _ _ hc q=>mul_int q hc
end
section
variable {prog:Program} {w:World} {A:Around} {E:Value->Shared->Prop} {s:Shared}
theorem cQ {t sl:Addr} {items:Array Value} {vl vu:Value} {lo hi:Option Int} {Q:.(14)} (ht:IsTup s.heap t items) (hs:s.heap.IsSliceOf sl vl vu .none) (pl:IsPart vl lo) (pu:IsPart vu hi)
 (hw:HT.sIx items.size 0 lo=0/\HT.sIx items.size items.size hi=items.size)
 (h:Q (.ref t) s):wpAny .(9) A (getItem (.ref t) (.ref sl)) Q E s:=by
 obtain ⟨os,hos,hcs,hds⟩:=id hs;have hTs:s.TypeIs (.ref sl) "slice":=⟨os,hos,hcs⟩
 unfold getItem;try with_reducible refine wpAny_holding ?_
 first | refine wpAny_bind (wpAny_pure ?_) | skip
 refine wpAny_bind (wpAny_sequenceKey ht.typeIs (by decide) ?_);refine wpAny_bind (wpAny_callSpecial?_slot (name:=Str.ofString "__getitem__") ht.typeIs PyProof.Rows.slot_tuple_getitem
  (wpAny_call_entry PyProof.Rows.slot_tuple_getitem ht.typeIs entry_tuple_getitem ?_ (args_tuple_getitem _ _)))
 show wpAny _ _ (Builtin.Tuple.tupleItemsOf (.ref t) >>= _) _ _ s;refine wpAny_bind (tupleItemsOf_ ht ?_);refine wpAny_bind (wpAny_typeOf hTs ?_);rw [if_pos (by decide)];refine wpAny_bind (HT.sliceApplied_gen hs pl pu ?_);have hyes:(.(92)=true):=by
  rw [hw.1,hw.2];simp
 show wpAny _ _ (if .(92)=true then _ else _) _ _ s;rw [if_pos hyes];refine wpAny_bind (m:=Builtin.Tuple.tupleIsExact _) ?_;unfold Builtin.Tuple.tupleIsExact;refine wpAny_bind (wpAny_typeOf ht.typeIs (wpAny_pure ?_));rw [if_pos (by decide)];exact wpAny_bind (wpAny_rule (wpAny_pure ⟨_,rfl,wpAny_pure h⟩))
end
section
variable {X:Cx} {a b c:Expr} {ta tb tc:TE} {pos:Pos}
def rSlP (K:PySem.W.Frag):V->Option Int->Option Int->Hp->VK->Prop:=fun x lo hi H Q=>∃ a,x=.ref a/\((∃ xs,H a=some (.tup xs)/\∀ r H',Same H H'->H' r=some (.tup (fG xs lo hi))->Q (.ref r) H') \/
 ∃ xs,SqL K H a xs/\∀ p,H p=none->Q (.ref p) (upd H p (.lst (fG xs lo hi))))
theorem sl_P:SlR X (rSlP X.K):=by
 intro pins s σ H x v vl vu lo hi sl Q I rx hs pl pu h;obtain ⟨a,rfl,⟨xs,hx,q⟩ | ⟨xs,hx,q⟩⟩:=h
 · by_cases hw:HT.sIx xs.length 0 lo=0/\HT.sIx xs.length xs.length hi=xs.length
   · cases rx
     obtain ⟨its,r,ht,hz⟩:=I.tuple (SqT.of hx);have hlen:its.toArray.size=xs.length:=by rw [zA8];exact r.length.symm
     refine ⟨"tuple",_,PyProof.Rows.slot_tuple_getitem.lookup,ht.typeIs,?_⟩;refine cQ ht hs pl pu (by rw [hlen];exact hw) ⟨.ref a,H,I,rfl,q a H (Same.refl H) ?_⟩;rw [hx];unfold fG;rw [hw.1,hw.2,List.drop_zero,Nat.sub_zero,zB8 (zA1 _)]
   · exact sl_tup pins s σ H _ v vl vu lo hi sl Q I rx hs pl pu ⟨a,xs,rfl,SqT.of hx,hw,fun p hp=>q p _ (Same.new hp _) ae⟩
 · exact uL pins s σ H _ v vl vu lo hi sl Q I rx hs pl pu ⟨a,xs,rfl,hx,q⟩
theorem PE.imp {e:Expr} {t t':TE} (h:PE X e t) (i:∀ σ H Q,t' σ H Q->t σ H Q):PE X e t':=fun pins s σ H Q I q=>h pins s σ H Q I (i σ H Q q)
theorem OpR.imp {f:Value->Value->Sem Value} {r r':R2} (h:OpR X f r) (i:∀ x y H Q,r' x y H Q->r x y H Q):OpR X f r':=fun pins s σ H x y v u Q I rx ry q=>h pins s σ H x y v u Q I rx ry (i x y H Q q)
def tV (i:Nat):TE:=fun σ H Q=>match σ[i]? with | some (some v)=>Q v H | _=>False
theorem tV_var {i:Nat} (σ:St) (H:Hp) (Q:VK) (h:tV i σ H Q):tVar i σ H Q:=by
 unfold tV at h;split at h
 · exact ⟨_,by assumption,h⟩
 · exact h.elim
theorem pn (i:Nat) {x:Str} {pos:Pos} (hN:X.N[i]? = some x:=by rfl) (hv:Vis X.env.scope x:=by first | exact Or.inl rfl | exact Or.inr .(12) | exact Or.inr (Or.inr rfl)) (hd:.(34)=false:=by decide)
 (hcd:(x == ("__classdict__" : Str))=false:=by decide):PE X (.Name x pos) (tV i):=(pe_var hN hv hd hcd).imp tV_var
theorem zn (i:Nat) {x:Str} {pos:Pos} (hN:X.N[i]? = some x:=by rfl) (hv:Vis X.env.scope x:=by first | exact Or.inl rfl | exact Or.inr .(12) | exact Or.inr (Or.inr rfl)) (hd:.(34)=false:=by decide)
 (hcd:(x == ("__classdict__" : Str))=false:=by decide):ZE X (.Name x pos) (tV i):=by with_unfolding_all exact pn i hN hv hd hcd
def u5 (K:PySem.W.Frag):R2:=fun x y H Q=>match x,y with
 | .int i,.int j=>Q (.int (i+j)) H
 | .str i,.str j=>i.length+j.length<=sizeLine/\Q (.str (i++j)) H
 | .ref a,.ref b=>(∃ xs ys,H a=some (.lst xs)/\H b=some (.lst ys)/\xs.length+ys.length<=sizeLine/\∀ p,H p=none->Q (.ref p) (upd H p (.lst (xs++ys)))) \/
  ∃ xs ys,H a=some (.tup xs)/\H b=some (.tup ys)/\xs.length+ys.length<=sizeLine/\∀ r H',Same H H'->H' r=some (.tup (xs++ys))->Q (.ref r) H'
 | _,_=>False
theorem qY:OpR X (binaryOp .Add) (fun x y H Q=>∃ a b xs ys,x=.ref a/\y=.ref b/\H a=some (.tup xs)/\H b=some (.tup ys)/\xs.length+ys.length<=sizeLine/\∀ r H',Same H H'->H' r=some (.tup (xs++ys))->Q (.ref r) H'):=by
 sleep 2;obtain ⟨a,b,xs,ys,rfl,rfl,ha,hb,hz,q⟩:=h;by_cases hx:xs=[]
 · subst hx
   cases rx
   cases ry
   obtain ⟨its,r1,p1,_⟩:=I.tuple (SqT.of ha);obtain ⟨its2,r2,p2,_⟩:=I.tuple (SqT.of hb)
   cases r1
   obtain ⟨⟨cls,dd,data,sl⟩,ho,hc,n,hd⟩:=id p1;obtain ⟨⟨cls2,dd2,data2,sl2⟩,ho2,hc2,n2,hd2⟩:=id p2;simp only at hc hd hc2 hd2;subst hc hd hc2 hd2;exact concat_meets ⟨_,ho,rfl⟩ ⟨_,ho2,rfl⟩ noFill_tuple_add seq_tuple_add PySem.F.slot_tuple_add PySem.F.entry_tuple_add (PySem.F.args_tuple_add_2 _ _)
    (tuple_addW0 a b _ _ n n2 dd dd2 sl sl2 (by rfl)) ⟨ho,ho2,⟨.ref b,H,I,rfl,q b H (Same.refl H) hb⟩⟩
 · refine nH pins s σ H _ _ v u Q I rx ry ⟨a,b,xs,ys,rfl,rfl,SqT.of ha,SqT.of hb,hx,hz,fun e=>?_,fun e p hp=>?_⟩
   · subst e;exact q a H (Same.refl H) (by rw [zD6];exact ha)
   · exact q p _ (Same.new hp _) ae
theorem aG:OpR X (binaryOp .Add) (u5 X.K):=by
 sleep 2;unfold u5 at h;split at h
 · exact tj pins s σ H _ _ v u Q I rx ry ⟨_,_,rfl,rfl,h⟩
 · exact kS pins s σ H _ _ v u Q I rx ry ⟨_,_,rfl,rfl,h⟩
 · rcases h with ⟨xs,ys,h1,h2,h3,q⟩ | ⟨xs,ys,h1,h2,h3,q⟩
   · exact op_cat pins s σ H _ _ v u Q I rx ry ⟨_,_,xs,ys,rfl,rfl,h1,h2,h3,q⟩
   · exact qY pins s σ H _ _ v u Q I rx ry ⟨_,_,xs,ys,rfl,rfl,h1,h2,h3,q⟩
 · exact h.elim
def rP (C:Int->Int->Prop) (g:Int->Int->V):R2:=fun x y H Q=>match x,y with | .int i,.int j=>C i j/\Q (g i j) H | _,_=>False
def rP0 (g:Int->Int->V):R2:=fun x y H Q=>match x,y with | .int i,.int j=>Q (g i j) H | _,_=>False
theorem uZ {C:Int->Int->Prop} {g:Int->Int->V} (x y:V) (H:Hp) (Q:VK) (h:rP C g x y H Q):rI C g x y H Q:=by
 unfold rP at h;split at h
 · exact ⟨_,_,rfl,rfl,h⟩
 · exact h.elim
theorem eS {g:Int->Int->V} (x y:V) (H:Hp) (Q:VK) (h:rP0 g x y H Q):rI0 g x y H Q:=by
 unfold rP0 at h;split at h
 · exact ⟨_,_,rfl,rfl,h⟩
 · exact h.elim
theorem ba:OpR X (binaryOp .Sub) (rP0 fun i j=>.int (i - j)):=op_sub.imp eS
theorem bn:OpR X (binaryOp .Mod) (rP (fun _ j=>0<j) fun i j=>.int (i % j)):=op_mod.imp uZ
theorem bf:OpR X (binaryOp .FloorDiv) (rP CDiv fun i j=>.int (i / j)):=op_fdiv.imp uZ
theorem eY:OpR X (binaryOp .Pow) (rP CPow fun i j=>.int (i ^ j.toNat)):=op_pow.imp uZ
theorem tf:OpR X (compareOp .Lt) (rP0 fun i j=>.bl (decide (i<j))):=op_lt.imp eS
theorem op_leP:OpR X (compareOp .LtE) (rP0 fun i j=>.bl (decide (i<=j))):=op_le.imp eS
theorem ii:OpR X (compareOp .Gt) (rP0 fun i j=>.bl (decide (j<i))):=op_gt.imp eS
theorem op_geP:OpR X (compareOp .GtE) (rP0 fun i j=>.bl (decide (j<=i))):=op_ge.imp eS
def rIsP (neg:Bool):R2:=fun x y H Q=>match y with
 | .non=>Q (.bl (if neg then !decide (x=y) else decide (x=y))) H
 | .bl _=>match x with
   | .flt _=>False
   | .byt _=>False
   | .ty _=>False
   | _=>Q (.bl (if neg then !decide (x=y) else decide (x=y))) H
 | _=>False
end
mutual
inductive DatV (H:Hp):V->PyData->Prop where
 | non:DatV H .non .none
 | bl (b:Bool):DatV H (.bl b) (.bool b)
 | int (i:Int):DatV H (.int i) (.int i)
 | str (x:Str):DatV H (.str x) (.str x)
 | lst {a:Addr} {xs:List V} {ds:List PyData} (e:H a=some (.lst xs)) (r:DatAll H xs ds):DatV H (.ref a) (.list ds)
 | tup {a:Addr} {xs:List V} {ds:List PyData} (e:H a=some (.tup xs)) (r:DatAll H xs ds):DatV H (.ref a) (.tuple ds)
inductive DatAll (H:Hp):List V->List PyData->Prop where
 | nil:DatAll H [] []
 | cons {x:V} {d:PyData} {xs:List V} {ds:List PyData} (h:DatV H x d) (r:DatAll H xs ds):DatAll H (x::xs) (d::ds)
end
theorem DatAll.ints {H:Hp}:∀ ns:List Int,DatAll H .(27) (ns.map PyData.int)
 | []=>.nil
 | n::r=>.cons (.int n) (DatAll.ints r)
section
variable {X:Cx} {pins:List (Addr×Obj)} {σ:St} {H:Hp} {s:Shared}
mutual
theorem DatV.reads (I:.(10)):∀ {x:V} {d:PyData} {v:Value},DatV H x d->RelV x v->∃ as,Reads s.heap v d as
 | _,_,_,.non,r=>by cases r;exact ⟨_,.none⟩
 | _,_,_,.bl b,r=>by cases r;exact ⟨_,.bool b⟩
 | _,_,_,.int i,r=>by obtain ⟨t,rfl⟩:=r;exact ⟨_,.int i t⟩
 | _,_,_,.str x,r=>by obtain ⟨t,rfl⟩:=r;exact ⟨_,.str x t⟩
 | _,_,_,.lst e q,r=>by
   cases r
   obtain ⟨_,its,n,rv,h⟩:=I.lstM e;obtain ⟨_,h⟩:=h;obtain ⟨as,z⟩:=DatAll.reads I q rv;exact ⟨_,reads_list_at h rfl rfl z⟩
 | _,_,_,.tup e q,r=>by
   cases r
   obtain ⟨its,rv,⟨o,h1,h2,n,h3⟩,_⟩:=I.tuple (SqT.of e);obtain ⟨as,z⟩:=DatAll.reads I q rv;exact ⟨_,reads_tuple_at h1 h2 h3 z⟩
theorem DatAll.reads (I:.(10)):∀ {xs:List V} {ds:List PyData} {vs:List Value},DatAll H xs ds->Vals xs vs->∃ as,ReadsAll s.heap vs ds as
 | _,_,_,.nil,r=>by cases r;exact ⟨_,.nil⟩
 | _,_,_,.cons h q,r=>by
   cases r with
   | cons r1 r2=>
     obtain ⟨as,z⟩:=DatV.reads I h r1
     obtain ⟨bs,y⟩:=DatAll.reads I q r2
     exact ⟨_,.cons z y⟩
end
end
section
variable {X:Cx} {a b c:Expr} {ta tb tc:TE} {pos:Pos}
def rEqD (neg:Bool):R2:=fun x y H Q=>match scal x y with
 | true=>Q (.bl (if neg then !decide (x=y) else decide (x=y))) H
 | false=>∃ d e,DatV H x d/\DatV H y e/\SeqAt.shaped d=true/\SeqAt.shaped e=true/\Q (.bl (if neg then !PyData.eqv d e else PyData.eqv d e)) H
theorem bo (hu:X.A.units+64<cLine):OpR X (compareOp .Eq) (rEqD false):=by
 sleep 2;unfold rEqD at h;split at h
 · exact op_eq pins s σ H x y v u Q I rx ry ⟨by assumption,h⟩
 · obtain ⟨d,e,h1,h2,h3,h4,q⟩:=h;obtain ⟨as,r1⟩:=h1.reads I rx;obtain ⟨bs,r2⟩:=h2.reads I ry;exact eq_dataH r1 r2 h3 h4 hu ⟨.bl _,H,I,rfl,q⟩
theorem eZ (hu:X.A.units+64<cLine):OpR X (compareOp .NotEq) (rEqD true):=by
 sleep 2;unfold rEqD at h;split at h
 · exact op_ne pins s σ H x y v u Q I rx ry ⟨by assumption,h⟩
 · obtain ⟨d,e,h1,h2,h3,h4,q⟩:=h;obtain ⟨as,r1⟩:=h1.reads I rx;obtain ⟨bs,r2⟩:=h2.reads I ry;exact ne_dataH r1 r2 h3 h4 hu ⟨.bl _,H,I,rfl,q⟩
theorem jQ:OpR X (compareOp .IsNot) (rIsP true):=by
 sleep 2;unfold rIsP at h;split at h
 · exact vD pins s σ H x _ v u Q I rx ry ⟨rfl,h⟩
 · rename_i k
   cases ry
   split at h
   · exact h.elim
   · exact h.elim
   · exact h.elim
   · rename_i hf hb ht
     cases x with
     | non=>cases rx;exact wpAny_isNot_plain rfl (aK I h (by simp))
     | bl j=>cases rx;exact wpAny_isNot_plain rfl (aK I h (by rw [Bool.eq_iff_iff];simp))
     | int j=>obtain ⟨t,rfl⟩:=rx;exact wpAny_isNot_plain rfl (aK I h (by simp))
     | str j=>obtain ⟨t,rfl⟩:=rx;exact wpAny_isNot_plain rfl (aK I h (by simp))
     | byt j=>exact absurd rfl (hb j)
     | flt j=>exact absurd rfl (hf j)
     | ref j=>cases rx;exact wpAny_isNot_plain rfl (aK I h (by simp))
     | ty j=>exact absurd rfl (ht j)
 · exact h.elim
def tBlP (t:TE):TT:=fun σ H Q=>t σ H fun x H1=>match x with | .bl c=>Q c H1 | _=>False
theorem blP {x:V} {P:Bool->Prop} (h:match x with | .bl c=>P c | _=>False):∃ c,x=.bl c/\P c:=by
 cases x <;> first | exact ⟨_,rfl,h⟩ | exact h.elim
theorem bm {op:CmpOp} {r:R2} (ho:OpR X (compareOp op) r) (ha:PE X a ta) (hb:PE X b tb) (hm:behindInMarks op b=false):PT X (.Compare a [op] [b] pos) (tBlP (tOp r ta tb)):=by
 sleep 11;refine wpAny_isTrue_Compare1 (binT ha hb I h fun v u s2 x y H2 I2 rx ry q=>?_) hm;refine thn (ho pins s2 σ H2 x y v u _ I2 rx ry q) fun z s3 ⟨w',H3,I3,r3,q3⟩=>?_;obtain ⟨k,rfl,q3⟩:=blP q3
 cases r3
 exact wpAny_truthy_bool ⟨H3,I3,q3⟩
theorem aR {op:CmpOp} {r:R2} (ho:OpR X (compareOp op) r) (ha:ZE X a ta) (hb:ZE X b tb) (hm:behindInMarks op b=false):ZT X (.Compare a [op] [b] pos) (tBlP (tOp r ta tb)):=by with_unfolding_all exact bm ho ha hb hm
theorem ve {e:Expr} {t:TE} (h:PE X e t) (he:∀ whole,isTrue e X.env whole=(do let v ← whole;standAt e.pos;holding [v] (truthy v)):=by intro _;rfl):PT X e (tBlP t):=by
 intro pins s σ H Q I q;refine isTrue_plain (thn (h pins s σ H _ I q) fun v s1 ⟨x,H1,I1,r1,q1⟩=>?_) (he _);obtain ⟨k,rfl,q1⟩:=blP q1
 cases r1
 exact wpAny_truthy_bool ⟨H1,I1,q1⟩
theorem lL {e:Expr} {t:TE} (h:ZE X e t) (he:∀ whole,isTrue e X.env whole=(do let v ← whole;standAt e.pos;holding [v] (truthy v)):=by intro _;rfl):ZT X e (tBlP t):=by with_unfolding_all exact ve h he
def tAndP (ta tb:TE):TE:=fun σ H Q=>ta σ H fun x H1=>match x with | .bl c=>if c=true then tb σ H1 Q else Q (.bl false) H1 | _=>False
variable {rest:List Expr}
theorem vv (ha:PE X a ta) (hb:PE X (.BoolOp .And (b::rest) pos) tb):PE X (.BoolOp .And (a::b::rest) pos) (tAndP ta tb):=by
 sleep 11;refine BoolOp_and (thn (ha pins s σ H _ I h) fun v s1 ⟨x,H1,I1,r1,q1⟩=>?_);obtain ⟨c,rfl,q1⟩:=blP q1
 cases r1
 refine wpAny_truthy_bool ?_
 cases c with
 | true=>exact hb pins s1 σ H1 Q I1 q1
 | false=>exact ⟨.bl false,H1,I1,rfl,q1⟩
theorem ud (ha:ZE X a ta) (hb:ZE X (.BoolOp .And (b::rest) pos) tb):ZE X (.BoolOp .And (a::b::rest) pos) (tAndP ta tb):=by with_unfolding_all exact vv ha hb
def rIxP (K:PySem.W.Frag):R2:=fun x y H Q=>match x,y with
 | .ref p,.int i=>(∃ xs,(SqL K H p xs\/H p=some (.tup xs))/\∃ v,atI xs i=some v/\Q v H)
 | _,_=>False
theorem dz:IxR X (rIxP X.K):=by
 intro value slice pins s σ H x y v u Q I rx ry h hs;unfold rIxP at h;split at h
 · obtain ⟨xs,h1 | h1,w,e,q⟩:=h
   · exact vU value slice pins s σ H _ _ v u Q I rx ry ⟨_,xs,_,w,rfl,rfl,h1,e,q⟩ hs
   · exact tx value slice pins s σ H _ _ v u Q I rx ry ⟨_,xs,_,w,rfl,rfl,SqT.of h1,e,q⟩ hs
 · exact h.elim
theorem CallR.imp {f:Value} {r r':List V->Hp->VK->Prop} (h:CallR X f r) (i:∀ xs H Q,r' xs H Q->r xs H Q):CallR X f r':=fun pins s σ H xs us Q I rs q=>h pins s σ H xs us Q I rs (i xs H Q q)
def kM (K:PySem.W.Frag):List V->Hp->VK->Prop:=fun xs H Q=>match xs with
 | [.ref p]=>∃ ys,(SqL K H p ys\/H p=some (.tup ys))/\Q (.int ys.length) H
 | _=>False
theorem o7:CallR X (.builtin "len") (kM X.K):=call_len_seq.imp fun xs H Q h=>by
 unfold kM at h;split at h
 · obtain ⟨ys,h1 | h1,q⟩:=h
   · exact ⟨_,ys,rfl,.inl h1,q⟩
   · exact ⟨_,ys,rfl,.inr (SqT.of h1),q⟩
 · exact h.elim
def qv (K:PySem.W.Frag):List V->Hp->VK->Prop:=fun xs H Q=>match xs with
 | [.ref p]=>∃ ys,(SqL K H p ys\/H p=some (.tup ys))/\∀ r H',Same H H'->H' r=some (.tup ys)->Q (.ref r) H'
 | _=>False
theorem oQ:CallR X (.type "tuple") (qv X.K):=call_tuple_of.imp fun xs H Q h=>by
 unfold qv at h;split at h
 · obtain ⟨ys,h1 | h1,q⟩:=h
   · exact ⟨_,ys,rfl,.inl ⟨h1,fun l hl=>q l _ (Same.new hl _) ae⟩⟩
   · exact ⟨_,ys,rfl,.inr ⟨SqT.of h1,q _ H (Same.refl H) h1⟩⟩
 · exact h.elim
def qD (K:PySem.W.Frag):List V->Hp->VK->Prop:=fun xs H Q=>match xs with
 | [.ref p]=>∃ ys,(SqL K H p ys\/H p=some (.tup ys))/\∀ l,H l=none->Q (.ref l) (upd H l (.lst ys))
 | _=>False
theorem o0:CallR X (.type "list") (qD X.K):=call_list_of.imp fun xs H Q h=>by
 unfold qD at h;split at h
 · obtain ⟨ys,h1 | h1,q⟩:=h
   · exact ⟨_,ys,rfl,.inl h1,q⟩
   · exact ⟨_,ys,rfl,.inr (SqT.of h1),q⟩
 · exact h.elim
def u0:List V->Hp->VK->Prop:=fun xs H Q=>match xs with
 | [.int i]=>Q (.int i) H
 | [.bl k]=>Q (.int (if k then 1 else 0)) H
 | _=>False
theorem o9:CallR X (.type "int") u0:=call_int1.imp fun xs H Q h=>by
 unfold u0 at h;split at h
 · exact .inl ⟨_,rfl,h⟩
 · exact .inr ⟨_,rfl,h⟩
 · exact h.elim
def qB:List V->Hp->VK->Prop:=fun xs H Q=>match xs with
 | [.int i,.int j]=>Q (.int (if j<i then j else i)) H
 | _=>False
theorem oW (hc:X.calm=true):CallR X (.builtin "min") qB:=(oX hc).imp fun xs H Q h=>by
 unfold qB at h;split at h
 · exact ⟨_,_,rfl,h⟩
 · exact h.elim
structure FnA (P:Program) (w:World) (K:PySem.W.Frag) (mg:Str->Option Value) (base:Heap) (x:Str) (k:Nat) (ps:List Str) (sp:Sp):Prop where
 ex:∃ f fd,FnOk P w K mg base CX0 k f fd ps sp/\Binds K fd ps []/\PySem.W.keepIn K (.ref f)=true/\mg x=some (.ref f)
def tFn (sp:Sp) (t:TA):TE:=fun σ H Q=>t σ H fun vs H1=>sp vs H1 Q E0
theorem nB {x:Str} {k k':Nat} {ps:List Str} {sp:Sp} {e:Expr} {es:List Expr} {t:TA} {p:Pos} (F:FnA X.prog X.w X.K X.mg X.base x k ps sp) (hr:Room k' X.A) (hk:k<=k') (hg:Gl X x)
 (ha:PA X (e::es) t) (hdb:.(34)=false:=by decide) (he:starEach (e::es) X.env=.(13)::starEach es X.env:=by rfl) (hpl:.(6).any (·.1)=false:=by rfl) :
 PE X (.Call (.Name x p) (e::es) [] pos) (tFn sp t):=by
 obtain ⟨f,fd,F1,b1,k1,m1⟩:=F.ex;refine (vt (F1.mono hk) hr hg m1 k1 b1 .nil pass0 ha hdb he hpl).imp fun σ H Q h=>?_;have e:(fun (vs:List V) (H1:Hp)=>sp (vs++[]) H1 Q E0)=fun vs H1=>sp vs H1 Q E0:=by
  funext vs H1;rw [zD6]
 show t σ H fun vs H1=>sp (vs++[]) H1 Q E0;rw [e];exact h
theorem az {x:Str} {k k':Nat} {ps:List Str} {sp:Sp} {e:Expr} {es:List Expr} {t:TA} {p:Pos} (F:FnA X.prog X.w X.K X.mg X.base x k ps sp) (hr:Room k' X.A) (hk:k<=k') (hg:Gl X x)
 (ha:ZA X (e::es) t) (hdb:.(34)=false:=by decide) (he:starEach (e::es) X.env=.(13)::starEach es X.env:=by rfl) (hpl:.(6).any (·.1)=false:=by rfl) :
 ZE X (.Call (.Name x p) (e::es) [] pos) (tFn sp t):=by with_unfolding_all exact nB F hr hk hg ha hdb he hpl
end
theorem jf {p:Prop} [Decidable p] {A B:Prop} (h1:p->A) (h2:¬ p->B):if decide p=true then A else B:=by
 by_cases h:p
 · rw [decide_eq_true h];exact iteT (h1 h)
 · rw [decide_eq_false h];exact iteF (h2 h)
theorem iteB {b:Bool} {A B:Prop} (h1:b=true->A) (h2:b=false->B):if b=true then A else B:=by
 cases b with
 | true=>exact iteT (h1 rfl)
 | false=>exact iteF (h2 rfl)
theorem iI:bootBuiltins "sorted" = some (.builtin "sorted"):=by decide +kernel
theorem iJ:bootBuiltins "min" = some (.builtin "min"):=by decide +kernel
theorem ph:bootBuiltins "int" = some (.type "int"):=by decide +kernel
theorem jk:bootBuiltins "tuple" = some (.type "tuple"):=by decide +kernel
theorem lE:bootBuiltins "list" = some (.type "list"):=by decide +kernel
def tPar3 (i j k:Nat) (ta:TA):TS:=fun D σ H=>ta σ H fun vs H1=>match vs with | [v,w,z]=>D.nx (((σ.set i (some v)).set j (some w)).set k (some z)) H1 | _=>False
theorem vg {X:Cx} {pos:Pos} {i j k:Nat} {x y z:Str} {a b c:Expr} {ta:TA} {px py pz pt:Pos} {kt k2 pt2} (hc:X.calm=true) (hN:X.N.Nodup) (hi:X.N[i]? = some x) (hj:X.N[j]? = some y) (hk:X.N[k]? = some z) (hij:i≠j) (hik:i≠k) (hjk:j≠k)
 (hx:X.env.scope.names.lookup x=some .local) (hy:X.env.scope.names.lookup y=some .local) (hz:X.env.scope.names.lookup z=some .local) (ha:PA X [a,b,c] ta)
 (hw:swappedStores [.Tuple [.Name x px,.Name y py,.Name z pz] kt pt] (.Tuple [a,b,c] k2 pt2) X.env=pure (some [x,y,z]))
 (hs:swapsWithSole [.Tuple [.Name x px,.Name y py,.Name z pz] kt pt] (.Tuple [a,b,c] k2 pt2) pos.line X.env=pure false:=by rfl) :
 PS X (.Assign [.Tuple [.Name x px,.Name y py,.Name z pz] kt pt] (.Tuple [a,b,c] k2 pt2) pos) (tPar3 i j k ta):=by
 sleep 31;rw [exec_Assign_arm];refine wpAny_bind (wpAny_standAt ?_);rw [hs];sleep 29;rw [if_neg (by decide)];refine wpAny_bind (Tuple_ (thn (ha _ pins s σ H _ I h) fun us s1 ⟨vs,H1,I1,r1,q1⟩=>?_));obtain ⟨v,w,t,e1,q1⟩:∃ v w t,vs=[v,w,t]/\D.nx (((σ.set i (some v)).set j (some w)).set k (some t)) H1:=by
  match vs,q1 with
  | [v,w,t],q1=>exact ⟨v,w,t,rfl,q1⟩
  | [],q1=>exact q1.elim
  | [_],q1=>exact q1.elim
  | [_,_],q1=>exact q1.elim
  | _::_::_::_::_,q1=>exact q1.elim
 subst e1;obtain ⟨u1,u2,u3,rfl,rv,rw',rz⟩:∃ u1 u2 u3,us=[u1,u2,u3]/\RelV v u1/\RelV w u2/\RelV t u3:=by
  cases r1 with
  | cons p q=>
    cases q with
    | cons p' q'=>
      cases q' with
      | cons p2 q2=>
        cases q2
        exact ⟨_,_,_,rfl,p,p',p2⟩
 refine wpAny_newObj_type ?_ (by show 3<=sizeLine;decide);have I2:Inv X pins σ H1 { s1 with heap:=s1.heap.push { cls:=.type "tuple",data:=.seq [u1,u2,u3].toArray } }:=I1.kept (t':=s1.toks) fun b o e=>Heap.get?_push_of_some _ e;rw [hw];sleep 29;show wpAny .(15) X.A (do rule "assign.swapped-stores";let items ← unpackItems (.ref s1.heap.objs.size) 3 none;assignInOrder [fun v=>bindName X.env z v,fun v=>bindName X.env y v,fun v=>bindName X.env x v] items.reverse;pure Flow.next) _ _ _;refine wpAny_bind (wpAny_rule (wpAny_bind (unpackItems_tuple (items:=#[u1,u2,u3]) (I.ok.hd hc) (IsTup.new s1.heap _) fun h' hx'=>?_)));have I3:=I2.kept (h':=h') (t':=s1.toks) fun b o e=>hx' b o (zC3 .(44)) e;show wpAny _ _ (assignInOrder [fun v=>bindName X.env z v,fun v=>bindName X.env y v,fun v=>bindName X.env x v] [u3,u2,u1] >>= fun _=>pure Flow.next) _ _ _;refine wpAny_bind (assignInOrder_cons (wpAny_bindName (cE I3 hN hk (.inl hz) rz (fun s2 I4=>?_) (.inr hz))));refine assignInOrder_cons (wpAny_bindName (cE I4 hN hj (.inl hy) rw' (fun s3 I5=>?_) (.inr hy)));refine assignInOrder_cons (wpAny_bindName (cE I5 hN hi (.inl hx) rv (fun s4 I6=>assignInOrder_nil (wpAny_pure ?_)) (.inr hx)));have e:((σ.set k (some t)).set j (some w)).set i (some v)=((σ.set i (some v)).set j (some w)).set k (some t):=by
  rw [List.set_comm _ _ (Ne.symm hij),List.set_comm _ _ (Ne.symm hik),List.set_comm _ _ (Ne.symm hjk)]
 rw [e] at I6;exact ⟨_,H1,I6,q1⟩
theorem ua {X:Cx} {pos:Pos} {i j k:Nat} {x y z:Str} {a b c:Expr} {ta:TA} {px py pz pt:Pos} {kt k2 pt2} (hc:X.calm=true) (hN:X.N.Nodup) (hi:X.N[i]? = some x) (hj:X.N[j]? = some y) (hk:X.N[k]? = some z) (hij:i≠j) (hik:i≠k) (hjk:j≠k)
 (hx:X.env.scope.names.lookup x=some .local) (hy:X.env.scope.names.lookup y=some .local) (hz:X.env.scope.names.lookup z=some .local) (ha:ZA X [a,b,c] ta)
 (hw:swappedStores [.Tuple [.Name x px,.Name y py,.Name z pz] kt pt] (.Tuple [a,b,c] k2 pt2) X.env=pure (some [x,y,z]))
 (hs:swapsWithSole [.Tuple [.Name x px,.Name y py,.Name z pz] kt pt] (.Tuple [a,b,c] k2 pt2) pos.line X.env=pure false:=by rfl) :
 ZS X (.Assign [.Tuple [.Name x px,.Name y py,.Name z pz] kt pt] (.Tuple [a,b,c] k2 pt2) pos) (tPar3 i j k ta):=by with_unfolding_all exact vg hc hN hi hj hk hij hik hjk hx hy hz ha hw hs
section
variable {X:Cx} {e:Expr} {es:List Expr} {t:TA} {p pos:Pos}
theorem cf (hg:Gl X "len") (hm:X.mg "len" = none) (ha:PA X (e::es) t) (he:.(1)) (hpl:.(2)) :
 PE X .(38) (tCB (kM X.K) t):=bp o7 hg hm PySem.boot_len ha (by decide) (by decide) he hpl
theorem bK (hg:Gl X "len") (hm:X.mg "len" = none) (ha:ZA X (e::es) t) (he:.(1)) (hpl:.(2)) :
 ZE X .(38) (tCB (kM X.K) t):=by with_unfolding_all exact cf hg hm ha he hpl
theorem vx (hc:X.calm=true) (hg:Gl X "min") (hm:X.mg "min" = none) (ha:PA X (e::es) t) (he:.(1)) (hpl:.(2)) :
 PE X (.Call (.Name "min" p) (e::es) [] pos) (tCB qB t):=bp (oW hc) hg hm iJ ha (by decide) (by decide) he hpl
theorem lT (hc:X.calm=true) (hg:Gl X "min") (hm:X.mg "min" = none) (ha:ZA X (e::es) t) (he:.(1)) (hpl:.(2)) :
 ZE X (.Call (.Name "min" p) (e::es) [] pos) (tCB qB t):=by with_unfolding_all exact vx hc hg hm ha he hpl
theorem vz (hg:Gl X "int") (hm:X.mg "int" = none) (ha:PA X (e::es) t) (he:.(1)) (hpl:.(2)) :
 PE X (.Call (.Name "int" p) (e::es) [] pos) (tCB u0 t):=bH o9 hg hm ph ha (by decide) (by decide) he hpl
theorem ig (hg:Gl X "tuple") (hm:X.mg "tuple" = none) (ha:PA X (e::es) t) (he:.(1)) (hpl:.(2)) :
 PE X (.Call (.Name "tuple" p) (e::es) [] pos) (tCB (qv X.K) t):=bH oQ hg hm jk ha (by decide) (by decide) he hpl
theorem be (hg:Gl X "tuple") (hm:X.mg "tuple" = none) (ha:ZA X (e::es) t) (he:.(1)) (hpl:.(2)) :
 ZE X (.Call (.Name "tuple" p) (e::es) [] pos) (tCB (qv X.K) t):=by with_unfolding_all exact ig hg hm ha he hpl
theorem jP (hg:Gl X "list") (hm:X.mg "list" = none) (ha:PA X (e::es) t) (he:.(1)) (hpl:.(2)) :
 PE X (.Call (.Name "list" p) (e::es) [] pos) (tCB (qD X.K) t):=bH o0 hg hm lE ha (by decide) (by decide) he hpl
theorem pU (hg:Gl X "list") (hm:X.mg "list" = none) (ha:ZA X (e::es) t) (he:.(1)) (hpl:.(2)) :
 ZE X (.Call (.Name "list" p) (e::es) [] pos) (tCB (qD X.K) t):=by with_unfolding_all exact jP hg hm ha he hpl
end
section
variable {X:Cx}
theorem Inv.moved {wr:List Addr} {pins:.(26)} {σ:St} {H:Hp} {s s':Shared} {h2:Heap} {t2:Nat} (I:.(10)) (m:Moved wr (fun a b=>b=a) { s with heap:=h2,toks:=t2 } s') (hk:∀ b o,s.heap.get? b=some o->b∉wr/\h2.get? b=some o):Inv X pins σ H s':=by
 have e:s'={ s with heap:=s'.heap,toks:=s'.toks }:=by
  obtain ⟨_,h2,h3,h4,_⟩:=m
  cases s'
  simp only at h2 h3 h4;subst h2 h3 h4;rfl
 rw [e];exact I.kept fun b o q=>m.heap b o (hk b o q).1 (hk b o q).2
def qw (K:PySem.W.Frag):List V->Hp->VK->Prop:=fun xs H Q=>match xs with
 | [.ref p]=>∃ ns:List Int,(SqL K H p (ns.map V.int)\/H p=some (.tup (ns.map V.int)))/\Q (.int ns.sum) H
 | _=>False
theorem fN {f g:Nat->Int}:∀ n,(∀ i,i<n->f i=g i)->preSum f n=preSum g n
 | 0,_=>rfl
 | n+1,h=>by
   show preSum f n+f n=preSum g n+g n;rw [fN n fun i hi=>h i (by lia),h n (by lia)]
theorem eW (f:Nat->Int):∀ n,preSum f (n+1)=f 0+preSum (fun i=>f (i+1)) n
 | 0=>by show (0:Int)+f 0=f 0+0;lia
 | n+1=>by
   show preSum f (n+1)+f (n+1)=f 0+(preSum (fun i=>f (i+1)) n+f (n+1))
   rw [eW f n];lia
theorem ce:∀ ns:List Int,preSum (fun i=>ns.getD i 0) ns.length=ns.sum
 | []=>rfl
 | n::r=>by
   rw [zC4,eW,zB4];have e:preSum (fun i=>(n::r).getD (i+1) 0) r.length=preSum (fun i=>r.getD i 0) r.length:=fN _ fun i _=>by simp
   rw [e,ce r];rfl
theorem bM {ns:List Int} {its:List Value} (rv:Vals .(27) its) {i:Nat} {v:Value} (h:its.toArray[i]? = some v):∃ t,v=.int (ns.getD i 0) t:=by
 have h':its[i]? = some v:=by simpa using h
 have hl:its.length=ns.length:=by rw [← rv.length,zA0]
 have hi:i<ns.length:=by rw [← hl];exact (List.getElem?_eq_some_iff.mp h').1
 obtain ⟨w',e1,t,e2⟩:=rv.get (i:=i) (x:=.int ns[i]) (by rw [List.getElem?_map,List.getElem?_eq_getElem hi];rfl);rw [h'] at e1
 cases e1
 refine ⟨t,?_⟩;rw [e2,zA2,List.getElem?_eq_getElem hi];rfl
theorem oR (hc:X.calm=true):CallR X (.builtin "sum") (qw X.K):=by
 sleep 5;unfold qw at h;split at h
 · rename_i p
   obtain ⟨ns,hq,q⟩:=h;sleep 25
   cases rx
   have hh:X.A.in1.handled=none:=I.ok.hd hc;rcases hq with hq | hq
   · obtain ⟨its,rv,pl,hz⟩:=I.list hq;have hlt:p<s.heap.objs.size:=by
      obtain ⟨_,e,_⟩:=pl.isList;exact Heap.lt_size e
     refine call_sum_walkAnyS (wpAny_pyIter_list pl.isList ?_);refine ⟨s.heap.objs.size,_,_,_,_,_,_,fun i=>ns.getD i 0,rfl,(Walks.list hh s.heap.objs.size p (zC3 hlt) its.toArray).toS,⟨⟨_,Heap.get?_push_size _ rfl,rfl,rfl⟩,pl.isList.push _⟩,?_,fun i v hv=>bM rv hv,fun s' t' m=>?_⟩
     · intro b hb;rw [Heap.size_push];sleep 6
       · exact zF6 _
       · sleep 6
         · exact zH3 hlt
         · cases hb
     · sleep 20;refine ⟨.int _,H,I1,⟨t',rfl⟩,?_⟩;rw [zA8,← rv.length,zA0,ce];exact q
   · obtain ⟨its,rv,pl,hz⟩:=I.tuple (SqT.of hq);have hlt:p<s.heap.objs.size:=pl.lt;refine call_sum_walkAnyS (wpAny_pyIter_tuple (show s.heap.IsTuple p its.toArray from pl) ?_);sleep 16
     · exact IsTup.keeps pl fun b o e=>Heap.get?_push_of_some _ e
     · intro b hb;rw [Heap.size_push];sleep 6
       · exact zF6 _
       · sleep 6
         · exact zH3 hlt
         · cases hb
     · sleep 20;refine ⟨.int _,H,I1,⟨t',rfl⟩,?_⟩;rw [zA8,← rv.length,zA0,ce];exact q
 · exact h.elim
def jJ (K:PySem.W.Frag):List V->Hp->VK->Prop:=fun xs H Q=>match xs with
 | [.int i,.int j]=>Q (.int (if j > i then j else i)) H
 | [.ref p]=>∃ ns:List Int,(SqL K H p (ns.map V.int)\/H p=some (.tup (ns.map V.int)))/\ns≠[]/\∀ M,M∈ns->(∀ n∈ns,n<=M)->Q (.int M) H
 | _=>False
theorem wC {ns:List Int} (h:ns≠[]):ns.getD (argBest (fun i j=>decide (ns.getD i 0 > ns.getD j 0)) (ns.length - 1)) 0∈ns/\∀ n∈ns,n<=ns.getD (argBest (fun i j=>decide (ns.getD i 0 > ns.getD j 0)) (ns.length - 1)) 0:=by
 have hp:0<ns.length:=zH0.mpr h;obtain ⟨h1,h2⟩:=argBest_gt (fun i=>ns.getD i 0) (ns.length - 1);have hlt:argBest (fun i j=>decide (ns.getD i 0 > ns.getD j 0)) (ns.length - 1)<ns.length:=by lia
 refine ⟨?_,fun n hn=>?_⟩
 · rw [zA2,List.getElem?_eq_getElem hlt];exact zC0 hlt
 · obtain ⟨i,hi,rfl⟩:=zE7.mp hn;have:=h2 i (by lia);have e:ns.getD i 0=ns[i]:=by rw [zA2,List.getElem?_eq_getElem hi];rfl
   rw [e] at this;exact this
theorem oY (hc:X.calm=true):CallR X (.builtin "max") (jJ X.K):=by
 sleep 5;unfold jJ at h;split at h
 · exact oZ hc pins s σ H _ us Q I r ⟨_,_,rfl,h⟩
 · rename_i p
   obtain ⟨ns,hq,hne,q⟩:=h;sleep 25
   cases rx
   have hh:X.A.in1.handled=none:=I.ok.hd hc;have hb:=wC hne;rcases hq with hq | hq
   · obtain ⟨its,rv,pl,hz⟩:=I.list hq;have hlen:its.length=ns.length:=by rw [← rv.length,zA0]
     have hlt:p<s.heap.objs.size:=by
      obtain ⟨_,e,_⟩:=pl.isList;exact Heap.lt_size e
     refine call_max_walk (wpAny_pyIter_list pl.isList ?_);refine ⟨s.heap.objs.size,_,_,_,_,_,_,rfl,Walks.list hh s.heap.objs.size p (zC3 hlt) its.toArray,⟨⟨_,Heap.get?_push_size _ rfl,rfl,rfl⟩,pl.isList.push _⟩,?_,?_,CmpOf.ints_gt (fun i=>ns.getD i 0) (fun i v hv=>bM rv hv),fun v h' tk hv hk=>?_⟩
     · intro b hb;rw [Heap.size_push];sleep 6
       · exact zF6 _
       · sleep 6
         · exact zH3 hlt
         · cases hb
     · rw [zA8,hlen];exact zH0.mpr hne
     · obtain ⟨t,rfl⟩:=bM rv hv;sleep 12;rw [zA8,hlen];exact q _ hb.1 hb.2
   · obtain ⟨its,rv,pl,hz⟩:=I.tuple (SqT.of hq);have hlen:its.length=ns.length:=by rw [← rv.length,zA0]
     have hlt:p<s.heap.objs.size:=pl.lt;refine call_max_walk (wpAny_pyIter_tuple (show s.heap.IsTuple p its.toArray from pl) ?_);refine ⟨s.heap.objs.size,_,_,_,_,_,_,rfl,Walks.tuple hh s.heap.objs.size p (zC3 hlt) its.toArray,⟨⟨_,Heap.get?_push_size _ rfl,rfl,rfl⟩,IsTup.keeps pl fun b o e=>Heap.get?_push_of_some _ e⟩,?_,?_,CmpOf.ints_gt (fun i=>ns.getD i 0) (fun i v hv=>bM rv hv),fun v h' tk hv hk=>?_⟩
     · intro b hb;rw [Heap.size_push];sleep 6
       · exact zF6 _
       · sleep 6
         · exact zH3 hlt
         · cases hb
     · rw [zA8,hlen];exact zH0.mpr hne
     · obtain ⟨t,rfl⟩:=bM rv hv;sleep 12;rw [zA8,hlen];exact q _ hb.1 hb.2
 · exact h.elim
def i0:V->List V->Hp->VK->Prop:=fun x vs H Q=>match x,vs with
 | .ref a,[.int k]=>∃ ns:List Int,H a=some (.tup (ns.map V.int))/\Q (.int (ns.count k)) H
 | _,_=>False
def isK (k:Int):Value->Bool
 | .int i _=>i == k
 | _=>false
theorem tN (k:Int):∀ {ns:List Int} {its:List Value},Vals .(27) its->its.countP (isK k)=ns.count k
 | [],_,r=>by cases r;rfl
 | n::ns,_,r=>by
   cases r with
   | cons r1 r2=>
     obtain ⟨t,rfl⟩:=r1
     rw [List.countP_cons,List.count_cons,tN k r2]
     rfl
theorem rf:MtM X "tuple.count" i0:=by
 intro pins s σ H x vs v us Q I rx rv h;unfold i0 at h;split at h
 · rename_i a k
   obtain ⟨ns,hH,q⟩:=h
   cases rx
   obtain ⟨u,rfl,t,rfl⟩:=rv.one;obtain ⟨z,its,r,n,e⟩:=I.hok a _ hH;refine call_meets F.slot_tuple_count ⟨_,e,rfl⟩ F.entry_tuple_count (F.args_tuple_count_2 _ _) (MeetsSeq2.tuple_count a its.toArray n (.int k t) (isK k) (fun y hy=>?_)) ⟨e,?_⟩
   · have hy':y∈its:=by simpa using hy
     obtain ⟨i,hi,rfl⟩:=zE7.mp hy';obtain ⟨t',e'⟩:=bM r (i:=i) (v:=its[i]) (by simp [hi]);rw [e'];exact MeetsSeq.EqGives.int _ k t' t
   · refine ⟨.int _,H,I.tok _,⟨_,rfl⟩,?_⟩;rw [show its.toArray.toList=its from rfl,tN k r];exact q
 · exact h.elim
theorem dU:fillsNumberSlot (.type "tuple") "mul" = pure false:=
 PySem.fillsNumberSlot_seq (id:="tuple.__mul__") (r:=some (.builtin "tuple.__rmul__")) F.slot_tuple_mul.lookup (by decide +kernel) F.slot_tuple_rmul.lookup (by decide +kernel)
theorem g6:seqRepeat? (.type "tuple")=pure (some (.builtin "tuple.__mul__")):=by
 unfold seqRepeat?;rw [PySem.seqSlot_of (T:="tuple") (name:="__mul__") (id:="tuple.__mul__") F.slot_tuple_mul.lookup (by decide +kernel),PySem.seqSlot_of (T:="tuple") (name:="__rmul__") (id:="tuple.__rmul__") F.slot_tuple_rmul.lookup (by decide +kernel)];rfl
theorem fF (a:Int) (t:Tok) (l:Addr) (items:Array Value) (n:Nat) :
 Meets (Builtin.«int.__rmul__» ⟨[.int a t,.ref l],[]⟩) (fun _ R s=>s.heap.get? l=some { cls:=.type "tuple",dict:=none,data:=.seq items n,slots:=#[] }/\R (.ok (.ret Value.notImplemented)) s):=
 .of_wp fun prog w A R s h=>by obtain ⟨hp,g,d,tk,os⟩:=s;obtain ⟨hl,h⟩:=h;wp_walk;exact ⟨_,rfl,h⟩
theorem fB (l:Addr) (items:Array Value) (n:Nat) (x:Int) (u:Tok) (h1:(decide (x < -(2 ^ 63))||decide (x>=2 ^ 63))=false) (h2:(items.isEmpty||x == 1)=true) :
 Meets (Builtin.«tuple.__mul__» ⟨[.ref l,.int x u],[]⟩) (fun _ R s=>s.heap.get? l=some { cls:=.type "tuple",dict:=none,data:=.seq items n,slots:=#[] }/\R (.ok (.ret (.ref l))) s):=
 .of_wp fun prog w A R s h=>by
  obtain ⟨hp,g,d,tk,os⟩:=s;obtain ⟨hl,h⟩:=h;wp_walk;refine wpAny_ite_false (by rw [h1];rfl) ?_;wp_walk;exact ⟨_,rfl,h⟩
theorem fC (l:Addr) (items:Array Value) (n:Nat) (x:Int) (u:Tok) (h1:(decide (x < -(2 ^ 63))||decide (x>=2 ^ 63))=false) (h2:(items.isEmpty||x == 1)=false) (h3:(decide (x<=0)||items.isEmpty)=true) :
 Meets (Builtin.«tuple.__mul__» ⟨[.ref l,.int x u],[]⟩) (fun _ R s=>s.heap.get? l=some { cls:=.type "tuple",dict:=none,data:=.seq items n,slots:=#[] }/\R (.ok (.ret .(21))) { s with heap:=s.heap.push { cls:=.type "tuple",data:=.seq #[] } }):=
 .of_wp fun prog w A R s h=>by
  obtain ⟨hp,g,d,tk,os⟩:=s;obtain ⟨hl,h⟩:=h;wp_walk;refine wpAny_ite_false (by rw [h1];rfl) ?_;wp_walk;exact ⟨_,rfl,h⟩
theorem fD (l:Addr) (items:Array Value) (n:Nat) (x:Int) (u:Tok) (h1:(decide (x < -(2 ^ 63))||decide (x>=2 ^ 63))=false) (h2:(items.isEmpty||x == 1)=false) (h3:(decide (x<=0)||items.isEmpty)=false) (h4:decide ((items.size:Int)*x > (2 ^ 63 - 1) / 8)=false) (h5:Builtin.Tuple.tupleTooMany ((items.size:Int)*x)=false) (hz:((List.replicate x.toNat items).foldl (·++·) #[]).size<=sizeLine) :
 Meets (Builtin.«tuple.__mul__» ⟨[.ref l,.int x u],[]⟩) (fun _ R s=>s.heap.get? l=some { cls:=.type "tuple",dict:=none,data:=.seq items n,slots:=#[] }/\R (.ok (.ret .(21))) { s with heap:=s.heap.push { cls:=.type "tuple",data:=.seq ((List.replicate x.toNat items).foldl (·++·) #[]) } }):=
 .of_wp fun prog w A R s h=>by
  obtain ⟨hp,g,d,tk,os⟩:=s;obtain ⟨hl,h⟩:=h;wp_walk;refine wpAny_ite_false (by rw [h1];rfl) ?_;wp_walk;refine wpAny_ite_false h4 ?_;wp_walk;exact ⟨_,rfl,h⟩
end
section
variable {X:Cx}
def rMulQ:R2:=fun x y H Q=>match x,y with
 | .int i,.int j=>IntMulOk i j/\Q (.int (i*j)) H
 | .ref a,.int k=>(-(2 ^ 63)<=k/\k<2 ^ 63)/\((∃ xs,H a=some (.lst xs)/\xs.length*k.toNat<=sizeLine/\∀ p,H p=none->Q (.ref p) (upd H p (.lst (List.replicate k.toNat xs).flatten))) \/
  ∃ xs,H a=some (.tup xs)/\xs.length*k.toNat<=sizeLine/\∀ r H',Same H H'->H' r=some (.tup (List.replicate k.toNat xs).flatten)->Q (.ref r) H')
 | _,_=>False
theorem aI:OpR X (binaryOp .Mult) rMulQ:=by
 sleep 2;unfold rMulQ at h;split at h
 · exact vE pins s σ H _ _ v u Q I rx ry ⟨_,_,rfl,rfl,h⟩
 · obtain ⟨⟨hk1,hk2⟩,⟨xs,h1,h4,q⟩ | ⟨xs,hH,hz,q⟩⟩:=h
   · exact op_rep pins s σ H _ _ v u Q I rx ry ⟨_,_,xs,rfl,rfl,h1,hk1,hk2,h4,q⟩
   rename_i l k
   cases rx
   obtain ⟨t,rfl⟩:=ry;obtain ⟨z,its,r,n,e⟩:=I.hok l _ hH;have hl:its.length=xs.length:=r.length.symm;have hemp:its.toArray.isEmpty=xs.isEmpty:=by
    cases r <;> rfl
   have g1:(decide (k < -(2 ^ 63))||decide (k>=2 ^ 63))=false:=by
    rw [Bool.or_eq_false_iff];exact ⟨decide_eq_false (by lia),decide_eq_false (by lia)⟩
   refine wpAny_binaryOp_repeat_ref (T:="tuple") (U:="int") (by decide) ⟨_,e,rfl⟩ (fun s'=>typeIs_int s' k t) dU F.fills_int_mul F.slot_int_rmul g6 F.slot_int_index.lookup
    (call_meets F.slot_int_rmul (typeIs_int s k t) F.entry_int_rmul (F.args_int_rmul_2 _ _) (fF k t l its.toArray n) ⟨e,rfl,⟨_,e,rfl⟩,?_⟩)
   by_cases c1:(its.toArray.isEmpty||k == 1)=true
   · refine call_meets F.slot_tuple_mul ⟨_,e,rfl⟩ F.entry_tuple_mul (F.args_tuple_mul_2 _ _) (fB l its.toArray n k t g1 c1) ⟨e,?_⟩;refine ⟨.ref l,H,I,rfl,q l H (Same.refl H) ?_⟩;rw [hH];rw [Bool.or_eq_true] at c1;rcases c1 with c1 | c1
     · rw [hemp,List.isEmpty_iff] at c1;subst c1;have:(List.replicate k.toNat ([]:List V)).flatten=[]:=by
        induction k.toNat with
        | zero=>rfl
        | succ m ih=>rw [zG9,zD8,ih];rfl
       rw [this]
     · have:k=1:=by simpa using c1
       subst this;show some (HO.tup xs)=some (.tup (List.replicate 1 xs).flatten);simp
   · have c1':(its.toArray.isEmpty||k == 1)=false:=by simpa using c1
     have he:its.toArray.isEmpty=false:=(Bool.or_eq_false_iff.mp c1').1;by_cases c2:k<=0
     · refine call_meets F.slot_tuple_mul ⟨_,e,rfl⟩ F.entry_tuple_mul (F.args_tuple_mul_2 _ _) (fC l its.toArray n k t g1 c1' (by rw [decide_eq_true c2];rfl)) ⟨e,?_⟩;have e0:(List.replicate k.toNat xs).flatten=[]:=by
        have:k.toNat=0:=by lia
        rw [this];rfl
       have I2:Inv X pins σ (upd H s.heap.objs.size (.tup [])) { s with heap:=s.heap.push { cls:=.type "tuple",data:=.seq #[] } }:=
        I.laid (t':=s.toks) (o:=.tup []) (fun b ob q=>Heap.get?_push_of_some _ q) (zA1 _) ⟨zC5 _,[],.nil,TupD.new _ _⟩
       exact ⟨.ref s.heap.objs.size,_,I2,rfl,q _ _ (Same.new .(69) _) (by rw [e0];exact ae)⟩
     · have hcast:(its.toArray.size:Int)*k=((xs.length*k.toNat:Nat):Int):=by
        rw [zA8,hl];have:k=(k.toNat:Int):=by lia
        conv=>lhs;rw [this]
        norm_cast
       have hb:(sizeLine:Nat)<=(2 ^ 63 - 1) / 8:=by decide
       have g4:decide ((its.toArray.size:Int)*k > (2 ^ 63 - 1) / 8)=false:=by
        refine decide_eq_false ?_;rw [hcast];lia
       have g5:Builtin.Tuple.tupleTooMany ((its.toArray.size:Int)*k)=false:=by
        unfold Builtin.Tuple.tupleTooMany;rw [hcast];exact decide_eq_false (by lia)
       have f0:List.foldl (fun x1 x2=>x1++x2) #[] (List.replicate k.toNat its.toArray)=(List.replicate k.toNat its).flatten.toArray:=by
        have:=fu its k.toNat [];rw [List.nil_append] at this;exact this
       refine call_meets F.slot_tuple_mul ⟨_,e,rfl⟩ F.entry_tuple_mul (F.args_tuple_mul_2 _ _) (fD l its.toArray n k t g1 c1' (by rw [decide_eq_false c2,he];rfl) g4 g5 (by rw [f0,zA8,gx,hl,zG2];exact hz)) ⟨e,?_⟩;rw [f0];have I2:Inv X pins σ (upd H s.heap.objs.size (.tup (List.replicate k.toNat xs).flatten)) { s with heap:=s.heap.push { cls:=.type "tuple",data:=.seq (List.replicate k.toNat its).flatten.toArray } }:=
        I.laid (t':=s.toks) (o:=.tup (List.replicate k.toNat xs).flatten) (fun b ob q=>Heap.get?_push_of_some _ q) (zA1 _) ⟨by rw [gx,zG2];exact hz,_,r.rep k.toNat,TupD.new _ _⟩
       exact ⟨.ref s.heap.objs.size,_,I2,rfl,q _ _ (Same.new .(69) _) ae⟩
 · exact h.elim
def wW (lo c:Int) (n:Nat):It:=⟨fun i _=>i<n,fun i H x H'=>H'=H/\x=.int (lo+i*c),fun i _=>n<=i⟩
theorem iR {P:Program} {w:World} {K:PySem.W.Frag} {tg:Expr} (it:Addr) (lo c:Int) (n:Nat):Turn P w K tg (wW lo c n) [it] it (fun i h=>IsRangeIter h it (lo+(i:Nat)*c) ((n:Int) - (i:Nat)) c) where
 mem:=by simp
 obj:=fun i h st b hb=>by
  have e:b=it:=by simpa using hb
  subst e;exact ⟨_,st,fun v z=>by
   have z':Data.fields _=Data.cell v:=z
   cases z'⟩
 keep:=fun i h h' st k=>k it (by simp) _ st
 item:=by
  sleep 1;subst hP hw hK;sleep 4;have W:=Walks.range (prog:=X.prog) (w:=X.w) (I.ok.hd hc) it lo c n;refine W.item i s _ _ hg st fun v h' tk hv st' kk=>?_;obtain ⟨t,rfl⟩:=hv;have I1:Inv X pins σ H { s with heap:=h',toks:=tk }:=I.turned (fun b o hb e=>kk b o (by simpa using hb) e) f0 f1 f3 f4 f5;exact ⟨_,rfl,on (s:={ s with heap:=h',toks:=tk }) (n:="range_iterator") st' rfl rfl (by decide) ⟨.int (lo+i*c),H,I1,⟨t,rfl⟩,⟨rfl,rfl⟩,st',fun b hb=>(hf b hb).1⟩⟩
 done:=by
  sleep 1;subst hP hw hK;sleep 4;sleep 37
 self:=fun _ _ _ _ _ st h=>wpAny_pyIter_rangeiter st h
theorem eO {a b c:Int} (hc:c≠0):0<=Builtin.Range.rangeSize a b c:=by
 unfold Builtin.Range.rangeSize;split
 · split
   · have:=Int.ediv_nonneg (a:=b - a - 1) (b:=c) (by lia) (by lia);lia
   · lia
 · split
   · have:=Int.ediv_nonneg (a:=a - b - 1) (b:=-c) (by lia) (by lia);lia
   · lia
def iRng3 {tg:Expr} (ta:TA):TI:=fun σ H R=>ta σ H fun vs H1=>∃ i j c:Int,vs=[.int i,.int j,.int c]/\(c≠0/\(c<2 ^ 29/\-(2 ^ 29)<c)/\Builtin.Range.small i j c=true)/\R (wW i c .(70).toNat) H1
theorem ic {tg:Expr} {a b d:Expr} {ta:TA} {p pos:Pos} (hg:Gl X "range") (hm:X.mg "range" = none) (ha:PA X [a,b,d] ta) (hs:starEach [a,b,d] X.env=[(false,eval a X.env),(false,eval b X.env),(false,eval d X.env)]:=by rfl) (hs2:starEach [b,d] X.env=[(false,eval b X.env),(false,eval d X.env)]:=by rfl) :
 PI X tg (.Call (.Name "range" p) [a,b,d] [] pos) (iRng3 (tg:=tg) ta):=by
 intro pins s σ H R I h;refine Call_ (dP I hg hm boot_range (PyProof.Rows.callWith_type1 (thn .(61) fun us s1 ⟨vs,H1,I1,r1,q1⟩=>?_) (by rw [hs,hs2]) (by rw [hs2];rfl)));obtain ⟨i,j,c,e,⟨hc0,⟨hcb,hcb2⟩,hsm⟩,q⟩:=q1;subst e
 cases r1 with
 | cons r rr=>
   cases rr with
   | cons r' rr=>
     cases rr with
     | cons r'' rr=>
       cases rr
       obtain ⟨t,rfl⟩:=r
       obtain ⟨t',rfl⟩:=r'
       obtain ⟨t'',rfl⟩:=r''
       refine PySem.call_range_3 hc0 ?_ (Or.inl (PyProof.noPylong_small (by lia)))
       refine wpAny_pyIter_range (IsRange.new ..) hsm ?_
       have I2:Inv X pins σ H1 { s1 with heap:=s1.heap.push { cls:=.type "range",data:=.fields #[.int i t,.int j t',.int c t''] } }:=I1.kept (t':=s1.toks) fun b o e=>Heap.get?_push_of_some _ e
       refine ⟨.(64).objs.size,[.(64).objs.size],_,_,H1,rfl,
        I2.kept (t':=s1.toks) fun b o e=>Heap.get?_push_of_some _ e,iR _ i c .(70).toNat,?_,fun b hb=>?_,q⟩
       · have e1:i+((0:Nat):Int)*c=i:=by simp
         have e2:((.(70).toNat:Nat):Int) - ((0:Nat):Int)=Builtin.Range.rangeSize i j c:=by have:=eO (a:=i) (b:=j) hc0;lia
         show IsRangeIter _ _ (i+((0:Nat):Int)*c) (((.(70).toNat:Nat):Int) - ((0:Nat):Int)) c;rw [e1,e2];exact Heap.get?_push_size _ rfl
       · have e:b=.(64).objs.size:=by simpa using hb
         subst e;exact I2.fpOk (zA1 _) (I2.hok.fresh (zA1 _))
theorem gJ {tg:Expr} {a b d:Expr} {ta:TA} {p pos:Pos} (hg:Gl X "range") (hm:X.mg "range" = none) (ha:ZA X [a,b,d] ta) (hs:starEach [a,b,d] X.env=[(false,eval a X.env),(false,eval b X.env),(false,eval d X.env)]:=by rfl) (hs2:starEach [b,d] X.env=[(false,eval b X.env),(false,eval d X.env)]:=by rfl) :
 ZI X tg (.Call (.Name "range" p) [a,b,d] [] pos) (iRng3 (tg:=tg) ta):=by with_unfolding_all exact ic hg hm ha hs hs2
theorem li {lo c:Int} {n:Nat} {g:TG} {tb:TS} {D:Ends} {σ:St} {H:Hp} (Pv:Nat->St->Hp->Prop) (h0:Pv 0 σ H)
 (hs:∀ i σ H,i<n->Pv i σ H->g (.int (lo+i*c)) σ H fun σ2 H2=>tb { D with nx:=Pv (i+1),ct:=Pv (i+1),bk:=D.nx } σ2 H2) (hd:∀ σ H,Pv n σ H->D.nx σ H) :
 ∃ W:Nat->Nat->St->Hp->Prop,(∃ m,W 0 m σ H)/\∀ i m σ H,W i m σ H ->
   ((wW lo c n).stop i H/\D.nx σ H)\/((wW lo c n).go i H/\∃ N:St->Hp->Prop,.(24)/\∀ x H',(wW lo c n).yld i H x H'->g x σ H' fun σ2 H2=>tb { D with nx:=N,ct:=N,bk:=D.nx } σ2 H2):=by
 refine ⟨fun i m σ H=>m=n - i/\i<=n/\Pv i σ H,⟨n,by simp,zC5 _,h0⟩,?_⟩;rintro i m σ H ⟨rfl,hi,p⟩;by_cases hlt:i<n
 · refine .inr ⟨hlt,Pv (i+1),fun σ' H' p'=>⟨n - (i+1),by lia,rfl,hlt,p'⟩,fun x H' y=>?_⟩;obtain ⟨e,y⟩:=y;subst e y;exact hs i σ _ hlt p
 · have e:i=n:=by lia
   subst e;exact .inl ⟨zA1 _,hd σ H p⟩
end
section
variable {X:Cx} {e:Expr} {es:List Expr} {t:TA} {p pos:Pos}
theorem iH:bootBuiltins "sum" = some (.builtin "sum"):=by decide +kernel
theorem pg:bootBuiltins "max" = some (.builtin "max"):=by decide +kernel
theorem pi:bootBuiltins "abs" = some (.builtin "abs"):=by decide +kernel
theorem vw (hc:X.calm=true) (hg:Gl X "sum") (hm:X.mg "sum" = none) (ha:PA X (e::es) t) (he:.(1)) (hpl:.(2)) :
 PE X (.Call (.Name "sum" p) (e::es) [] pos) (tCB (qw X.K) t):=bp (oR hc) hg hm iH ha (by decide) (by decide) he hpl
theorem dB (hc:X.calm=true) (hg:Gl X "sum") (hm:X.mg "sum" = none) (ha:ZA X (e::es) t) (he:.(1)) (hpl:.(2)) :
 ZE X (.Call (.Name "sum" p) (e::es) [] pos) (tCB (qw X.K) t):=by with_unfolding_all exact vw hc hg hm ha he hpl
theorem vy (hc:X.calm=true) (hg:Gl X "max") (hm:X.mg "max" = none) (ha:PA X (e::es) t) (he:.(1)) (hpl:.(2)) :
 PE X (.Call (.Name "max" p) (e::es) [] pos) (tCB (jJ X.K) t):=bp (oY hc) hg hm pg ha (by decide) (by decide) he hpl
theorem ue (hc:X.calm=true) (hg:Gl X "max") (hm:X.mg "max" = none) (ha:ZA X (e::es) t) (he:.(1)) (hpl:.(2)) :
 ZE X (.Call (.Name "max" p) (e::es) [] pos) (tCB (jJ X.K) t):=by with_unfolding_all exact vy hc hg hm ha he hpl
def qH:List V->Hp->VK->Prop:=fun xs H Q=>match xs with
 | [.int i]=>Q (.int (if i<0 then -i else i)) H
 | _=>False
theorem pc:CallR X (.builtin "abs") qH:=call_abs.imp fun xs H Q h=>by
 unfold qH at h;split at h
 · exact ⟨_,rfl,h⟩
 · exact h.elim
theorem vA (hg:Gl X "abs") (hm:X.mg "abs" = none) (ha:PA X (e::es) t) (he:.(1)) (hpl:.(2)) :
 PE X (.Call (.Name "abs" p) (e::es) [] pos) (tCB qH t):=bp pc hg hm pi ha (by decide) (by decide) he hpl
theorem uf (hg:Gl X "abs") (hm:X.mg "abs" = none) (ha:ZA X (e::es) t) (he:.(1)) (hpl:.(2)) :
 ZE X (.Call (.Name "abs" p) (e::es) [] pos) (tCB qH t):=by with_unfolding_all exact vA hg hm ha he hpl
def qG:V->List V->Hp->VK->Prop:=fun x vs H Q=>match x,vs with
 | .ref l,[y]=>∃ xs,H l=some (.lst xs)/\xs.length<sizeLine/\Q .non (upd H l (.lst (xs++[y])))
 | _,_=>False
theorem vQ:MtM X "list.append" qG:=fun pins s σ H x vs v us Q I rx rv h=>by
 unfold qG at h;split at h
 · obtain ⟨xs,h1,h2,q⟩:=h;exact nT pins s σ H _ _ v us Q I rx rv ⟨_,xs,_,rfl,rfl,h1,h2,q⟩
 · exact h.elim
variable {o:Expr} {to:TE} {apos cpos:Pos}
theorem nq (ho:PE X o to) (ha:PA X (e::es) t) (hbase:attributeBase o "append" X.env (eval o X.env)=eval o X.env:=by rfl)
 (hfew:((backTo cpos (starEach (e::es) X.env)).all (fun x=>!x.1)&&(backToKw cpos (keywordEach [] X.env)).all (fun x=>x.1.isSome)
   && decide .(32))=true:=by rfl)
 (hline:(apos.endLine == cpos.line)=true:=by rfl) (hs:starEach (e::es) X.env=.(13)::starEach es X.env:=by rfl) (hplain:(backTo cpos (starEach es X.env)).any (·.1)=false:=by rfl) :
 PE X (.Call (.Attribute o "append" apos) (e::es) [] cpos) (fun σ H Q=>to σ H fun x H1=>tyV X.K "list" x H1/\t σ H1 fun xs H2=>qG x xs H2 Q):=
 pe_bm PySem.F.plainAttrs_list PySem.F.slot_list_append PySem.F.type_list_append vQ ho ha hbase hfew hline hs hplain
theorem bN (ho:ZE X o to) (ha:ZA X (e::es) t) (hbase:attributeBase o "append" X.env (eval o X.env)=eval o X.env:=by rfl)
 (hfew:((backTo cpos (starEach (e::es) X.env)).all (fun x=>!x.1)&&(backToKw cpos (keywordEach [] X.env)).all (fun x=>x.1.isSome)
   && decide .(32))=true:=by rfl)
 (hline:(apos.endLine == cpos.line)=true:=by rfl) (hs:starEach (e::es) X.env=.(13)::starEach es X.env:=by rfl) (hplain:(backTo cpos (starEach es X.env)).any (·.1)=false:=by rfl) :
 ZE X (.Call (.Attribute o "append" apos) (e::es) [] cpos) (fun σ H Q=>to σ H fun x H1=>tyV X.K "list" x H1/\t σ H1 fun xs H2=>qG x xs H2 Q):=by with_unfolding_all exact nq ho ha hbase hfew hline hs hplain
theorem qM (ho:PE X o to) (ha:PA X (e::es) t) (hbase:attributeBase o "count" X.env (eval o X.env)=eval o X.env:=by rfl)
 (hfew:((backTo cpos (starEach (e::es) X.env)).all (fun x=>!x.1)&&(backToKw cpos (keywordEach [] X.env)).all (fun x=>x.1.isSome)
   && decide .(32))=true:=by rfl)
 (hline:(apos.endLine == cpos.line)=true:=by rfl) (hs:starEach (e::es) X.env=.(13)::starEach es X.env:=by rfl) (hplain:(backTo cpos (starEach es X.env)).any (·.1)=false:=by rfl) :
 PE X (.Call (.Attribute o "count" apos) (e::es) [] cpos) (fun σ H Q=>to σ H fun x H1=>tyV X.K "tuple" x H1/\t σ H1 fun xs H2=>i0 x xs H2 Q):=
 pe_bm PySem.F.plainAttrs_tuple PySem.F.slot_tuple_count PySem.F.type_tuple_count rf ho ha hbase hfew hline hs hplain
theorem tyL {K:PySem.W.Frag} {H:Hp} {l:Addr} {xs:List V} (h:H l=some (.lst xs)):tyV K "list" (.ref l) H:=.inl ⟨rfl,xs,SqL.of h⟩
theorem tyT {K:PySem.W.Frag} {H:Hp} {l:Addr} {xs:List V} (h:H l=some (.tup xs)):tyV K "tuple" (.ref l) H:=.inr (.inr (.inr (.inr ⟨rfl,xs,h⟩)))
end
theorem DatV.ints {H:Hp} {a:Addr} {ns:List Int} (e:H a=some (.tup .(27))):DatV H (.ref a) (.tuple (ns.map PyData.int)):=.tup e (DatAll.ints ns)
def PrAt (H:Hp) (v:V) (p:Int×Int):Prop:=∃ b,v=.ref b/\H b=some (.tup [.int p.1,.int p.2])
inductive Prs (H:Hp):List V->List (Int×Int)->Prop where
 | nil:Prs H [] []
 | cons {v p vs ps}:PrAt H v p->Prs H vs ps->Prs H (v::vs) (p::ps)
theorem Prs.same {H H':Hp} (y:Same H H'):∀ {vs ps},Prs H vs ps->Prs H' vs ps
 | _,_,.nil=>.nil
 | _,_,.cons ⟨b,e,h⟩ r=>.cons ⟨b,e,y _ _ h⟩ (Prs.same y r)
theorem Prs.length {H:Hp}:∀ {vs ps},Prs H vs ps->vs.length=ps.length
 | _,_,.nil=>rfl
 | _,_,.cons _ r=>by rw [zC4,zC4,Prs.length r]
theorem Prs.get {H:Hp}:∀ {vs ps} {i:Nat} {v:V},Prs H vs ps->vs[i]? = some v->∃ p,ps[i]? = some p/\PrAt H v p
 | _,_,_,_,.nil,h=>by simp at h
 | _,_,0,_,.cons h _,e=>by simp at e;subst e;exact ⟨_,rfl,h⟩
 | _,_,i+1,_,.cons _ r,e=>by
   obtain ⟨p,h1,h2⟩:=Prs.get (i:=i) r (by simpa using e);exact ⟨p,by simpa using h1,h2⟩
theorem Prs.snoc {H:Hp} {v:V} {p:Int×Int} (h:PrAt H v p):∀ {vs ps},Prs H vs ps->Prs H (vs++[v]) (ps++[p])
 | _,_,.nil=>.cons h .nil
 | _,_,.cons q r=>.cons q (Prs.snoc h r)
theorem Same.updN {H H':Hp} {t:Addr} {o:HO} (y:Same H H') (h:H t=none):Same H (upd H' t o):=fun b u e=>by
 rw [au (aM e h)];exact y b u e
theorem jj:∀ ns:List Int,PyData.canLayAll0 (ns.map PyData.int)=true/\PyData.depthAll (ns.map PyData.int)<=1
 | []=>⟨by simp [PyData.canLayAll0],by simp [PyData.depthAll]⟩
 | n::r=>by
   obtain ⟨h1,h2⟩:=jj r;refine ⟨by simp only [zB6,PyData.canLayAll0,PyData.canLay0,h1,Bool.and_self],?_⟩;simp only [zB6,PyData.depthAll,PyData.depth];lia
theorem aX (ns:List Int):SeqAt.shaped (.tuple (ns.map PyData.int))=true:=by
 obtain ⟨h1,h2⟩:=jj ns;unfold SeqAt.shaped;rw [zC8];exact ⟨by simp only [PyData.canLay0];exact h1,decide_eq_true (by simp only [PyData.depth];lia)⟩
theorem aP (ns:List Int):SeqAt.shaped (.list (ns.map PyData.int))=true:=by
 obtain ⟨h1,h2⟩:=jj ns;unfold SeqAt.shaped;rw [zC8];exact ⟨by simp only [PyData.canLay0];exact h1,decide_eq_true (by simp only [PyData.depth];lia)⟩
theorem eC {d:PyData} (h:SeqAt.shaped d=true):PyData.eqv d d=true:=SeqAt.eqv_refl d (SeqAt.canLay_of_shaped h)
theorem SqL.same {K:PySem.W.Frag} {H H':Hp} {a:Addr} {xs:List V} (e:Same H H') (h:SqL K H a xs):SqL K H' a xs:=by
 rcases h with (h | ⟨o,h⟩) | h
 · exact .inl (.inl (e _ _ h))
 · exact .inl (.inr ⟨o,e _ _ h⟩)
 · exact .inr h
end L2
namespace K79
open PySem L2
def top (i:Nat):Stmt:=PySem.Challenge.pw_partrests_k79_whole_shares_part_the_coun.main.body.getD i (.Pass ⟨0,0,0,0⟩)
def Hand (H:Hp) (a:Addr):Prop:=∃ g s c:Int,H a=some (.lst [.int g,.int s,.int c])/\0<=g/\0<=s/\s<2147483647
def Step (a:Addr) (H H':Hp):Prop:=(∀ b o,b≠a->H b=some o->H' b=some o)/\Hand H' a
theorem Step.trans {a:Addr} {H H1 H2:Hp} (x:Step a H H1) (y:Step a H1 H2):Step a H H2:=⟨fun b o n e=>y.1 b o n (x.1 b o n e),y.2⟩
theorem Step.same {a:Addr} {H H1 H2:Hp} (x:Step a H H1) (y:Same H1 H2):Step a H H2:=⟨fun b o n e=>y b o (x.1 b o n e),by obtain ⟨g,s,c,e,r⟩:=x.2;exact ⟨g,s,c,y _ _ e,r⟩⟩
theorem Step.refl {a:Addr} {H:Hp} (h:Hand H a):Step a H H:=⟨fun _ _ _ e=>e,h⟩
theorem Step.of_same {a:Addr} {H H1:Hp} (h:Hand H a) (y:Same H H1):Step a H H1:=(Step.refl h).same y
theorem Step.tup {a b:Addr} {H H1:Hp} {xs:List V} (h:Hand H a) (x:Step a H H1) (e:H b=some (.tup xs)):H1 b=some (.tup xs):=by
 obtain ⟨g,s,c,e',_⟩:=h;exact x.1 b _ (kW e e' (by intro z;cases z)) e
section
variable {P:Program} {w:World} {K:PySem.W.Frag} {mg:Str->Option Value} {base:Heap} {f:Addr} {fd:FuncData}
theorem sc_take:FnScope ["_law_hand_here","_law_many","_law_digit"] ["_law_hand_here","_law_many"] (ag (top 59)):=.(0)
def iV:Sp:=fun vs H Q _=>∃ (a:Addr) (m:Int),vs=[.ref a,.int m]/\Hand H a/\0<m/\m<1073741824/\∀ r H',0<=r->r<m->Step a H H'->Q (.int r) H'
theorem vP {a b:Int} (h1:-(2 ^ 64)<b) (h2:b<2 ^ 64):IntMulOk a b:=IntMulOk.of_right (intBits_le_64 h1 h2)
theorem nR {a b:Int} (h1:-(2 ^ 64)<a) (h2:a<2 ^ 64):IntMulOk a b:=IntMulOk.of_left (intBits_le_64 h1 h2)
theorem vG (F:Fun K "_law_take" "_law_take" (top 59) f fd):FnOk P w K mg base CX0 1 f fd ["_law_hand_here","_law_many"] iV:=by
 refine F.ok sc_take .(16) .(3)
 · obtain ⟨a,m,rfl,_⟩:=h;rfl
 obtain ⟨a,m,rfl,⟨g,z,c,hl,g0,z0,z1⟩,m0,m1,q⟩:=h;have nd:=sc_take.nd;refine ⟨_,(aC (dS (bm ii .(30) av (aJ _)) (aC (dc (i:=2) nd rfl .(12) (aY bn .(30) (pn 1)))
  (aC (hZ (aY bf .(30) (pn 1)) (jM (pn 0) av da))
  (aT (bD (pn 2))))) bC)
  (aC (hZ (aY aG .(30) av) (jM (pn 0) av da))
  (aC (hZ (aY bn (aY aG (aY aG (aY aI .(30) av) (aY aI av .(30))) av) av) (jM (pn 0) av da))
  (aT (bD (aY bn (aY bf (aY aG (aY bn (aY eY .(30) av) av) (aY bf .(30) av)) av) (pn 1))))))),?_⟩
 refine ⟨_,.inl (SqL.of hl),.int g,rfl,?_⟩;refine jf (fun hg=>?_) (fun hg=>?_)
 · refine ⟨_,.inl (SqL.of hl),.int g,rfl,m0,?_⟩;refine ⟨_,.inl (SqL.of hl),.int g,rfl,⟨m0,m1⟩,?_⟩;refine ⟨a,_,_,_,rfl,rfl,hl,rfl,?_⟩;refine q _ _ (zE5 _ (by lia)) (zE3 _ m0) ⟨fun b o n e=>?_,g / m,z,c,ae,Int.ediv_nonneg g0 (by lia),z0,z1⟩;rw [au n];exact e
 · refine ⟨_,.inl (SqL.of hl),.int c,rfl,?_⟩;refine ⟨a,_,_,_,rfl,rfl,hl,rfl,?_⟩;refine ⟨_,.inl (SqL.of ae),.int z,rfl,vP (by decide) (by decide),?_⟩;refine ⟨_,.inl (SqL.of ae),.int (c+1),rfl,nR (by decide) (by decide),(show (0:Int)<2147483647 by decide),?_⟩;refine ⟨a,_,_,_,rfl,rfl,ae,rfl,?_⟩;have e1:0<=(z*39373+65537*(c+1)+12345) % 2147483647:=zE5 _ (by decide);have e2:(z*39373+65537*(c+1)+12345) % 2147483647<2147483647:=zE3 _ (by decide);refine ⟨_,.inl (SqL.of ae),.int ((z*39373+65537*(c+1)+12345) % 2147483647),rfl,⟨by decide,by decide,by lia⟩,(show (0:Int)<2147483629 by decide),?_⟩;refine ⟨_,.inl (SqL.of ae),.int ((z*39373+65537*(c+1)+12345) % 2147483647),rfl,⟨by decide,by decide⟩,⟨by decide,by decide⟩,m0,?_⟩;refine q _ _ (zE5 _ (by lia)) (zE3 _ m0) ⟨fun b o n e=>?_,g,_,c+1,ae,g0,e1,e2⟩;rw [au n,au n];exact e
theorem bx {xs:List V} {k:Int} {j:Nat} {v:V} (h:k=(j:Int)) (hx:xs[j]? = some v):atI xs k=some v:=by subst h;exact wE hx
theorem fP {ns:List Int} {j:Nat} (h:j<ns.length):.(27)[j]? = some (.int ns[j]):=by rw [List.getElem?_map,List.getElem?_eq_getElem h];rfl
theorem sc_hand:FnScope ["_law_script","_law_k","_law_cell","_law_great"] ["_law_script","_law_k"] (ag (top 58)):=.(0)
def iY (K:PySem.W.Frag):Sp:=fun vs H Q _=>∃ (a:Addr) (k:Int) (ns:List Int),vs=[.ref a,.int k]/\SqL K H a .(27)/\0<=k/\k<=100/\∀ p H',H p=none->Same H H'->Hand H' p->Q (.ref p) H'
theorem tQ:IntMulOk ((10:Int) ^ Int.toNat 60) ((10:Int) ^ Int.toNat 60):=by unfold IntMulOk;decide +kernel
theorem vJ (F:Fun K "_law_hand" "_law_hand" (top 58) f fd) (m_int:mg "int" = none) (m_len:.(79)):FnOk P w K mg base CX0 1 f fd ["_law_script","_law_k"] (iY K):=by
 refine F.ok sc_hand .(16) .(3)
 · obtain ⟨a,k,ns,rfl,_⟩:=h;rfl
 obtain ⟨a,k,ns,rfl,hS,k0,k1,q⟩:=h;have nd:=sc_hand.nd;refine ⟨_,(aC (dc (i:=2) nd rfl .(12) (jO (bm tf (pn 1) .(65) (aJ _)) (cP dz (pn 0) (pn 1) .(33)) av))
  (aC (dc (i:=3) nd rfl .(12) (aY aI (aY bn (pn 2) (aY aI (aY eY av av) (aY eY av av))) (vz rfl m_int (aA (nE op_geP (pn 2) (aY eY av av) (aJ _)) aZ) rfl rfl)))
  (aT (bD (jN (aA (pn 3) (aA (aY bn (aY eY (aY aG (aY aG (aY bn (pn 2) av) (aY aI (aY aI av (pn 1)) (pn 1))) av) av) av) (aA av aZ)))))))),?_⟩
 refine ⟨_,.inl hS,?_⟩;refine jf (fun hk=>?_) (fun hk=>?_)
 · rw [zA0] at hk;have hj:k.toNat<ns.length:=by lia
   refine ⟨_,.inl hS,.int ns[k.toNat],bx (by lia) (fP hj),?_⟩;generalize ns[k.toNat]=v;refine ⟨.(73),.(73),tQ,(show (0:Int)<10 ^ 60*10 ^ 60 by decide),.(73),?_⟩;have e1:0<=v % 2147483629:=zE5 _ (by decide);have e2:v % 2147483629<2147483629:=zE3 _ (by decide);have e3:0<=7919*k*k:=zK4 (zK4 (by decide) k0) k0;have e4:7919*k*k<=7919*100*100:=Int.mul_le_mul (Int.mul_le_mul_of_nonneg_left k1 (by decide)) k1 k0 (by decide);have e5:0<=(v % 2147483629+7919*k*k+11) ^ Int.toNat 3 % 2147483647:=zE5 _ (by decide);have e6:(v % 2147483629+7919*k*k+11) ^ Int.toNat 3 % 2147483647<2147483647:=zE3 _ (by decide);sleep 18
   · split <;> exact vP (by decide) (by decide)
   · refine q p _ hp (Same.new hp _) ⟨_,_,0,ae,?_,e5,e6⟩;split
     · rw [zL5];exact zE5 _ (by decide)
     · rw [Int.mul_zero];decide
 · refine ⟨.(73),.(73),tQ,(show (0:Int)<10 ^ 60*10 ^ 60 by decide),.(73),?_⟩;have e1:0<=(0:Int) % 2147483629:=zE5 _ (by decide);have e2:(0:Int) % 2147483629<2147483629:=zE3 _ (by decide);have e3:0<=7919*k*k:=zK4 (zK4 (by decide) k0) k0;have e4:7919*k*k<=7919*100*100:=Int.mul_le_mul (Int.mul_le_mul_of_nonneg_left k1 (by decide)) k1 k0 (by decide);have e5:0<=((0:Int) % 2147483629+7919*k*k+11) ^ Int.toNat 3 % 2147483647:=zE5 _ (by decide);have e6:((0:Int) % 2147483629+7919*k*k+11) ^ Int.toNat 3 % 2147483647<2147483647:=zE3 _ (by decide);sleep 18
   · split <;> exact vP (by decide) (by decide)
   · refine q p _ hp (Same.new hp _) ⟨_,_,0,ae,?_,e5,e6⟩;split
     · rw [zL5];exact zE5 _ (by decide)
     · rw [Int.mul_zero];decide
end
end K79
namespace L2
open PySem PySem.Spec PyProof.Rows
section
variable {X:Cx}
def rGetL (K:PySem.W.Frag):V->V->Hp->VK->Prop:=fun x y H Q=>match x,y with
 | .ref p,.int i=>∃ xs v,SqL K H p xs/\0<=i/\xs[i.toNat]? = some v/\Q v H
 | _,_=>False
theorem gA:PGet X (rGetL X.K):=by
 sleep 2;unfold rGetL at h;split at h
 · rename_i p i
   obtain ⟨xs,z,hq,h0,he,q⟩:=h
   cases rx
   obtain ⟨t,rfl⟩:=ry;obtain ⟨its,r,pl,hz⟩:=I.list hq;obtain ⟨w,ew,rw'⟩:=r.get he;have hl:=r.length;have hn:=ip;have hi:i.toNat<its.length:=(List.getElem?_eq_some_iff.mp ew).1;exact wpAny_getItem_list pl.isList h0 (by lia) (by simpa using ew) ⟨z,H,I,rw',q⟩
 · exact h.elim
def ipP (f:Int->Int->Int):TIp:=fun x y H Q=>match x,y with
 | .int i,.int j=>Q (.int (f i j)) H
 | _,_=>False
theorem ipP_I {f:Int->Int->Int} {x y:V} {H:Hp} {Q:VK} (h:ipP f x y H Q):ipI f x y H Q:=by
 unfold ipP at h;split at h
 · exact ⟨_,_,rfl,rfl,h⟩
 · exact h.elim
theorem gz:PIp X .Add (ipP fun i j=>i+j):=fun pins s σ H x y v u Q I r1 r2 h=>ip_add pins s σ H x y v u Q I r1 r2 (ipP_I h)
theorem vY:PIp X .Sub (ipP fun i j=>i - j):=fun pins s σ H x y v u Q I r1 r2 h=>ip_sub pins s σ H x y v u Q I r1 r2 (ipP_I h)
def rSetP:V->V->V->Hp->(Hp->Prop)->Prop:=fun o i v H Q=>match o,i with
 | .ref p,.int k=>∃ xs,H p=some (.lst xs)/\0<=k/\k.toNat<xs.length/\Q (upd H p (.lst (xs.set k.toNat v)))
 | _,_=>False
theorem eP:wU X rSetP:=fun pins s σ H o i v ov iv u Q I r1 r2 r3 h=>by
 unfold rSetP at h;split at h
 · obtain ⟨xs,h1,h2,h3,q⟩:=h;refine da pins s σ H _ _ v ov iv u Q I r1 r2 r3 ⟨_,xs,_,_,rfl,rfl,h1,?_,q⟩;unfold ixN;rw [if_pos h2,if_pos (by lia)]
 · exact h.elim
end
inductive Tps (H:Hp):List V->List (List Int)->Prop where
 | nil:Tps H [] []
 | cons {b:Addr} {ls:List Int} {vs lss}:H b=some (.tup (ls.map V.int))->Tps H vs lss->Tps H (.ref b::vs) (ls::lss)
theorem Tps.same {H H':Hp} (y:Same H H'):∀ {vs ps},Tps H vs ps->Tps H' vs ps
 | _,_,.nil=>.nil
 | _,_,.cons h r=>.cons (y _ _ h) (Tps.same y r)
theorem Tps.length {H:Hp}:∀ {vs ps},Tps H vs ps->vs.length=ps.length
 | _,_,.nil=>rfl
 | _,_,.cons _ r=>by rw [zC4,zC4,Tps.length r]
theorem Tps.get {H:Hp}:∀ {vs ps} {i:Nat} {v:V},Tps H vs ps->vs[i]? = some v->∃ ls b,ps[i]? = some ls/\v=.ref b/\H b=some (.tup (ls.map V.int))
 | _,_,_,_,.nil,h=>by simp at h
 | _,_,0,_,.cons h _,e=>by simp at e;exact ⟨_,_,rfl,e.symm,h⟩
 | _,_,i+1,_,.cons _ r,e=>by
   obtain ⟨ls,b,h1,h2⟩:=Tps.get (i:=i) r (by simpa using e);exact ⟨ls,b,by simpa using h1,h2⟩
theorem Tps.snoc {H:Hp} {b:Addr} {ls:List Int} (h:H b=some (.tup (ls.map V.int))):∀ {vs ps},Tps H vs ps->Tps H (vs++[.ref b]) (ps++[ls])
 | _,_,.nil=>.cons h .nil
 | _,_,.cons q r=>.cons q (Tps.snoc h r)
theorem Tps.updL {H:Hp} {t:Addr} {xs ys:List V} (h:H t=some (.lst xs)):∀ {us ps},Tps H us ps->Tps (upd H t (.lst ys)) us ps
 | _,_,.nil=>.nil
 | _,_,.cons hb r=>.cons (by rw [au (kW hb h (by intro z;cases z))];exact hb) (Tps.updL h r)
section
variable {X:Cx} {e:Expr} {es:List Expr} {t:TA} {p pos:Pos} {K:PySem.W.Frag} {o:Expr} {to:TE} {apos cpos:Pos}
theorem qW (hg:Gl X "len") (hm:X.mg "len" = none) (ha:PA X (e::es) t) (he:.(1)) (hpl:.(2)) (hK:X.K=K) :
 PE X .(38) (tCB (kM K) t):=by subst hK;exact cf hg hm ha he hpl
theorem fV (hg:Gl X "len") (hm:X.mg "len" = none) (ha:ZA X (e::es) t) (he:.(1)) (hpl:.(2)) (hK:X.K=K) :
 ZE X .(38) (tCB (kM K) t):=by with_unfolding_all exact qW hg hm ha he hpl hK
end
section
variable {prog:Program} {w:World} {A:Around} {E:Value->Shared->Prop} {s:Shared}
theorem ff {it t:Addr} {i:Nat} {items:Array Value} {x:Value} {Q:.(14)} (hit:s.heap.IsTupleIter it t i) (ht:s.heap.IsTuple t items) (hx:items[i]? = some x)
 (hQ:∀ h',h'.IsTupleIter it t (i+1)->Heap.SameBut it s.heap h'->Q x { s with heap:=h' }):wpAny .(9) A (Builtin.SmallTypes.nextOf (.ref it)) Q E s:=by
 obtain ⟨ot,h1,c1,d1⟩:=id hit;obtain ⟨og,h2,c2,n2,d2⟩:=ht;unfold Builtin.SmallTypes.nextOf;sleep 21;refine wpAny_bind (m:=field (.ref it) 0) (wpAny_field h1 d1 (x:=.ref t) rfl ?_);have hnn:¬ ((Value.ref t == Value.none)=true):=fun z=>zC9 z;show wpAny _ _ (if (Value.ref t == Value.none)=true then _ else _) _ _ _;rw [if_neg hnn];refine wpAny_bind (m:=field (.ref it) 1) (wpAny_field h1 d1 (x:=.int i 0) rfl (wpAny_bind (m:=seqItems? (.ref t)) (wpAny_seqItems h2 d2 ?_)));simp only [zD9,hx];refine wpAny_bind (wpAny_setField h1 d1 (by simp) (wpAny_pure ⟨_,rfl,wpAny_pure (hQ _ ⟨_,Heap.get?_update_self _ h1 (Obj.isFreed_of_fields (Obj.data_mapFields d1 _)),(Obj.cls_mapFields ..).trans c1,?_⟩ (Heap.SameBut.update ..))⟩));rw [Obj.data_mapFields d1];simp [rawInt]
theorem fE {it t:Addr} {i:Nat} {items:Array Value} {Q:.(14)} (hh:A.handled=none) (hit:s.heap.IsTupleIter it t i) (ht:s.heap.IsTuple t items) (hx:items[i]? = none)
 (hE:∀ h' e,Heap.ExtBut it s.heap h'->(∃ o,h'.get? e=some o/\o.cls=.type "StopIteration")->E (.ref e) { s with heap:=h' }):wpAny .(9) A (Builtin.SmallTypes.nextOf (.ref it)) Q E s:=by
 obtain ⟨ot,h1,c1,d1⟩:=id hit;obtain ⟨og,h2,c2,n2,d2⟩:=ht;unfold Builtin.SmallTypes.nextOf;sleep 21;refine wpAny_bind (m:=field (.ref it) 0) (wpAny_field h1 d1 (x:=.ref t) rfl ?_);have hnn:¬ ((Value.ref t == Value.none)=true):=fun z=>zC9 z;show wpAny _ _ (if (Value.ref t == Value.none)=true then _ else _) _ _ _;rw [if_neg hnn];refine wpAny_bind (m:=field (.ref it) 1) (wpAny_field h1 d1 (x:=.int i 0) rfl (wpAny_bind (m:=seqItems? (.ref t)) (wpAny_seqItems h2 d2 ?_)));simp only [zD9,hx];refine wpAny_bind (wpAny_rule (wpAny_bind (wpAny_setField h1 d1 (by simp) (wpAny_bind (m:=newExc (.type "StopIteration") []) ?_))));simp only [newExc,newTuple,raiseNew];refine wpAny_bind (wpAny_newObj_type (wpAny_bind (m:=firstArgMember _ _) (wpAny_of_eq (a:=Value.none) (by first | rfl | (simp only [firstArgMember];rfl)) (wpAny_newObj_type (wpAny_bind (wpAny_handled ?_)) (by size_fits)))) (by size_fits))
 first | rw [show A.in1.handled=none from hh] | rw [hh]
 exact wpAny_bind (wpAny_pure (wpAny_throw (hE _ _ (((Heap.SameBut.update ..).extBut.push _).push _) ⟨_,Heap.get?_push_size _ rfl,rfl⟩)))
end
section
variable {X:Cx} {pins:List (Addr×Obj)} {σ:St} {H:Hp} {s:Shared}
theorem Inv.turned2 {h':Heap} {t':Nat} {e it:Addr} (I:.(10)) (hk:∀ b o,b≠e->b≠it->s.heap.get? b=some o->h'.get? b=some o) (fe:dY X pins H e) (fi:dY X pins H it):Inv X pins σ H { s with heap:=h',toks:=t' }:=by
 have ne:∀ {b},b∉[e,it]->b≠e/\b≠it:=fun {b} hb=>⟨fun z=>hb (by simp [z]),fun z=>hb (by simp [z])⟩
 refine I.step (g':=s.gens) (d':=s.drawn) (ch:=[e,it]) (fun b hb=>?_) (fun b o _ _ hb q _=>hk b o (ne hb).1 (ne hb).2 q) (fun b o _ _ hb q _=>⟨o.slots,hk b o (ne hb).1 (ne hb).2 q⟩) (fun b o _ _ n=>n) (fun b o hb q=>⟨o,hk b o (ne hb).1 (ne hb).2 q⟩)
  (fun _ _ q=>q) (fun _ _ _ q=>q) (fun b ps q=>⟨#[],by rw [q];simp⟩) (fun m hm=>?_) (fun b u q=>?_) I.bare
 · sleep 6
   · exact ⟨fe.2.2.2.1,fe.2.1,fe.2.2.2.2.1,fe.2.2.2.2.2⟩
   · have:b=it:=by simpa using hb
     subst this;exact ⟨fi.2.2.2.1,fi.2.1,fi.2.2.2.2.1,fi.2.2.2.2.2⟩
 · obtain ⟨o,es,ep,ho,r⟩:=hm;exact ⟨o,es,ep,hk _ o (Ne.symm fe.2.1) (Ne.symm fi.2.1) ho,r⟩
 · refine (I.hok b u q).stay (fun c v hc r=>?_) (fun c r=>r) fun c xs r=>r;have nn:∀ x,dY X pins H x->c≠x:=fun x fx z=>by
    subst z;rcases hc with rfl | hc
    · rw [fx.1] at q;cases q
    · rw [fx.1] at hc;cases hc
   exact hk c v (nn e fe) (nn it fi) r
theorem Inv.trackT {D:Addr} {ys:List V} {its:List Value} (I:.(10)) (rv:Vals ys its) (hz:ys.length<=sizeLine) (e:TupD s.heap D its.toArray) (hd:dY X pins H D):Inv X pins σ (upd H D (.tup ys)) s:=by
 obtain ⟨h1,h2,h3,h4,h5,h6⟩:=hd;have nD:∀ b u,H b=some u->b≠D:=fun b u q z=>by rw [z,h1] at q;cases q
 refine I.step (s:=s) (h':=s.heap) (g':=s.gens) (t':=s.toks) (d':=s.drawn) (ch:=[D]) (fun b hb=>?_) (fun b o _ _ _ q _=>q) (fun b o _ _ _ q _=>⟨o.slots,q⟩) (fun b o hb _ q=>?_) (fun b o _ q=>⟨o,q⟩)
  (fun b xs q=>(au (nD b _ q)).trans q) (fun b o u q=>(au (nD b _ q)).trans q) (fun b ps q=>⟨#[],by rw [au (nD b _ q),q];simp⟩) (fun m hm=>hm) (fun b u q=>?_) I.bare
 · have:b=D:=by simpa using hb
   subst this;exact ⟨h4,h2,h5,h6⟩
 · rw [au (fun z=>hb (by simp [z]))];exact q
 · by_cases hb:b=D
   · subst hb;rw [ae] at q
     cases q
     exact ⟨hz,its,rv,e⟩
   · rw [au hb] at q;exact (I.hok b u q).stay (fun c v _ r=>r) (fun c r=>(au (nD c _ r)).trans r) fun c xs r=>(au (nD c _ r)).trans r
theorem fA:bootBuiltins "enumerate" = some (.type "enumerate"):=by decide +kernel
def qt (p:Addr) (i j c:Int):HO:=.ext fun h=>∃ t u v,IsRange h p i j c t u v
theorem gm {pins:.(26)} {σ:St} {H:Hp} {s:Shared} {i j c:Int} {t u v:Tok} {tk:Nat} (I:.(10)):Inv X pins σ (upd H s.heap.objs.size (qt s.heap.objs.size i j c)) { s with heap:=s.heap.push { cls:=.type "range",data:=.fields #[.int i t,.int j u,.int c v] },toks:=tk }:=by
 refine I.laid (fun b o e=>Heap.get?_push_of_some _ e) (zA1 _) ⟨⟨t,u,v,IsRange.new ..⟩,⟨_,Heap.get?_push_size _ rfl⟩,?_⟩;rintro h1 h2 ⟨t,u,v,e⟩ k;exact ⟨t,u,v,k _ e⟩
def rRng:List V->Hp->VK->Prop:=fun vs H1 Q=>match vs with
 | [.int i,.int j]=>∀ p,H1 p=none->Q (.ref p) (upd H1 p (qt p i j 1))
 | [.int i,.int j,.int c]=>(c≠0/\c<2 ^ 29/\-(2 ^ 29)<c)/\∀ p,H1 p=none->Q (.ref p) (upd H1 p (qt p i j c))
 | _=>False
theorem rY:CallR X (.type "range") rRng:=by
 sleep 5;unfold rRng at h;split at h
 · obtain ⟨u1,u2,rfl,⟨t1,rfl⟩,t2,rfl⟩:=pW r;exact call_range_2 ⟨.ref s.heap.objs.size,_,gm I,rfl,h _ .(69)⟩
 · obtain ⟨⟨h1,h2,h3⟩,q⟩:=h
   cases r with
   | cons a1 r=>
     cases r with
     | cons a2 r=>
       cases r with
       | cons a3 r=>
         cases r
         obtain ⟨t1,rfl⟩:=a1
         obtain ⟨t2,rfl⟩:=a2
         obtain ⟨t3,rfl⟩:=a3
         exact PySem.call_range_3 h1 ⟨.ref s.heap.objs.size,_,gm I,rfl,q _ .(69)⟩ (Or.inl (PyProof.noPylong_small (by lia)))
 · exact h.elim
def qC:List V->Hp->VK->Prop:=fun vs H Q=>match vs with
 | [.ref p]=>∃ i j c,H p=some (qt p i j c)/\Builtin.Range.small i j c=true/\c≠0/\(Builtin.Range.rangeSize i j c).toNat<=1000000/\∀ l,H l=none->Q (.ref l) (upd H l (.lst (((List.range (Builtin.Range.rangeSize i j c).toNat).map fun (k:Nat)=>i+(k:Int)*c).map V.int)))
 | _=>False
theorem gc {F:Nat->Int}:∀ (n:Nat) {us:List Value},us.length=n->(∀ (j:Nat) (v:Value),us[j]? = some v->∃ t,v=.int (F j) t)->Vals (((List.range n).map F).map V.int) us:=by
 intro n us hl h;have:∀ (us:List Value) (G:Nat->Int),(∀ (j:Nat) (v:Value),us[j]? = some v->∃ t,v=.int (G j) t)->Vals (((List.range us.length).map G).map V.int) us:=by
  intro us;induction us with
  | nil=>intro G _;exact .nil
  | cons u r ih=>
    intro G hG
    rw [zC4,zJ1,zB6,zB6]
    refine .cons (hG 0 u rfl) ?_
    have:=ih (fun j=>G (j+1)) fun j v e=>hG (j+1) v (by simpa using e)
    have e:((List.range r.length).map Nat.succ).map G=(List.range r.length).map (fun j=>G (j+1)):=by rw [zE6];rfl
    rw [e]
    exact this
 have:=this us F h;rw [hl] at this;exact this
theorem o3 (hc:X.calm=true):CallR X (.type "list") qC:=by
 sleep 5;unfold qC at h;split at h
 · rename_i p
   obtain ⟨i,j,c,hp,hs,hc0,hn,q⟩:=h;sleep 25
   cases rx
   obtain ⟨⟨t,u,v,hr⟩,_⟩:=I.hok p _ hp;have h0:=eO (a:=i) (b:=j) hc0;refine call_list_range (I.ok.hd hc) hr hs (n:=.(70).toNat) (by lia) (by lia) fun h' tk acc' c' hk hS hit=>?_;have rv:Vals (((List.range .(70).toNat).map fun (k:Nat)=>i+(k:Int)*c).map V.int) acc'.toList:=gc _ (by rw [zB1];exact hit.1) fun k v e=>hit.2 k v (by simpa using e);refine ⟨.ref s.heap.objs.size,_,I.laid (t':=tk) hk (zA1 _) (show ObjOk X.prog X.w _ h' _ (.lst (((List.range .(70).toNat).map fun (k:Nat)=>i+(k:Int)*c).map V.int)) from ⟨?_,acc'.toList,c',rv,hS⟩),rfl,q _ .(69)⟩;rw [zA0,zA0,zC1,sizeLine_eq];lia
 · exact h.elim
theorem jl:bootBuiltins "list" = some (.type "list"):=by decide +kernel
variable {e:Expr} {es:List Expr} {t:TA} {p pos:Pos}
theorem nG (hg:Gl X "range") (hm:X.mg "range" = none) (ha:PA X (e::es) t) (he:.(1)) (hpl:.(2)) :
 PE X (.Call (.Name "range" p) (e::es) [] pos) (tCB rRng t):=bH rY hg hm boot_range ha (by decide) (by decide) he hpl
theorem fO (hc:X.calm=true) (hg:Gl X "list") (hm:X.mg "list" = none) (ha:PA X (e::es) t) (he:.(1)) (hpl:.(2)) :
 PE X (.Call (.Name "list" p) (e::es) [] pos) (tCB qC t):=bH (o3 hc) hg hm jl ha (by decide) (by decide) he hpl
theorem kC (hc:X.calm=true) (hg:Gl X "list") (hm:X.mg "list" = none) (ha:ZA X (e::es) t) (he:.(1)) (hpl:.(2)) :
 ZE X (.Call (.Name "list" p) (e::es) [] pos) (tCB qC t):=by with_unfolding_all exact fO hc hg hm ha he hpl
end
def Itq (h:Heap) (i l:Addr) (k:Nat) (xs:Array Value):Prop:=(h.IsListIter i l k/\h.IsList l xs)\/(h.IsTupleIter i l k/\h.IsTuple l xs)
theorem Itq.at {h h':Heap} {i l:Addr} {k:Nat} {xs:Array Value} (x:Itq h i l k xs) (hi:∀ o,h.get? i=some o->h'.get? i=some o) (hl:∀ o,h.get? l=some o->h'.get? l=some o):Itq h' i l k xs:=
 x.elim (fun a=>.inl ⟨a.1.at hi,a.2.at hl⟩) fun a=>.inr ⟨a.1.at hi,a.2.at hl⟩
theorem Itq.but {h h':Heap} {i l z:Addr} {k:Nat} {xs:Array Value} (x:Itq h i l k xs) (e:Heap.ExtBut z h h') (n1:i≠z) (n2:l≠z):Itq h' i l k xs:=x.at (fun o q=>e _ _ n1 q) fun o q=>e _ _ n2 q
section
variable {prog:Program} {w:World} {A:Around} {E:Value->Shared->Prop} {s:Shared}
theorem Itq.item {i l:Addr} {k:Nat} {xs:Array Value} {v:Value} {Q:.(14)} (x:Itq s.heap i l k xs) (hne:l≠i) (hx:xs[k]? = some v)
 (hQ:∀ h',Itq h' i l (k+1) xs->Heap.SameBut i s.heap h'->Q v { s with heap:=h' }):wpAny .(9) A (Builtin.SmallTypes.nextOf (.ref i)) Q E s:=by
 rcases x with ⟨x1,x2⟩ | ⟨x1,x2⟩
 · exact wpAny_nextOf_list_item x1 x2 hx fun h' a b=>hQ h' (.inl ⟨a,x2.extBut b.extBut hne⟩) b
 · exact ff x1 x2 hx fun h' a b=>hQ h' (.inr ⟨a,x2.extBut b.extBut hne⟩) b
theorem Itq.fin {i l:Addr} {k:Nat} {xs:Array Value} {Q:.(14)} (hh:A.handled=none) (x:Itq s.heap i l k xs) (hx:xs[k]? = none)
 (hE:∀ h' e,Heap.ExtBut i s.heap h'->(∃ o,h'.get? e=some o/\o.cls=.type "StopIteration")->E (.ref e) { s with heap:=h' }):wpAny .(9) A (Builtin.SmallTypes.nextOf (.ref i)) Q E s:=by
 rcases x with ⟨x1,x2⟩ | ⟨x1,x2⟩
 · exact wpAny_nextOf_list_end hh x1 x2 hx hE
 · exact fE hh x1 x2 hx hE
theorem uc {z TI TO i1 i2 l1 l2:Addr} {k1 k2:Nat} {xs ys:Array Value} {x y a b:Value} {Q:.(14)} (D:ZipApart z TI TO i1 i2 l1 l2) (n12:l1≠TI) (n22:l2≠TI)
 (hz:IsZip s.heap z TI TO .none) (hTI:IsPair s.heap TI (.ref i1) (.ref i2)) (hTO:IsPair s.heap TO a b) (h1:Itq s.heap i1 l1 k1 xs) (h2:Itq s.heap i2 l2 k2 ys) (hx:xs[k1]? = some x) (hy:ys[k2]? = some y)
 (hQ:∀ h',IsZip h' z TI TO (rawInt s.heap.objs.size)->IsPair h' TO x y->Itq h' i1 l1 (k1+1) xs->Itq h' i2 l2 (k2+1) ys->IsPair h' s.heap.objs.size x y->h'.objs.size=s.heap.objs.size+1 ->
   (∀ c o,c≠z->c≠TO->c≠i1->c≠i2->s.heap.get? c=some o->h'.get? c=some o)->Q .(21) { s with heap:=h' }) :
 wpAny .(9) A (Builtin.«zip.__next__» ⟨[.ref z],[]⟩) (fun fin s'=>∃ v,fin=.done (.ret v)/\Q v s') E s:=by
 show wpAny _ _ (field (.ref z) 2 >>= _) _ _ _;refine wpAny_bind (wpAny_field hz rfl (x:=.bool false) rfl ?_);show wpAny _ _ (field (.ref z) 3 >>= _) _ _ _;refine wpAny_bind (wpAny_field hz rfl (x:=.ref TI) rfl ?_);refine wpAny_bind (wpAny_seqItems hTI rfl ?_);show wpAny _ _ (Builtin.SmallTypes.ownedTupleIsFree (.ref z) >>= _) _ _ _;refine wpAny_bind ?_;unfold Builtin.SmallTypes.ownedTupleIsFree;refine wpAny_bind (wpAny_field hz rfl (x:=.none) rfl (wpAny_pure ?_));simp only [if_true];refine wpAny_bind (wpAny_rule ?_);refine wpAny_bind (wpAny_field hz rfl (x:=.ref TO) rfl ?_);refine wpAny_bind (wpAny_setField_rec hz (by simp) fun g1 hz1 e1=>?_);replace hz1:IsZip g1 z TI TO .ellipsis:=hz1;refine wpAny_bind ?_;simp only [List.zipIdx_cons,List.zipIdx_nil,List.forIn_cons,List.forIn_nil];refine wpAny_bind (wpAny_bind (wpAny_onRaise ?_));show wpAny _ _ (Builtin.SmallTypes.nextOf (.ref i1) >>= _) _ _ _;have h1a:Itq g1 i1 l1 k1 xs:=h1.but e1.extBut D.i1z D.l1z;have h2a:Itq g1 i2 l2 k2 ys:=h2.but e1.extBut D.i2z D.l2z;refine wpAny_bind (Itq.item (s:={ s with heap:=g1 }) h1a D.l1i1 hx fun g2 h1b e2=>wpAny_pure ?_);have hTO2:IsPair g2 TO a b:=e2.extBut _ _ D.TOi1 (e1.extBut _ _ D.TOz hTO);have h2b:Itq g2 i2 l2 k2 ys:=h2a.but e2.extBut (Ne.symm D.i12) D.l2i1;refine wpAny_bind (wpAny_seqItems hTO2 rfl ?_);refine wpAny_bind (wpAny_updateSeq_pair hTO2 fun g3 hTO3 e3=>?_);replace hTO3:IsPair g3 TO x b:=hTO3;have h1c:Itq g3 i1 l1 (k1+1) xs:=h1b.but e3.extBut (Ne.symm D.TOi1) D.l1TO;have h2c:Itq g3 i2 l2 k2 ys:=h2b.but e3.extBut (Ne.symm D.TOi2) D.l2TO;refine wpAny_bind (wpAny_letGo (wpAny_pure ?_));refine wpAny_bind (wpAny_bind (wpAny_onRaise ?_));show wpAny _ _ (Builtin.SmallTypes.nextOf (.ref i2) >>= _) _ _ _;refine wpAny_bind (Itq.item (s:={ s with heap:=g3 }) h2c D.l2i2 hy fun g4 h2d e4=>wpAny_pure ?_);have hTO4:IsPair g4 TO x b:=e4.extBut _ _ D.TOi2 hTO3;have h1d:Itq g4 i1 l1 (k1+1) xs:=h1c.but e4.extBut D.i12 D.l1i2;refine wpAny_bind (wpAny_seqItems hTO4 rfl ?_);refine wpAny_bind (wpAny_updateSeq_pair hTO4 fun g5 hTO5 e5=>?_);replace hTO5:IsPair g5 TO x y:=hTO5;have h1e:Itq g5 i1 l1 (k1+1) xs:=h1d.but e5.extBut (Ne.symm D.TOi1) D.l1TO;have h2e:Itq g5 i2 l2 (k2+1) ys:=h2d.but e5.extBut (Ne.symm D.TOi2) D.l2TO;refine wpAny_bind (wpAny_letGo (wpAny_pure (wpAny_pure ?_)));refine wpAny_bind (wpAny_seqItems hTO5 rfl ?_);refine wpAny_bind (wpAny_newTuple ?_);have hsz:g5.objs.size=s.heap.objs.size:=by rw [e5.1,e4.1,e3.1,e2.1,e1.1]
 have hz5:IsZip g5 z TI TO .ellipsis:=e5.extBut _ _ (Ne.symm D.TOz) (e4.extBut _ _ (Ne.symm D.i2z) (e3.extBut _ _ (Ne.symm D.TOz) (e2.extBut _ _ (Ne.symm D.i1z) hz1)));have k5:∀ c o,c≠z->c≠TO->c≠i1->c≠i2->s.heap.get? c=some o->g5.get? c=some o:=fun c o c1 c2 c3 c4 q=>e5.extBut _ _ c2 (e4.extBut _ _ c4 (e3.extBut _ _ c2 (e2.extBut _ _ c3 (e1.extBut _ _ c1 q))));have zlt:z<g5.objs.size:=Heap.lt_size hz5;show wpAny _ _ (Builtin.SmallTypes.ownedTupleHandOut (.ref z) (.ref g5.objs.size) >>= _) _ _ _;refine wpAny_bind ?_;unfold Builtin.SmallTypes.ownedTupleHandOut;have hz6:IsZip (g5.push { cls:=.type "tuple",data:=.seq #[x,y] }) z TI TO .ellipsis:=Heap.get?_push_of_some _ hz5;refine wpAny_bind (wpAny_setField_rec hz6 (by simp) fun g7 hz7 e7=>?_);replace hz7:IsZip g7 z TI TO (rawInt g5.objs.size):=hz7;refine wpAny_setField_rec hz7 (by simp) fun g8 hz8 e8=>?_;replace hz8:IsZip g8 z TI TO (rawInt g5.objs.size):=hz8;have up:∀ c o,c≠z->g5.get? c=some o->g8.get? c=some o:=fun c o c1 q=>e8.extBut _ _ c1 (e7.extBut _ _ c1 (Heap.get?_push_of_some _ q));have hT8:IsPair g8 g5.objs.size x y:=e8.extBut _ _ (Nat.ne_of_gt zlt) (e7.extBut _ _ (Nat.ne_of_gt zlt) (Heap.get?_push_size _ rfl));have hs8:g8.objs.size=g5.objs.size+1:=by rw [e8.1,e7.1,Heap.size_push]
 rw [hsz] at hz8 hT8 hs8;refine wpAny_pure ⟨_,rfl,?_⟩;show Q (.ref g5.objs.size) _;rw [hsz];exact hQ g8 hz8 (up _ _ D.TOz hTO5) (h1e.at (fun o q=>up _ o D.i1z q) fun o q=>up _ o D.l1z q) (h2e.at (fun o q=>up _ o D.i2z q) fun o q=>up _ o D.l2z q) hT8 hs8 fun c o c1 c2 c3 c4 q=>up c o c1 (k5 c o c1 c2 c3 c4 q)
theorem zq_end {z TI TO i1 i2 l1 l2:Addr} {k1 k2:Nat} {xs ys:Array Value} {a b:Value} {Q:PySem.Fin->Shared->Prop} (hh:A.handled=none) (D:ZipApart z TI TO i1 i2 l1 l2)
 (hz:IsZip s.heap z TI TO .none) (hTI:IsPair s.heap TI (.ref i1) (.ref i2)) (hTO:IsPair s.heap TO a b) (h1:Itq s.heap i1 l1 k1 xs) (h2:Itq s.heap i2 l2 k2 ys) (hend:xs[k1]? = none\/ys[k2]? = none)
 (hE:∀ h' e,(∀ c o,c≠z->c≠TO->c≠i1->c≠i2->s.heap.get? c=some o->h'.get? c=some o)->(∃ o,h'.get? e=some o/\o.cls=.type "StopIteration")->E (.ref e) { s with heap:=h' }):wpAny .(9) A (Builtin.«zip.__next__» ⟨[.ref z],[]⟩) Q E s:=by
 show wpAny _ _ (field (.ref z) 2 >>= _) _ _ _;refine wpAny_bind (wpAny_field hz rfl (x:=.bool false) rfl ?_);show wpAny _ _ (field (.ref z) 3 >>= _) _ _ _;refine wpAny_bind (wpAny_field hz rfl (x:=.ref TI) rfl ?_);refine wpAny_bind (wpAny_seqItems hTI rfl ?_);show wpAny _ _ (Builtin.SmallTypes.ownedTupleIsFree (.ref z) >>= _) _ _ _;refine wpAny_bind ?_;unfold Builtin.SmallTypes.ownedTupleIsFree;refine wpAny_bind (wpAny_field hz rfl (x:=.none) rfl (wpAny_pure ?_));simp only [if_true];refine wpAny_bind (wpAny_rule ?_);refine wpAny_bind (wpAny_field hz rfl (x:=.ref TO) rfl ?_);refine wpAny_bind (wpAny_setField_rec hz (by simp) fun g1 hz1 e1=>?_);replace hz1:IsZip g1 z TI TO .ellipsis:=hz1;refine wpAny_bind ?_;simp only [List.zipIdx_cons,List.zipIdx_nil,List.forIn_cons,List.forIn_nil];refine wpAny_bind (wpAny_bind (wpAny_onRaise ?_));show wpAny _ _ (Builtin.SmallTypes.nextOf (.ref i1) >>= _) _ _ _;have h1a:Itq g1 i1 l1 k1 xs:=h1.but e1.extBut D.i1z D.l1z;have h2a:Itq g1 i2 l2 k2 ys:=h2.but e1.extBut D.i2z D.l2z
 cases hx:xs[k1]? with
 | none=>
   refine wpAny_bind (Itq.fin (s:={ s with heap:=g1 }) hh h1a hx fun g2 e e2 he=>?_)
   obtain ⟨oe,hoe,hce⟩:=he
   have hz2:IsZip g2 z TI TO .ellipsis:=e2 _ _ (Ne.symm D.i1z) hz1
   have hez:e≠z:=fun q=>by subst q;rw [hz2] at hoe;cases hoe;simp at hce
   exact wpAny_setField_rec hz2 (by simp) fun g3 _ e3=>hE g3 e (fun c o c1 _ c3 _ q=>e3.extBut _ _ c1 (e2 _ _ c3 (e1.extBut _ _ c1 q))) ⟨oe,e3.extBut _ _ hez hoe,hce⟩
 | some x=>
   have hy:ys[k2]? = none:=by
    rcases hend with h | h
    · rw [hx] at h;cases h
    · exact h
   refine wpAny_bind (Itq.item (s:={ s with heap:=g1 }) h1a D.l1i1 hx fun g2 h1b e2=>wpAny_pure ?_)
   have hTO2:IsPair g2 TO a b:=e2.extBut _ _ D.TOi1 (e1.extBut _ _ D.TOz hTO)
   have h2b:Itq g2 i2 l2 k2 ys:=h2a.but e2.extBut (Ne.symm D.i12) D.l2i1
   refine wpAny_bind (wpAny_seqItems hTO2 rfl ?_);refine wpAny_bind (wpAny_updateSeq_pair hTO2 fun g3 hTO3 e3=>?_)
   have h2c:Itq g3 i2 l2 k2 ys:=h2b.but e3.extBut (Ne.symm D.TOi2) D.l2TO
   refine wpAny_bind (wpAny_letGo (wpAny_pure ?_));refine wpAny_bind (wpAny_bind (wpAny_onRaise ?_))
   show wpAny _ _ (Builtin.SmallTypes.nextOf (.ref i2) >>= _) _ _ _
   refine wpAny_bind (Itq.fin (s:={ s with heap:=g3 }) hh h2c hy fun g4 e e4 he=>?_)
   obtain ⟨oe,hoe,hce⟩:=he
   have hz4:IsZip g4 z TI TO .ellipsis:=e4 _ _ (Ne.symm D.i2z) (e3.extBut _ _ (Ne.symm D.TOz) (e2.extBut _ _ (Ne.symm D.i1z) hz1))
   have hez:e≠z:=fun q=>by subst q;rw [hz4] at hoe;cases hoe;simp at hce
   exact wpAny_setField_rec hz4 (by simp) fun g5 _ e5=>hE g5 e (fun c o c1 c2 c3 c4 q=>e5.extBut _ _ c1 (e4 _ _ c4 (e3.extBut _ _ c2 (e2.extBut _ _ c3 (e1.extBut _ _ c1 q))))) ⟨oe,e5.extBut _ _ hez hoe,hce⟩
def itCls (b:Bool):String:=if b then "tuple_iterator" else "list_iterator"
def IsSq (h:Heap) (b:Bool) (l:Addr) (xs:Array Value):Prop:=if b=true then h.IsTuple l xs else h.IsList l xs
abbrev zqI (b:Bool) (l:Addr):Obj:={ cls:=.type (itCls b),data:=.fields #[.ref l,.int 0 0] }
theorem IsSq.push {h:Heap} {b:Bool} {l:Addr} {xs:Array Value} (x:IsSq h b l xs) (o:Obj):IsSq (h.push o) b l xs:=by
 cases b with
 | true=>exact (show h.IsTuple l xs from x).at fun u q=>Heap.get?_push_of_some _ q
 | false=>exact (show h.IsList l xs from x).push o
theorem gy {b:Bool} {l:Addr} {xs:Array Value} {Q:.(14)} (x:IsSq s.heap b l xs) (h:Q .(21) { s with heap:=s.heap.push (zqI b l) }):wpAny .(9) A (pyIter (.ref l)) Q E s:=by
 cases b with
 | true=>exact wpAny_pyIter_tuple (show s.heap.IsTuple l xs from x) h
 | false=>exact wpAny_pyIter_list (show s.heap.IsList l xs from x) h
end
abbrev zq1 (h:Heap) (b:Bool) (l:Addr):Heap:=h.push (zqI b l)
abbrev zq2 (h:Heap) (b c:Bool) (l m:Addr):Heap:=(zq1 h b l).push (zqI c m)
abbrev zq3 (h:Heap) (b c:Bool) (l m:Addr):Heap:=(zq2 h b c l m).push { cls:=.type "tuple",data:=.seq #[.ref h.objs.size,.ref (zq1 h b l).objs.size] }
abbrev zq4 (h:Heap) (b c:Bool) (l m:Addr):Heap:=(zq3 h b c l m).push { cls:=.type "tuple",data:=.seq #[.none,.none] }
abbrev zq5 (h:Heap) (b c:Bool) (l m:Addr):Heap:=(zq4 h b c l m).push { cls:=.type "zip",data:=.fields #[.none,.bool false,.bool false,.ref (zq2 h b c l m).objs.size,.ref (zq3 h b c l m).objs.size] }
theorem rh (b c:Bool) (l m:Addr) (xs ys:Array Value):Meets (Builtin.«zip.__new__» ⟨[.type "zip",.ref l,.ref m],[]⟩) (fun _ R s=>IsSq s.heap b l xs/\IsSq s.heap c m ys/\R (.ok (.ret (.ref (zq4 s.heap b c l m).objs.size))) { s with heap:=zq5 s.heap b c l m }):=
 .of_wp fun prog w A R s h=>by
  obtain ⟨hp,g,d,tk,os⟩:=s;obtain ⟨q1,q2,h⟩:=h;have hsub:=sub_zip;have r1:IsSq (Shared.heap ⟨hp,g,d,tk,os⟩) b l xs:=q1;have r2:IsSq (Shared.heap ⟨hp.push (zqI b l),g,d,tk,os⟩) c m ys:=IsSq.push q2 _;wp_walk using gy r1,gy r2;exact ⟨_,rfl,h⟩
section
variable {prog:Program} {w:World} {A:Around} {E:Value->Shared->Prop} {s:Shared}
theorem wz {b c:Bool} {l m:Addr} {xs ys:Array Value} {Q:.(14)} (q1:IsSq s.heap b l xs) (q2:IsSq s.heap c m ys)
 (h:∀ h',IsZip h' (s.heap.objs.size+4) (s.heap.objs.size+2) (s.heap.objs.size+3) .none->IsPair h' (s.heap.objs.size+2) .(21) (.ref .(17)) ->
   IsPair h' (s.heap.objs.size+3) .none .none->Itq h' s.heap.objs.size l 0 xs->Itq h' .(17) m 0 ys->(∀ c o,s.heap.get? c=some o->h'.get? c=some o)->Q (.ref (s.heap.objs.size+4)) { s with heap:=h' }) :
 wpAny .(9) A (call (.type "zip") [.ref l,.ref m]) Q E s:=by
 refine callType_new F.called_zip (by decide) (F.typeCall_zip_2 _ _) (F.newCall_zip_2 _ _) (fun obj=>F.args_object_init_3 obj _ _) F.entry_zip_new (rh b c l m xs ys) ⟨q1,q2,?_⟩;have z1:(zq1 s.heap b l).objs.size=s.heap.objs.size+1:=Heap.size_push ..;have z2:(zq2 s.heap b c l m).objs.size=s.heap.objs.size+2:=by rw [Heap.size_push,z1]
 have z3:(zq3 s.heap b c l m).objs.size=s.heap.objs.size+3:=by rw [Heap.size_push,z2]
 have z4:(zq4 s.heap b c l m).objs.size=s.heap.objs.size+4:=by rw [Heap.size_push,z3]
 have g5:(zq5 s.heap b c l m).get? (zq4 s.heap b c l m).objs.size=some _:=Heap.get?_push_size _ rfl;have g4:(zq5 s.heap b c l m).get? (zq3 s.heap b c l m).objs.size=some _:=Heap.get?_push_of_some _ (Heap.get?_push_size _ rfl);have g3:(zq5 s.heap b c l m).get? (zq2 s.heap b c l m).objs.size=some _:=Heap.get?_push_of_some _ (Heap.get?_push_of_some _ (Heap.get?_push_size _ rfl));have g2:(zq5 s.heap b c l m).get? (zq1 s.heap b l).objs.size=some (zqI c m):=Heap.get?_push_of_some _ (Heap.get?_push_of_some _ (Heap.get?_push_of_some _ (Heap.get?_push_size _ rfl)));have g1:(zq5 s.heap b c l m).get? s.heap.objs.size=some (zqI b l):=Heap.get?_push_of_some _ (Heap.get?_push_of_some _ (Heap.get?_push_of_some _ (Heap.get?_push_of_some _ (Heap.get?_push_size _ rfl))));have kp:∀ c' o,s.heap.get? c'=some o->(zq5 s.heap b c l m).get? c'=some o:=fun c' o q=>Heap.get?_push_of_some _ (Heap.get?_push_of_some _ (Heap.get?_push_of_some _ (Heap.get?_push_of_some _ (Heap.get?_push_of_some _ q))));show _/\_;rw [z2,z3,z4] at g5;rw [z1,z2] at g3;rw [z3] at g4;rw [z1] at g2;rw [z4];have j1:Itq (zq5 s.heap b c l m) s.heap.objs.size l 0 xs:=by
  cases b with
  | true=>exact .inr ⟨⟨_,g1,rfl,rfl⟩,(show s.heap.IsTuple l xs from q1).at fun o q=>kp _ o q⟩
  | false=>exact .inl ⟨⟨_,g1,rfl,rfl⟩,(show s.heap.IsList l xs from q1).at fun o q=>kp _ o q⟩
 have j2:Itq (zq5 s.heap b c l m) .(17) m 0 ys:=by
  cases c with
  | true=>exact .inr ⟨⟨_,g2,rfl,rfl⟩,(show s.heap.IsTuple m ys from q2).at fun o q=>kp _ o q⟩
  | false=>exact .inl ⟨⟨_,g2,rfl,rfl⟩,(show s.heap.IsList m ys from q2).at fun o q=>kp _ o q⟩
 exact ⟨⟨_,g5,rfl⟩,h _ g5 g3 g4 j1 j2 kp⟩
end
section
variable {X:Cx} {pins:List (Addr×Obj)} {σ:St} {H:Hp} {s:Shared}
theorem Inv.turnedL {h':Heap} {t':Nat} {ch:List Addr} (I:.(10)) (hk:∀ b o,b∉ch->s.heap.get? b=some o->h'.get? b=some o) (fc:∀ e∈ch,dY X pins H e):Inv X pins σ H { s with heap:=h',toks:=t' }:=by
 refine I.step (g':=s.gens) (d':=s.drawn) (ch:=ch) (fun b hb=>?_) (fun b o _ _ hb q _=>hk b o hb q) (fun b o _ _ hb q _=>⟨o.slots,hk b o hb q⟩) (fun b o _ _ n=>n) (fun b o hb q=>⟨o,hk b o hb q⟩)
  (fun _ _ q=>q) (fun _ _ _ q=>q) (fun b ps q=>⟨#[],by rw [q];simp⟩) (fun m hm=>?_) (fun b u q=>?_) I.bare
 · have f:=fc b hb;exact ⟨f.2.2.2.1,f.2.1,f.2.2.2.2.1,f.2.2.2.2.2⟩
 · obtain ⟨o,es,ep,ho,r⟩:=hm;exact ⟨o,es,ep,hk _ o (fun z=>(fc _ z).2.1 rfl) ho,r⟩
 · refine (I.hok b u q).stay (fun c v hc r=>hk c v (fun z=>?_) r) (fun c r=>r) fun c xs r=>r;have f:=fc c z;rcases hc with rfl | hc
   · rw [f.1] at q;cases q
   · rw [f.1] at hc;cases hc
def SqK (H:Hp) (c:Bool) (a:Addr) (xs:List V):Prop:=H a=some (if c=true then HO.tup xs else HO.lst xs)
theorem SqK.inj {c:Bool} {a:Addr} {xs ys:List V} (h:SqK H c a xs) (h':SqK H c a ys):xs=ys:=by
 unfold SqK at h h';rw [h] at h'
 cases c <;> (injection h' with h';injection h')
theorem SqK.ne {c:Bool} {a b:Addr} {xs:List V} (h:SqK H c a xs) (hb:H b=none):a≠b:=fun z=>by
 subst z;unfold SqK at h;rw [hb] at h;cases h
theorem SqK.same {H':Hp} {c:Bool} {a:Addr} {xs:List V} (h:SqK H c a xs) (y:Same H H'):SqK H' c a xs:=y _ _ h
theorem SqK.tup {a:Addr} {xs:List V} (h:H a=some (.tup xs)):SqK H true a xs:=h
theorem SqK.lst {a:Addr} {xs:List V} (h:H a=some (.lst xs)):SqK H false a xs:=h
theorem Inv.sqK {c:Bool} {a:Addr} {xs:List V} (I:.(10)) (h:SqK H c a xs):∃ its:List Value,Vals xs its/\IsSq s.heap c a its.toArray:=by
 cases c with
 | true=>
   obtain ⟨its,r,p,_⟩:=I.tuple (SqT.of h)
   exact ⟨its,r,(show s.heap.IsTuple a its.toArray from p)⟩
 | false=>
   obtain ⟨its,r,p,_⟩:=I.list (SqL.of h)
   exact ⟨its,r,p.isList⟩
def Itz (c d:Bool) (a b:Addr):It:=⟨fun i H=>∃ xs ys x y,SqK H c a xs/\SqK H d b ys/\xs[i]? = some x/\ys[i]? = some y,
 fun i H v H'=>∃ p,H p=none/\v=.ref p/\∀ xs ys,SqK H c a xs->SqK H d b ys->∃ x y,xs[i]? = some x/\ys[i]? = some y/\H'=upd H p (.tup [x,y]),
 fun i H=>∃ xs ys,SqK H c a xs/\SqK H d b ys/\(xs[i]? = none\/ys[i]? = none)⟩
def Itk (h:Heap) (c:Bool) (i l:Addr) (k:Nat):Prop:=if c=true then h.IsTupleIter i l k else h.IsListIter i l k
theorem Itk.at {h h':Heap} {c:Bool} {i l:Addr} {k:Nat} (x:Itk h c i l k) (hi:∀ o,h.get? i=some o->h'.get? i=some o):Itk h' c i l k:=by
 cases c with
 | true=>exact (show h.IsTupleIter i l k from x).at hi
 | false=>exact (show h.IsListIter i l k from x).at hi
theorem Itk.obj {h:Heap} {c:Bool} {i l:Addr} {k:Nat} (x:Itk h c i l k):∃ o,h.get? i=some o/\∀ v,o.data≠.cell v:=by
 cases c with
 | true=>obtain ⟨o,e,_,d⟩:=(show h.IsTupleIter i l k from x);exact ⟨o,e,fun v z=>by rw [d] at z;cases z⟩
 | false=>obtain ⟨o,e,_,d⟩:=(show h.IsListIter i l k from x);exact ⟨o,e,fun v z=>by rw [d] at z;cases z⟩
theorem Itk.q {h:Heap} {c:Bool} {i l:Addr} {k:Nat} {xs:Array Value} (x:Itk h c i l k) (q:IsSq h c l xs):Itq h i l k xs:=by
 cases c with
 | true=>exact .inr ⟨x,q⟩
 | false=>exact .inl ⟨x,q⟩
theorem mf {h:Heap} {l:Addr} {xs ys:Array Value} (p:h.IsTuple l xs) (q:h.IsList l ys):False:=by
 obtain ⟨o,e,c1,_⟩:=p;obtain ⟨o',e',c2,_⟩:=q;rw [e] at e';cases e';rw [c1] at c2;injection c2 with c2
 exact absurd c2 (by decide)
theorem Itq.k {h:Heap} {c:Bool} {i l:Addr} {k:Nat} {xs:Array Value} (x:Itq h i l k xs) (q:IsSq h c l xs):Itk h c i l k:=by
 rcases x with ⟨x1,x2⟩ | ⟨x1,x2⟩
 · cases c with
   | false=>exact x1
   | true=>exact (mf (show h.IsTuple l xs from q) x2).elim
 · cases c with
   | true=>exact x1
   | false=>exact (mf x2 (show h.IsList l xs from q)).elim
theorem IsSq.at {h h':Heap} {c:Bool} {l:Addr} {xs:Array Value} (x:IsSq h c l xs) (hl:∀ o,h.get? l=some o->h'.get? l=some o):IsSq h' c l xs:=by
 cases c with
 | true=>exact (show h.IsTuple l xs from x).at hl
 | false=>exact (show h.IsList l xs from x).at hl
def ZTn (c d:Bool) (z TI TO i1 i2 a b:Addr) (i:Nat) (h:Heap):Prop:=IsZip h z TI TO .none/\IsPair h TI (.ref i1) (.ref i2)/\(∃ u v,IsPair h TO u v)/\Itk h c i1 a i/\Itk h d i2 b i
structure ZAp (z TI TO i1 i2:Addr):Prop where
 h1:TI≠z
 h2:TO≠z
 h3:i1≠z
 h4:i2≠z
 h5:TI≠TO
 h6:TI≠i1
 h7:TI≠i2
 h8:TO≠i1
 h9:TO≠i2
 h10:i1≠i2
theorem ZAp.apart {z TI TO i1 i2 a b:Addr} (p:ZAp z TI TO i1 i2) (ha:∀ e∈[z,TI,TO,i1,i2],a≠e) (hb:∀ e∈[z,TI,TO,i1,i2],b≠e):ZipApart z TI TO i1 i2 a b:=
 ⟨p.h1,p.h2,p.h3,p.h4,p.h5,p.h6,p.h7,p.h8,p.h9,p.h10,ha _ (by simp),ha _ (by simp),ha _ (by simp),ha _ (by simp),hb _ (by simp),hb _ (by simp),hb _ (by simp),hb _ (by simp)⟩
theorem p0 {P:Program} {w:World} {K:PySem.W.Frag} {elts:List Expr} {k:Nat} {pos:Pos} {c d:Bool} {z TI TO i1 i2 a b:Addr} (ap:ZAp z TI TO i1 i2) :
 Turn P w K (.Tuple elts k pos) (Itz c d a b) [z,TI,TO,i1,i2] z (ZTn c d z TI TO i1 i2 a b) where
 mem:=zA7 ..
 obj:=fun i h st e he=>by
  obtain ⟨hz,hTI,⟨u,v,hTO⟩,k1,k2⟩:=st;simp only [zB0,zF9,or_false] at he;rcases he with rfl | rfl | rfl | rfl | rfl
  · exact ⟨_,hz,fun v q=>by cases q⟩
  · exact ⟨_,hTI,fun v q=>by cases q⟩
  · exact ⟨_,hTO,fun v q=>by cases q⟩
  · exact k1.obj
  · exact k2.obj
 keep:=fun i h h' st kp=>by
  obtain ⟨hz,hTI,⟨u,v,hTO⟩,k1,k2⟩:=st;exact ⟨kp z (by simp) _ hz,kp TI (by simp) _ hTI,⟨u,v,kp TO (by simp) _ hTO⟩,k1.at fun o q=>kp i1 (by simp) o q,k2.at fun o q=>kp i2 (by simp) o q⟩
 item:=by
  sleep 1;subst hP hw hK;obtain ⟨xs,ys,x,y,ha,hb,hx,hy⟩:=hg;obtain ⟨hz,hTI,⟨u,v,hTO⟩,k1,k2⟩:=st;obtain ⟨its,rv,q1⟩:=I.sqK ha;obtain ⟨jts,rw',q2⟩:=I.sqK hb;obtain ⟨u1,hu1,ru1⟩:=rv.get hx;obtain ⟨u2,hu2,ru2⟩:=rw'.get hy;have na:∀ e∈[z,TI,TO,i1,i2],a≠e:=fun e he=>ha.ne (hf e he).1;have nb:∀ e∈[z,TI,TO,i1,i2],b≠e:=fun e he=>hb.ne (hf e he).1;have D:=ap.apart na nb;have hT:s.TypeIs (.ref z) "zip":=⟨_,hz,rfl⟩
  have step:wpAny .(15) X.A (pyNext (.ref z)) (fun r s1=>∃ h',r=some .(21)/\s1={ s with heap:=h' }/\IsZip h' z TI TO (rawInt s.heap.objs.size)/\IsPair h' TO u1 u2/\Itq h' i1 a (i+1) its.toArray/\Itq h' i2 b (i+1) jts.toArray/\IsPair h' s.heap.objs.size u1 u2/\∀ c o,c≠z->c≠TO->c≠i1->c≠i2->s.heap.get? c=some o->h'.get? c=some o) E s:=by
   unfold pyNext;exact wpAny_bind (wpAny_attempt (wpAny_callSpecial?_slot (name:=Str.ofString "__next__") hT F.slot_zip_next (wpAny_call_entry F.slot_zip_next hT F.entry_zip_next (uc D (na _ (by simp)) (nb _ (by simp)) hz hTI hTO (k1.q q1) (k2.q q2) (by simpa using hu1) (by simpa using hu2) fun h' a1 a2 a3 a4 a5 a6 a7=>wpAny_pure ⟨h',rfl,rfl,a1,a2,a3,a4,a5,a7⟩) (F.args_zip_next_1 _))))
  refine thn step fun r s1 ⟨h',e1,e2,a1,a2,a3,a4,a5,a7⟩=>?_;subst e1 e2;refine ⟨_,rfl,wpAny_letOwnedTupleGo_zip a1 fun h2 b1 b2=>?_⟩;have hn:H s.heap.objs.size=none:=I.hok.fresh (zA1 _);have zlt:z<s.heap.objs.size:=Heap.lt_size hz;have up:∀ c o,c∉[z,TO,i1,i2]->s.heap.get? c=some o->h2.get? c=some o:=fun c o hc' q=>by
   simp only [zB0,zF9,or_false,not_or] at hc';exact b2.extBut _ _ hc'.1 (a7 c o hc'.1 hc'.2.1 hc'.2.2.1 hc'.2.2.2 q)
  have I1:Inv X pins σ H { s with heap:=h2,toks:=s.toks }:=I.turnedL (ch:=[z,TO,i1,i2]) up fun e he=>hf e (by
   simp only [zB0,zF9,or_false] at he ⊢;rcases he with rfl | rfl | rfl | rfl <;> simp)
  have hTd:TupD h2 s.heap.objs.size [u1,u2].toArray:=⟨0,b2.extBut _ _ (Nat.ne_of_gt zlt) a5⟩
  have I2:=I1.trackT (ys:=[x,y]) (.cons ru1 (.cons ru2 .nil)) (by show 2<=sizeLine;decide) hTd (I.fpOk (zA1 _) hn);have q1':IsSq h' c a its.toArray:=q1.at fun o q=>a7 _ o (na _ (by simp)) (na _ (by simp)) (na _ (by simp)) (na _ (by simp)) q;have q2':IsSq h' d b jts.toArray:=q2.at fun o q=>a7 _ o (nb _ (by simp)) (nb _ (by simp)) (nb _ (by simp)) (nb _ (by simp)) q;refine ⟨.ref s.heap.objs.size,_,I2,rfl,⟨_,hn,rfl,fun xs' ys' ha' hb'=>?_⟩,⟨b1,b2.extBut _ _ ap.h1 (a7 _ _ ap.h1 ap.h5 ap.h6 ap.h7 hTI),⟨_,_,b2.extBut _ _ ap.h2 a2⟩,(a3.k q1').at fun o q=>b2.extBut _ _ ap.h3 q,(a4.k q2').at fun o q=>b2.extBut _ _ ap.h4 q⟩,fun e he=>?_⟩
  · cases ha.inj ha'
    cases hb.inj hb'
    exact ⟨x,y,hx,hy,rfl⟩
  · have le:e<s.heap.objs.size:=by
     obtain ⟨o,q,_⟩:∃ o,s.heap.get? e=some o/\True:=by
      simp only [zB0,zF9,or_false] at he;rcases he with rfl | rfl | rfl | rfl | rfl
      · exact ⟨_,hz,trivial⟩
      · exact ⟨_,hTI,trivial⟩
      · exact ⟨_,hTO,trivial⟩
      · obtain ⟨o,q,_⟩:=k1.obj;exact ⟨o,q,trivial⟩
      · obtain ⟨o,q,_⟩:=k2.obj;exact ⟨o,q,trivial⟩
     exact Heap.lt_size q
    rw [au (zC3 le)];exact (hf e he).1
 done:=by
  sleep 1;subst hP hw hK;obtain ⟨xs,ys,ha,hb,hend⟩:=hg;obtain ⟨hz,hTI,⟨u,v,hTO⟩,k1,k2⟩:=st;obtain ⟨its,rv,q1⟩:=I.sqK ha;obtain ⟨jts,rw',q2⟩:=I.sqK hb;have na:∀ e∈[z,TI,TO,i1,i2],a≠e:=fun e he=>ha.ne (hf e he).1;have nb:∀ e∈[z,TI,TO,i1,i2],b≠e:=fun e he=>hb.ne (hf e he).1;have D:=ap.apart na nb;have hT:s.TypeIs (.ref z) "zip":=⟨_,hz,rfl⟩
  have e1:its.toArray[i]? = none\/jts.toArray[i]? = none:=by
   have l1:=rv.length;have l2:=rw'.length;rcases hend with h | h
   · left;rw [List.getElem?_eq_none_iff] at h;simp;lia
   · right;rw [List.getElem?_eq_none_iff] at h;simp;lia
  unfold pyNext;refine wpAny_bind (wpAny_attempt (wpAny_callSpecial?_slot (name:=Str.ofString "__next__") hT F.slot_zip_next (wpAny_call_entry F.slot_zip_next hT F.entry_zip_next (zq_end (I.ok.hd hc) D hz hTI hTO (k1.q q1) (k2.q q2) e1 fun h' e hk he=>?_) (F.args_zip_next_1 _))));obtain ⟨o,ho,hcl⟩:=he;refine wpAny_bind (wpAny_isInstance (T:="StopIteration") (b:=true) ⟨o,ho,hcl⟩ isSubtype_stop (wpAny_pure ⟨rfl,?_⟩));refine I.turnedL (t':=s.toks) (ch:=[z,TO,i1,i2]) (fun c o hc' q=>?_) fun e he=>hf e (by
   simp only [zB0,zF9,or_false] at he ⊢;rcases he with rfl | rfl | rfl | rfl <;> simp)
  simp only [zB0,zF9,or_false,not_or] at hc';exact hk c o hc'.1 hc'.2.1 hc'.2.2.1 hc'.2.2.2 q
 self:=fun A i s Q E st h=>wpAny_pyIter_zip st.1 h
theorem pf:bootBuiltins "zip" = some (.type "zip"):=by decide +kernel
def iZip (ta:TA):TI:=fun σ H R=>ta σ H fun vs H1=>match vs with
 | [.ref a,.ref b]=>∃ c d xs ys,SqK H1 c a xs/\SqK H1 d b ys/\R (Itz c d a b) H1
 | _=>False
theorem pi_zip {l m:Expr} {ta:TA} {elts:List Expr} {k:Nat} {tp p pos:Pos} (hg:Gl X "zip") (hm:X.mg "zip" = none) (ha:PA X [l,m] ta) (hs:starEach [l,m] X.env=[(false,eval l X.env),(false,eval m X.env)]:=by rfl) (hs2:starEach [m] X.env=[(false,eval m X.env)]:=by rfl) :
 PI X (.Tuple elts k tp) (.Call (.Name "zip" p) [l,m] [] pos) (iZip ta):=by
 intro pins s σ H R I h;refine Call_ (dP I hg hm pf (PyProof.Rows.callWith_type1 (thn .(61) fun us s1 ⟨vs,H1,I1,r1,q1⟩=>?_) (by rw [hs,hs2]) (by rw [hs2];rfl)));dsimp only at q1;split at q1
 · rename_i a b
   obtain ⟨c,d,xs,ys,ka,kb,q⟩:=q1;obtain ⟨u,u',rfl,rx,ry⟩:=pW r1
   cases rx
   cases ry
   obtain ⟨its,rv,p1⟩:=I1.sqK ka;obtain ⟨jts,rv',p2⟩:=I1.sqK kb;refine wz p1 p2 fun h' hz hTI hTO j1 j2 hk=>?_;have I2:Inv X pins σ H1 { s1 with heap:=h' }:=I1.kept (t':=s1.toks) hk;have ap:ZAp (s1.heap.objs.size+4) (s1.heap.objs.size+2) (s1.heap.objs.size+3) s1.heap.objs.size (s1.heap.objs.size+1):=by
    have e:∀ n m:Nat,n≠m->s1.heap.objs.size+n≠s1.heap.objs.size+m:=fun n m h z=>h (Nat.add_left_cancel z);exact ⟨e 2 4 (by decide),e 3 4 (by decide),e 0 4 (by decide),e 1 4 (by decide),e 2 3 (by decide),e 2 0 (by decide),e 2 1 (by decide),e 3 0 (by decide),e 3 1 (by decide),e 0 1 (by decide)⟩
   refine wpAny_pyIter_zip (s:={ s1 with heap:=h' }) hz ⟨s1.heap.objs.size+4,_,_,_,H1,rfl,I2,p0 ap,⟨hz,hTI,⟨_,_,hTO⟩,j1.k (p1.at fun o q=>hk _ o q),j2.k (p2.at fun o q=>hk _ o q)⟩,fun e he=>?_,q⟩;have hb':s1.heap.objs.size<=e:=by
    simp only [zB0,zF9,or_false] at he;rcases he with rfl | rfl | rfl | rfl | rfl
    · exact zK2 _ 4
    · exact zK2 _ 2
    · exact zK2 _ 3
    · exact zA1 _
    · exact zK2 _ 1
   exact I1.fpOk hb' (I1.hok.fresh hb')
 · exact q1.elim
theorem sy {l m:Expr} {ta:TA} {elts:List Expr} {k:Nat} {tp p pos:Pos} (hg:Gl X "zip") (hm:X.mg "zip" = none) (ha:ZA X [l,m] ta) (hs:starEach [l,m] X.env=[(false,eval l X.env),(false,eval m X.env)]:=by rfl) (hs2:starEach [m] X.env=[(false,eval m X.env)]:=by rfl) :
 ZI X (.Tuple elts k tp) (.Call (.Name "zip" p) [l,m] [] pos) (iZip ta):=by with_unfolding_all exact pi_zip hg hm ha hs hs2
theorem wc {c d:Bool} {a b:Addr} {xs ys:List V} {g:TG} {tb:TS} {D:Ends} {σ:St} {H:Hp} (Pv:Nat->St->Hp->Prop) (h0:Pv 0 σ H) (hl:∀ i σ H,i<=min xs.length ys.length->Pv i σ H->SqK H c a xs/\SqK H d b ys)
 (hs:∀ i x y σ H p,xs[i]? = some x->ys[i]? = some y->Pv i σ H->H p=none->g (.ref p) σ (upd H p (.tup [x,y])) fun σ2 H2=>tb { D with nx:=Pv (i+1),ct:=Pv (i+1),bk:=D.nx } σ2 H2) (hd:∀ σ H,Pv (min xs.length ys.length) σ H->D.nx σ H) :
 ∃ W:Nat->Nat->St->Hp->Prop,(∃ m,W 0 m σ H)/\∀ i m σ H,W i m σ H ->
   ((Itz c d a b).stop i H/\D.nx σ H)\/((Itz c d a b).go i H/\∃ N:St->Hp->Prop,.(24)/\∀ x H',(Itz c d a b).yld i H x H'->g x σ H' fun σ2 H2=>tb { D with nx:=N,ct:=N,bk:=D.nx } σ2 H2):=by
 refine ⟨fun i m σ H=>m=min xs.length ys.length - i/\i<=min xs.length ys.length/\Pv i σ H,⟨_,rfl,zC5 _,h0⟩,?_⟩;rintro i m σ H ⟨rfl,hi,p⟩;obtain ⟨q1,q2⟩:=hl i σ H hi p;by_cases hlt:i<min xs.length ys.length
 · have l1:i<xs.length:=by lia
   have l2:i<ys.length:=by lia
   refine .inr ⟨⟨xs,ys,xs[i],ys[i],q1,q2,by simp [l1],by simp [l2]⟩,Pv (i+1),fun σ' H' p'=>⟨_,by lia,rfl,hlt,p'⟩,fun x H' y=>?_⟩;obtain ⟨pp,hn,rfl,hy⟩:=y;obtain ⟨x1,y1,e1,e2,rfl⟩:=hy xs ys q1 q2;exact hs i x1 y1 σ H pp e1 e2 p hn
 · have e:i=min xs.length ys.length:=by lia
   refine .inl ⟨⟨xs,ys,q1,q2,?_⟩,hd σ H (e▸p)⟩;by_cases l1:i<xs.length
   · right;rw [List.getElem?_eq_none_iff];lia
   · left;rw [List.getElem?_eq_none_iff];lia
theorem wv {nv:List Str} {ix:List (Str×Nat)} {σ:St} {g:TG} {ti:TT} {te:TE} {Fin:.(88)} {c d:Bool} {a b:Addr} {xs ys:List V} (Pv:.(94)) (h0:Pv 0 [] H) (hl:∀ i zs H,i<=min xs.length ys.length->Pv i zs H->SqK H c a xs/\SqK H d b ys)
 (hn:∀ i zs H,i<min xs.length ys.length->Pv i zs H->zs.length<sizeLine)
 (hs:∀ i x y zs H p,xs[i]? = some x->ys[i]? = some y->Pv i zs H->H p=none->g (.ref p) .(98) (upd H p (.tup [x,y])) fun σ2 H2=>ti σ2 H2 fun b H3=>if b=true then te σ2 H3 fun y H4=>Pv (i+1) (zs++[y]) H4 else Pv (i+1) zs H3)
 (hd:∀ zs H,Pv (min xs.length ys.length) zs H->Fin zs H):su nv ix g ti te σ (Itz c d a b) Fin H:=by
 refine ⟨fun i m zs H=>m=min xs.length ys.length - i/\i<=min xs.length ys.length/\Pv i zs H,⟨_,rfl,zC5 _,h0⟩,?_⟩;rintro i m zs H ⟨rfl,hi,p⟩;obtain ⟨q1,q2⟩:=hl i zs H hi p;by_cases hlt:i<min xs.length ys.length
 · have l1:i<xs.length:=by lia
   have l2:i<ys.length:=by lia
   refine .inr ⟨⟨xs,ys,xs[i],ys[i],q1,q2,by simp [l1],by simp [l2]⟩,hn i zs H hlt p,Pv (i+1),fun σ' H' p'=>⟨_,by lia,rfl,hlt,p'⟩,fun x H' y=>?_⟩;obtain ⟨pp,hn',rfl,hy⟩:=y;obtain ⟨x1,y1,e1,e2,rfl⟩:=hy xs ys q1 q2;exact hs i x1 y1 zs H pp e1 e2 p hn'
 · have e:i=min xs.length ys.length:=by lia
   refine .inl ⟨⟨xs,ys,q1,q2,?_⟩,hd zs H (e▸p)⟩;by_cases l1:i<xs.length
   · right;rw [List.getElem?_eq_none_iff];lia
   · left;rw [List.getElem?_eq_none_iff];lia
theorem dH {K:PySem.W.Frag} {x y:Str}:KpG [x,y] (gTup K 2 (lh (dW 0) (lh (dW 1) gNil))):=fun fr v H Q h=>by
 obtain ⟨a,xs,e,hq,hl,v1,r1,e1,v2,r2,e2,e3,q⟩:=h;refine ⟨a,xs,e,hq,hl,v1,r1,e1,v2,r2,e2,e3,⟨by simp,fun i w e=>?_⟩,q⟩;match i,e with
 | 0,e=>cases e
 | 1,e=>cases e
 | i+2,e=>exact e
theorem tF {prog:Program} {w:World} {A:Around} (hh:A.handled=none) (c:Bool) (it l:Addr) (hne:l≠it) (items:Array Value) :
 Draws prog w A it [it,l] items.size (fun i v=>items[i]? = some v) (fun i h=>Itk h c it l i/\IsSq h c l items) where
 live:=fun _ _ st=>let ⟨o,ho,_⟩:=st.1.obj;⟨o,ho⟩
 frame:=fun _ _ _ st k=>⟨st.1.at fun o e=>k it (zA7 ..) o e,st.2.at fun o e=>k l (by simp) o e⟩
 item:=fun i s Q E hi st hQ=>Itq.item (v:=items[i]) (st.1.q st.2) hne (by simp [hi]) fun h' a b=>hQ items[i] h' s.toks (by simp [hi]) ⟨a.k (st.2.at fun o e=>b.extBut _ _ hne e),st.2.at fun o e=>b.extBut _ _ hne e⟩ b
 done:=fun s Q E st hE=>Itq.fin hh (st.1.q st.2) (by simp) hE
theorem je (c:Bool) (l:Addr) (items:Array Value) :
 Meets (Builtin.«enumerate.__new__» ⟨[.type "enumerate",.ref l],[]⟩) (fun _ R s=>IsSq s.heap c l items /\
  R (.ok (.ret (.ref (s.heap.push (zqI c l)).objs.size))) { s with heap:=(s.heap.push (zqI c l)).push { cls:=.type "enumerate",data:=.fields #[.none,.bool false,.ref s.heap.objs.size,rawInt 0,.none,.none] } }):=
 .of_wp fun prog w A R s h=>by
  obtain ⟨hp,g,d,tk,os⟩:=s;obtain ⟨hl,h⟩:=h;have hsub:=sub_enumerate;have hS:IsSq (Shared.heap ⟨hp,g,d,tk,os⟩) c l items:=hl;obtain ⟨o,ho,_⟩:∃ o,hp.get? l=some o/\True:=by
   cases c with
   | true=>obtain ⟨o,e,_⟩:=(show hp.IsTuple l items from hl);exact ⟨o,e,trivial⟩
   | false=>obtain ⟨o,e,_⟩:=(show hp.IsList l items from hl);exact ⟨o,e,trivial⟩
  wp_walk using AutoSeq1.wpAny_loadPart' ho;refine wpAny_stack_any fun st=>wpAny_pure ?_;split
  · rename_i c' _ _ _ _ _
    cases (c' == Value.type "enumerate") <;> (wp_walk using AutoSeq1.wpAny_loadPart' ho,gy hS) <;> exact ⟨_,rfl,h⟩
  · wp_walk using AutoSeq1.wpAny_loadPart' ho,gy hS;exact ⟨_,rfl,h⟩
def ItE (c:Bool) (a:Addr):It:=⟨fun i H=>∃ xs x,SqK H c a xs/\xs[i]? = some x,fun i H v H'=>∃ p,H p=none/\v=.ref p/\∀ xs,SqK H c a xs->∃ y,xs[i]? = some y/\H'=upd H p (.tup [.int i,y]),fun i H=>∃ xs,SqK H c a xs/\xs.length=i⟩
theorem kI {P:Program} {w:World} {K:PySem.W.Frag} {elts:List Expr} {k:Nat} {pos:Pos} {c:Bool} {e it a:Addr} (hei:e≠it) :
 Turn P w K (.Tuple elts k pos) (ItE c a) [e,it] e (fun i h=>(∃ old,IsEnum h e it i old)/\Itk h c it a i) where
 mem:=zA7 ..
 obj:=fun i h st b hb=>by
  obtain ⟨⟨old,he⟩,kt⟩:=st;sleep 6
  · exact ⟨_,he,fun v z=>by cases z⟩
  · have:b=it:=by simpa using hb
    subst this;exact kt.obj
 keep:=fun i h h' st k=>⟨let ⟨old,he⟩:=st.1;⟨old,k e (by simp) _ he⟩,st.2.at fun o q=>k it (by simp) o q⟩
 item:=by
  sleep 1;subst hP hw hK;obtain ⟨xs,x,hq,hx⟩:=hg;obtain ⟨⟨old,he⟩,hit⟩:=st;obtain ⟨its,rv,p⟩:=I.sqK hq;obtain ⟨u,hu,ru⟩:=rv.get hx;have fe:=hf e (by simp);have fi:=hf it (by simp);have hae:a≠e:=hq.ne fe.1;have hai:a≠it:=hq.ne fi.1;have hlt:i<its.toArray.size:=by rw [zA8];exact (List.getElem?_eq_some_iff.mp hu).1
  refine wpAny_pyNext_enum_itemD (tF (A:=X.A.in1) (I.ok.hd hc) c it a hai its.toArray) he ⟨hit,p⟩ hlt hei (by simp [hei,Ne.symm hae]) fun x' h' tk hPx ho hst' hTup hsz hk=>?_;have ex:x'=u:=by
   have:its[i]? = some x':=by simpa using hPx
   rw [hu] at this;exact (Option.some.inj this).symm
  subst ex;refine ⟨_,rfl,wpAny_letOwnedTupleGo_enum ho fun h2 he2 hs2=>?_⟩;have hel:e<s.heap.objs.size:=Heap.lt_size he;have I1:Inv X pins σ H { s with heap:=h2,toks:=tk+1 }:=I.turned2 (fun b o n1 n2 q=>(hs2.2 b n1).trans (hk b o n1 n2 q)) fe fi;have hTd:TupD h2 s.heap.objs.size [.int i tk,x'].toArray:=⟨0,(hs2.2 _ (Nat.ne_of_gt hel)).trans hTup⟩
  have hn:H s.heap.objs.size=none:=I.hok.fresh (zA1 _);have I2:=I1.trackT (ys:=[.int i,x]) (.cons ⟨tk,rfl⟩ (.cons ru .nil)) (by show 2<=sizeLine;decide) hTd (I.fpOk (zA1 _) hn);have hil:it<s.heap.objs.size:=by obtain ⟨o,q,_⟩:=hit.obj;exact Heap.lt_size q
  refine ⟨.ref s.heap.objs.size,_,I2,rfl,⟨_,hn,rfl,fun ys hy=>?_⟩,⟨⟨x',by simpa using he2⟩,hst'.1.at fun o q=>(hs2.2 it (Ne.symm hei)).trans q⟩,fun b hb=>?_⟩
  · cases hq.inj hy
    exact ⟨x,hx,rfl⟩
  · sleep 6
    · rw [au (zC3 hel)];exact fe.1
    · have:b=it:=by simpa using hb
      subst this;rw [au (zC3 hil)];exact fi.1
 done:=by
  sleep 1;subst hP hw hK;obtain ⟨xs,hq,hx⟩:=hg;obtain ⟨⟨old,he⟩,hit⟩:=st;obtain ⟨its,rv,p⟩:=I.sqK hq;have fi:=hf it (by simp);have hai:a≠it:=hq.ne fi.1;have hn:its.toArray.size=i:=by rw [zA8,← rv.length];exact hx
  refine wpAny_pyNext_enum_endD (tF (A:=X.A.in1) (I.ok.hd hc) c it a hai its.toArray) he ⟨by rw [hn];exact hit,p⟩ fun h' hb=>⟨rfl,I.turned (t':=s.toks) (it:=it) (fun b o n q=>hb b o n q) fi.1 fi.2.1 fi.2.2.2.1 fi.2.2.2.2.1 fi.2.2.2.2.2⟩
 self:=fun A i s Q E st h=>let ⟨⟨_,he⟩,_⟩:=st;wpAny_pyIter_enum he h
theorem lC {prog:Program} {w:World} {A:Around} {E:.(14)} {s:Shared} {c:Bool} {l:Addr} {items:Array Value} {Q:.(14)} (hL:IsSq s.heap c l items)
 (h:∀ h',IsEnum h' .(17) s.heap.objs.size 0 .none->Itk h' c s.heap.objs.size l 0->(∀ b o,s.heap.get? b=some o->h'.get? b=some o)->Q (.ref .(17)) { s with heap:=h' }) :
 wpAny .(9) A (call (.type "enumerate") [.ref l]) Q E s:=by
 have hz:(s.heap.push (zqI c l)).objs.size=s.heap.objs.size+1:=Heap.size_push ..;refine callType_new F.called_enumerate (by decide) (F.typeCall_enumerate_1 _) (F.newCall_enumerate_1 _) (fun obj=>F.args_object_init_2 obj _) F.entry_enumerate_new (je c l items) ⟨hL,?_⟩;have g:=Heap.get?_push_size (s.heap.push (zqI c l)) (o:={ cls:=.type "enumerate",data:=.fields #[.none,.bool false,.ref s.heap.objs.size,rawInt 0,.none,.none] }) rfl;rw [hz] at g;show _/\_;rw [hz];refine ⟨⟨_,g,rfl⟩,h _ g ?_ fun b o q=>Heap.get?_push_of_some _ (Heap.get?_push_of_some _ q)⟩;have e:=Heap.get?_push_of_some { cls:=.type "enumerate",data:=.fields #[.none,.bool false,.ref s.heap.objs.size,rawInt 0,.none,.none] } (Heap.get?_push_size s.heap (o:=zqI c l) rfl)
 cases c with
 | true=>exact ⟨_,e,rfl,rfl⟩
 | false=>exact ⟨_,e,rfl,rfl⟩
def tz (ta:TA):TI:=fun σ H R=>ta σ H fun vs H1=>match vs with
 | [.ref a]=>∃ c xs,SqK H1 c a xs/\R (ItE c a) H1
 | _=>False
theorem qP {l:Expr} {ta:TA} {elts:List Expr} {k:Nat} {tp p pos:Pos} (hg:Gl X "enumerate") (hm:X.mg "enumerate" = none) (ha:PA X [l] ta) (hs:starEach [l] X.env=[(false,eval l X.env)]:=by rfl) :
 PI X (.Tuple elts k tp) (.Call (.Name "enumerate" p) [l] [] pos) (tz ta):=by
 intro pins s σ H R I h;refine Call_ (dP I hg hm fA (PyProof.Rows.callWith_type1 (thn .(61) fun us s1 ⟨vs,H1,I1,r1,q1⟩=>?_) hs rfl));dsimp only at q1;split at q1
 · rename_i a
   obtain ⟨c,xs,hx,q⟩:=q1;obtain ⟨u,rfl,rx⟩:=cv r1
   cases rx
   obtain ⟨its,rv,pt⟩:=I1.sqK hx;refine lC pt fun h' he hit hk=>?_;have I2:Inv X pins σ H1 { s1 with heap:=h' }:=I1.kept (t':=s1.toks) hk;refine wpAny_pyIter_enum (s:={ s1 with heap:=h' }) he ⟨s1.heap.objs.size+1,[s1.heap.objs.size+1,s1.heap.objs.size],_,_,H1,rfl,I2,kI (Nat.succ_ne_self _),⟨⟨_,he⟩,hit⟩,fun b hb=>?_,q⟩;have hb':s1.heap.objs.size<=b:=by
    sleep 6
    · exact Nat.le_succ _
    · have:b=s1.heap.objs.size:=by simpa using hb
      exact Nat.le_of_eq this.symm
   exact I1.fpOk hb' (I1.hok.fresh hb')
 · exact q1.elim
theorem cD {l:Expr} {ta:TA} {elts:List Expr} {k:Nat} {tp p pos:Pos} (hg:Gl X "enumerate") (hm:X.mg "enumerate" = none) (ha:ZA X [l] ta) (hs:starEach [l] X.env=[(false,eval l X.env)]:=by rfl) :
 ZI X (.Tuple elts k tp) (.Call (.Name "enumerate" p) [l] [] pos) (tz ta):=by with_unfolding_all exact qP hg hm ha hs
theorem oy {c:Bool} {a:Addr} {xs:List V} {g:TG} {tb:TS} {D:Ends} {σ:St} {H:Hp} (Pv:Nat->St->Hp->Prop) (h0:Pv 0 σ H) (hl:∀ i σ H,i<=xs.length->Pv i σ H->SqK H c a xs)
 (hs:∀ i x σ H p,xs[i]? = some x->Pv i σ H->H p=none->g (.ref p) σ (upd H p (.tup [.int i,x])) fun σ2 H2=>tb { D with nx:=Pv (i+1),ct:=Pv (i+1),bk:=D.nx } σ2 H2) (hd:∀ σ H,Pv xs.length σ H->D.nx σ H) :
 ∃ W:Nat->Nat->St->Hp->Prop,(∃ m,W 0 m σ H)/\∀ i m σ H,W i m σ H ->
   ((ItE c a).stop i H/\D.nx σ H)\/((ItE c a).go i H/\∃ N:St->Hp->Prop,.(24)/\∀ x H',(ItE c a).yld i H x H'->g x σ H' fun σ2 H2=>tb { D with nx:=N,ct:=N,bk:=D.nx } σ2 H2):=by
 refine ⟨fun i m σ H=>m=xs.length - i/\i<=xs.length/\Pv i σ H,.(86),?_⟩;rintro i m σ H ⟨rfl,hi,p⟩;have q:=hl i σ H hi p;by_cases hlt:i<xs.length
 · refine .inr ⟨.(74),Pv (i+1),fun σ' H' p'=>.(56),fun x H' y=>?_⟩;obtain ⟨pp,hn,rfl,hy⟩:=y;obtain ⟨z,hz,rfl⟩:=hy xs q;exact hs i z σ H pp hz p hn
 · have e:i=xs.length:=by lia
   subst e;exact .inl ⟨⟨xs,q,rfl⟩,hd σ H p⟩
theorem dk {nv:List Str} {ix:List (Str×Nat)} {σ:St} {g:TG} {ti:TT} {te:TE} {Fin:.(88)} {c:Bool} {a:Addr} {xs:List V} (Pv:.(94)) (h0:Pv 0 [] H) (hl:∀ i zs H,i<=xs.length->Pv i zs H->SqK H c a xs)
 (hn:∀ i zs H,i<xs.length->Pv i zs H->zs.length<sizeLine)
 (hs:∀ i x zs H p,xs[i]? = some x->Pv i zs H->H p=none->g (.ref p) .(98) (upd H p (.tup [.int i,x])) fun σ2 H2=>ti σ2 H2 fun b H3=>if b=true then te σ2 H3 fun y H4=>Pv (i+1) (zs++[y]) H4 else Pv (i+1) zs H3)
 (hd:∀ zs H,Pv xs.length zs H->Fin zs H):su nv ix g ti te σ (ItE c a) Fin H:=by
 refine ⟨fun i m zs H=>m=xs.length - i/\i<=xs.length/\Pv i zs H,⟨_,rfl,zC5 _,h0⟩,?_⟩;rintro i m zs H ⟨rfl,hi,p⟩;have q:=hl i zs H hi p;by_cases hlt:i<xs.length
 · refine .inr ⟨.(74),hn i zs H hlt p,Pv (i+1),fun σ' H' p'=>⟨_,by lia,rfl,hlt,p'⟩,fun x H' y=>?_⟩;obtain ⟨pp,hn',rfl,hy⟩:=y;obtain ⟨z,hz,rfl⟩:=hy xs q;exact hs i z zs H pp hz p hn'
 · have e:i=xs.length:=by lia
   subst e;exact .inl ⟨⟨xs,q,rfl⟩,hd zs H p⟩
end
end L2
namespace SRV
open PySem
open PyProof.Rows hiding K SortedTo K_bubble K_mirror K_congr K_mirror_equal
class KV where
 sh:Shared
 kind:SortKind
 kv:Keyed->Int
 good:Keyed->Prop
 lt:∀ {prog:Program} {w:World} {A:Around} {E:.(14)} {st:SortSt} {x y:Keyed} {Q:Option Bool->SortSt->Prop},kindOf st=kind->good x->good y->Q (some (decide (kv x<kv y))) st->wpS .(9) A E sh (lt' x y) Q st
variable [KV]
def kv (p:Keyed):Int:=KV.kv p
def IsI (p:Keyed):Prop:=KV.good p
def AllI (xs:Array Keyed):Prop:=∀ p∈xs.toList,IsI p
def K (xs:Array Keyed) (i:Nat):Int:=match xs[i]? with
 | some p=>kv p
 | none=>0
def SortedTo (xs:Array Keyed) (k:Nat):Prop:=∀ i j,i<=j->j<k->K xs i<=K xs j
theorem K_congr {xs ys:Array Keyed} {i j:Nat} (h:xs[i]? = ys[j]?):K xs i=K ys j:=by unfold K;rw [h]
theorem K_bubble {xs:Array Keyed} {src d:Nat} (hs:src<xs.size) (hd:d<=src) (k:Nat) :
 K (bubble xs src d) k=if k=src - d then K xs src else if src - d<k/\k<=src then K xs (k - 1) else K xs k:=by
 have e:=getElem?_bubble hs d hd k;by_cases h1:k=src - d
 · rw [if_pos h1] at e ⊢;exact K_congr e
 · rw [if_neg h1] at e ⊢;by_cases h2:src - d<k/\k<=src
   · rw [if_pos h2] at e ⊢;exact K_congr e
   · rw [if_neg h2] at e ⊢;exact K_congr e
theorem K_mirror {xs:Array Keyed} {i j:Nat} (hj:j<=xs.size) (k:Nat) :
 K (mirror xs i j ((j - i) / 2)) k=if i<=k/\k<j then K xs (i+j - 1 - k) else K xs k:=by
 have e:=getElem?_mirror_all (i:=i) hj k;by_cases h1:i<=k/\k<j
 · rw [if_pos h1] at e ⊢;exact K_congr e
 · rw [if_neg h1] at e ⊢;exact K_congr e
theorem K_mirror_equal {xs:Array Keyed} {i j:Nat} (hj:j<=xs.size) (heq:∀ k,i<=k->k<j->K xs k=K xs (j - 1)) (k:Nat) :
 K (mirror xs i j ((j - i) / 2)) k=K xs k:=by
 rw [K_mirror hj];split
 · rename_i h
   rw [heq k h.1 h.2,heq (i+j - 1 - k) (by lia) (by lia)]
 · rfl
section
variable {prog:Program} {w:World} {A:Around} {E:Value->Shared->Prop}
theorem s_lt {st:SortSt} {x y:Keyed} {Q:Option Bool->SortSt->Prop} (hk:kindOf st=KV.kind) (hx:IsI x) (hy:IsI y) (h:Q (some (decide (kv x<kv y))) st):wpS .(9) A E KV.sh (lt' x y) Q st:=KV.lt hk hx hy h
theorem fL {st:SortSt} {xs:Array Keyed} {i:Nat} {p:Keyed} {Q:Keyed->SortSt->Prop} (e:xs[i]? = some p) (h:Q p st):wpS .(9) A E KV.sh (elem' xs i) Q st:=by
 rw [elem'_eq,e];exact wpS_pure h
def gal:Bool->Keyed->Array Keyed->Nat->Nat->Nat->StateT SortSt Sem (Option Nat):=sortPriv% PySem.Builtin.gallop
theorem gal_eq (lf:Bool) (ky:Keyed) (ar:Array Keyed) (bs n ht:Nat):gal lf ky ar bs n ht=(do
 let byd (i:Nat):StateT SortSt Sem (Option Bool):=do
  let x ← elem' ar (bs+i)
  if lf then lt' x ky else return (← lt' ky x).map (!·)
 let mut la:=0
 let mut os:=1
 let mut lo:=0
 let mut hi:=0
 let some rt ← byd ht | return none
 if rt then
  let mo:=n - ht
  for _ in [0:n] do
   if os>=mo then break
   let some mr ← byd (ht+os) | return none
   if !mr then break
   la:=os
   os:=2*os+1
  lo:=ht+la+1
  hi:=ht+min os mo
 else
  let mo:=ht+1
  for _ in [0:n] do
   if os>=mo then break
   let some fd ← byd (ht - os) | return none
   if fd then break
   la:=os
   os:=2*os+1
  lo:=ht+1 - min os mo
  hi:=ht - la
 for _ in [0:n] do
  if lo>=hi then break
  let m:=lo+(hi - lo) / 2
  let some mr ← byd m | return none
  if mr then lo:=m+1 else hi:=m
 return some hi):=rfl
def Byd (lf:Bool) (ky:Keyed) (ar:Array Keyed) (bs i:Nat):Bool:=if lf then decide (K ar (bs+i)<kv ky) else !decide (kv ky<K ar (bs+i))
theorem t7 {ar:Array Keyed} {i:Nat} {p:Keyed} (e:ar[i]? = some p):K ar i=kv p:=by unfold K;rw [e]
theorem at_of {ar:Array Keyed} {i:Nat} (h:i<ar.size) (hI:AllI ar):∃ p,ar[i]? = some p/\IsI p:=⟨ar[i],getElem?_pos ar i h,hI _ (by simp)⟩
theorem s_byd {st:SortSt} {lf:Bool} {ky:Keyed} {ar:Array Keyed} {bs i:Nat} {Q:Option Bool->SortSt->Prop} (hk:kindOf st=KV.kind) (hI:AllI ar) (hy:IsI ky) (hi:bs+i<ar.size) (h:Q (some (Byd lf ky ar bs i)) st) :
 wpS .(9) A E KV.sh (do let x ← elem' ar (bs+i);if lf then lt' x ky else return (← lt' ky x).map (!·)) Q st:=by
 obtain ⟨p,e,hp⟩:=at_of hi hI;have hK:=t7 e;unfold Byd at h;refine wpS_bind (fL e ?_)
 cases lf with
 | true=>
   simp only [if_true] at h ⊢
   rw [hK] at h
   exact s_lt hk hp hy h
 | false=>
   simp only [zB5,if_false] at h ⊢
   rw [hK] at h
   exact wpS_bind (s_lt hk hy hp (wpS_pure h))
theorem gV {st:SortSt} {lf:Bool} {ky:Keyed} {ar:Array Keyed} {bs n ht c:Nat} {Q:Option Nat->SortSt->Prop} (hk:kindOf st=KV.kind) (hI:AllI ar) (hy:IsI ky) (hn:bs+n<=ar.size) (hh:ht<n) (hc:c<=n)
 (cut:∀ i,i<n->Byd lf ky ar bs i=decide (i<c)) (h:Q (some c) st):wpS .(9) A E KV.sh (gal lf ky ar bs n ht) Q st:=by
 have byd:∀ {i:Nat} {R:Option Bool->SortSt->Prop},i<n->R (some (decide (i<c))) st->wpS .(9) A E KV.sh (do let x ← elem' ar (bs+i);if lf then lt' x ky else return (← lt' ky x).map (!·)) R st:=fun {i R} hi hR=>
  s_byd hk hI hy (by lia) (by rw [cut i hi];exact hR)
 rw [gal_eq];dsimp only;refine wpS_bind (byd hh ?_);by_cases hr:ht<c
 · simp only [hr,decide_true,if_true];refine wpS_bind (wpS_mono (wpS_forRange (I:=fun x r st'=>st=st'/\∃ l o,r=(none,l,o)/\ht+l<c/\l<o/\x+1<=o) (Q:=fun r st'=>st=st'/\∃ l o,r=(none,l,o)/\ht+l<c/\l<o/\c<=ht+min o (n - ht)) ?_ ?_ ⟨rfl,0,1,rfl,by lia,by lia,by lia⟩) ?_)
   · rintro x r st' _ hx ⟨rfl,l,o,rfl,g1,g2,g3⟩;dsimp only;by_cases hge:o>=n - ht
     · rw [if_pos hge];exact wpS_pure ⟨rfl,l,o,rfl,g1,g2,by lia⟩
     · rw [if_neg hge];refine wpS_bind (byd (by lia) ?_);by_cases hm:ht+o<c
       · simp only [hm,decide_true,zL6,zB5,if_false];exact wpS_pure ⟨rfl,_,_,rfl,hm,by lia,by lia⟩
       · simp only [hm,decide_false,Bool.not_false,if_true];exact wpS_pure ⟨rfl,l,o,rfl,g1,g2,by lia⟩
   · rintro r st' ⟨rfl,l,o,rfl,g1,g2,g3⟩;exact ⟨rfl,l,o,rfl,g1,g2,by lia⟩
   · rintro r st' ⟨rfl,l,o,rfl,g1,g2,g3⟩;dsimp only;refine wpS_bind (wpS_mono (wpS_forRange (I:=fun x r st'=>st=st'/\∃ l u,r=(none,l,u)/\l<=c/\c<=u/\u<=n/\u - l<=n - x) (Q:=fun r st'=>st=st'/\∃ l,r=(none,l,c)) ?_ ?_ ⟨rfl,(ht+l+1),(ht+min o (n - ht)),rfl,(by lia),g3,(by lia),by lia⟩) ?_)
     · rintro x r st' _ hx ⟨rfl,l,u,rfl,g1,g2,g3,g4⟩;dsimp only;by_cases hge:l>=u
       · rw [if_pos hge];have:u=c:=by lia
         subst this;exact wpS_pure ⟨rfl,l,rfl⟩
       · rw [if_neg hge];refine wpS_bind (byd (by lia) ?_);by_cases hm:l+(u - l) / 2<c
         · simp only [hm,decide_true,if_true];exact wpS_pure ⟨rfl,_,_,rfl,by lia,g2,g3,by lia⟩
         · simp only [hm,decide_false,zB5,if_false];exact wpS_pure ⟨rfl,_,_,rfl,g1,by lia,by lia,by lia⟩
     · rintro r st' ⟨rfl,l,u,rfl,g1,g2,g3,g4⟩;have:u=c:=by
        have:max 0 n=n:=by lia
        lia
       subst this;exact ⟨rfl,l,rfl⟩
     · rintro r st' ⟨rfl,l,rfl⟩;exact wpS_pure h
 · simp only [hr,decide_false,zB5,if_false];refine wpS_bind (wpS_mono (wpS_forRange (I:=fun x r st'=>st=st'/\∃ l o,r=(none,l,o)/\c<=ht - l/\l<=ht/\l<o/\x+1<=o) (Q:=fun r st'=>st=st'/\∃ l o,r=(none,l,o)/\c<=ht - l/\l<=ht/\l<o/\ht+1 - min o (ht+1)<=c) ?_ ?_ ⟨rfl,0,1,rfl,by lia,by lia,by lia,by lia⟩) ?_)
   · rintro x r st' _ hx ⟨rfl,l,o,rfl,g1,g0,g2,g3⟩;dsimp only;by_cases hge:o>=ht+1
     · rw [if_pos hge];exact wpS_pure ⟨rfl,l,o,rfl,g1,g0,g2,by lia⟩
     · rw [if_neg hge];refine wpS_bind (byd (by lia) ?_);by_cases hm:ht - o<c
       · simp only [hm,decide_true,if_true];exact wpS_pure ⟨rfl,l,o,rfl,g1,g0,g2,by lia⟩
       · simp only [hm,decide_false,zB5,if_false];exact wpS_pure ⟨rfl,_,_,rfl,by lia,by lia,by lia,by lia⟩
   · rintro r st' ⟨rfl,l,o,rfl,g1,g0,g2,g3⟩;exact ⟨rfl,l,o,rfl,g1,g0,g2,by lia⟩
   · rintro r st' ⟨rfl,l,o,rfl,g1,g0,g2,g3⟩;dsimp only;refine wpS_bind (wpS_mono (wpS_forRange (I:=fun x r st'=>st=st'/\∃ l u,r=(none,l,u)/\l<=c/\c<=u/\u<=n/\u - l<=n - x) (Q:=fun r st'=>st=st'/\∃ l,r=(none,l,c)) ?_ ?_ ⟨rfl,(ht+1 - min o (ht+1)),(ht - l),rfl,g3,g1,(by lia),by lia⟩) ?_)
     · rintro x r st' _ hx ⟨rfl,l,u,rfl,g1,g2,g3,g4⟩;dsimp only;by_cases hge:l>=u
       · rw [if_pos hge];have:u=c:=by lia
         subst this;exact wpS_pure ⟨rfl,l,rfl⟩
       · rw [if_neg hge];refine wpS_bind (byd (by lia) ?_);by_cases hm:l+(u - l) / 2<c
         · simp only [hm,decide_true,if_true];exact wpS_pure ⟨rfl,_,_,rfl,by lia,g2,g3,by lia⟩
         · simp only [hm,decide_false,zB5,if_false];exact wpS_pure ⟨rfl,_,_,rfl,g1,by lia,by lia,by lia⟩
     · rintro r st' ⟨rfl,l,u,rfl,g1,g2,g3,g4⟩;have:u=c:=by
        have:max 0 n=n:=by lia
        lia
       subst this;exact ⟨rfl,l,rfl⟩
     · rintro r st' ⟨rfl,l,rfl⟩;exact wpS_pure h
end
open PyProof.Rows hiding K SortedTo K_bubble K_mirror K_congr K_mirror_equal
variable [KV]
def Le (x y:Keyed):Prop:=kv x<=kv y
structure MI (A B:List Keyed) (o:List Keyed) (ia ib:Nat):Prop where
 perm:o.Perm (A.take ia++B.take ib)
 srt:o.Pairwise Le
 lea:∀ x∈o,∀ y∈A.drop ia,kv x<=kv y
 leb:∀ x∈o,∀ y∈B.drop ib,kv x<=kv y
structure Mer (A B:List Keyed) (o:List Keyed):Prop where
 perm:o.Perm (A++B)
 srt:o.Pairwise Le
theorem i4 {l:List Keyed} (h:l.Pairwise Le) {i:Nat} (hi:i<l.length):∀ y∈l.drop (i+1),kv l[i]<=kv y:=by
 have e:l.drop i=l[i]::l.drop (i+1):=zE1 hi;have h2:(l.drop i).Pairwise Le:=h.sublist (zL0 i l);rw [e] at h2;exact (zG3.mp h2).1
theorem dh {l:List Keyed} {i:Nat} {y:Keyed} (h:y∈l.drop (i+1)):y∈l.drop i:=by
 rw [← List.drop_drop] at h;exact List.mem_of_mem_drop h
theorem MI.pushB {A B o:List Keyed} {ia ib:Nat} (m:MI A B o ia ib) (hB:B.Pairwise Le) (hi:ib<B.length) (h:∀ z∈A.drop ia,kv B[ib]<=kv z):MI A B (o++[B[ib]]) ia (ib+1):=by
 have hm:B[ib]∈B.drop ib:=by rw [zE1 hi];exact zA7
 refine ⟨?_,?_,fun x hx y hy=>?_,fun x hx y hy=>?_⟩
 · have e:B.take (ib+1)=B.take ib++[B[ib]]:=by rw [zD3,List.getElem?_eq_getElem hi];rfl
   rw [e,← zB7];exact m.perm.append_right _
 · refine zC7.mpr ⟨m.srt,List.pairwise_singleton _ _,fun x hx y hy=>?_⟩;rw [zC6.mp hy];exact m.leb x hx _ hm
 · sleep 24
   · exact m.lea x hx y hy
   · rw [zC6.mp hx];exact h y hy
 · sleep 24
   · exact m.leb x hx y (dh hy)
   · rw [zC6.mp hx];exact i4 hB hi y hy
theorem MI.pushA {A B o:List Keyed} {ia ib:Nat} (m:MI A B o ia ib) (hA:A.Pairwise Le) (hi:ia<A.length) (h:∀ z∈B.drop ib,kv A[ia]<=kv z):MI A B (o++[A[ia]]) (ia+1) ib:=by
 have hm:A[ia]∈A.drop ia:=by rw [zE1 hi];exact zA7
 refine ⟨?_,?_,fun x hx y hy=>?_,fun x hx y hy=>?_⟩
 · have e:A.take (ia+1)=A.take ia++[A[ia]]:=by rw [zD3,List.getElem?_eq_getElem hi];rfl
   rw [e,zB7];refine (m.perm.append_right _).trans ?_;rw [zB7];exact zF0 _ zH2
 · refine zC7.mpr ⟨m.srt,List.pairwise_singleton _ _,fun x hx y hy=>?_⟩;rw [zC6.mp hy];exact m.lea x hx _ hm
 · sleep 24
   · exact m.lea x hx y (dh hy)
   · rw [zC6.mp hx];exact i4 hA hi y hy
 · sleep 24
   · exact m.leb x hx y hy
   · rw [zC6.mp hx];exact h y hy
theorem MI.extA {A B o:List Keyed} {ia ib:Nat} (m:MI A B o ia ib) (hA:A.Pairwise Le):∀ (k:Nat),ia+k<=A.length->(∀ i (hi:ia+i<A.length),i<k->∀ z∈B.drop ib,kv A[ia+i]<=kv z)->MI A B (o++(A.drop ia).take k) (ia+k) ib
 | 0,_,_=>by rw [zK5,zD6];exact m
 | k+1,hk,h=>by
   have ih:=MI.extA m hA k (by lia) fun i hi hik=>h i hi (by lia);have hi:ia+k<A.length:=by lia
   have e:(A.drop ia).take (k+1)=(A.drop ia).take k++[A[ia+k]]:=by rw [zD3,List.getElem?_drop,List.getElem?_eq_getElem hi];rfl
   rw [e,← zB7];exact ih.pushA hA hi (h k hi (by lia))
theorem MI.extB {A B o:List Keyed} {ia ib:Nat} (m:MI A B o ia ib) (hB:B.Pairwise Le):∀ (k:Nat),ib+k<=B.length->(∀ i (hi:ib+i<B.length),i<k->∀ z∈A.drop ia,kv B[ib+i]<=kv z)->MI A B (o++(B.drop ib).take k) ia (ib+k)
 | 0,_,_=>by rw [zK5,zD6];exact m
 | k+1,hk,h=>by
   have ih:=MI.extB m hB k (by lia) fun i hi hik=>h i hi (by lia);have hi:ib+k<B.length:=by lia
   have e:(B.drop ib).take (k+1)=(B.drop ib).take k++[B[ib+k]]:=by rw [zD3,List.getElem?_drop,List.getElem?_eq_getElem hi];rfl
   rw [e,← zB7];exact ih.pushB hB hi (h k hi (by lia))
theorem ei (a b c d:List Keyed):(a++b++(c++d)).Perm (a++c++(b++d)):=by
 rw [zB7,zB7];refine zF0 a ?_;rw [← zB7,← zB7];exact zJ2 d zH2
theorem MI.finAB {A B o:List Keyed} {ia ib:Nat} (m:MI A B o ia ib) (hA:A.Pairwise Le) (hB:B.Pairwise Le) (h:∀ x∈A.drop ia,∀ y∈B.drop ib,kv x<=kv y):Mer A B (o++A.drop ia++B.drop ib):=by
 refine ⟨?_,?_⟩
 · have e:=(m.perm.append_right (A.drop ia++B.drop ib)).trans (ei (A.take ia) (B.take ib) (A.drop ia) (B.drop ib));rw [zE2,zE2] at e;rw [zB7];exact e
 · refine zC7.mpr ⟨zC7.mpr ⟨m.srt,hA.sublist (zL0 _ _),fun x hx y hy=>m.lea x hx y hy⟩,hB.sublist (zL0 _ _),fun x hx y hy=>?_⟩;sleep 24
   · exact m.leb x hx y hy
   · exact h x hx y hy
theorem MI.finBA {A B o:List Keyed} {ia ib:Nat} (m:MI A B o ia ib) (hA:A.Pairwise Le) (hB:B.Pairwise Le) (h:∀ x∈A.drop ia,∀ y∈B.drop ib,kv y<=kv x):Mer A B (o++B.drop ib++A.drop ia):=by
 refine ⟨?_,?_⟩
 · have e:=(m.perm.append_right (A.drop ia++B.drop ib)).trans (ei (A.take ia) (B.take ib) (A.drop ia) (B.drop ib));rw [zE2,zE2] at e;rw [zB7];exact (zF0 o zH2).trans e
 · refine zC7.mpr ⟨zC7.mpr ⟨m.srt,hB.sublist (zL0 _ _),fun x hx y hy=>m.leb x hx y hy⟩,hA.sublist (zL0 _ _),fun x hx y hy=>?_⟩;sleep 24
   · exact m.lea x hx y hy
   · exact h y hy x hx
def mlo:Array Keyed->Array Keyed->StateT SortSt Sem (Array Keyed):=sortPriv% PySem.Builtin.mergeLo
def setG:Nat->StateT SortSt Sem Unit:=sortPriv% PySem.Builtin.setMinGallop
theorem uP (g:Nat):setG g=modify fun z=>SortSt.mk' (kindOf z) (arrOf z) (pendingOf z) g (failedOf z):=rfl
theorem mlo_eq (xa xb:Array Keyed):mlo xa xb=(do
 rule "list.sort.merge-lo"
 let tot:=xa.size+xb.size
 let dn (ou:Array Keyed) (i j:Nat):=ou++xa.extract i xa.size++xb.extract j xb.size
 let la (ou:Array Keyed) (i j:Nat):=ou++xb.extract j xb.size++xa.extract i xa.size
 let mut ou:Array Keyed:=#[← elem' xb 0]
 let mut i:=0
 let mut j:=1
 if j == xb.size then return dn ou i j
 if i+1 == xa.size then return la ou i j
 let mut mg:=gallopOf (← get)
 for _ in [0:tot] do
  let mut ac:=0
  let mut bc:=0
  for _ in [0:tot] do
   let some bw ← lt' (← elem' xb j) (← elem' xa i) | return dn ou i j
   if bw then
    ou:=ou.push (← elem' xb j);j:=j+1;bc:=bc+1;ac:=0
    if j == xb.size then return dn ou i j
    if bc>=mg then break
   else
    ou:=ou.push (← elem' xa i);i:=i+1;ac:=ac+1;bc:=0
    if i+1 == xa.size then return la ou i j
    if ac>=mg then break
  rule "list.sort.gallop"
  mg:=mg+1
  for _ in [0:tot] do
   if mg > 1 then mg:=mg - 1
   setG mg
   let some k ← gal false (← elem' xb j) xa i (xa.size - i) 0 | return dn ou i j
   ac:=k
   if k > 0 then
    ou:=ou++xa.extract i (i+k);i:=i+k
    if i+1 == xa.size then return la ou i j
    if i == xa.size then return dn ou i j
   ou:=ou.push (← elem' xb j);j:=j+1
   if j == xb.size then return dn ou i j
   let some k ← gal true (← elem' xa i) xb j (xb.size - j) 0 | return dn ou i j
   bc:=k
   if k > 0 then
    ou:=ou++xb.extract j (j+k);j:=j+k
    if j == xb.size then return dn ou i j
   ou:=ou.push (← elem' xa i);i:=i+1
   if i+1 == xa.size then return la ou i j
   if ac<7&&bc<7 then break
  mg:=mg+1
  setG mg
 unsupported "internal:list.sort.merge-bound"):=rfl
open PyProof.Rows hiding K SortedTo K_bubble K_mirror K_congr K_mirror_equal
variable [KV]
structure SameSt (a b:SortSt):Prop where
 kind:kindOf b=kindOf a
 arr:arrOf b=arrOf a
 pend:pendingOf b=pendingOf a
 fail:failedOf b=failedOf a
theorem SameSt.refl (a:SortSt):SameSt a a:=⟨rfl,rfl,rfl,rfl⟩
theorem SameSt.setG {a b:SortSt} (h:SameSt a b) (g:Nat):SameSt a (SortSt.mk' (kindOf b) (arrOf b) (pendingOf b) g (failedOf b)):=⟨h.kind,h.arr,h.pend,h.fail⟩
theorem iS (o x y:Array Keyed) (i j:Nat):(o++x.extract i x.size++y.extract j y.size).toList=o.toList++x.toList.drop i++y.toList.drop j:=by
 have e:∀ (z:Array Keyed) (k:Nat),(z.extract k z.size).toList=z.toList.drop k:=fun z k=>by
  rw [zK6,zI2,zB8];rw [zD1,zB1];exact zA1 _
 rw [zJ7,zJ7,e,e]
theorem mj (o x:Array Keyed) (i k:Nat):(o++x.extract i (i+k)).toList=o.toList++(x.toList.drop i).take k:=by
 rw [zJ7,zK6,zI2,Nat.add_sub_cancel_left]
section
variable {A B:List Keyed} {o:List Keyed} {ia ib:Nat}
theorem dj {l:List Keyed} {i:Nat} (h:i=l.length):l.drop i=[]:=List.drop_of_length_le (by lia)
theorem qZ {l:List Keyed} {i:Nat} (h:i+1=l.length):∀ x∈l.drop i,kv x=kv (l[l.length - 1]'(by lia)):=fun x hx=>by
 have e:l.drop i=l[i]::l.drop (i+1):=zE1 (by lia);rw [e,dj h] at hx;have:x=l[i]:=by simpa using hx
 subst this;congr 2;lia
end
section
variable {prog:Program} {w:World} {A:Around} {E:Value->Shared->Prop}
theorem aO {st:SortSt} {xs:Array Keyed} {i:Nat} {Q:Keyed->SortSt->Prop} (hi:i<xs.toList.length) (h:Q xs.toList[i] st):wpS .(9) A E KV.sh (elem' xs i) Q st:=
 fL (by rw [← Array.getElem?_toList,List.getElem?_eq_getElem hi]) h
theorem fK {st:SortSt} {g:Nat} {Q:Unit->SortSt->Prop} (h:Q () (SortSt.mk' (kindOf st) (arrOf st) (pendingOf st) g (failedOf st))):wpS .(9) A E KV.sh (setG g) Q st:=by
 rw [uP];exact wpS_modify h
theorem ki {xs:Array Keyed} (hs:xs.toList.Pairwise Le) (ky:Keyed) (lf:Bool) (bs n:Nat) (hn:bs+n<=xs.size):∃ c,c<=n/\∀ i,i<n->Byd lf ky xs bs i=decide (i<c):=by
 have mono:∀ i j,i<=j->bs+j<xs.size->K xs (bs+i)<=K xs (bs+j):=fun i j hij hj=>by
  have e1:xs[bs+i]? = some (xs.toList[bs+i]'(by rw [zB1];lia)):=by rw [← Array.getElem?_toList,List.getElem?_eq_getElem]
  have e2:xs[bs+j]? = some (xs.toList[bs+j]'(by rw [zB1];lia)):=by rw [← Array.getElem?_toList,List.getElem?_eq_getElem]
  rw [t7 e1,t7 e2];by_cases h:i=j
  · subst h;exact zF1 _
  · exact zF2.mp hs _ _ _ _ (by lia)
 have down:∀ i j,i<=j->j<n->Byd lf ky xs bs j=true->Byd lf ky xs bs i=true:=fun i j hij hj h=>by
  have:=mono i j hij (by lia);unfold Byd at h ⊢
  cases lf with
  | true=>simp only [if_true,decide_eq_true_eq] at h ⊢;lia
  | false=>simp only [zB5,if_false,Bool.not_eq_true',decide_eq_false_iff_not] at h ⊢;lia
 induction n with
 | zero=>exact ⟨0,zA1 _,fun i hi=>absurd hi (zG6 _)⟩
 | succ n ih=>
   obtain ⟨c,hc,hd⟩:=ih (by lia) (fun i j hij hj h=>down i j hij (by lia) h)
   by_cases hb:Byd lf ky xs bs n=true
   · refine ⟨n+1,zA1 _,fun i hi=>?_⟩;rw [decide_eq_true hi];exact down i n (by lia) (by lia) hb
   · refine ⟨c,by lia,fun i hi=>?_⟩;by_cases h:i=n
     · subst h;rw [decide_eq_false (by lia)];exact Bool.not_eq_true _▸(by simpa using hb)
     · exact hd i (by lia)
theorem pP {xs:Array Keyed} {i:Nat} (hi:i<xs.toList.length):K xs i=kv xs.toList[i]:=t7 (by rw [← Array.getElem?_toList,List.getElem?_eq_getElem hi])
end
open PyProof.Rows hiding K SortedTo K_bubble K_mirror K_congr K_mirror_equal
variable [KV]
theorem cz {l:List Keyed} {k:Nat} {z:Keyed} (h:z∈l.drop k):∃ u,∃ h:k+u<l.length,z=l[k+u]:=by
 obtain ⟨u,hu,rfl⟩:=zE7.mp h;rw [zD1] at hu;exact ⟨u,by lia,by rw [zL1]⟩
theorem ft {l:List Keyed} (h:l.Pairwise Le) {i:Nat} (hi:i<l.length):∀ z∈l.drop i,kv l[i]<=kv z:=fun z hz=>by
 rw [zE1 hi] at hz;rcases zB0.mp hz with rfl | hz
 · exact zF1 _
 · exact i4 h hi z hz
theorem gfalse {xs:Array Keyed} {ky:Keyed} {bs n c:Nat} (hn:bs+n=xs.toList.length) (cut:∀ i,i<n->Byd false ky xs bs i=decide (i<c)) :
 (∀ t (h:bs+t<xs.toList.length),t<c->kv xs.toList[bs+t]<=kv ky)/\(∀ z∈xs.toList.drop (bs+c),kv ky<kv z):=by
 constructor
 · intro t h ht;have:=cut t (by lia);rw [decide_eq_true ht] at this;unfold Byd at this;rw [pP h] at this;simp only [zB5,if_false,Bool.not_eq_true',decide_eq_false_iff_not] at this;lia
 · intro z hz;obtain ⟨u,hu,rfl⟩:=cz hz;have:=cut (c+u) (by lia);rw [decide_eq_false (by lia)] at this;unfold Byd at this;have e:bs+(c+u)=bs+c+u:=by lia
   rw [e,pP hu] at this;simpa using this
theorem gtrue {xs:Array Keyed} {ky:Keyed} {bs n c:Nat} (hn:bs+n=xs.toList.length) (cut:∀ i,i<n->Byd true ky xs bs i=decide (i<c)) :
 (∀ t (h:bs+t<xs.toList.length),t<c->kv xs.toList[bs+t]<kv ky)/\(∀ z∈xs.toList.drop (bs+c),kv ky<=kv z):=by
 constructor
 · intro t h ht;have:=cut t (by lia);rw [decide_eq_true ht] at this;unfold Byd at this;rw [pP h] at this;simpa using this
 · intro z hz;obtain ⟨u,hu,rfl⟩:=cz hz;have:=cut (c+u) (by lia);rw [decide_eq_false (by lia)] at this;unfold Byd at this;have e:bs+(c+u)=bs+c+u:=by lia
   rw [e,pP hu] at this;simpa using this
theorem MI.start {A B:List Keyed} (hB:B.Pairwise Le) (hb:0<B.length) (h0:∀ z∈A,kv B[0]<=kv z):MI A B [B[0]] 0 1:=by
 have m:MI A B [] 0 0:=⟨by simp,List.Pairwise.nil,fun x hx=>(nomatch hx),fun x hx=>(nomatch hx)⟩
 exact m.pushB hB hb fun z hz=>h0 z (by simpa using hz)
theorem MI.doneB {xa xb ou:Array Keyed} {i j:Nat} (m:MI xa.toList xb.toList ou.toList i j) (hA:.(68)) (hB:.(67)) (h:j=xb.toList.length):Mer xa.toList xb.toList (ou++xa.extract i xa.size++xb.extract j xb.size).toList:=by
 rw [iS];exact m.finAB hA hB fun x _ y hy=>by rw [dj h] at hy;cases hy
theorem MI.doneA {xa xb ou:Array Keyed} {i j:Nat} (m:MI xa.toList xb.toList ou.toList i j) (hA:.(68)) (hB:.(67)) (h:i=xa.toList.length):Mer xa.toList xb.toList (ou++xa.extract i xa.size++xb.extract j xb.size).toList:=by
 rw [iS];exact m.finAB hA hB fun x hx y _=>by rw [dj h] at hx;cases hx
theorem MI.last {xa xb ou:Array Keyed} {i j:Nat} (m:MI xa.toList xb.toList ou.toList i j) (hA:.(68)) (hB:.(67)) (h:i+1=xa.toList.length) (hl:.(46)):Mer xa.toList xb.toList (ou++xb.extract j xb.size++xa.extract i xa.size).toList:=by
 rw [iS];exact m.finBA hA hB fun x hx y hy=>by rw [qZ h x hx];exact hl y (List.mem_of_mem_drop hy)
section
variable {prog:Program} {w:World} {A:Around} {E:Value->Shared->Prop}
section
variable {α β γ δ ε ζ κ μ:Type} {A:Prop} {c:κ} {G:κ->Prop}
@[elab_as_elim] theorem e4 {f:α->β->γ->δ->κ} {P:α->β->γ->δ->Prop} (h:A/\∃ p q r s,c=f p q r s/\P p q r s) (k:A->∀ p q r s,P p q r s->G (f p q r s)):G c:=by
 obtain ⟨a,p,q,r,s,rfl,t⟩:=h;exact k a _ _ _ _ t
@[elab_as_elim] theorem e5 {f:α->β->γ->δ->ε->κ} {P:α->β->γ->δ->ε->Prop} (h:A/\∃ p q r s u,c=f p q r s u/\P p q r s u) (k:A->∀ p q r s u,P p q r s u->G (f p q r s u)):G c:=by
 obtain ⟨a,p,q,r,s,u,rfl,t⟩:=h;exact k a _ _ _ _ _ t
@[elab_as_elim] theorem e6 {f:α->β->γ->δ->ε->ζ->κ} {P:α->β->γ->δ->ε->ζ->Prop} (h:A/\∃ p q r s u v,c=f p q r s u v/\P p q r s u v) (k:A->∀ p q r s u v,P p q r s u v->G (f p q r s u v)):G c:=by
 obtain ⟨a,p,q,r,s,u,v,rfl,t⟩:=h;exact k a _ _ _ _ _ _ t
variable {ω:Type} {g:μ->ω->κ} {R:μ->Prop}
@[elab_as_elim] theorem o5 {f:α->β->γ->δ->ε->κ} {P:α->β->γ->δ->ε->Prop} (h:A/\((∃ x y,c=g x y/\R x)\/∃ p q r s u,c=f p q r s u/\P p q r s u)) (k₁:A->∀ x y,R x->G (g x y)) (k:A->∀ p q r s u,P p q r s u->G (f p q r s u)):G c:=
 h.2.elim (fun ⟨_,_,e,r⟩=>e▸k₁ h.1 _ _ r) fun e=>e5 (G:=G) ⟨h.1,e⟩ k
@[elab_as_elim] theorem o6 {f:α->β->γ->δ->ε->ζ->κ} {P:α->β->γ->δ->ε->ζ->Prop} (h:A/\((∃ x y,c=g x y/\R x)\/∃ p q r s u v,c=f p q r s u v/\P p q r s u v)) (k₁:A->∀ x y,R x->G (g x y)) (k:A->∀ p q r s u v,P p q r s u v->G (f p q r s u v)):G c:=
 h.2.elim (fun ⟨_,_,e,r⟩=>e▸k₁ h.1 _ _ r) fun e=>e6 (G:=G) ⟨h.1,e⟩ k
end
def pLo (xa xb ou:Array Keyed) (i j mg ac bc:Nat):=do
 let e ← elem' xb j
 if (j+1 == xb.size)=true then
  pure (ForInStep.done (some (ou.push e++xa.extract i xa.size++xb.extract (j+1) xb.size),ou.push e,i,j+1,mg,ac,bc))
 else do
  let f ← elem' xa i
  let x ← gal true f xb (j+1) (xb.size - (j+1)) 0
  match x with
  | some k=>
    if k > 0 then
     if (j+1+k == xb.size)=true then
      pure (ForInStep.done (some (ou.push e++xb.extract (j+1) (j+1+k)++xa.extract i xa.size++xb.extract (j+1+k) xb.size),ou.push e++xb.extract (j+1) (j+1+k),i,j+1+k,mg,ac,k))
     else do
      let g ← elem' xa i
      if (i+1+1 == xa.size)=true then
       pure (ForInStep.done (some ((ou.push e++xb.extract (j+1) (j+1+k)).push g++xb.extract (j+1+k) xb.size++xa.extract (i+1) xa.size),(ou.push e++xb.extract (j+1) (j+1+k)).push g,i+1,j+1+k,mg,ac,k))
      else if (decide (ac<7)&&decide (k<7))=true then
       pure (ForInStep.done (none,(ou.push e++xb.extract (j+1) (j+1+k)).push g,i+1,j+1+k,mg,ac,k))
      else pure (ForInStep.yield (none,(ou.push e++xb.extract (j+1) (j+1+k)).push g,i+1,j+1+k,mg,ac,k))
    else do
     let g ← elem' xa i
     if (i+1+1 == xa.size)=true then
      pure (ForInStep.done (some ((ou.push e).push g++xb.extract (j+1) xb.size++xa.extract (i+1) xa.size),(ou.push e).push g,i+1,j+1,mg,ac,k))
     else if (decide (ac<7)&&decide (k<7))=true then
      pure (ForInStep.done (none,(ou.push e).push g,i+1,j+1,mg,ac,k))
     else pure (ForInStep.yield (none,(ou.push e).push g,i+1,j+1,mg,ac,k))
  | _=>pure (ForInStep.done (some (ou.push e++xa.extract i xa.size++xb.extract (j+1) xb.size),ou.push e,i,j+1,mg,ac,bc))
theorem s_tlo {st:SortSt} {xa xb ou:Array Keyed} {i j mg ac bc:Nat} {Q:ForInStep (Option (Array Keyed)×Array Keyed×Nat×Nat×Nat×Nat×Nat)->SortSt->Prop} (hk:kindOf st=KV.kind) (hIa:AllI xa) (hIb:AllI xb) (hA:.(68)) (hB:.(67))
 (ha:0<xa.toList.length) (hl:.(46)) (m:MI xa.toList xb.toList ou.toList i j) (hi:i+1<xa.size) (hj:j<xb.toList.length) (hz:∀ z∈xa.toList.drop i,kv xb.toList[j]<=kv z)
 (hd:∀ res rest,Mer xa.toList xb.toList res.toList->Q (.done (some res,rest)) st)
 (hn:∀ ou' i' j' bc',MI xa.toList xb.toList ou'.toList i' j'->i' + 1<xa.size->j' < xb.toList.length->i+j<i' + j'->Q (.done (none,ou',i',j',mg,ac,bc')) st/\Q (.yield (none,ou',i',j',mg,ac,bc')) st) :
 wpS .(9) A E KV.sh (pLo xa xb ou i j mg ac bc) Q st:=by
 have hsa:xa.size=xa.toList.length:=(zB1 ..).symm;have hsb:xb.size=xb.toList.length:=(zB1 ..).symm;unfold pLo;refine wpS_bind (aO hj ?_);have M2:MI xa.toList xb.toList (ou.push xb.toList[j]).toList i (j+1):=by rw [zH4];exact m.pushB hB hj hz
 by_cases e3:j+1=xb.size
 · rw [if_pos (by simpa using e3)];exact wpS_pure (hd _ _ (M2.doneB hA hB (by lia)))
 rw [if_neg (by simpa using e3)];refine wpS_bind (aO (i:=i) (by lia) ?_);obtain ⟨c2,hc2,cut2⟩:=ki hB (xa.toList[i]'(by lia)) true (j+1) (xb.size - (j+1)) (by lia);obtain ⟨lt2,ge2⟩:=gtrue (by lia) cut2;refine wpS_bind (gV (c:=c2) hk hIb (hIa _ (zC0 _)) (by lia) (by lia) hc2 cut2 ?_);dsimp only;by_cases k1:c2 > 0
 · rw [if_pos k1];have M3:MI xa.toList xb.toList (ou.push xb.toList[j]++xb.extract (j+1) (j+1+c2)).toList i (j+1+c2):=by
    rw [mj];exact M2.extB hB c2 (by lia) fun t ht htc z hz=>zE8 (zF7 (lt2 t ht htc)) (ft hA (by lia) z hz)
   by_cases e4:j+1+c2=xb.size
   · rw [if_pos (by simpa using e4)];exact wpS_pure (hd _ _ (M3.doneB hA hB (by lia)))
   rw [if_neg (by simpa using e4)];refine wpS_bind (aO (i:=i) (by lia) ?_);have M4:MI xa.toList xb.toList ((ou.push xb.toList[j]++xb.extract (j+1) (j+1+c2)).push (xa.toList[i]'(by lia))).toList (i+1) (j+1+c2):=by rw [zH4];exact M3.pushA hA (by lia) ge2
   by_cases e5:i+1+1=xa.size
   · rw [if_pos (by simpa using e5)];exact wpS_pure (hd _ _ (M4.last hA hB (by lia) hl))
   rw [if_neg (by simpa using e5)];obtain ⟨q1,q2⟩:=hn _ _ _ c2 M4 (by lia) (by lia) (by lia);split
   · exact wpS_pure q1
   · exact wpS_pure q2
 · rw [if_neg k1];obtain rfl:c2=0:=by lia
   refine wpS_bind (aO (i:=i) (by lia) ?_);have M4:MI xa.toList xb.toList ((ou.push xb.toList[j]).push (xa.toList[i]'(by lia))).toList (i+1) (j+1):=by rw [zH4];exact M2.pushA hA (by lia) ge2
   by_cases e5:i+1+1=xa.size
   · rw [if_pos (by simpa using e5)];exact wpS_pure (hd _ _ (M4.last hA hB (by lia) hl))
   rw [if_neg (by simpa using e5)];obtain ⟨q1,q2⟩:=hn _ _ _ 0 M4 (by lia) (by lia) (by lia);split
   · exact wpS_pure q1
   · exact wpS_pure q2
theorem s_mlo {st:SortSt} {xa xb:Array Keyed} {Q:Array Keyed->SortSt->Prop} (hk:kindOf st=KV.kind) (hIa:AllI xa) (hIb:AllI xb) (hA:.(68)) (hB:.(67)) (ha:0<xa.toList.length) (hb:0<xb.toList.length)
 (h0:∀ z∈xa.toList,kv (xb.toList[0])<=kv z) (hl:.(46))
 (h:∀ o st',SameSt st st'->Mer xa.toList xb.toList o.toList->Q o st'):wpS .(9) A E KV.sh (mlo xa xb) Q st:=by
 have hsa:xa.size=xa.toList.length:=(zB1 ..).symm;have hsb:xb.size=xb.toList.length:=(zB1 ..).symm;rw [mlo_eq];sleep 14;dsimp only;refine wpS_bind (aO hb ?_);have m0:MI xa.toList xb.toList (#[xb.toList[0]]:Array Keyed).toList 0 1:=MI.start hB hb h0;by_cases c1:1=xb.size
 · rw [if_pos (by simpa using c1)];exact wpS_pure (h _ _ (SameSt.refl _) (m0.doneB hA hB (by lia)))
 rw [if_neg (by simpa using c1)];by_cases c2:0+1=xa.size
 · rw [if_pos (by simpa using c2)];exact wpS_pure (h _ _ (SameSt.refl _) (m0.last hA hB (by lia) hl))
 rw [if_neg (by simpa using c2)];refine wpS_bind (wpS_get ?_);refine wpS_bind (wpS_mono (wpS_forRange (I:=fun x c st'=>SameSt st st'/\∃ ou i j mg,c=(none,ou,i,j,mg)/\MI xa.toList xb.toList ou.toList i j/\i+1<xa.size/\j<xb.toList.length/\x+1<=i+j) (Q:=fun c st'=>SameSt st st'/\∃ res rest,c=(some res,rest)/\Mer xa.toList xb.toList res.toList) ?step ?fin ⟨SameSt.refl _,_,_,_,_,rfl,m0,by lia,by lia,by lia⟩) ?post)
 case post=>
  rintro c st' ⟨sm,res,rest,rfl,me⟩
  exact wpS_pure (h _ _ sm me)
 case fin=>
  rintro c st' ⟨sm,ou,i,j,mg,rfl,m,hi,hj,hx⟩
  exfalso
  lia
 case step=>
  intro x c st1 _ hx I0
  refine e4 (c:=c) I0 fun sm ou i j mg I0=>?_
  have m:=I0.1;have hi:=I0.2.1;have hj:=I0.2.2.1;have hx2:=I0.2.2.2
  dsimp only
  refine wpS_bind (wpS_mono (wpS_forRange (I:=fun y c st'=>SameSt st st'/\∃ ou i j ac bc,c=(none,ou,i,j,ac,bc)/\MI xa.toList xb.toList ou.toList i j/\i+1<xa.size/\j<xb.toList.length/\x+1+min y 1<=i+j)
   (Q:=fun c st'=>SameSt st st'/\(.(48)\/∃ ou i j ac bc,c=(none,ou,i,j,ac,bc)/\MI xa.toList xb.toList ou.toList i j/\i+1<xa.size/\j<xb.toList.length/\x+2<=i+j)) ?s1 ?f1 ⟨sm,_,_,_,_,_,rfl,m,hi,hj,by lia⟩) ?p1)
  case f1=>
   rintro c st2 ⟨sm2,ou,i,j,ac,bc,rfl,m,hi,hj,hx3⟩
   exact ⟨sm2,.inr ⟨_,_,_,_,_,rfl,m,hi,hj,by lia⟩⟩
  case s1=>
   intro y c st2 _ hy I0
   refine e5 (c:=c) I0 fun sm2 ou i j ac bc I0=>?_
   have m:=I0.1;have hi:=I0.2.1;have hj:=I0.2.2.1;have hx3:=I0.2.2.2
   dsimp only
   refine wpS_bind (aO hj (wpS_bind (aO (i:=i) (by lia) ?_)))
   refine wpS_bind (s_lt (sm2.kind.trans hk) (hIb _ (zC0 _)) (hIa _ (zC0 _)) ?_)
   by_cases bw:kv xb.toList[j]<kv (xa.toList[i]'(by lia))
   · simp only [bw,decide_true,if_true];refine wpS_bind (aO hj ?_);have m2:MI xa.toList xb.toList (ou.push xb.toList[j]).toList i (j+1):=by
      rw [zH4];exact m.pushB hB hj fun z hz=>zE8 (zF7 bw) (ft hA (by lia) z hz)
     by_cases e1:j+1=xb.size
     · rw [if_pos .(75)];exact wpS_pure ⟨sm2,.inl ⟨_,_,rfl,m2.doneB hA hB (by lia)⟩⟩
     · rw [if_neg .(75)];split
       · exact wpS_pure ⟨sm2,.inr ⟨_,_,_,_,_,rfl,m2,hi,by lia,by lia⟩⟩
       · exact wpS_pure ⟨sm2,_,_,_,_,_,rfl,m2,hi,by lia,by lia⟩
   · simp only [bw,decide_false,zB5,if_false];refine wpS_bind (aO (i:=i) (by lia) ?_);have m2:MI xa.toList xb.toList (ou.push (xa.toList[i]'(by lia))).toList (i+1) j:=by
      rw [zH4];exact m.pushA hA (by lia) fun z hz=>zE8 (Int.not_lt.mp bw) (ft hB hj z hz)
     by_cases e1:i+1+1=xa.size
     · rw [if_pos .(75)];exact wpS_pure ⟨sm2,.inl ⟨_,_,rfl,m2.last hA hB (by lia) hl⟩⟩
     · rw [if_neg .(75)];split
       · exact wpS_pure ⟨sm2,.inr ⟨_,_,_,_,_,rfl,m2,by lia,hj,by lia⟩⟩
       · exact wpS_pure ⟨sm2,_,_,_,_,_,rfl,m2,by lia,hj,by lia⟩
  case p1=>
   intro c st2 I0
   refine o5 (c:=c) I0 (fun sm2 res rest me=>?_) fun sm2 ou i j ac bc I0=>?_
   · exact wpS_pure ⟨sm2,_,_,rfl,me⟩
   have m:=I0.1;have hi:=I0.2.1;have hj:=I0.2.2.1;have hx3:=I0.2.2.2
   dsimp only
   sleep 14
   refine wpS_bind (wpS_mono (wpS_forRange (I:=fun y c st'=>SameSt st st'/\∃ ou i j mg ac bc,c=(none,ou,i,j,mg,ac,bc)/\MI xa.toList xb.toList ou.toList i j/\i+1<xa.size/\j<xb.toList.length/\x+2<=i+j)
    (Q:=fun c st'=>SameSt st st'/\(.(48)\/∃ ou i j mg ac bc,c=(none,ou,i,j,mg,ac,bc)/\MI xa.toList xb.toList ou.toList i j/\i+1<xa.size/\j<xb.toList.length/\x+2<=i+j)) ?s2 ?f2 ⟨sm2,_,_,_,_,_,_,rfl,m,hi,hj,hx3⟩) ?p2)
   case f2=>
    rintro c st3 ⟨sm3,ou,i,j,mg,ac,bc,rfl,m,hi,hj,hx4⟩
    exact ⟨sm3,.inr ⟨_,_,_,_,_,_,rfl,m,hi,hj,hx4⟩⟩
   case p2=>
    intro c st3 I0
    refine o6 (c:=c) I0 (fun sm3 res rest me=>?_) fun sm3 ou i j mg ac bc I0=>?_
    · exact wpS_pure ⟨sm3,_,_,rfl,me⟩
    · have m:=I0.1;have hi:=I0.2.1;have hj:=I0.2.2.1;have hx4:=I0.2.2.2;dsimp only;refine wpS_bind (fK ?_);exact wpS_pure ⟨sm3.setG _,_,_,_,_,rfl,m,hi,hj,by lia⟩
   case s2=>
    intro y c st3 _ hy I0
    refine e6 (c:=c) I0 fun sm3' ou i j mg ac bc I0=>?_
    have m:=I0.1;have hi:=I0.2.1;have hj:=I0.2.2.1;have hx4:=I0.2.2.2
    dsimp only
    have sm3:=fun g=>sm3'.setG g
    obtain ⟨c1,hc1,cut1⟩:=ki hA xb.toList[j] false i (xa.size - i) (by lia)
    obtain ⟨le1,gt1⟩:=gfalse (by lia) cut1
    have m1:MI xa.toList xb.toList (ou++xa.extract i (i+c1)).toList (i+c1) j:=by
     rw [mj];exact m.extA hA c1 (by lia) fun t ht htc z hz=>zE8 (le1 t ht htc) (ft hB hj z hz)
    have go:∀ (Q':ForInStep (Option (Array Keyed)×Array Keyed×Nat×Nat×Nat×Nat×Nat)->SortSt->Prop) (mg' g:Nat),(∀ res rest,Mer xa.toList xb.toList res.toList->Q' (.done (some res,rest)) .(18)) ->
     (∀ ou' i' j' bc',MI xa.toList xb.toList ou'.toList i' j'->i' + 1<xa.size->j' < xb.toList.length->i+j<i' + j'->Q' (.done (none,ou',i',j',mg',c1,bc')) .(18)/\Q' (.yield (none,ou',i',j',mg',c1,bc')) .(18)) ->
     wpS .(9) A E KV.sh (if c1 > 0 then (if (i+c1+1 == xa.size)=true then pure (ForInStep.done (some (ou++xa.extract i (i+c1)++xb.extract j xb.size++xa.extract (i+c1) xa.size),ou++xa.extract i (i+c1),i+c1,j,mg',c1,bc)) else if (i+c1 == xa.size)=true then pure (ForInStep.done (some (ou++xa.extract i (i+c1)++xa.extract (i+c1) xa.size++xb.extract j xb.size),ou++xa.extract i (i+c1),i+c1,j,mg',c1,bc)) else pLo xa xb (ou++xa.extract i (i+c1)) (i+c1) j mg' c1 bc) else pLo xa xb ou i j mg' c1 bc) Q' .(18):=fun Q' mg' g hd hn=>by
     by_cases k0:c1 > 0
     · rw [if_pos k0];by_cases e1:i+c1+1=xa.size
       · rw [if_pos .(75)];exact wpS_pure (hd _ _ (m1.last hA hB (by lia) hl))
       rw [if_neg .(75)];by_cases e2:i+c1=xa.size
       · rw [if_pos (by simpa using e2)];exact wpS_pure (hd _ _ (m1.doneA hA hB (by lia)))
       rw [if_neg (by simpa using e2)];exact s_tlo ((sm3 g).kind.trans hk) hIa hIb hA hB ha hl m1 (by lia) hj (fun z hz=>zF7 (gt1 z hz)) hd fun _ _ _ _ m1 h1 h2 h3=>hn _ _ _ _ m1 h1 h2 (by lia)
     · rw [if_neg k0];obtain rfl:c1=0:=by lia
       exact s_tlo ((sm3 g).kind.trans hk) hIa hIb hA hB ha hl m hi hj (fun z hz=>zF7 (gt1 z hz)) hd hn
    by_cases hmg:mg > 1
    · rw [if_pos hmg];refine wpS_bind (fK (wpS_bind (aO hj ?_)));sleep 7;dsimp only;refine go _ (mg - 1) _ (fun _ _ me=>?_) fun _ _ _ _ m1 h1 h2 h3=>?_
      · exact ⟨sm3 _,.inl ⟨_,_,rfl,me⟩⟩
      · exact ⟨⟨sm3 _,.inr ⟨_,_,_,_,_,_,rfl,m1,h1,h2,by lia⟩⟩,⟨sm3 _,_,_,_,_,_,_,rfl,m1,h1,h2,by lia⟩⟩
    · rw [if_neg hmg];refine wpS_bind (fK (wpS_bind (aO hj ?_)));sleep 7;dsimp only;refine go _ mg _ (fun _ _ me=>?_) fun _ _ _ _ m1 h1 h2 h3=>?_
      · exact ⟨sm3 _,.inl ⟨_,_,rfl,me⟩⟩
      · exact ⟨⟨sm3 _,.inr ⟨_,_,_,_,_,_,rfl,m1,h1,h2,by lia⟩⟩,⟨sm3 _,_,_,_,_,_,_,rfl,m1,h1,h2,by lia⟩⟩
end
open PyProof.Rows hiding K SortedTo K_bubble K_mirror K_congr K_mirror_equal
variable [KV]
structure MH (A B:List Keyed) (o:List Keyed) (na nb:Nat):Prop where
 perm:o.Perm (A.drop na++B.drop nb)
 srt:o.Pairwise Le
 lea:∀ x∈o,∀ y∈A.take na,kv y<=kv x
 leb:∀ x∈o,∀ y∈B.take nb,kv y<=kv x
theorem i3 {l:List Keyed} (h:l.Pairwise Le) {i:Nat} (hi:i<l.length):∀ y∈l.take i,kv y<=kv l[i]:=fun y hy=>by
 obtain ⟨u,hu,rfl⟩:=zE7.mp hy;rw [zB9] at hu;rw [zG0];exact zF2.mp h _ _ _ _ (by lia)
theorem dg {l:List Keyed} {i:Nat} {y:Keyed} (h:y∈l.take i):y∈l.take (i+1):=(List.take_sublist_take_left (Nat.le_succ i)).mem h
theorem fo {l:List Keyed} {i:Nat} (hi:i<l.length):l[i]∈l.take (i+1):=by
 rw [zD3,List.getElem?_eq_getElem hi];exact zB3 _ (zC6.mpr rfl)
theorem MH.pushA {A B o:List Keyed} {na nb:Nat} (m:MH A B o (na+1) nb) (hA:A.Pairwise Le) (hi:na<A.length) (h:∀ z∈B.take nb,kv z<=kv A[na]):MH A B (A[na]::o) na nb:=by
 refine ⟨?_,?_,fun x hx y hy=>?_,fun x hx y hy=>?_⟩
 · rw [zE1 hi,zK3];exact List.Perm.cons _ m.perm
 · exact zG3.mpr ⟨fun x hx=>m.lea x hx _ (fo hi),m.srt⟩
 · rcases zB0.mp hx with rfl | hx
   · exact i3 hA hi y hy
   · exact m.lea x hx y (dg hy)
 · rcases zB0.mp hx with rfl | hx
   · exact h y hy
   · exact m.leb x hx y hy
theorem MH.pushB {A B o:List Keyed} {na nb:Nat} (m:MH A B o na (nb+1)) (hB:B.Pairwise Le) (hi:nb<B.length) (h:∀ z∈A.take na,kv z<=kv B[nb]):MH A B (B[nb]::o) na nb:=by
 refine ⟨?_,?_,fun x hx y hy=>?_,fun x hx y hy=>?_⟩
 · rw [zE1 hi];exact (List.Perm.cons _ m.perm).trans List.perm_middle.symm
 · exact zG3.mpr ⟨fun x hx=>m.leb x hx _ (fo hi),m.srt⟩
 · rcases zB0.mp hx with rfl | hx
   · exact h y hy
   · exact m.lea x hx y hy
 · rcases zB0.mp hx with rfl | hx
   · exact i3 hB hi y hy
   · exact m.leb x hx y (dg hy)
theorem MH.extA {A B o:List Keyed} {nb:Nat} (hA:A.Pairwise Le):∀ (k c:Nat),MH A B o (c+k) nb->c+k<=A.length->(∀ i (hi:i<A.length),c<=i->i<c+k->∀ z∈B.take nb,kv z<=kv A[i])->MH A B ((A.drop c).take k++o) c nb
 | 0,c,m,_,_=>by rw [zK5];exact m
 | k+1,c,m,hk,h=>by
   have m':MH A B o (c+1+k) nb:=by rw [show c+1+k=c+(k+1) by lia];exact m
   have ih:=MH.extA hA k (c+1) m' (by lia) fun i hi h1 h2=>h i hi (by lia) (by lia);have hi:c<A.length:=by lia
   rw [zE1 hi,List.take_succ_cons,zK3];exact ih.pushA hA hi (h c hi (zA1 _) (by lia))
theorem MH.extB {A B o:List Keyed} {na:Nat} (hB:B.Pairwise Le):∀ (k c:Nat),MH A B o na (c+k)->c+k<=B.length->(∀ i (hi:i<B.length),c<=i->i<c+k->∀ z∈A.take na,kv z<=kv B[i])->MH A B ((B.drop c).take k++o) na c
 | 0,c,m,_,_=>by rw [zK5];exact m
 | k+1,c,m,hk,h=>by
   have m':MH A B o na (c+1+k):=by rw [show c+1+k=c+(k+1) by lia];exact m
   have ih:=MH.extB hB k (c+1) m' (by lia) fun i hi h1 h2=>h i hi (by lia) (by lia);have hi:c<B.length:=by lia
   rw [zE1 hi,List.take_succ_cons,zK3];exact ih.pushB hB hi (h c hi (zA1 _) (by lia))
theorem MH.finAB {A B o:List Keyed} {na nb:Nat} (m:MH A B o na nb) (hA:A.Pairwise Le) (hB:B.Pairwise Le) (h:∀ x∈A.take na,∀ y∈B.take nb,kv x<=kv y):Mer A B (A.take na++B.take nb++o):=by
 refine ⟨?_,?_⟩
 · have e:=(zF0 (A.take na++B.take nb) m.perm).trans (ei (A.take na) (B.take nb) (A.drop na) (B.drop nb));rw [zE2,zE2] at e;exact e
 · refine zC7.mpr ⟨zC7.mpr ⟨hA.sublist (zK9 _ _),hB.sublist (zK9 _ _),fun x hx y hy=>h x hx y hy⟩,m.srt,fun x hx y hy=>?_⟩;sleep 24
   · exact m.lea y hy x hx
   · exact m.leb y hy x hx
theorem MH.finBA {A B o:List Keyed} {na nb:Nat} (m:MH A B o na nb) (hA:A.Pairwise Le) (hB:B.Pairwise Le) (h:∀ x∈A.take na,∀ y∈B.take nb,kv y<=kv x):Mer A B (B.take nb++A.take na++o):=by
 refine ⟨?_,?_⟩
 · have e:=(zF0 (A.take na++B.take nb) m.perm).trans (ei (A.take na) (B.take nb) (A.drop na) (B.drop nb));rw [zE2,zE2] at e;exact (zJ2 o zH2).trans e
 · refine zC7.mpr ⟨zC7.mpr ⟨hB.sublist (zK9 _ _),hA.sublist (zK9 _ _),fun x hx y hy=>h y hy x hx⟩,m.srt,fun x hx y hy=>?_⟩;sleep 24
   · exact m.leb y hy x hx
   · exact m.lea y hy x hx
theorem gM (o x y:Array Keyed) (i j:Nat):(x.extract 0 i++y.extract 0 j++o.reverse).toList=x.toList.take i++y.toList.take j++o.toList.reverse:=by
 have e:∀ (z:Array Keyed) (k:Nat),(z.extract 0 k).toList=z.toList.take k:=fun z k=>by
  rw [zK6,zI2,List.drop_zero,Nat.sub_zero]
 rw [zJ7,zJ7,e,e,Array.toList_reverse]
theorem gK (o:Array Keyed) (z:Keyed):(o.push z).toList.reverse=z::o.toList.reverse:=by
 rw [zH4,zL3];rfl
theorem jx (o x:Array Keyed) (c n:Nat):(o++(x.extract c n).reverse).toList.reverse=(x.toList.drop c).take (n - c)++o.toList.reverse:=by
 rw [zJ7,zL3,Array.toList_reverse,List.reverse_reverse,zK6,zI2]
def MHa (xa xb ou:Array Keyed) (na nb:Nat):Prop:=MH xa.toList xb.toList ou.toList.reverse na nb
section
variable {xa xb ou:Array Keyed} {na nb:Nat}
theorem MHa.done0 (m:MHa xa xb ou na nb) (hA:.(68)) (hB:.(67)) (h:na=0\/nb=0):Mer xa.toList xb.toList (xa.extract 0 na++xb.extract 0 nb++ou.reverse).toList:=by
 rw [gM];refine MH.finAB m hA hB fun x hx y hy=>?_;rcases h with h | h
 · rw [h] at hx;simp at hx
 · rw [h] at hy;simp at hy
theorem MHa.first (m:MHa xa xb ou na nb) (hA:.(68)) (hB:.(67)) (hb:0<xb.toList.length) (h:nb=1) (h0:∀ z∈xa.toList,kv xb.toList[0]<=kv z):Mer xa.toList xb.toList (xb.extract 0 nb++xa.extract 0 na++ou.reverse).toList:=by
 rw [gM];refine MH.finBA m hA hB fun x hx y hy=>?_;rw [h,zD3,List.getElem?_eq_getElem hb] at hy;have:y=xb.toList[0]:=by simpa using hy
 rw [this];exact h0 x (List.mem_of_mem_take hx)
theorem MHa.pushA (m:MHa xa xb ou (na+1) nb) (hA:.(68)) (hi:na<xa.toList.length) (h:∀ z∈xb.toList.take nb,kv z<=kv xa.toList[na]):MHa xa xb (ou.push xa.toList[na]) na nb:=by
 unfold MHa;rw [gK];exact MH.pushA m hA hi h
theorem MHa.pushB (m:MHa xa xb ou na (nb+1)) (hB:.(67)) (hi:nb<xb.toList.length) (h:∀ z∈xa.toList.take na,kv z<=kv xb.toList[nb]):MHa xa xb (ou.push xb.toList[nb]) na nb:=by
 unfold MHa;rw [gK];exact MH.pushB m hB hi h
theorem MHa.extA {c:Nat} (m:MHa xa xb ou na nb) (hA:.(68)) (hc:c<=na) (hn:na<=xa.toList.length) (h:∀ i (hi:i<xa.toList.length),c<=i->i<na->∀ z∈xb.toList.take nb,kv z<=kv xa.toList[i]):MHa xa xb (ou++(xa.extract c na).reverse) c nb:=by
 unfold MHa;rw [jx];exact MH.extA hA (na - c) c (by rw [show c+(na - c)=na by lia];exact m) (by lia) fun i hi h1 h2=>h i hi h1 (by lia)
theorem MHa.extB {c:Nat} (m:MHa xa xb ou na nb) (hB:.(67)) (hc:c<=nb) (hn:nb<=xb.toList.length) (h:∀ i (hi:i<xb.toList.length),c<=i->i<nb->∀ z∈xa.toList.take na,kv z<=kv xb.toList[i]):MHa xa xb (ou++(xb.extract c nb).reverse) na c:=by
 unfold MHa;rw [jx];exact MH.extB hB (nb - c) c (by rw [show c+(nb - c)=nb by lia];exact m) (by lia) fun i hi h1 h2=>h i hi h1 (by lia)
end
theorem ffalse {xs:Array Keyed} {ky:Keyed} {n c:Nat} (hn:n<=xs.toList.length) (hc:c<=n) (cut:∀ i,i<n->Byd false ky xs 0 i=decide (i<c)) :
 (∀ z∈xs.toList.take c,kv z<=kv ky)/\(∀ i (h:i<xs.toList.length),c<=i->i<n->kv ky<kv xs.toList[i]):=by
 have key:∀ i (h:i<xs.toList.length),i<n->(!decide (kv ky<kv xs.toList[i]))=decide (i<c):=fun i h hi=>by
  have:=cut i hi;unfold Byd at this;rw [zH9,pP h] at this;simpa using this
 constructor
 · intro z hz;obtain ⟨u,hu,rfl⟩:=zE7.mp hz;rw [zB9] at hu;have:=key u (by lia) (by lia);rw [zG0];rw [decide_eq_true (show u<c by lia)] at this;simpa using this
 · intro i h h1 h2;have:=key i h h2;rw [decide_eq_false (show ¬ i<c by lia)] at this;simpa using this
theorem ftrue {xs:Array Keyed} {ky:Keyed} {n c:Nat} (hn:n<=xs.toList.length) (hc:c<=n) (cut:∀ i,i<n->Byd true ky xs 0 i=decide (i<c)) :
 (∀ z∈xs.toList.take c,kv z<kv ky)/\(∀ i (h:i<xs.toList.length),c<=i->i<n->kv ky<=kv xs.toList[i]):=by
 have key:∀ i (h:i<xs.toList.length),i<n->decide (kv xs.toList[i]<kv ky)=decide (i<c):=fun i h hi=>by
  have:=cut i hi;unfold Byd at this;rw [zH9,pP h] at this;simpa using this
 constructor
 · intro z hz;obtain ⟨u,hu,rfl⟩:=zE7.mp hz;rw [zB9] at hu;have:=key u (by lia) (by lia);rw [zG0];rw [decide_eq_true (show u<c by lia)] at this;simpa using this
 · intro i h h1 h2;have:=key i h h2;rw [decide_eq_false (show ¬ i<c by lia)] at this;simpa using this
theorem eJ {l:List Keyed} (h:l.Pairwise Le) {n:Nat} (hn:n<l.length):∀ z∈l.take (n+1),kv z<=kv l[n]:=fun z hz=>by
 rw [zD3,List.getElem?_eq_getElem hn] at hz;rcases zD4.mp hz with hz | hz
 · exact i3 h hn z hz
 · have:z=l[n]:=by simpa using hz
   rw [this];exact zF1 _
def mhi:Array Keyed->Array Keyed->StateT SortSt Sem (Array Keyed):=sortPriv% PySem.Builtin.mergeHi
theorem mhi_eq (xa xb:Array Keyed):mhi xa xb=(do
 rule "list.sort.merge-hi"
 let tot:=xa.size+xb.size
 let dn (ou:Array Keyed) (i j:Nat):=xa.extract 0 i++xb.extract 0 j++ou.reverse
 let fb (ou:Array Keyed) (i j:Nat):=xb.extract 0 j++xa.extract 0 i++ou.reverse
 let mut i:=xa.size - 1
 let mut j:=xb.size
 let mut ou:Array Keyed:=#[← elem' xa i]
 if i == 0 then return dn ou i j
 if j == 1 then return fb ou i j
 let mut mg:=gallopOf (← get)
 for _ in [0:tot] do
  let mut ac:=0
  let mut bc:=0
  for _ in [0:tot] do
   let some aw ← lt' (← elem' xb (j - 1)) (← elem' xa (i - 1)) | return dn ou i j
   if aw then
    i:=i - 1;ou:=ou.push (← elem' xa i);ac:=ac+1;bc:=0
    if i == 0 then return dn ou i j
    if ac>=mg then break
   else
    j:=j - 1;ou:=ou.push (← elem' xb j);bc:=bc+1;ac:=0
    if j == 1 then return fb ou i j
    if bc>=mg then break
  rule "list.sort.gallop"
  mg:=mg+1
  for _ in [0:tot] do
   if mg > 1 then mg:=mg - 1
   setG mg
   let some t ← gal false (← elem' xb (j - 1)) xa 0 i (i - 1) | return dn ou i j
   let k:=i - t
   ac:=k
   if k > 0 then
    ou:=ou++(xa.extract t i).reverse;i:=t
    if i == 0 then return dn ou i j
   j:=j - 1;ou:=ou.push (← elem' xb j)
   if j == 1 then return fb ou i j
   let some t ← gal true (← elem' xa (i - 1)) xb 0 j (j - 1) | return dn ou i j
   let k:=j - t
   bc:=k
   if k > 0 then
    ou:=ou++(xb.extract t j).reverse;j:=t
    if j == 1 then return fb ou i j
    if j == 0 then return dn ou i j
   i:=i - 1;ou:=ou.push (← elem' xa i)
   if i == 0 then return dn ou i j
   if ac<7&&bc<7 then break
  mg:=mg+1
  setG mg
 unsupported "internal:list.sort.merge-bound"):=rfl
open PyProof.Rows hiding K SortedTo K_bubble K_mirror K_congr K_mirror_equal
variable [KV]
section
variable {prog:Program} {w:World} {A:Around} {E:Value->Shared->Prop}
def pHi (xa xb ou:Array Keyed) (i j mg ac bc:Nat):=do
 let e ← elem' xb (j - 1)
 if (j - 1 == 1)=true then
  pure (ForInStep.done (some (xb.extract 0 (j - 1)++xa.extract 0 i++(ou.push e).reverse),i,j - 1,ou.push e,mg,ac,bc))
 else do
  let f ← elem' xa (i - 1)
  let x ← gal true f xb 0 (j - 1) (j - 1 - 1)
  match x with
  | some t=>
    if j - 1 - t > 0 then
     if (t == 1)=true then
      pure (ForInStep.done (some (xb.extract 0 t++xa.extract 0 i++.(49).reverse),i,t,ou.push e++(xb.extract t (j - 1)).reverse,mg,ac,j - 1 - t))
     else if (t == 0)=true then
      pure (ForInStep.done (some (xa.extract 0 i++xb.extract 0 t++.(49).reverse),i,t,ou.push e++(xb.extract t (j - 1)).reverse,mg,ac,j - 1 - t))
     else do
      let g ← elem' xa (i - 1)
      if (i - 1 == 0)=true then
       pure (ForInStep.done (some (xa.extract 0 (i - 1)++xb.extract 0 t++(.(49).push g).reverse),i - 1,t,.(49).push g,mg,ac,j - 1 - t))
      else if (decide (ac<7)&&decide (j - 1 - t<7))=true then
       pure (ForInStep.done (none,i - 1,t,.(49).push g,mg,ac,j - 1 - t))
      else pure (ForInStep.yield (none,i - 1,t,.(49).push g,mg,ac,j - 1 - t))
    else do
     let g ← elem' xa (i - 1)
     if (i - 1 == 0)=true then
      pure (ForInStep.done (some (xa.extract 0 (i - 1)++xb.extract 0 (j - 1)++((ou.push e).push g).reverse),i - 1,j - 1,(ou.push e).push g,mg,ac,j - 1 - t))
     else if (decide (ac<7)&&decide (j - 1 - t<7))=true then
      pure (ForInStep.done (none,i - 1,j - 1,(ou.push e).push g,mg,ac,j - 1 - t))
     else pure (ForInStep.yield (none,i - 1,j - 1,(ou.push e).push g,mg,ac,j - 1 - t))
  | _=>pure (ForInStep.done (some (xa.extract 0 i++xb.extract 0 (j - 1)++(ou.push e).reverse),i,j - 1,ou.push e,mg,ac,bc))
theorem s_thi {st:SortSt} {xa xb ou:Array Keyed} {i j mg ac bc:Nat} {Q:ForInStep (Option (Array Keyed)×Nat×Nat×Array Keyed×Nat×Nat×Nat)->SortSt->Prop} (hk:kindOf st=KV.kind) (hIa:AllI xa) (hIb:AllI xb) (hA:.(68)) (hB:.(67))
 (hb:0<xb.toList.length) (h0:∀ z∈xa.toList,kv (xb.toList[0])<=kv z) (m:MHa xa xb ou i j) (hi:0<i) (hi2:i<xa.toList.length) (hj:1<j) (hj2:j<=xb.toList.length) (hz:∀ z∈xa.toList.take i,kv z<=kv .(72))
 (hd:∀ res rest,Mer xa.toList xb.toList res.toList->Q (.done (some res,rest)) st)
 (hn:∀ ou' i' j' bc',MHa xa xb ou' i' j'->0<i'->i' < xa.size->1<j'->j'<=xb.size->i' + j' + 2<=i+j->Q (.done (none,i',j',ou',mg,ac,bc')) st/\Q (.yield (none,i',j',ou',mg,ac,bc')) st) :
 wpS .(9) A E KV.sh (pHi xa xb ou i j mg ac bc) Q st:=by
 have hsa:xa.size=xa.toList.length:=(zB1 ..).symm;have hsb:xb.size=xb.toList.length:=(zB1 ..).symm;unfold pHi;refine wpS_bind (aO (i:=j - 1) (by lia) ?_);have M2:MHa xa xb (ou.push .(72)) i (j - 1):=MHa.pushB (by rw [show j - 1+1=j by lia];exact m) hB (by lia) hz;by_cases e3:j - 1=1
 · rw [if_pos (by simpa using e3)];exact wpS_pure (hd _ _ (M2.first hA hB hb e3 h0))
 rw [if_neg (by simpa using e3)];refine wpS_bind (aO (i:=i - 1) (by lia) ?_);obtain ⟨c2,hc2,cut2⟩:=ki hB (xa.toList[i - 1]'(by lia)) true 0 (j - 1) (by lia);obtain ⟨lt2,ge2⟩:=ftrue (by lia) hc2 cut2;refine wpS_bind (gV (c:=c2) hk hIb (hIa _ (zC0 _)) (by lia) (by lia) hc2 cut2 ?_);dsimp only;by_cases k1:j - 1 - c2 > 0
 · rw [if_pos k1];have M3:MHa xa xb (ou.push .(72)++(xb.extract c2 (j - 1)).reverse) i c2:=M2.extB hB hc2 (by lia) fun t ht h1 h2 z hz=>by
    refine zE8 ?_ (ge2 t ht h1 h2);exact eJ hA (n:=i - 1) (by lia) z (by rw [show i - 1+1=i by lia];exact hz)
   by_cases e4:c2=1
   · rw [if_pos (by simpa using e4)];exact wpS_pure (hd _ _ (M3.first hA hB hb e4 h0))
   rw [if_neg (by simpa using e4)];by_cases e6:c2=0
   · rw [if_pos (by simpa using e6)];exact wpS_pure (hd _ _ (M3.done0 hA hB (.inr e6)))
   rw [if_neg (by simpa using e6)];refine wpS_bind (aO (i:=i - 1) (by lia) ?_);have M4:MHa xa xb ((ou.push .(72)++(xb.extract c2 (j - 1)).reverse).push (xa.toList[i - 1]'(by lia))) (i - 1) c2:=MHa.pushA (by rw [show i - 1+1=i by lia];exact M3) hA (by lia) (fun z hz=>zF7 (lt2 z hz));by_cases e5:i - 1=0
   · rw [if_pos (by simpa using e5)];exact wpS_pure (hd _ _ (M4.done0 hA hB (.inl e5)))
   rw [if_neg (by simpa using e5)];obtain ⟨q1,q2⟩:=hn _ _ _ (j - 1 - c2) M4 (by lia) (by lia) (by lia) (by lia) (by lia);split
   · exact wpS_pure q1
   · exact wpS_pure q2
 · rw [if_neg k1];have c20:c2=j - 1:=by lia
   refine wpS_bind (aO (i:=i - 1) (by lia) ?_);have M4:MHa xa xb ((ou.push .(72)).push (xa.toList[i - 1]'(by lia))) (i - 1) (j - 1):=MHa.pushA (by rw [show i - 1+1=i by lia];exact M2) hA (by lia) (fun z hz=>zF7 (lt2 z (by rw [c20];exact hz)));by_cases e5:i - 1=0
   · rw [if_pos (by simpa using e5)];exact wpS_pure (hd _ _ (M4.done0 hA hB (.inl e5)))
   rw [if_neg (by simpa using e5)];obtain ⟨q1,q2⟩:=hn _ _ _ (j - 1 - c2) M4 (by lia) (by lia) (by lia) (by lia) (by lia);split
   · exact wpS_pure q1
   · exact wpS_pure q2
theorem s_mhi {st:SortSt} {xa xb:Array Keyed} {Q:Array Keyed->SortSt->Prop} (hk:kindOf st=KV.kind) (hIa:AllI xa) (hIb:AllI xb) (hA:.(68)) (hB:.(67)) (ha:0<xa.toList.length) (hb:0<xb.toList.length)
 (h0:∀ z∈xa.toList,kv (xb.toList[0])<=kv z) (hl:.(46))
 (h:∀ o st',SameSt st st'->Mer xa.toList xb.toList o.toList->Q o st'):wpS .(9) A E KV.sh (mhi xa xb) Q st:=by
 have hsa:xa.size=xa.toList.length:=(zB1 ..).symm;have hsb:xb.size=xb.toList.length:=(zB1 ..).symm;rw [mhi_eq];sleep 14;dsimp only;refine wpS_bind (aO (i:=xa.size - 1) (by lia) ?_);have m0:MHa xa xb #[xa.toList[xa.size - 1]'(by lia)] (xa.size - 1) xb.size:=by
  have mm:MHa xa xb #[] (xa.size - 1+1) xb.size:=by
   refine ⟨?_,List.Pairwise.nil,fun x hx=>(nomatch hx),fun x hx=>(nomatch hx)⟩;rw [dj (show xa.size - 1+1=xa.toList.length by lia),dj hsb];exact List.Perm.refl _
  refine mm.pushA hA (by lia) fun z hz=>?_;have:=hl z (List.mem_of_mem_take hz);have e:xa.toList[xa.toList.length - 1]'(by lia)=xa.toList[xa.size - 1]'(by lia):=by congr 1
  rw [← e];exact this
 by_cases c1:xa.size - 1=0
 · rw [if_pos (by simpa using c1)];exact wpS_pure (h _ _ (SameSt.refl _) (m0.done0 hA hB (.inl c1)))
 rw [if_neg (by simpa using c1)];by_cases c2:xb.size=1
 · rw [if_pos (by simpa using c2)];exact wpS_pure (h _ _ (SameSt.refl _) (m0.first hA hB hb c2 h0))
 rw [if_neg (by simpa using c2)];refine wpS_bind (wpS_get ?_);refine wpS_bind (wpS_mono (wpS_forRange (I:=fun x c st'=>SameSt st st'/\∃ i j ou mg,c=(none,i,j,ou,mg)/\MHa xa xb ou i j/\0<i/\i<xa.size/\1<j/\j<=xb.size/\i+j+x+1<=xa.size+xb.size) (Q:=fun c st'=>SameSt st st'/\∃ res rest,c=(some res,rest)/\Mer xa.toList xb.toList res.toList) ?step ?fin ⟨SameSt.refl _,_,_,_,_,rfl,m0,by lia,by lia,by lia,by lia,by lia⟩) ?post)
 case post=>
  rintro c st' ⟨sm,res,rest,rfl,me⟩
  exact wpS_pure (h _ _ sm me)
 case fin=>
  rintro c st' ⟨sm,i,j,ou,mg,rfl,m,hi,hi2,hj,hj2,hx⟩
  exfalso
  lia
 case step=>
  intro x c st1 _ hx I0
  refine e4 (c:=c) I0 fun sm i j ou mg I0=>?_
  have m:=I0.1;have hi:=I0.2.1;have hi2:=I0.2.2.1;have hj:=I0.2.2.2.1;have hj2:=I0.2.2.2.2.1;have hx2:=I0.2.2.2.2.2
  dsimp only
  refine wpS_bind (wpS_mono (wpS_forRange (I:=fun y c st'=>SameSt st st'/\∃ i j ou ac bc,c=(none,i,j,ou,ac,bc)/\MHa xa xb ou i j/\0<i/\i<xa.size/\1<j/\j<=xb.size/\i+j+x+1+min y 1<=xa.size+xb.size)
   (Q:=fun c st'=>SameSt st st'/\(.(48)\/∃ i j ou ac bc,c=(none,i,j,ou,ac,bc)/\MHa xa xb ou i j/\0<i/\i<xa.size/\1<j/\j<=xb.size/\i+j+x+2<=xa.size+xb.size)) ?s1 ?f1 ⟨sm,_,_,_,_,_,rfl,m,hi,hi2,hj,hj2,by lia⟩) ?p1)
  case f1=>
   rintro c st2 ⟨sm2,i,j,ou,ac,bc,rfl,m,hi,hi2,hj,hj2,hx3⟩
   exact ⟨sm2,.inr ⟨_,_,_,_,_,rfl,m,hi,hi2,hj,hj2,by lia⟩⟩
  case s1=>
   intro y c st2 _ hy I0
   refine e5 (c:=c) I0 fun sm2 i j ou ac bc I0=>?_
   have m:=I0.1;have hi:=I0.2.1;have hi2:=I0.2.2.1;have hj:=I0.2.2.2.1;have hj2:=I0.2.2.2.2.1;have hx3:=I0.2.2.2.2.2
   dsimp only
   refine wpS_bind (aO (i:=j - 1) (by lia) (wpS_bind (aO (i:=i - 1) (by lia) ?_)))
   refine wpS_bind (s_lt (sm2.kind.trans hk) (hIb _ (zC0 _)) (hIa _ (zC0 _)) ?_)
   by_cases aw:kv .(72)<kv (xa.toList[i - 1]'(by lia))
   · simp only [aw,decide_true,if_true];refine wpS_bind (aO (i:=i - 1) (by lia) ?_);have m2:MHa xa xb (ou.push (xa.toList[i - 1]'(by lia))) (i - 1) j:=MHa.pushA (by rw [show i - 1+1=i by lia];exact m) hA (by lia) fun z hz=>by
      refine zE8 ?_ (zF7 aw);exact eJ hB (n:=j - 1) (by lia) z (by rw [show j - 1+1=j by lia];exact hz)
     by_cases e1:i - 1=0
     · rw [if_pos .(75)];exact wpS_pure ⟨sm2,.inl ⟨_,_,rfl,m2.done0 hA hB (.inl e1)⟩⟩
     · rw [if_neg .(75)];split
       · exact wpS_pure ⟨sm2,.inr ⟨_,_,_,_,_,rfl,m2,by lia,by lia,hj,hj2,by lia⟩⟩
       · exact wpS_pure ⟨sm2,_,_,_,_,_,rfl,m2,by lia,by lia,hj,hj2,by lia⟩
   · simp only [aw,decide_false,zB5,if_false];refine wpS_bind (aO (i:=j - 1) (by lia) ?_);have m2:MHa xa xb (ou.push .(72)) i (j - 1):=MHa.pushB (by rw [show j - 1+1=j by lia];exact m) hB (by lia) fun z hz=>by
      refine zE8 ?_ (Int.not_lt.mp aw);exact eJ hA (n:=i - 1) (by lia) z (by rw [show i - 1+1=i by lia];exact hz)
     by_cases e1:j - 1=1
     · rw [if_pos .(75)];exact wpS_pure ⟨sm2,.inl ⟨_,_,rfl,m2.first hA hB hb e1 h0⟩⟩
     · rw [if_neg .(75)];split
       · exact wpS_pure ⟨sm2,.inr ⟨_,_,_,_,_,rfl,m2,hi,hi2,by lia,by lia,by lia⟩⟩
       · exact wpS_pure ⟨sm2,_,_,_,_,_,rfl,m2,hi,hi2,by lia,by lia,by lia⟩
  case p1=>
   intro c st2 I0
   refine o5 (c:=c) I0 (fun sm2 res rest me=>?_) fun sm2 i j ou ac bc I0=>?_
   · exact wpS_pure ⟨sm2,_,_,rfl,me⟩
   have m:=I0.1;have hi:=I0.2.1;have hi2:=I0.2.2.1;have hj:=I0.2.2.2.1;have hj2:=I0.2.2.2.2.1;have hx3:=I0.2.2.2.2.2
   dsimp only
   sleep 14
   refine wpS_bind (wpS_mono (wpS_forRange (I:=fun y c st'=>SameSt st st'/\∃ i j ou mg ac bc,c=(none,i,j,ou,mg,ac,bc)/\MHa xa xb ou i j/\0<i/\i<xa.size/\1<j/\j<=xb.size/\i+j+x+2<=xa.size+xb.size)
    (Q:=fun c st'=>SameSt st st'/\(.(48)\/∃ i j ou mg ac bc,c=(none,i,j,ou,mg,ac,bc)/\MHa xa xb ou i j/\0<i/\i<xa.size/\1<j/\j<=xb.size/\i+j+x+2<=xa.size+xb.size)) ?s2 ?f2 ⟨sm2,_,_,_,_,_,_,rfl,m,hi,hi2,hj,hj2,hx3⟩) ?p2)
   case f2=>
    rintro c st3 ⟨sm3,i,j,ou,mg,ac,bc,rfl,m,hi,hi2,hj,hj2,hx4⟩
    exact ⟨sm3,.inr ⟨_,_,_,_,_,_,rfl,m,hi,hi2,hj,hj2,hx4⟩⟩
   case p2=>
    intro c st3 I0
    refine o6 (c:=c) I0 (fun sm3 res rest me=>?_) fun sm3 i j ou mg ac bc I0=>?_
    · exact wpS_pure ⟨sm3,_,_,rfl,me⟩
    · have m:=I0.1;have hi:=I0.2.1;have hi2:=I0.2.2.1;have hj:=I0.2.2.2.1;have hj2:=I0.2.2.2.2.1;have hx4:=I0.2.2.2.2.2;dsimp only;refine wpS_bind (fK ?_);exact wpS_pure ⟨sm3.setG _,_,_,_,_,rfl,m,hi,hi2,hj,hj2,by lia⟩
   case s2=>
    intro y c st3 _ hy I0
    refine e6 (c:=c) I0 fun sm3' i j ou mg ac bc I0=>?_
    have m:=I0.1;have hi:=I0.2.1;have hi2:=I0.2.2.1;have hj:=I0.2.2.2.1;have hj2:=I0.2.2.2.2.1;have hx4:=I0.2.2.2.2.2
    dsimp only
    have sm3:=fun g=>sm3'.setG g
    obtain ⟨c1,hc1,cut1⟩:=ki hA .(72) false 0 i (by lia)
    obtain ⟨le1,gt1⟩:=ffalse (by lia) hc1 cut1
    have m1:MHa xa xb (ou++(xa.extract c1 i).reverse) c1 j:=m.extA hA hc1 (by lia) fun t ht h1 h2 z hz=>by
     refine zE8 ?_ (zF7 (gt1 t ht h1 h2));exact eJ hB (n:=j - 1) (by lia) z (by rw [show j - 1+1=j by lia];exact hz)
    have go:∀ (Q':ForInStep (Option (Array Keyed)×Nat×Nat×Array Keyed×Nat×Nat×Nat)->SortSt->Prop) (mg' g:Nat),(∀ res rest,Mer xa.toList xb.toList res.toList->Q' (.done (some res,rest)) .(18)) ->
     (∀ ou' i' j' bc',MHa xa xb ou' i' j'->0<i'->i' < xa.size->1<j'->j'<=xb.size->i' + j' + 2<=i+j->Q' (.done (none,i',j',ou',mg',i - c1,bc')) .(18)/\Q' (.yield (none,i',j',ou',mg',i - c1,bc')) .(18)) ->
     wpS .(9) A E KV.sh (if i - c1 > 0 then (if (c1 == 0)=true then pure (ForInStep.done (some (xa.extract 0 c1++xb.extract 0 j++(ou++(xa.extract c1 i).reverse).reverse),c1,j,ou++(xa.extract c1 i).reverse,mg',i - c1,bc)) else pHi xa xb (ou++(xa.extract c1 i).reverse) c1 j mg' (i - c1) bc) else pHi xa xb ou i j mg' (i - c1) bc) Q' .(18):=fun Q' mg' g hd hn=>by
     by_cases k0:i - c1 > 0
     · rw [if_pos k0];by_cases e1:c1=0
       · rw [if_pos .(75)];exact wpS_pure (hd _ _ (m1.done0 hA hB (.inl e1)))
       rw [if_neg .(75)];exact s_thi ((sm3 g).kind.trans hk) hIa hIb hA hB hb h0 m1 (by lia) (by lia) hj (by lia) (fun z hz=>le1 z hz) hd fun _ _ _ _ m1 a1 a2 a3 a4 h3=>hn _ _ _ _ m1 a1 a2 a3 a4 (by lia)
     · rw [if_neg k0];have c10:c1=i:=by lia
       exact s_thi ((sm3 g).kind.trans hk) hIa hIb hA hB hb h0 m hi (by lia) hj (by lia) (fun z hz=>le1 z (by rw [c10];exact hz)) hd hn
    by_cases hmg:mg > 1
    · rw [if_pos hmg];refine wpS_bind (fK (wpS_bind (aO (i:=j - 1) (by lia) ?_)));sleep 7;dsimp only;refine go _ (mg - 1) _ (fun _ _ me=>?_) fun _ _ _ _ m1 a1 a2 a3 a4 h3=>?_
      · exact ⟨sm3 _,.inl ⟨_,_,rfl,me⟩⟩
      · exact ⟨⟨sm3 _,.inr ⟨_,_,_,_,_,_,rfl,m1,a1,a2,a3,a4,by lia⟩⟩,⟨sm3 _,_,_,_,_,_,_,rfl,m1,a1,a2,a3,a4,by lia⟩⟩
    · rw [if_neg hmg];refine wpS_bind (fK (wpS_bind (aO (i:=j - 1) (by lia) ?_)));sleep 7;dsimp only;refine go _ mg _ (fun _ _ me=>?_) fun _ _ _ _ m1 a1 a2 a3 a4 h3=>?_
      · exact ⟨sm3 _,.inl ⟨_,_,rfl,me⟩⟩
      · exact ⟨⟨sm3 _,.inr ⟨_,_,_,_,_,_,rfl,m1,a1,a2,a3,a4,by lia⟩⟩,⟨sm3 _,_,_,_,_,_,_,rfl,m1,a1,a2,a3,a4,by lia⟩⟩
end
open PyProof.Rows hiding K SortedTo K_bubble K_mirror K_congr K_mirror_equal
variable [KV]
def PM:List (Nat×Nat×Nat)->List (List Keyed)->Nat->Prop
 | [],[],_=>True
 | p::r,l::ls,lo=>p.1=lo/\p.2.1=l.length/\PM r ls (lo+l.length)
 | _,_,_=>False
theorem PM.len:∀ {ps:List (Nat×Nat×Nat)} {ls:.(54)} {lo:Nat},PM ps ls lo->ps.length=ls.length
 | [],[],_,_=>rfl
 | _::r,_::ls,lo,h=>by rw [zC4,zC4,PM.len h.2.2]
 | [],_::_,_,h=>h.elim
 | _::_,[],_,h=>h.elim
theorem PM.at:∀ {ps:List (Nat×Nat×Nat)} {a:.(54)} {l:List Keyed} {b:.(54)} {lo:Nat},PM ps (a++l::b) lo->∃ pw,ps[a.length]? = some (lo+a.flatten.length,l.length,pw)
 | (s,n,p)::r,[],l,b,lo,h=>⟨p,by have h1:=h.1;have h2:=h.2.1;simp only at h1 h2;subst h1 h2;rfl⟩
 | p::r,x::a,l,b,lo,h=>by
   obtain ⟨pw,e⟩:=PM.at (a:=a) h.2.2;refine ⟨pw,?_⟩;rw [zC4,List.getElem?_cons_succ,e,zD8,zA5,zI3]
 | [],[],_,_,_,h=>h.elim
 | [],_::_,_,_,_,h=>h.elim
theorem PM.merge:∀ {ps:List (Nat×Nat×Nat)} {a:.(54)} {l m:List Keyed} {b:.(54)} {lo:Nat} {x:List Keyed} {pw:Nat},PM ps (a++l::m::b) lo->x.length=l.length+m.length ->
 PM ((ps.set a.length (lo+a.flatten.length,l.length+m.length,pw)).eraseIdx (a.length+1)) (a++x::b) lo
 | p::q::r,[],l,m,b,lo,x,pw,h,hx=>by
   obtain ⟨h1,h2,h3,h4,h5⟩:=h;show PM ((lo+0,l.length+m.length,pw)::r) (x::b) lo;refine ⟨rfl,hx.symm,?_⟩;rw [hx,← zI3];exact h5
 | p::r,y::a,l,m,b,lo,x,pw,h,hx=>by
   obtain ⟨h1,h2,h3⟩:=h;have ih:=PM.merge (pw:=pw) h3 hx;show PM (p::((r.set a.length _).eraseIdx (a.length+1))) (y::(a++x::b)) lo;refine ⟨h1,h2,?_⟩;rw [zD8,zA5,← zI3];exact ih
 | [],[],_,_,_,_,_,_,h,_=>h.elim
 | [_],[],_,_,_,_,_,_,h,_=>h.2.2.elim
 | [],_::_,_,_,_,_,_,_,h,_=>h.elim
theorem jF {xs:Array Keyed} {pre R post:List Keyed} (e:xs.toList=pre++R++post) {t:Nat} (ht:t<R.length):xs[pre.length+t]? = some R[t]:=by
 rw [← Array.getElem?_toList,e,zB7,List.getElem?_append_right (by lia),Nat.add_sub_cancel_left,List.getElem?_append_left ht,List.getElem?_eq_getElem ht]
theorem oH {xs:Array Keyed} {R:List Keyed} (hs:R.Pairwise Le) (ky:Keyed) (lf:Bool) (bs:Nat) (hK:∀ t (h:t<R.length),K xs (bs+t)=kv R[t]):∃ c,c<=R.length/\∀ i,i<R.length->Byd lf ky xs bs i=decide (i<c):=by
 have down:∀ i j,i<=j->j<R.length->Byd lf ky xs bs j=true->Byd lf ky xs bs i=true:=fun i j hij hj h=>by
  have hm:kv (R[i]'(by lia))<=kv R[j]:=by
   by_cases e:i=j
   · subst e;exact zF1 _
   · exact zF2.mp hs _ _ _ _ (by lia)
  unfold Byd at h ⊢;rw [hK j hj] at h;rw [hK i (by lia)]
  cases lf with
  | true=>simp only [if_true,decide_eq_true_eq] at h ⊢;lia
  | false=>simp only [zB5,if_false,Bool.not_eq_true',decide_eq_false_iff_not] at h ⊢;lia
 have main:∀ n,n<=R.length->∃ c,c<=n/\∀ i,i<n->Byd lf ky xs bs i=decide (i<c):=by
  intro n;induction n with
  | zero=>exact fun _=>⟨0,zA1 _,fun i hi=>absurd hi (zG6 _)⟩
  | succ n ih=>
    intro hn
    obtain ⟨c,hc,hd⟩:=ih (by lia)
    by_cases hb:Byd lf ky xs bs n=true
    · refine ⟨n+1,zA1 _,fun i hi=>?_⟩;rw [decide_eq_true hi];exact down i n (by lia) (by lia) hb
    · refine ⟨c,by lia,fun i hi=>?_⟩;by_cases h:i=n
      · subst h;rw [decide_eq_false (by lia)];exact Bool.not_eq_true _▸(by simpa using hb)
      · exact hd i (by lia)
 exact main _ (zA1 _)
theorem fI:∀ (l:List Keyed) (k off:Nat) (xs:Array Keyed),off+k+l.length<=xs.size->((l.zipIdx k).foldl (fun a (x:Keyed×Nat)=>a.setIfInBounds (off+x.2) x.1) xs).toList=xs.toList.take (off+k)++l++xs.toList.drop (off+k+l.length)
 | [],k,off,xs,_=>by simp
 | p::l,k,off,xs,h=>by
   rw [List.zipIdx_cons,List.foldl_cons];rw [zC4] at h;rw [fI l (k+1) off _ (by rw [Array.size_setIfInBounds];lia)];rw [Array.toList_setIfInBounds];have hlen:off+k<xs.toList.length:=by rw [zB1];lia
   rw [List.drop_set_of_lt (by lia),zC4];have e1:(xs.toList.set (off+k) p).take (off+(k+1))=xs.toList.take (off+k)++[p]:=by
    rw [← zI3,zD3,List.take_set_of_le (by lia),List.getElem?_set_self hlen];rfl
   have e2:off+(k+1)+l.length=off+k+(l.length+1):=by lia
   rw [e1,e2];simp
theorem pw3 {a b c:List Keyed} (ha:a.Pairwise Le) (hb:b.Pairwise Le) (hc:c.Pairwise Le) (hab:∀ x∈a,∀ y∈b,kv x<=kv y) (hac:∀ x∈a,∀ y∈c,kv x<=kv y) (hbc:∀ x∈b,∀ y∈c,kv x<=kv y):(a++b++c).Pairwise Le:=by
 refine zC7.mpr ⟨zC7.mpr ⟨ha,hb,hab⟩,hc,fun x hx y hy=>?_⟩;sleep 24
 · exact hac x hx y hy
 · exact hbc x hx y hy
def mat:Nat->StateT SortSt Sem Bool:=sortPriv% PySem.Builtin.mergeAt
theorem mat_is:mergeAt'=mat:=rfl
theorem mat_eq (i:Nat):mat i=(do
 let z ← get
 let (some (p,n,pw),some (q,m,_)):=((pendingOf z)[i]?,(pendingOf z)[i+1]?) | unsupported "internal:list.sort.pending"
 set (setPending z (((pendingOf z).setIfInBounds i (p,n+m,pw)).eraseIdxIfInBounds (i+1)))
 let some k ← gal false (← elem' (arrOf z) q) (arrOf z) p n 0 | return false
 let (p,n):=(p+k,n - k)
 if n == 0 then return true
 let some m ← gal true (← elem' (arrOf z) (p+n - 1)) (arrOf z) q m (m - 1) | return false
 if m == 0 then return true
 let x:=(arrOf z).extract p q
 let y:=(arrOf z).extract q (q+m)
 let mg ← if n<=m then mlo x y else mhi x y
 modify fun v=>setArr v (mg.toList.zipIdx.foldl (fun a (u,j)=>a.setIfInBounds (p+j) u) (arrOf v))
 return (failedOf (← get)).isNone):=rfl
open PyProof.Rows hiding K SortedTo K_bubble K_mirror K_congr K_mirror_equal
variable [KV]
theorem s_set {prog:Program} {w:World} {A:Around} {E:.(14)} {st v:SortSt} {Q:PUnit->SortSt->Prop} (h:Q ⟨⟩ v):wpS .(9) A E KV.sh (set v:StateT SortSt Sem PUnit) Q st:=by
 unfold wpS;rw [StateT.run_set];exact wpAny_pure ⟨rfl,h⟩
theorem gC:∀ (p z:List Keyed) (c:Nat),(p++z).drop (p.length+c)=z.drop c
 | [],z,c=>by simp
 | x::p,z,c=>by
   rw [zC4,show p.length+1+c=p.length+c+1 by lia,zK3,List.drop_succ_cons];exact gC p z c
theorem oz {xs:Array Keyed} {pre R post:List Keyed} (e:xs.toList=pre++R++post) (c d:Nat) (hd:d<=R.length) (hc:c<=d):(xs.extract (pre.length+c) (pre.length+d)).toList=(R.drop c).take (d - c):=by
 rw [zK6,zI2,e,zB7,gC];have:(R++post).drop c=R.drop c++post:=List.drop_append_of_le_length (by lia);rw [this,show pre.length+d - (pre.length+c)=d - c by lia,List.take_append_of_le_length (by rw [zD1];lia)]
theorem AllI.sub {xs ys:Array Keyed} (h:AllI xs) (hs:∀ p∈ys.toList,p∈xs.toList):AllI ys:=fun p hp=>h p (hs p hp)
section
variable {prog:Program} {w:World} {A:Around} {E:Value->Shared->Prop}
structure Kept (a b:SortSt):Prop where
 kind:kindOf b=kindOf a
 fail:failedOf b=failedOf a
theorem s_mat {st:SortSt} {L1 L2:.(54)} {R1 R2 rest:List Keyed} {Q:Bool->SortSt->Prop} (hk:kindOf st=KV.kind) (hf:failedOf st=none) (hI:AllI (arrOf st))
 (ha:(arrOf st).toList=(L1++R1::R2::L2).flatten++rest) (pm:PM (pendingOf st).toList (L1++R1::R2::L2) 0) (n1:R1≠[]) (n2:R2≠[]) (s1:R1.Pairwise Le) (s2:R2.Pairwise Le)
 (h:∀ st' R,Kept st st'->R.Perm (R1++R2)->R.Pairwise Le->(arrOf st').toList=(L1++R::L2).flatten++rest->PM (pendingOf st').toList (L1++R::L2) 0->Q true st'):wpS .(9) A E KV.sh (mat L1.length) Q st:=by
 have p1:0<R1.length:=zH0.mpr n1;have p2:0<R2.length:=zH0.mpr n2;obtain ⟨pw,e1⟩:=pm.at
 have e2':=(show PM (pendingOf st).toList ((L1++[R1])++R2::L2) 0 by rw [zB7];exact pm).at
 obtain ⟨pw2,e2⟩:=e2';rw [zA5,zK1,zJ8,zD8,List.flatten_nil,zD6,zA5] at e2;rw [Array.getElem?_toList] at e1 e2;have ea:(arrOf st).toList=L1.flatten++R1++(R2++L2.flatten++rest):=by rw [ha];simp
 have eb:(arrOf st).toList=(L1.flatten++R1)++R2++(L2.flatten++rest):=by rw [ha];simp
 have hsz:(arrOf st).size=L1.flatten.length+R1.length+R2.length+L2.flatten.length+rest.length:=by
  rw [← zB1,ha];simp only [zJ8,zD8,zA5];lia
 have pmR:∀ R:List Keyed,R.length=R1.length+R2.length->PM (((pendingOf st).setIfInBounds L1.length (0+L1.flatten.length,R1.length+R2.length,pw)).eraseIdxIfInBounds (L1.length+1)).toList (L1++R::L2) 0:=fun R hR=>by
  have:=PM.merge (pw:=pw) pm hR;rw [Array.toList_eraseIdxIfInBounds,Array.toList_setIfInBounds];exact this
 have join:(L1++(R1++R2)::L2).flatten++rest=(arrOf st).toList:=by rw [ha];simp
 rw [mat_eq];refine wpS_bind (wpS_get ?_);rw [e1,e2];dsimp only;refine wpS_bind (s_set ?_);have g2:(arrOf st)[0+.(51)]? = some R2[0]:=by
  have:=jF eb p2;rw [zA5,zI4] at this;rw [zH9];exact this
 refine wpS_bind (fL g2 ?_);have hK1:∀ t (ht:t<R1.length),K (arrOf st) (0+L1.flatten.length+t)=kv R1[t]:=fun t ht=>by
  rw [zH9];exact t7 (jF ea ht)
 have hK2:∀ t (ht:t<R2.length),K (arrOf st) (0+.(51)+t)=kv R2[t]:=fun t ht=>by
  have:=t7 (jF eb ht);rw [zA5] at this;rw [zH9];exact this
 have hI2:IsI R2[0]:=hI _ (by rw [eb];exact zI7 _ (zB3 _ (zC0 _)));obtain ⟨c,hc,cut⟩:=oH s1 R2[0] false (0+L1.flatten.length) hK1;have lo:∀ t (ht:t<R1.length),t<c->kv R1[t]<=kv R2[0]:=fun t ht htc=>by
  have:=cut t ht;unfold Byd at this;rw [hK1 t ht,decide_eq_true htc] at this;simp only [zB5,if_false,Bool.not_eq_true',decide_eq_false_iff_not] at this;lia
 have up:∀ t (ht:t<R1.length),c<=t->kv R2[0]<kv R1[t]:=fun t ht htc=>by
  have:=cut t ht;unfold Byd at this;rw [hK1 t ht,decide_eq_false (show ¬ t<c by lia)] at this;simpa using this
 refine wpS_bind (gV (st:=setPending st _) (c:=c) hk hI hI2 (by lia) p1 hc cut ?_);dsimp only;have b0:∀ y∈R2,kv R2[0]<=kv y:=fun y hy=>ft s2 p2 y (by simpa using hy);by_cases c1:R1.length - c=0
 · rw [if_pos (by simpa using c1)];refine wpS_pure (h _ (R1++R2) ⟨rfl,rfl⟩ (List.Perm.refl _) ?_ join.symm (pmR _ (by rw [zA5])));refine zC7.mpr ⟨s1,s2,fun x hx y hy=>?_⟩;obtain ⟨t,ht,rfl⟩:=zE7.mp hx;exact zE8 (lo t ht (by lia)) (b0 y hy)
 rw [if_neg (by simpa using c1)];have gl:(arrOf st)[0+L1.flatten.length+c+(R1.length - c) - 1]? = some .(84):=by
  have:=jF ea (t:=R1.length - 1) (by lia);rw [show 0+L1.flatten.length+c+(R1.length - c) - 1=L1.flatten.length+(R1.length - 1) by lia];exact this
 refine wpS_bind (fL gl ?_);have hI1:IsI .(84):=hI _ (by rw [ea];exact zI7 _ (zB3 _ (zC0 _)));obtain ⟨d,hd,cut2⟩:=oH s2 .(84) true (0+.(51)) hK2;have lo2:∀ t (ht:t<R2.length),t<d->kv R2[t]<kv .(84):=fun t ht htc=>by
  have:=cut2 t ht;unfold Byd at this;rw [hK2 t ht,decide_eq_true htc] at this;simpa using this
 have up2:∀ t (ht:t<R2.length),d<=t->kv .(84)<=kv R2[t]:=fun t ht htc=>by
  have:=cut2 t ht;unfold Byd at this;rw [hK2 t ht,decide_eq_false (show ¬ t<d by lia)] at this;simpa using this
 refine wpS_bind (gV (st:=setPending st _) (c:=d) hk hI hI1 (by lia) (by lia) hd cut2 ?_);dsimp only;have lastA:∀ x∈R1,kv x<=kv .(84):=fun x hx=>by
  refine eJ s1 (n:=R1.length - 1) (by lia) x ?_;rw [zB8 (by lia)];exact hx
 by_cases c2:d=0
 · rw [if_pos (by simpa using c2)];refine wpS_pure (h _ (R1++R2) ⟨rfl,rfl⟩ (List.Perm.refl _) ?_ join.symm (pmR _ (by rw [zA5])));refine zC7.mpr ⟨s1,s2,fun x hx y hy=>?_⟩;exact zE8 (lastA x hx) (zE8 (up2 0 p2 (by lia)) (b0 y hy))
 rw [if_neg (by simpa using c2)];have ex:((arrOf st).extract (0+L1.flatten.length+c) (0+.(51))).toList=R1.drop c:=by
  have:=oz ea c R1.length (zA1 _) hc;rw [zH9,zH9,this,zB8 (by rw [zD1];exact zA1 _)]
 have ey:((arrOf st).extract (0+.(51)) (0+.(51)+d)).toList=R2.take d:=by
  have:=oz eb 0 d hd (zC5 _);rw [zA5,zI4,List.drop_zero,Nat.sub_zero] at this;rw [zH9];exact this
 generalize hx:(arrOf st).extract (0+L1.flatten.length+c) (0+.(51))=xx at ex ⊢;generalize hy:(arrOf st).extract (0+.(51)) (0+.(51)+d)=yy at ey ⊢;have Ix:AllI xx:=hI.sub fun p hp=>by rw [ex] at hp;rw [ea];exact zI7 _ (zB3 _ (List.mem_of_mem_drop hp))
 have Iy:AllI yy:=hI.sub fun p hp=>by rw [ey] at hp;rw [eb];exact zI7 _ (zB3 _ (List.mem_of_mem_take hp))
 have Sx:xx.toList.Pairwise Le:=by rw [ex];exact s1.sublist (zL0 _ _)
 have Sy:yy.toList.Pairwise Le:=by rw [ey];exact s2.sublist (zK9 _ _)
 have lx:xx.toList.length=R1.length - c:=by rw [ex,zD1]
 have ly:yy.toList.length=d:=by rw [ey,zB9];lia
 have y0:yy.toList[0]'(by lia)=R2[0]:=by simp only [ey,zG0]
 have xl:xx.toList[xx.toList.length - 1]'(by lia)=R1[R1.length - 1]'(by lia):=by
  simp only [ex,zL1,zD1];congr 1;lia
 have h0:∀ z∈xx.toList,kv (yy.toList[0]'(by lia))<=kv z:=fun z hz=>by
  rw [y0];rw [ex] at hz;obtain ⟨u,hu,rfl⟩:=cz hz;exact zF7 (up _ hu (by lia))
 have hl:∀ z∈yy.toList,kv z<=kv (xx.toList[xx.toList.length - 1]'(by lia)):=fun z hz=>by
  rw [xl];rw [ey] at hz;obtain ⟨u,hu,rfl⟩:=zE7.mp hz;rw [zB9] at hu;rw [zG0];exact zF7 (lo2 u (by lia) (by lia))
 have fin:∀ (o:Array Keyed) (st2:SortSt),SameSt (setPending st (((pendingOf st).setIfInBounds L1.length (0+L1.flatten.length,R1.length+R2.length,pw)).eraseIdxIfInBounds (L1.length+1))) st2->Mer xx.toList yy.toList o.toList ->
  wpS .(9) A E KV.sh (do modify fun v=>setArr v (o.toList.zipIdx.foldl (fun a (u,j)=>a.setIfInBounds (0+L1.flatten.length+c+j) u) (arrOf v));return (failedOf (← get)).isNone) Q st2:=by
  intro o st2 sm me;refine wpS_bind (wpS_modify (wpS_bind (wpS_get ?_)));have hf2:failedOf st2=none:=sm.fail.trans hf;show wpS _ _ _ _ (pure (failedOf st2).isNone) Q _;rw [hf2];have harr:arrOf st2=arrOf st:=sm.arr;have lo':o.toList.length=R1.length - c+d:=by rw [me.perm.length_eq,zA5,lx,ly]
  have hwb:=fI o.toList 0 (0+L1.flatten.length+c) (arrOf st) (by rw [lo'];lia);refine wpS_pure (h _ (R1.take c++o.toList++R2.drop d) ⟨sm.kind,sm.fail⟩ ?_ ?_ ?_ ?_)
  · have e:=me.perm;rw [ex,ey] at e;have e3:(R1.take c++o.toList++R2.drop d).Perm (R1.take c++(R1.drop c++R2.take d)++R2.drop d):=zJ2 _ (zF0 _ e);have e4:R1.take c++(R1.drop c++R2.take d)++R2.drop d=R1++R2:=by
     rw [← zB7,zE2,zB7,zE2]
    rw [e4] at e3;exact e3
  · have om:∀ z∈o.toList,z∈R1.drop c\/z∈R2.take d:=fun z hz=>by
     have:=me.perm.mem_iff.mp hz;rw [ex,ey] at this;exact zD4.mp this
    have ta:∀ x∈R1.take c,kv x<=kv R2[0]:=fun x hx=>by
     obtain ⟨u,hu,rfl⟩:=zE7.mp hx;rw [zB9] at hu;rw [zG0];exact lo u (by lia) (by lia)
    have td:∀ y∈R2.drop d,kv .(84)<=kv y:=fun y hy=>by
     obtain ⟨u,hu,rfl⟩:=cz hy;exact up2 _ hu (by lia)
    refine pw3 (s1.sublist (zK9 _ _)) me.srt (s2.sublist (zL0 _ _)) (fun x hx y hy=>?_) (fun x hx y hy=>?_) (fun x hx y hy=>?_)
    · rcases om y hy with hy | hy
      · obtain ⟨u,hu,rfl⟩:=cz hy;exact zE8 (ta x hx) (zF7 (up _ hu (by lia)))
      · exact zE8 (ta x hx) (b0 y (List.mem_of_mem_take hy))
    · exact zE8 (ta x hx) (b0 y (List.mem_of_mem_drop hy))
    · rcases om x hx with hx | hx
      · exact zE8 (lastA x (List.mem_of_mem_drop hx)) (td y hy)
      · obtain ⟨u,hu,rfl⟩:=zE7.mp hx;rw [zB9] at hu;rw [zG0];exact zE8 (zF7 (lo2 u (by lia) (by lia))) (td y hy)
  · show (o.toList.zipIdx.foldl (fun a (x:Keyed×Nat)=>a.setIfInBounds (0+L1.flatten.length+c+x.2) x.1) (arrOf st2)).toList=_;rw [harr];refine hwb.trans ?_;rw [zI4,lo'];have t1:(arrOf st).toList.take (0+L1.flatten.length+c)=L1.flatten++R1.take c:=by
     rw [ea,zB7,zH9,List.take_append,zB8 (by lia),Nat.add_sub_cancel_left,List.take_append_of_le_length (by lia)]
    have t2:(arrOf st).toList.drop (0+L1.flatten.length+c+(R1.length - c+d))=R2.drop d++(L2.flatten++rest):=by
     rw [eb,zB7,show 0+L1.flatten.length+c+(R1.length - c+d)=(L1.flatten++R1).length+d by rw [zA5];lia,gC,List.drop_append_of_le_length (by lia)]
    rw [t1,t2];simp only [zJ8,zD8,zB7]
  · show PM (pendingOf st2).toList _ _;rw [sm.pend];refine pmR _ ?_;rw [zA5,zA5,zB9,zD1,lo'];lia
 by_cases c3:R1.length - c<=d
 · rw [if_pos c3];exact wpS_bind (s_mlo hk Ix Iy Sx Sy (by lia) (by lia) h0 hl fun o st2 sm me=>fin o st2 sm me)
 · rw [if_neg c3];exact wpS_bind (s_mhi hk Ix Iy Sx Sy (by lia) (by lia) h0 hl fun o st2 sm me=>fin o st2 sm me)
end
open PyProof.Rows hiding K SortedTo K_bubble K_mirror K_congr K_mirror_equal
variable [KV]
structure SX (a₀:Array Keyed) (lo:Nat) (st₀ st:SortSt):Prop where
 perm:(arrOf st).Perm a₀
 kind:kindOf st=KV.kind
 fail:failedOf st=none
 pend:pendingOf st=pendingOf st₀
 pre:∀ k,k<lo->(arrOf st)[k]? = a₀[k]?
theorem SX.size {a₀:Array Keyed} {lo:Nat} {st₀ st:SortSt} (h:SX a₀ lo st₀ st):(arrOf st).size=a₀.size:=h.perm.size_eq
theorem SX.setA {a₀:Array Keyed} {lo:Nat} {st₀ st:SortSt} (h:SX a₀ lo st₀ st) {xs:Array Keyed} (hp:xs.Perm (arrOf st)) (he:∀ k,k<lo->xs[k]? = (arrOf st)[k]?):SX a₀ lo st₀ (setArr st xs):=
 ⟨hp.trans h.perm,h.kind,h.fail,h.pend,fun k hk=>(he k hk).trans (h.pre k hk)⟩
def lJ (xs:Array Keyed) (lo n:Nat):Prop:=∀ i j,i<=j->j<n->K xs (lo+i)<=K xs (lo+j)
def wV (xs:Array Keyed) (lo n:Nat):Prop:=∀ i j,i<=j->j<n->K xs (lo+j)<=K xs (lo+i)
section
variable {prog:Program} {w:World} {A:Around} {E:Value->Shared->Prop} {a₀:Array Keyed} {lo:Nat} {st₀:SortSt}
theorem mx {st:SortSt} {i j:Nat} {Q:Option Bool->SortSt->Prop} (hX:SX a₀ lo st₀ st) (h0:AllI a₀) (hi:i<a₀.size) (hj:j<a₀.size) (h:Q (some (decide (K (arrOf st) i<K (arrOf st) j))) st):wpS .(9) A E KV.sh (ltAt' i j) Q st:=by
 have get:∀ k,k<a₀.size->∃ p,(arrOf st)[k]? = some p/\IsI p:=fun k hk=>by
  have hk':k<(arrOf st).size:=by rw [hX.size];exact hk
  have hm:(arrOf st)[k]∈a₀.toList:=(zJ3.mp hX.perm).mem_iff.mp (by simp);exact ⟨_,getElem?_pos (arrOf st) k hk',h0 _ hm⟩
 obtain ⟨p,e1,g1⟩:=get i hi;obtain ⟨q,e2,g2⟩:=get j hj;rw [t7 e1,t7 e2] at h;rw [ltAt'_eq];exact wpS_bind (wpS_get (wpS_bind (fL e1 (wpS_bind (fL e2 (s_lt hX.kind g1 g2 h))))))
theorem cX {st:SortSt} {i j:Nat} (hX:SX a₀ lo st₀ st) (hi:lo<=i) (hj:j<=a₀.size):SX a₀ lo st₀ (setArr st (mirror (arrOf st) i j ((j - i) / 2))):=
 hX.setA (mirror_perm _ _ _ _) fun k hk=>by
  rw [getElem?_mirror_all (by rw [hX.size];exact hj),if_neg (by lia)]
theorem s_bin {st:SortSt} {n ok:Nat} {Q:Bool->SortSt->Prop} (h0:AllI a₀) (hn:lo+n<=a₀.size) (hok:ok<=n) (hX:SX a₀ lo st₀ st) (hs:lJ (arrOf st) lo ok)
 (h:∀ st',SX a₀ lo st₀ st'->lJ (arrOf st') lo n->Q true st'):wpS .(9) A E KV.sh (binarySort' lo n ok) Q st:=by
 rw [binarySort'_eq];refine wpS_bind (wpS_mono (wpS_forRange (I:=fun k c z=>c=(none,())/\SX a₀ lo st₀ z/\lJ (arrOf z) lo (min k n)) (Q:=fun c z=>c=(none,())/\SX a₀ lo st₀ z/\lJ (arrOf z) lo n) ?st1 ?fi1 ?in1) ?po1)
 case po1=>rintro c z ⟨rfl,zX,zs⟩;exact wpS_pure (h z zX zs)
 case in1=>
  refine ⟨rfl,hX,fun i j hij hj=>?_⟩
  by_cases h1:ok=0
  · have:i=j:=by lia
    subst this;exact zF1 _
  · exact hs i j hij (by lia)
 case fi1=>
  rintro c z ⟨hc,zX,zs⟩
  refine ⟨hc,zX,?_⟩
  rwa [show min (max (max ok 1) n) n=n by lia] at zs
 case st1=>
  rintro k c z hak hkn ⟨rfl,zX,zs⟩
  rw [show min k n=k by lia] at zs
  refine wpS_bind (wpS_mono (wpS_forRange (I:=fun x c v=>z=v/\∃ l r,c=(none,l,r)/\l<=r/\r<=k/\r - l<=k - x/\(∀ i,i<l->K (arrOf z) (lo+i)<=K (arrOf z) (lo+k))/\(∀ i,r<=i->i<k->K (arrOf z) (lo+k)<K (arrOf z) (lo+i)))
   (Q:=fun c v=>z=v/\∃ l r,c=(none,l,r)/\l<=k/\(∀ i,i<l->K (arrOf z) (lo+i)<=K (arrOf z) (lo+k))/\(∀ i,l<=i->i<k->K (arrOf z) (lo+k)<K (arrOf z) (lo+i))) ?ist ?ifi ⟨rfl,0,k,rfl,by lia,by lia,by lia,fun i hi=>by lia,fun i g1 g2=>by lia⟩) ?ipo)
  case ifi=>
   rintro c v ⟨rfl,l,r,rfl,hlr,hrk,hm,hlo,hhi⟩
   have:l=r:=by lia
   subst this
   exact ⟨rfl,l,l,rfl,hrk,hlo,hhi⟩
  case ist=>
   rintro x c v _ hxk ⟨rfl,l,r,rfl,hlr,hrk,hm,hlo,hhi⟩
   dsimp only
   by_cases hge:l>=r
   · rw [if_pos hge];have:l=r:=by lia
     subst this;exact wpS_pure ⟨rfl,l,l,rfl,hrk,hlo,hhi⟩
   · rw [if_neg hge];refine wpS_bind (mx zX h0 (by lia) (by lia) ?_);by_cases hz:K (arrOf z) (lo+k)<K (arrOf z) (lo+(l+r) / 2)
     · simp only [hz,decide_true,if_true];exact wpS_pure ⟨rfl,l,(l+r) / 2,rfl,by lia,by lia,by lia,hlo,fun i g1 g2=>Int.lt_of_lt_of_le hz (zs _ _ g1 g2)⟩
     · simp only [hz,decide_false,zB5,if_false];exact wpS_pure ⟨rfl,(l+r) / 2+1,r,rfl,by lia,by lia,by lia,fun i g1=>zE8 (zs i ((l+r) / 2) (by lia) (by lia)) (Int.not_lt.mp hz),hhi⟩
  case ipo=>
   rintro c v ⟨rfl,l,r,rfl,hlk,hlo,hhi⟩
   show wpS _ _ _ _ (do moveDown' (lo+k) (lo+l);pure (ForInStep.yield (none,()))) _ _
   rw [moveDown'_eq]
   have hks:lo+k<(arrOf z).size:=by rw [zX.size];lia
   have hd:lo+k - (lo+k - (lo+l))=lo+l:=by lia
   refine wpS_bind (wpS_modify (wpS_pure ⟨rfl,zX.setA (bubble_perm _ _ _) fun q hq=>?_,?_⟩))
   · rw [getElem?_bubble hks _ (by lia),hd,if_neg (by lia),if_neg (by lia)]
   · rw [show min (k+1) n=k+1 by lia];intro i j hij hj;show K (bubble (arrOf z) (lo+k) (lo+k - (lo+l))) (lo+i)<=K (bubble (arrOf z) (lo+k) (lo+k - (lo+l))) (lo+j);rw [K_bubble hks (by lia),K_bubble hks (by lia),hd];have back:∀ q,0<q->lo+q - 1=lo+(q - 1):=fun q hq=>by lia
     repeat' split
     all_goals first
      | (exfalso;lia)
      | exact zF1 _
      | exact hlo _ (by lia)
      | (rw [back j (by lia)];exact zF7 (hhi _ (by lia) (by lia)))
      | exact zF7 (hhi _ (by lia) (by lia))
      | (rw [back i (by lia),back j (by lia)];exact zs _ _ (by lia) (by lia))
      | (rw [back i (by lia)];exact zs _ _ (by lia) (by lia))
      | (rw [back j (by lia)];exact zs _ _ (by lia) (by lia))
      | exact zs _ _ (by lia) (by lia)
end
open PyProof.Rows hiding K SortedTo K_bubble K_mirror K_congr K_mirror_equal
variable [KV]
def upL (lo a m:Nat):StateT SortSt Sem (Option (Option Nat)×Nat):=
 forIn [a:m] ((none,a):Option (Option Nat)×Nat) fun _ c=>do
  let t ← ltAt' (lo+c.snd) (lo+c.snd - 1)
  match t with
  | some b=>if b=true then pure (.done (none,c.snd)) else pure (.yield (none,c.snd+1))
  | _=>pure (.done (some none,c.snd))
def dnL (lo a m:Nat):StateT SortSt Sem (Option (Option Nat)×Nat×Nat):=
 forIn [a:m] ((none,a,0):Option (Option Nat)×Nat×Nat) fun _ c=>do
  let t ← ltAt' (lo+c.snd.fst) (lo+c.snd.fst - 1)
  match t with
  | some b=>
    if b=true then
     if c.snd.snd > 0 then do
      reverseSlice' (lo+c.snd.fst - (c.snd.snd+1)) (lo+c.snd.fst)
      pure (.yield (none,c.snd.fst+1,0))
     else pure (.yield (none,c.snd.fst+1,0))
    else do
     let u ← ltAt' (lo+c.snd.fst - 1) (lo+c.snd.fst)
     match u with
     | some d=>if d=true then pure (.done (none,c.snd.fst,c.snd.snd)) else pure (.yield (none,c.snd.fst+1,c.snd.snd+1))
     | _=>pure (.done (some none,c.snd.fst,c.snd.snd))
  | _=>pure (.done (some none,c.snd.fst,c.snd.snd))
def enL (lo a m:Nat):StateT SortSt Sem (Option Nat):=do
 reverseSlice' lo (lo+a)
 let c ← upL lo a m
 match c.fst with
 | some r=>pure r
 | none=>pure (some c.snd)
def faL (lo a m:Nat):StateT SortSt Sem (Option Nat):=do
 liftM (rule "list.sort.descending-run")
 let c ← dnL lo (a+1) m
 match c.fst with
 | some r=>pure r
 | none=>
   if c.snd.snd > 0 then do
    reverseSlice' (lo+c.snd.fst - (c.snd.snd+1)) (lo+c.snd.fst)
    enL lo c.snd.fst m
   else enL lo c.snd.fst m
theorem run_eq (lo m:Nat):countRun' lo m=(do
 let c ← upL lo 1 m
 match c.fst with
 | some r=>pure r
 | none=>
   if (c.snd == m)=true then pure (some c.snd)
   else if c.snd > 1 then do
    let t ← ltAt' lo (lo+c.snd - 1)
    match t with
    | some b=>if b=true then pure (some c.snd) else do
     reverseSlice' lo (lo+c.snd)
     faL lo c.snd m
    | _=>pure none
   else faL lo c.snd m):=by
 rw [countRun'_eq];dsimp only;unfold faL enL dnL upL;congr 1;funext c;obtain ⟨r,k⟩:=c
 cases r with
 | some r=>rfl
 | none=>
   dsimp only
   split
   · rfl
   · split
     · congr 1;funext t
       cases t with
       | none=>rfl
       | some b=>
         dsimp only
         split
         · rfl
         · congr 1;funext _y;congr 1;funext _x;congr 1;congr 1;funext y;obtain ⟨r,k,q⟩:=y
           cases r with
           | some r=>rfl
           | none=>
             dsimp only
             split
             · congr 1;funext _z;congr 1;funext _x;congr 1;funext y;obtain ⟨r,k⟩:=y
               cases r <;> rfl
             · congr 1;funext _x;congr 1;funext y;obtain ⟨r,k⟩:=y
               cases r <;> rfl
     · skip;congr 1;funext _x;congr 1;congr 1;funext y;obtain ⟨r,k,q⟩:=y
       cases r with
       | some r=>rfl
       | none=>
         dsimp only
         split
         · congr 1;funext _z;congr 1;funext _x;congr 1;funext y;obtain ⟨r,k⟩:=y
           cases r <;> rfl
         · congr 1;funext _x;congr 1;funext y;obtain ⟨r,k⟩:=y
           cases r <;> rfl
section
variable {prog:Program} {w:World} {A:Around} {E:Value->Shared->Prop} {a₀:Array Keyed} {lo:Nat} {st₀:SortSt}
theorem qo {st:SortSt} {i j:Nat} {Q:Unit->SortSt->Prop} (h:Q () (setArr st (mirror (arrOf st) i j ((j - i) / 2)))):wpS .(9) A E KV.sh (reverseSlice' i j) Q st:=by
 rw [reverseSlice'_eq];exact wpS_modify h
theorem lH {lo x:Nat} (h:1<=x):lo+x - 1=lo+(x - 1):=by lia
theorem s_up {st:SortSt} {a m:Nat} {Q:Option (Option Nat)×Nat->SortSt->Prop} (h0:AllI a₀) (hm:lo+m<=a₀.size) (ha:1<=a) (ham:a<=m) (hX:SX a₀ lo st₀ st)
 (hs:lJ (arrOf st) lo a)
 (h:∀ n,a<=n->n<=m->lJ (arrOf st) lo n->(n=m\/K (arrOf st) (lo+n)<K (arrOf st) (lo+(n - 1)))->Q (none,n) st):wpS .(9) A E KV.sh (upL lo a m) Q st:=by
 unfold upL;refine wpS_forRange (I:=fun x c v=>st=v/\c=(none,x)/\lJ (arrOf st) lo x) ?s1 ?f1 ⟨rfl,rfl,hs⟩
 case f1=>
  rintro c v ⟨rfl,rfl,g⟩
  rw [show max a m=m by lia] at g ⊢
  exact h m ham (zA1 _) g (.inl rfl)
 case s1=>
  rintro x c v hax hxm ⟨rfl,rfl,g⟩
  dsimp only
  rw [lH (by lia)]
  refine wpS_bind (mx hX h0 (by lia) (by lia) ?_)
  by_cases hl:K (arrOf st) (lo+x)<K (arrOf st) (lo+(x - 1))
  · simp only [hl,decide_true,if_true];exact wpS_pure (h x hax (by lia) g (.inr hl))
  · simp only [hl,decide_false,zB5,if_false];refine wpS_pure ⟨rfl,rfl,fun i j hij hj=>?_⟩;rcases Nat.lt_or_ge j x with q | q
    · exact g i j hij q
    · obtain rfl:j=x:=by lia
      rcases Nat.eq_or_lt_of_le hij with rfl | q2
      · exact zF1 _
      · exact zE8 (g i (j - 1) (by lia) (by lia)) (Int.not_lt.mp hl)
theorem s_en {st:SortSt} {a m:Nat} {Q:Option Nat->SortSt->Prop} (h0:AllI a₀) (hm:lo+m<=a₀.size) (ha:1<=a) (ham:a<=m) (hX:SX a₀ lo st₀ st)
 (hs:wV (arrOf st) lo a) (h:.(87)):wpS .(9) A E KV.sh (enL lo a m) Q st:=by
 unfold enL;have hz:lo+a<=(arrOf st).size:=by rw [hX.size];lia
 refine wpS_bind (qo ?_);have hX':=cX (i:=lo) (j:=lo+a) hX (zA1 _) (by lia);refine wpS_bind (s_up h0 hm ha ham hX' ?_ fun n g1 g2 g3 _=>wpS_pure (h n _ hX' (by lia) g2 g3));intro i j hij hj;show K (mirror (arrOf st) lo (lo+a) ((lo+a - lo) / 2)) _<=K (mirror (arrOf st) lo (lo+a) ((lo+a - lo) / 2)) _;rw [K_mirror hz,K_mirror hz,if_pos (by lia),if_pos (by lia),show lo+(lo+a) - 1 - (lo+i)=lo+(a - 1 - i) by lia,show lo+(lo+a) - 1 - (lo+j)=lo+(a - 1 - j) by lia];exact hs _ _ (by lia) (by lia)
def wN (xs:Array Keyed) (lo n q:Nat):Prop:=∀ i,lo+n - (q+1)<=i->i<lo+n->K xs i=K xs (lo+n - 1)
theorem pF {xs:Array Keyed} {n:Nat} (h:1<=n):wN xs lo n 0:=fun i a b=>by
 obtain rfl:i=lo+n - 1:=by lia
 rfl
theorem s_dn {st:SortSt} {a m:Nat} {Q:Option (Option Nat)×Nat×Nat->SortSt->Prop} (h0:AllI a₀) (hm:lo+m<=a₀.size) (ha:1<=a) (ham:a<=m) (hX:SX a₀ lo st₀ st)
 (hs:wV (arrOf st) lo a)
 (h:∀ n q v,SX a₀ lo st₀ v->a<=n->n<=m->wV (arrOf v) lo n->q+1<=n->wN (arrOf v) lo n q->Q (none,n,q) v):wpS .(9) A E KV.sh (dnL lo a m) Q st:=by
 unfold dnL;refine wpS_forRange (I:=fun x c v=>∃ q,c=(none,x,q)/\SX a₀ lo st₀ v/\wV (arrOf v) lo x/\q+1<=x/\wN (arrOf v) lo x q) ?s1 ?f1 ⟨0,rfl,hX,hs,by lia,pF ha⟩
 case f1=>
  rintro c v ⟨q,rfl,vX,vs,vq,va⟩
  rw [show max a m=m by lia] at vs vq va ⊢
  exact h m q v vX ham (zA1 _) vs vq va
 case s1=>
  rintro x c v hax hxm ⟨q,rfl,vX,vs,vq,va⟩
  dsimp only
  have hz:lo+x<=(arrOf v).size:=by rw [vX.size];lia
  have grow:∀ xs:Array Keyed,(∀ k,K xs k=K (arrOf v) k)->K (arrOf v) (lo+x)<=K (arrOf v) (lo+(x - 1))->wV xs lo (x+1):=by
   intro xs hk hl i j hij hj;rw [hk,hk];rcases Nat.lt_or_ge j x with g | g
   · exact vs i j hij g
   · obtain rfl:j=x:=by lia
     rcases Nat.eq_or_lt_of_le hij with rfl | g2
     · exact zF1 _
     · exact zE8 hl (vs i (j - 1) (by lia) (by lia))
  rw [lH (by lia)]
  refine wpS_bind (mx vX h0 (by lia) (by lia) ?_)
  by_cases hl:K (arrOf v) (lo+x)<K (arrOf v) (lo+(x - 1))
  · simp only [hl,decide_true,if_true];by_cases hq:q > 0
    · rw [if_pos hq];exact wpS_bind (qo (wpS_pure ⟨0,rfl,cX vX (by lia) (by lia),grow _ (K_mirror_equal hz va) (zF7 hl),by lia,pF (by lia)⟩))
    · rw [if_neg hq];exact wpS_pure ⟨0,rfl,vX,grow _ (fun _=>rfl) (zF7 hl),by lia,pF (by lia)⟩
  · simp only [hl,decide_false,zB5,if_false];refine wpS_bind (mx vX h0 (by lia) (by lia) ?_);by_cases hg:K (arrOf v) (lo+(x - 1))<K (arrOf v) (lo+x)
    · simp only [hg,decide_true,if_true];exact wpS_pure (h x q v vX hax (by lia) vs vq va)
    · simp only [hg,decide_false,zB5,if_false];have he:K (arrOf v) (lo+x)=K (arrOf v) (lo+(x - 1)):=by lia
      refine wpS_pure ⟨q+1,rfl,vX,grow _ (fun _=>rfl) (by lia),by lia,fun i g1 g2=>?_⟩;rw [show lo+(x+1) - 1=lo+x by lia];by_cases hi:i=lo+x
      · rw [hi]
      · rw [he,← lH (by lia)];exact va i (by lia) (by lia)
theorem s_fa {st:SortSt} {a m:Nat} {Q:Option Nat->SortSt->Prop} (h0:AllI a₀) (hm:lo+m<=a₀.size) (ham:a+1<=m) (hX:SX a₀ lo st₀ st)
 (hs:wV (arrOf st) lo (a+1)) (h:.(87)):wpS .(9) A E KV.sh (faL lo a m) Q st:=by
 unfold faL;sleep 14;refine wpS_bind (s_dn h0 hm (by lia) ham hX hs fun n q v vX g1 g2 vs vq va=>?_);dsimp only;have hz:lo+n<=(arrOf v).size:=by rw [vX.size];lia
 by_cases hq:q > 0
 · rw [if_pos hq];refine wpS_bind (qo (s_en h0 hm (by lia) g2 (cX vX (by lia) (by lia)) ?_ h));intro i j hij hj;show K (mirror (arrOf v) _ _ _) _<=K (mirror (arrOf v) _ _ _) _;rw [K_mirror_equal hz va,K_mirror_equal hz va];exact vs i j hij hj
 · rw [if_neg hq];exact s_en h0 hm (by lia) g2 vX vs h
theorem s_run {st:SortSt} {m:Nat} {Q:Option Nat->SortSt->Prop} (h0:AllI a₀) (hm:lo+m<=a₀.size) (h1:1<=m) (hX:SX a₀ lo st₀ st)
 (h:.(87)):wpS .(9) A E KV.sh (countRun' lo m) Q st:=by
 rw [run_eq];have one:lJ (arrOf st) lo 1:=fun i j hij hj=>by
  obtain rfl:i=j:=by lia
  exact zF1 _
 refine wpS_bind (s_up h0 hm (zA1 1) h1 hX one fun n g1 g2 gs go=>?_);dsimp only;by_cases hn:n=m
 · rw [if_pos (by simpa using hn)];exact wpS_pure (h n st hX g1 g2 gs)
 · rw [if_neg (by simpa using hn)];have hl:=go.resolve_left hn;by_cases hg:n > 1
   · rw [if_pos hg];rw [lH (by lia)];refine wpS_bind (mx (i:=lo) hX h0 (by lia) (by lia) ?_);by_cases hr:K (arrOf st) lo<K (arrOf st) (lo+(n - 1))
     · simp only [hr,decide_true,if_true];exact wpS_pure (h n st hX g1 g2 gs)
     · simp only [hr,decide_false,zB5,if_false];have hz:lo+n<=(arrOf st).size:=by rw [hX.size];lia
       have al:∀ k,lo<=k->k<lo+n->K (arrOf st) k=K (arrOf st) (lo+n - 1):=by
        intro k k1 k2;obtain ⟨d,rfl⟩:=Nat.exists_eq_add_of_le k1;have e1:=gs 0 d (by lia) (by lia);have e2:=gs d (n - 1) (by lia) (by lia);rw [lH (by lia)];rw [zI4] at e1;lia
       refine wpS_bind (qo (s_fa h0 hm (by lia) (cX hX (zA1 _) (by lia)) ?_ h));intro i j hij hj;show K (mirror (arrOf st) _ _ _) _<=K (mirror (arrOf st) _ _ _) _;rw [K_mirror_equal hz al,K_mirror_equal hz al];rcases Nat.lt_or_ge j n with q | q
       · rw [al (lo+i) (by lia) (by lia),al (lo+j) (by lia) (by lia)];exact zF1 _
       · obtain rfl:j=n:=by lia
         rcases Nat.eq_or_lt_of_le hij with rfl | q2
         · exact zF1 _
         · rw [al (lo+i) (by lia) (by lia),lH (by lia)];exact zF7 hl
   · rw [if_neg hg];obtain rfl:n=1:=by lia
     refine s_fa h0 hm (by lia) hX ?_ h;intro i j hij hj;rcases Nat.eq_or_lt_of_le hij with rfl | q2
     · exact zF1 _
     · obtain rfl:i=0:=by lia
       obtain rfl:j=1:=by lia
       exact zF7 hl
end
open PyProof.Rows hiding K SortedTo K_bubble K_mirror K_congr K_mirror_equal
variable [KV]
structure RS (a₀:Array Keyed) (st:SortSt) (Ls:List (List Keyed)) (rest:List Keyed):Prop where
 kind:kindOf st=KV.kind
 fail:failedOf st=none
 perm:(arrOf st).Perm a₀
 arr:(arrOf st).toList=Ls.flatten++rest
 pm:PM (pendingOf st).toList Ls 0
 runs:∀ R∈Ls,R≠[]/\R.Pairwise Le
theorem AllI.perm {xs ys:Array Keyed} (h:AllI xs) (p:ys.Perm xs):AllI ys:=fun q hq=>h q ((zJ3.mp p).mem_iff.mp hq)
theorem PM.alter:∀ {ps:List (Nat×Nat×Nat)} {ls:.(54)} {lo:Nat} (k:Nat) {f:Nat×Nat×Nat->Nat×Nat×Nat},(∀ p,(f p).1=p.1/\(f p).2.1=p.2.1)->PM ps ls lo->PM (ps.modify k f) ls lo
 | [],[],_,k,f,_,_=>by cases k <;> trivial
 | p::r,l::ls,lo,0,f,hf,h=>by
   show PM (f p::r) (l::ls) lo;exact ⟨(hf p).1.trans h.1,(hf p).2.trans h.2.1,h.2.2⟩
 | p::r,l::ls,lo,k+1,f,hf,h=>by
   show PM (p::r.modify k f) (l::ls) lo;exact ⟨h.1,h.2.1,PM.alter k hf h.2.2⟩
 | [],_::_,_,_,_,_,h=>h.elim
 | _::_,[],_,_,_,_,h=>h.elim
theorem PM.snoc:∀ {ps:List (Nat×Nat×Nat)} {ls:.(54)} {lo:Nat} {R:List Keyed} {k n:Nat},PM ps ls lo->k=lo+ls.flatten.length->n=R.length->PM (ps++[(k,n,0)]) (ls++[R]) lo
 | [],[],lo,R,k,n,_,e,e2=>⟨by simpa using e,e2,trivial⟩
 | p::r,l::ls,lo,R,k,n,h,e,e2=>by
   refine ⟨h.1,h.2.1,PM.snoc h.2.2 ?_ e2⟩;rw [e,zD8,zA5,zI3]
 | [],_::_,_,_,_,_,h,_,_=>h.elim
 | _::_,[],_,_,_,_,h,_,_=>h.elim
section
variable {prog:Program} {w:World} {A:Around} {E:Value->Shared->Prop} {a₀:Array Keyed}
theorem sP {st:SortSt} {Ls:.(54)} {rest:List Keyed} {i:Nat} {Q:Bool->SortSt->Prop} (h0:AllI a₀) (r:RS a₀ st Ls rest) (hi:i+1<Ls.length)
 (h:∀ v Ms,RS a₀ v Ms rest->Ms.length+1=Ls.length->Ms.flatten.length=Ls.flatten.length->Q true v):wpS .(9) A E KV.sh (mergeAt' i) Q st:=by
 obtain ⟨L1,R1,R2,L2,rfl,rfl⟩:∃ L1 R1 R2 L2,Ls=L1++R1::R2::L2/\i=L1.length:=by
  refine ⟨Ls.take i,Ls[i],Ls[i+1],Ls.drop (i+2),?_,by rw [zB9];lia⟩;rw [← zE1 hi,← zE1 (by lia),zE2]
 have m1:=r.runs R1 (by simp);have m2:=r.runs R2 (by simp);rw [mat_is];refine s_mat r.kind r.fail (h0.perm r.perm) r.arr r.pm m1.1 m2.1 m1.2 m2.2 fun v R hk hp hs ha hpm=>?_;have hl:=hp.length_eq;rw [zA5] at hl;refine h v (L1++R::L2) ⟨hk.kind.trans r.kind,hk.fail.trans r.fail,?_,ha,hpm,?_⟩ (by simp;lia) ?_
 · refine Array.Perm.trans ?_ r.perm;rw [zJ3,ha,r.arr];refine zJ2 _ ?_;rw [zJ8,zJ8,zD8,zD8,zD8,← zB7 R1];exact zF0 _ (zJ2 _ hp)
 · intro T hT;rcases zD4.mp hT with g | g
   · exact r.runs T (by simp [g])
   · rcases zB0.mp g with rfl | g
     · refine ⟨fun e=>?_,hs⟩;rw [e] at hl;have:=zH0.mpr m1.1;simp at hl;lia
     · exact r.runs T (by simp [g])
 · simp only [zJ8,zD8,zA5];lia
theorem io:∀ {Ls:List (List Keyed)},(∀ R∈Ls,R≠[]/\R.Pairwise Le)->Ls.length<=Ls.flatten.length
 | [],_=>zA1 _
 | R::Ls,h=>by
   have:=io (Ls:=Ls) fun T hT=>h T (zA9 _ hT);have:=zH0.mpr (h R (by simp)).1;rw [zC4,zD8,zA5];lia
theorem RS.psize {st:SortSt} {Ls:.(54)} {rest:List Keyed} (r:RS a₀ st Ls rest):(pendingOf st).size=Ls.length:=by
 rw [← zB1];exact r.pm.len
theorem RS.total {st:SortSt} {Ls:.(54)} {rest:List Keyed} (r:RS a₀ st Ls rest):Ls.flatten.length+rest.length=a₀.size:=by
 rw [← zA5,← r.arr,zB1,r.perm.size_eq]
theorem RS.cut {st v:SortSt} {Ls:.(54)} {rest:List Keyed} {n:Nat} (r:RS a₀ st Ls rest) (x:SX (arrOf st) Ls.flatten.length st v) (hn:Ls.flatten.length+n<=a₀.size) (hs:lJ (arrOf v) Ls.flatten.length n) :
 ∃ R rest',R.length=n/\R.Pairwise Le/\RS a₀ v Ls (R++rest'):=by
 have hz:(arrOf v).toList.length=a₀.size:=by rw [zB1,x.size,r.perm.size_eq]
 have ht:(arrOf v).toList.take Ls.flatten.length=Ls.flatten:=by
  have e:(arrOf v).toList.take Ls.flatten.length=(arrOf st).toList.take Ls.flatten.length:=by
   refine List.ext_getElem? fun k=>?_;rw [List.getElem?_take,List.getElem?_take];split
   · rename_i g
     rw [Array.getElem?_toList,Array.getElem?_toList];exact x.pre k g
   · rfl
  rw [e,r.arr,List.take_left]
 refine ⟨((arrOf v).toList.drop Ls.flatten.length).take n,((arrOf v).toList.drop Ls.flatten.length).drop n,?_,?_,x.kind,x.fail,x.perm.trans r.perm,?_,?_,r.runs⟩
 · rw [zB9,zD1,hz];lia
 · refine zF2.mpr fun i j hi hj hij=>?_;rw [zB9,zD1,hz] at hi hj;have:=hs i j (Nat.le_of_lt hij) (by lia);rw [pP (by lia),pP (by lia)] at this;rw [zG0,zG0,zL1,zL1];exact this
 · rw [zE2];conv=>lhs;rw [← zE2 Ls.flatten.length (arrOf v).toList,ht]
 · rw [x.pend];exact r.pm
theorem RS.add {st:SortSt} {Ls:.(54)} {R rest:List Keyed} {k n:Nat} (r:RS a₀ st Ls (R++rest)) (hR:R≠[]) (hs:R.Pairwise Le) (hk:k=Ls.flatten.length) (hn:n=R.length) :
 RS a₀ (setPending st ((pendingOf st).push (k,n,0))) (Ls++[R]) rest where
 kind:=r.kind
 fail:=r.fail
 perm:=r.perm
 arr:=by show (arrOf st).toList=_;rw [r.arr];simp
 pm:=by
  show PM ((pendingOf st).push (k,n,0)).toList _ 0;rw [zH4];exact r.pm.snoc (by lia) hn
 runs:=fun T hT=>by
  rcases zD4.mp hT with g | g
  · exact r.runs T g
  · rw [zC6.mp g];exact ⟨hR,hs⟩
theorem RS.alter {st:SortSt} {Ls:.(54)} {rest:List Keyed} {k:Nat} {f:Nat×Nat×Nat->Nat×Nat×Nat} (hf:∀ p,(f p).1=p.1/\(f p).2.1=p.2.1) (r:RS a₀ st Ls rest) :
 RS a₀ (setPending st ((pendingOf st).modify k f)) Ls rest where
 kind:=r.kind
 fail:=r.fail
 perm:=r.perm
 arr:=r.arr
 pm:=by
  show PM ((pendingOf st).modify k f).toList _ 0;rw [Array.toList_modify];exact r.pm.alter k hf
 runs:=r.runs
theorem RS.sorted {st:SortSt} {Ls:.(54)} (r:RS a₀ st Ls []) (h1:Ls.length<=1):SortedTo (arrOf st) a₀.size:=by
 have hz:(arrOf st).toList.length=a₀.size:=by rw [zB1,r.perm.size_eq]
 have hp:(arrOf st).toList.Pairwise Le:=by
  rw [r.arr];match Ls,h1,r.runs with
  | [],_,_=>simp
  | [R],_,g=>simpa using (g R (by simp)).2
 intro i j hij hj;rw [pP (by lia),pP (by lia)];rcases Nat.eq_or_lt_of_le hij with e | e
 · subst e;exact zF1 _
 · exact zF2.mp hp i j (by lia) (by lia) e
end
open PyProof.Rows hiding K SortedTo K_bubble K_mirror K_congr K_mirror_equal
variable [KV]
section
variable {prog:Program} {w:World} {A:Around} {E:Value->Shared->Prop} {a₀:Array Keyed}
def fM (sz lo n:Nat):StateT SortSt Sem (ForInStep (Option Unit×Nat)):=do
 let z ← get
 match (pendingOf z).back? with
 | some (p,k,_)=>do
   let c ← forIn [0:sz] ((none,()):Option Unit×Unit) fun _ _=>do
    let z ← get
    match if (pendingOf z).size > 1 then (pendingOf z)[(pendingOf z).size - 2]? else none with
    | some (_,_,o)=>
      if o<=power' sz (2*p+k) (2*p+k+k+n) sz then pure (.done (none,()))
      else do
       let b ← mergeAt' ((pendingOf z).size - 2)
       if (!b)=true then pure (.done (some (),())) else pure (.yield (none,()))
    | _=>pure (.done (none,()))
   match c.fst with
   | some r=>pure (.done (some r,lo))
   | none=>do
     modify fun s=>setPending s ((pendingOf s).modify ((pendingOf s).size - 1) fun x=>(x.fst,x.2.fst,power' sz (2*p+k) (2*p+k+k+n) sz))
     modify fun s=>setPending s ((pendingOf s).push (lo,n,0))
     pure (.yield (none,lo+n))
 | _=>do
   modify fun s=>setPending s ((pendingOf s).push (lo,n,0))
   pure (.yield (none,lo+n))
theorem s_put {st:SortSt} {Ls:.(54)} {R rest:List Keyed} {sz lo n:Nat} {Q:ForInStep (Option Unit×Nat)->SortSt->Prop} (h0:AllI a₀) (r:RS a₀ st Ls (R++rest)) (hlo:lo=Ls.flatten.length) (hn:n=R.length) (hR:R≠[]) (hs:R.Pairwise Le)
 (h:∀ v Ms,RS a₀ v Ms rest->Ms.flatten.length=lo+n->Q (.yield (none,lo+n)) v):wpS .(9) A E KV.sh (fM sz lo n) Q st:=by
 unfold fM;refine wpS_bind (wpS_get ?_);have fin:∀ {v:SortSt} {Ms:.(54)},RS a₀ v Ms (R++rest)->Ms.flatten.length=lo->Q (.yield (none,lo+n)) (setPending v ((pendingOf v).push (lo,n,0))):=fun {v Ms} g e=>
  h _ (Ms++[R]) (g.add hR hs e.symm hn) (by rw [zJ8,zA5,e,zD8,List.flatten_nil,zD6,hn])
 split
 · rename_i p k _ _
   generalize power' sz (2*p+k) (2*p+k+k+n) sz=pw;refine wpS_bind (wpS_mono (wpS_forRange (I:=fun x c v=>c=(none,())/\∃ Ms,RS a₀ v Ms (R++rest)/\Ms.flatten.length=lo) (Q:=fun c v=>c=(none,())/\∃ Ms,RS a₀ v Ms (R++rest)/\Ms.flatten.length=lo) ?s2 (fun _ _ g=>g) ⟨rfl,Ls,r,hlo.symm⟩) ?p2)
   case p2=>
    rintro c v ⟨rfl,Ms,g,e⟩
    dsimp only
    refine wpS_bind (wpS_modify (wpS_bind (wpS_modify (wpS_pure ?_))))
    exact fin (g.alter (fun _=>⟨rfl,rfl⟩)) e
   case s2=>
    rintro x c v _ _ ⟨rfl,Ms,g,e⟩
    refine wpS_bind (wpS_get ?_)
    rw [g.psize]
    split
    · rename_i o ho
      by_cases h1:Ms.length > 1
      · by_cases h2:o<=pw
        · rw [if_pos h2];exact wpS_pure ⟨rfl,Ms,g,e⟩
        · rw [if_neg h2];refine wpS_bind (sP h0 g (by lia) fun u Ns g2 e1 e2=>?_);simp only [zL6,zB5,if_false];exact wpS_pure ⟨rfl,Ns,g2,e2.trans e⟩
      · rw [if_neg h1] at ho
        cases ho
    · exact wpS_pure ⟨rfl,Ms,g,e⟩
 · exact wpS_bind (wpS_modify (wpS_pure (fin r hlo.symm)))
theorem vo {c:Bool} {m:Nat} (h:¬ m<=1):(if c=true then m - 2 - 1 else m - 2)+1<m:=by
 split <;> lia
theorem s_all {st:SortSt} {Q:Unit->SortSt->Prop} (h0:AllI a₀) (hk:kindOf st=KV.kind) (hf:failedOf st=none) (hp:arrOf st=a₀) (he:pendingOf st=#[])
 (h:∀ v,(arrOf v).Perm a₀->failedOf v=none->SortedTo (arrOf v) a₀.size->Q () v):wpS .(9) A E KV.sh sortRuns' Q st:=by
 rw [sortRuns'_eq];refine wpS_bind (wpS_get ?_);dsimp only;rw [hp];generalize minRun' a₀.size a₀.size 0=mr;have r0:RS a₀ st [] a₀.toList:=⟨hk,hf,by rw [hp],by rw [hp];rfl,by rw [he];trivial,fun R hR=>by cases hR⟩
 refine wpS_bind (wpS_mono (wpS_forRange (I:=fun x c z=>∃ Ls rest,c=(none,Ls.flatten.length)/\RS a₀ z Ls rest/\x<=Ls.flatten.length)
  (Q:=fun c z=>∃ Ls k,c=(none,k)/\RS a₀ z Ls []) ?s1 ?f1 ⟨[],_,rfl,r0,zA1 _⟩) ?p1)
 case f1=>
  rintro c z ⟨Ls,rest,rfl,r,hx⟩
  have:=r.total
  have e:rest=[]:=zL2.mp (by lia)
  subst e
  exact ⟨Ls,_,rfl,r⟩
 case p1=>
  rintro c z ⟨Ls,k,rfl,r⟩
  dsimp only
  refine wpS_bind (wpS_mono (wpS_forRange (I:=fun x c v=>c=(none,())/\∃ Ms,RS a₀ v Ms []/\Ms.length+x<=a₀.size) (Q:=fun c v=>c=(none,())/\∃ Ms,RS a₀ v Ms []/\Ms.length<=1) ?s2 ?f2 ?i2) ?p2)
  case i2=>
   have e1:=io r.runs
   have e2:=r.total
   exact ⟨rfl,Ls,r,by simp only [List.length_nil] at e2;lia⟩
  case f2=>
   rintro c v ⟨rfl,Ms,g,hl⟩
   exact ⟨rfl,Ms,g,by lia⟩
  case p2=>
   rintro c v ⟨rfl,Ms,g,hl⟩
   exact wpS_pure (h v g.perm g.fail (g.sorted hl))
  case s2=>
   rintro x c v _ hx ⟨rfl,Ms,g,hl⟩
   refine wpS_bind (wpS_get ?_)
   rw [g.psize]
   by_cases h1:Ms.length<=1
   · rw [if_pos h1];exact wpS_pure ⟨rfl,Ms,g,h1⟩
   · rw [if_neg h1];refine wpS_bind (sP h0 g (vo h1) fun u Ns g2 e1 e2=>?_);simp only [zL6,zB5,if_false];exact wpS_pure ⟨rfl,Ns,g2,by lia⟩
 case s1=>
  rintro x c z _ hx ⟨Ls,rest,rfl,r,hxl⟩
  dsimp only
  have tot:=r.total
  by_cases hge:Ls.flatten.length>=a₀.size
  · rw [if_pos hge];have e:rest=[]:=zL2.mp (by lia);subst e;exact wpS_pure ⟨Ls,_,rfl,r⟩
  · rw [if_neg hge];have hI:=h0.perm r.perm;have hsz:=r.perm.size_eq;have x0:SX (arrOf z) Ls.flatten.length z z:=⟨Array.Perm.refl _,r.kind,r.fail,rfl,fun _ _=>rfl⟩
    refine wpS_bind (s_run hI (by lia) (by lia) x0 fun n v vX g1 g2 gs=>?_);dsimp only;refine Eq.mp (congrArg (fun p=>wpS .(9) A E KV.sh p _ v) (?_:(if n<mr then do
     liftM (rule "list.sort.binary-insertion")
     let b ← binarySort' Ls.flatten.length (min (a₀.size - Ls.flatten.length) mr) n
     if (!b)=true then pure (ForInStep.done (some (),Ls.flatten.length)) else fM a₀.size Ls.flatten.length (min (a₀.size - Ls.flatten.length) mr)
     else fM a₀.size Ls.flatten.length n)=_)) ?_
    · unfold fM;congr 1
      · congr 1;funext _y;congr 1;funext b;congr 1;congr 1;funext z
        cases (pendingOf z).back? with
        | none=>rfl
        | some t=>
          obtain ⟨p,k,o⟩:=t
          dsimp only
          congr 1
          funext c
          obtain ⟨r,_⟩:=c
          cases r <;> rfl
      · congr 1;funext z
        cases (pendingOf z).back? with
        | none=>rfl
        | some t=>
          obtain ⟨p,k,o⟩:=t
          dsimp only
          congr 1
          funext c
          obtain ⟨r,_⟩:=c
          cases r <;> rfl
    have last:∀ {u:SortSt} {k:Nat},1<=k->k<=a₀.size - Ls.flatten.length->SX (arrOf z) Ls.flatten.length z u->lJ (arrOf u) Ls.flatten.length k->wpS .(9) A E KV.sh (fM a₀.size Ls.flatten.length k) (fun t st'=>∃ Ms rs,t=.yield (none,Ms.flatten.length)/\RS a₀ st' Ms rs/\x+1<=Ms.flatten.length) u:=fun {u k} k1 k2 uX us=>by
     obtain ⟨R,rest',e1,e2,e3⟩:=r.cut uX (by lia) us;refine s_put h0 e3 rfl e1.symm (fun e=>by rw [e] at e1;simp at e1;lia) e2 fun v2 Ms g e=>?_;exact ⟨Ms,rest',by rw [e],g,by lia⟩
    by_cases hm:n<mr
    · rw [if_pos hm];sleep 14;refine wpS_bind (s_bin hI (by lia) (by lia) vX gs fun u uX us=>?_);simp only [zL6,zB5,if_false];refine wpS_mono (last (by lia) (by lia) uX us) ?_;rintro t u2 ⟨Ms,rs,rfl,g,e⟩;exact ⟨Ms,rs,rfl,g,e⟩
    · rw [if_neg hm];refine wpS_mono (last g1 g2 vX gs) ?_;rintro t u2 ⟨Ms,rs,rfl,g,e⟩;exact ⟨Ms,rs,rfl,g,e⟩
end
end SRV
namespace SRT
open PySem PyProof.Rows
abbrev kvI (s:Shared):SRV.KV where
 sh:=s
 kind:=oneType'
 kv:=fun p=>numOf p.1
 good:=fun p=>∃ t,p.1=.int (numOf p.1) t
 lt:=fun {prog w A E st x y Q} hk hx hy h=>by
  obtain ⟨t,e⟩:=hx;obtain ⟨u,e'⟩:=hy;rw [lt'_eq];refine wpS_bind (wpS_get ?_);rw [hk,keyLt'_oneType,e,e'];exact wpS_bind (wpS_lift (wpAny_attempt (oneLt_int ⟨rfl,wpS_pure h⟩)))
def AllI (xs:Array Keyed):Prop:=∀ p∈xs.toList,∃ t,p.1=.int (numOf p.1) t
theorem AllI.perm {xs ys:Array Keyed} (h:AllI xs) (p:ys.Perm xs):AllI ys:=fun q hq=>h q ((zJ3.mp p).mem_iff.mp hq)
def core (a:Addr) (e1:Nat) (ar:Array Value) (b:Bool):Sem Fin:=do
 let knd ← if ar.size<2 then pure general' else keyKind' ar
 let ((),z) ← (if ar.size<2 then pure () else sortRuns').run (SortSt.mk' knd (if b then (ar.zip ar).reverse else ar.zip ar) #[] 7 none)
 let srt:=(arrOf z).map (·.2)
 let tch:=(← seqEpoch a) != e1
 Builtin.List.listUpdate (.ref a) fun _=>if b then srt.reverse else srt
 if let some e:=failedOf z then rule "list.sort.comparison-raised";throw e
 if tch then rule "list.sort.modified";raiseError "ValueError" "list modified during sort"
 ret .none
theorem kO (a:Addr):Builtin.«list.sort» ⟨[.ref a],[]⟩=(do
 let ar ← Builtin.List.listItems (.ref a)
 Builtin.List.listUpdate (.ref a) fun _=>#[]
 let e1 ← seqEpoch a
 let t ← newTuple ar.toList
 let l ← newList []
 holding [t,l] (core a e1 ar false)):=by rw [list_sort_plain];rfl
theorem qu (a:Addr):Builtin.«list.sort» ⟨[.ref a],[(Str.ofString "reverse",.bool true)]⟩=(do
 let ar ← Builtin.List.listItems (.ref a)
 Builtin.List.listUpdate (.ref a) fun _=>#[]
 let e1 ← seqEpoch a
 let t ← newTuple ar.toList
 let l ← newList []
 holding [t,l] (do let _ ← rule "list.sort.reverse";core a e1 ar true)):=by rw [list_sort_rev];rfl
theorem wG {vs:List Value} {ns:List Int} (hI:IntsAre vs ns):AllI (pairsOf vs):=fun p hp=>by
 obtain ⟨n,t,e⟩:=hI.intKeys p hp;refine ⟨t,?_⟩;show p.1=.int (numOf p.1) t;rw [e];rfl
section
variable {prog:Program} {w:World} {A:Around} {E:Value->Shared->Prop} {s:Shared}
theorem sE {a:Addr} {e1:Nat} {vs:List Value} {ns:List Int} {b:Bool} {P:Fin->Shared->Prop} (hA:s.heap.get? a=some (seqObj "list" #[] e1)) (hI:IntsAre vs ns) (hz:vs.length<=sizeLine)
 (h:∀ (o:Array Value) (ns':List Int),IntsAre o.toList ns'->ns'.Perm ns->Ordered b ns'->P (.done (.ret .none)) { s with heap:=s.heap.update a (Obj.mapSeq fun _=>o) }):wpAny .(9) A (core a e1 vs.toArray b) P E s:=by
 unfold core;have fin:∀ z:SortSt,(arrOf z).Perm (pairsOf vs)->failedOf z=none->SortedTo (arrOf z) (pairsOf vs).size->wpAny .(9) A (do
  let tch:=(← seqEpoch a) != e1
  Builtin.List.listUpdate (.ref a) fun _=>if b then ((arrOf z).map (·.2)).reverse else (arrOf z).map (·.2)
  if let some e:=failedOf z then rule "list.sort.comparison-raised";throw e
  if tch then rule "list.sort.modified";raiseError "ValueError" "list modified during sort"
  ret .none) P E s:=fun z hp hf hs=>by
  obtain ⟨ns',q1,q2,q3⟩:=sorted_out_rev hI hp hs b;have hlen:((arrOf z).map (·.2)).size<=sizeLine+1:=by rw [Array.size_map,hp.size_eq,pairsOf_size];lia
  refine wpAny_bind (seqEpoch_at hA rfl (wpAny_bind (listUpdate_at hA rfl ?_ (hsz2:=?sz))))
  case sz=>
   split
   · rw [Array.size_reverse];exact hlen
   · exact hlen
  rw [hf];simp only [bne_self_eq_false,zB5,if_false];exact wpAny_pure (h _ ns' q1 q2 q3)
 have hst:(if b=true then (vs.toArray.zip vs.toArray).reverse else vs.toArray.zip vs.toArray).Perm (pairsOf vs):=by
  cases b
  · exact Array.Perm.refl _
  · rw [if_pos rfl,zJ3,Array.toList_reverse];exact zH5 _
 by_cases h2:vs.toArray.size<2
 · rw [if_pos h2,if_pos h2];sleep 29;dsimp only;rw [StateT.run_pure];refine wpAny_bind (wpAny_pure (fin (SortSt.mk' general' _ #[] 7 none) hst rfl fun i j hij hj=>?_));rw [pairsOf_size] at hj;rw [zA8] at h2;obtain rfl:i=j:=by lia
   exact zF1 _
 · rw [if_neg h2,if_neg h2];obtain ⟨x,y,r,rfl⟩:∃ x y r,vs=x::y::r:=by
    rw [zA8] at h2;match vs,h2 with
    | [],g=>simp at g
    | [_],g=>simp at g
    | x::y::r,_=>exact ⟨x,y,r,rfl⟩
   rw [keyKind_ints hI];sleep 29;generalize hL:x::y::r=L at *;have ha0:AllI (if b=true then (L.toArray.zip L.toArray).reverse else L.toArray.zip L.toArray):=(wG hI).perm hst;letI inst:SRV.KV:=kvI s;refine wpAny_bind (wpAny_mono (SRV.s_all (st:=SortSt.mk' oneType' (if b=true then (L.toArray.zip L.toArray).reverse else L.toArray.zip L.toArray) #[] 7 none)
    (Q:=fun _ z=>(arrOf z).Perm (pairsOf L)/\failedOf z=none/\SortedTo (arrOf z) (pairsOf L).size) ha0 rfl rfl rfl rfl fun z g1 g2 g3=>⟨g1.trans hst,g2,by rw [← hst.size_eq];exact g3⟩) ?_ fun _ _ e=>e)
   rintro ⟨⟨⟩,z⟩ s' ⟨rfl,g1,g2,g3⟩;exact fin z g1 g2 g3
theorem lU {a:Addr} {vs:List Value} {n:Nat} {P:Fin->Shared->Prop} {f:Nat->Array Value->Sem Fin} (hA:s.heap.get? a=some (seqObj "list" vs.toArray n)) (hz:vs.length<=sizeLine)
 (h:∀ (s':Shared) e1,s'={ s with heap:=((s.heap.update a (Obj.mapSeq fun _=>#[])).push (seqObj "tuple" vs.toArray 0)).push (seqObj "list" #[] 0) }->s'.heap.get? a=some (seqObj "list" #[] e1)->wpAny .(9) A (f e1 vs.toArray) P E s') :
 wpAny .(9) A (do
  let ar ← Builtin.List.listItems (.ref a)
  Builtin.List.listUpdate (.ref a) fun _=>#[]
  let e1 ← seqEpoch a
  let t ← newTuple ar.toList
  let l ← newList []
  holding [t,l] (f e1 ar)) P E s:=by
 have ha:a<s.heap.objs.size:=Heap.lt_size hA;refine wpAny_bind (listItems_at hA rfl (wpAny_bind (listUpdate_at hA rfl ?_ (hsz:=by rw [zA8];exact hz))));obtain ⟨e1,hE⟩:∃ e1,(s.heap.update a (Obj.mapSeq fun _=>#[])).get? a=some (seqObj "list" #[] e1):=⟨_,get?_update_seq hA fun _=>#[]⟩
 refine wpAny_bind (seqEpoch_at hE rfl (wpAny_bind (wpAny_newTuple (wpAny_bind (wpAny_newList (wpAny_holding ?_)) ) ?hs)))
 case hs=>exact hz
 refine h _ e1 rfl ?_;show (((s.heap.update a (Obj.mapSeq fun _=>#[])).push (seqObj "tuple" vs.toArray 0)).push (seqObj "list" #[] 0)).get? a=_;rw [Heap.get?_push_ne _ _ _ (by rw [size_push',Heap.size_update];exact fun e=>absurd ha (by rw [e];exact Nat.not_lt.mpr (Nat.le_succ _))),Heap.get?_push_ne _ _ _ (by rw [Heap.size_update];exact fun e=>absurd ha (by rw [e];exact zG7 _))];exact hE
def kwOf (b:Bool):List (Str×Value):=if b then [(Str.ofString "reverse",.bool true)] else []
theorem w_sort {a:Addr} {vs:List Value} {ns:List Int} {n:Nat} {b:Bool} {P:Fin->Shared->Prop} (hA:s.heap.get? a=some (seqObj "list" vs.toArray n)) (hI:IntsAre vs ns) (hz:vs.length<=sizeLine)
 (h:∀ (o:Array Value) (ns':List Int),IntsAre o.toList ns'->ns'.Perm ns->Ordered b ns'->P (.done (.ret .none)) { s with heap:=sortedHeap s.heap a vs o }):wpAny .(9) A (Builtin.«list.sort» ⟨[.ref a],kwOf b⟩) P E s:=by
 cases b with
 | false=>
   show wpAny _ _ (Builtin.«list.sort» ⟨[.ref a],[]⟩) _ _ _
   rw [kO]
   refine lU hA hz fun s' e1 e hA'=>sE hA' hI hz fun o ns' g1 g2 g3=>?_
   subst e
   exact h o ns' g1 g2 g3
 | true=>
   show wpAny _ _ (Builtin.«list.sort» ⟨[.ref a],[(Str.ofString "reverse",.bool true)]⟩) _ _ _
   rw [qu]
   refine lU hA hz fun s' e1 e hA'=>wpAny_bind (wpAny_rule (sE hA' hI hz fun o ns' g1 g2 g3=>?_))
   subst e
   exact h o ns' g1 g2 g3
theorem lV {l:Addr} {vs:List Value} {o:Obj} {T:String} {n:Nat} {Q:List Value->Shared->Prop} (ho:s.heap.get? l=some o) (hc:o.cls=.type T) (hd:o.data=.seq vs.toArray n) (hT:T="list"\/T="tuple") (hz:vs.length<=sizeLine)
 (h:Q vs { s with heap:=(s.heap.push (seqObj "list" #[] 0)).update s.heap.objs.size (Obj.mapSeq (·++vs.toArray)) }):wpAny .(9) A (collect (.ref l)) Q E s:=by
 unfold collect;refine wpAny_bind (wpAny_runValue (codeAny_builtin entry_proto_collect' ?mk))
 case mk=>
 show wpAny _ _ (do again (.builtin "list.__iadd__" ⟨[← newList [],.ref l],[]⟩)) _ _ _;refine wpAny_bind (wpAny_newList (wpAny_pure (And.intro (Code.quiet_builtin _ (by decide +kernel)) (codeAny_builtin entry_list_iadd' ?_))));show wpAny .(9) _ (Builtin.List.listExtendWith .(21) (.ref l) .(21)) _ _ { s with heap:=s.heap.push (seqObj "list" #[] 0) };unfold Builtin.List.listExtendWith;have hO':(s.heap.push (seqObj "list" #[] 0)).get? l=some o:=Heap.get?_push_of_some _ ho;have hN:(s.heap.push (seqObj "list" #[] 0)).get? s.heap.objs.size=some (seqObj "list" #[] 0):=Heap.get?_push_size _ rfl;refine wpAny_bind (wpAny_typeOf (T:=T) ⟨o,hO',hc⟩ ?_);have e1:(Value.type "list" == Value.type "list")=true:=by rfl
 have e2:(Value.type "tuple" == Value.type "tuple")=true:=by rfl
 rw [if_pos (by rcases hT with rfl | rfl <;> simp [e1,e2])];refine wpAny_bind (listItems_at hO' hd (wpAny_bind (listItems_at hN rfl ?_)));rw [if_neg (by simp)];refine wpAny_bind (listUpdate_at hN rfl (wpAny_pure ?_) (zC5 _) (by rw [Array.size_append,zA8];show 0+vs.length<=_;lia));show wpAny .(9) A (do
  let z ← load s.heap.objs.size
  match z.data with
  | .seq xs _=>pure xs.toList
  | _=>unsupported "internal:collect") Q E ⟨(s.heap.push (seqObj "list" #[] 0)).update s.heap.objs.size (Obj.mapSeq (·++vs.toArray)),s.gens,s.drawn,s.toks,s.os⟩
 refine wpAny_bind (wpAny_load (get?_update_seq hN _) ?_);show wpAny .(9) _ (pure ((#[]:Array Value)++vs.toArray).toList) Q E _;have e3:((#[]:Array Value)++vs.toArray).toList=vs:=by simp
 rw [e3];exact wpAny_pure h
theorem w_sorted {l:Addr} {vs:List Value} {ns:List Int} {o:Obj} {T:String} {n:Nat} {b:Bool} {Q:.(14)} (ho:s.heap.get? l=some o) (hc:o.cls=.type T) (hd:o.data=.seq vs.toArray n) (hT:T="list"\/T="tuple") (hI:IntsAre vs ns) (hz:vs.length<=sizeLine)
 (h:∀ (r:Array Value) (ns':List Int),IntsAre r.toList ns'->ns'.Perm ns->Ordered b ns'->Q (.ref .(17)) { s with heap:=sortedAll s.heap vs r }):wpAny .(9) A (call (.builtin "sorted") [.ref l] (kwOf b)) Q E s:=by
 have ha:argsOk "sorted" ⟨[.ref l],kwOf b⟩:=by cases b;exact args_sorted1 _;exact args_sorted_rev _ _
 refine call_function_entry_kw kind_sorted plain_sorted entry_sorted ha ?_;unfold Builtin.«sorted»;refine wpAny_bind (m:=checkCount "sorted" 1 1 _) (wpAny_pure (wpAny_bind (lV ho hc hd hT hz (wpAny_bind (wpAny_newList ?_ ?hs)))))
 case hs=>exact hz
 generalize hG:(s.heap.push (seqObj "list" #[] 0)).update s.heap.objs.size (Obj.mapSeq (·++vs.toArray))=G;have sG:G.objs.size=s.heap.objs.size+1:=by rw [← hG,Heap.size_update,size_push']
 have hL:(G.push (seqObj "list" vs.toArray 0)).get? .(17)=some (seqObj "list" vs.toArray 0):=by rw [← sG];exact Heap.get?_push_size _ rfl
 show wpAny _ _ _ _ _ { s with heap:=G.push (seqObj "list" vs.toArray 0) };rw [show ({ s with heap:=G }:Shared).heap.objs.size=s.heap.objs.size+1 from sG];have hs:argsOk "list.sort" ⟨[.ref .(17)],kwOf b⟩:=by cases b;exact args_list_sort _;exact args_list_sort_rev _ _
 refine wpAny_bind (wpAny_holding (wpAny_call_entry_kw slot_list_sort ⟨_,hL,rfl⟩ entry_list_sort (w_sort hL hI hz fun r ns' g1 g2 g3=>⟨_,rfl,wpAny_pure ⟨_,rfl,?_⟩⟩) hs));have:=h r ns' g1 g2 g3;unfold sortedAll at this;rw [hG] at this;exact this
end
end SRT
namespace L2
open PySem PySem.Spec PyProof.Rows
section
variable {X:Cx}
def hU (K:PySem.W.Frag) (b:Bool):List V->Hp->VK->Prop:=fun xs H Q=>match xs with
 | [.ref p]=>∃ ns:List Int,(SqL K H p (ns.map V.int)\/SqT K H p (ns.map V.int))/\∀ l ns',H l=none->List.Perm ns' ns->Ordered b ns'->Q (.ref l) (upd H l (.lst (ns'.map V.int)))
 | _=>False
theorem qi {b:Bool} (pins:.(26)) (s:Shared) (σ:St) (H:Hp) (xs:List V) (us:List Value) (Q:VK) (I:.(10)) (r:Vals xs us) (h:hU X.K b xs H Q) :
 wpAny .(15) X.A (call (.builtin "sorted") us (SRT.kwOf b)) .(95) X.xe s:=by
 unfold hU at h;split at h
 · rename_i p
   obtain ⟨ns,hq,q⟩:=h;sleep 25
   cases rx
   obtain ⟨its,T,o,n,hI,hz,hz2,ho,hc,hd,hT⟩:∃ (its:List Value) (T:String) (o:Obj) (n:Nat),IntsAre its ns/\its.length<=sizeLine/\ns.length<=sizeLine/\s.heap.get? p=some o/\o.cls=.type T/\o.data=.seq its.toArray n/\(T="list"\/T="tuple"):=by
    rcases hq with hq | hq
    · obtain ⟨its,rv,pl,hz⟩:=I.list hq;obtain ⟨o,ho,hc,n,hd⟩:=id pl.isList;exact ⟨its,"list",o,n,dI rv,by rw [← rv.length];exact hz,by rw [zA0] at hz;exact hz,ho,hc,hd,.inl rfl⟩
    · obtain ⟨its,rv,pl,hz⟩:=I.tuple hq;obtain ⟨o,ho,hc,n,hd⟩:=id pl;exact ⟨its,"tuple",o,n,dI rv,by rw [← rv.length];exact hz,by rw [zA0] at hz;exact hz,ho,hc,hd,.inr rfl⟩
   refine SRT.w_sorted ho hc hd hT hI hz fun out ns' a1 a2 a3=>?_;obtain ⟨e,he⟩:=sortedAll_at s.heap its out;refine ⟨.ref .(17),_,I.laid (t':=s.toks) (a:=s.heap.objs.size+1) (o:=.lst (ns'.map V.int)) (fun c ob q=>sortedAll_old q) (Nat.le_succ _) ?_,rfl,q _ ns' (I.hok.fresh (Nat.le_succ _)) a2 a3⟩;refine ⟨?_,out.toList,e,eI a1,he⟩;rw [zA0,a2.length_eq];exact hz2
 · exact h.elim
theorem lA:CallR X (.builtin "sorted") (hU X.K false):=fun pins s σ H xs us Q I r h=>qi (b:=false) pins s σ H xs us Q I r h
variable {e:Expr} {es:List Expr} {t:TA} {p pos:Pos}
theorem nF (hg:Gl X "sorted") (hm:X.mg "sorted" = none) (ha:PA X (e::es) t) (he:.(1)) (hpl:.(2)) :
 PE X (.Call (.Name "sorted" p) (e::es) [] pos) (tCB (hU X.K false) t):=bp lA hg hm iI ha (by decide) (by decide) he hpl
theorem lQ (hg:Gl X "sorted") (hm:X.mg "sorted" = none) (ha:ZA X (e::es) t) (he:.(1)) (hpl:.(2)) :
 ZE X (.Call (.Name "sorted" p) (e::es) [] pos) (tCB (hU X.K false) t):=by with_unfolding_all exact nF hg hm ha he hpl
variable {o:Expr} {to:TE} {apos cpos:Pos}
end
end L2
namespace L2
open PySem PySem.Spec PyProof.Rows
section
variable {X:Cx} {e:Expr} {es:List Expr} {t:TA} {p pos:Pos} {o:Expr} {to:TE} {apos cpos:Pos}
def tNo:TS:=fun _ _ _=>False
theorem ps_no {st:Stmt}:PS X st tNo:=fun _ _ _ _ _ _ h=>h.elim
theorem ub {st:Stmt}:ZS X st tNo:=by with_unfolding_all exact ps_no
end
section
variable {prog:Program} {w:World} {A:Around} {E:Value->Shared->Prop} {R:Result->Shared->Prop} {s:Shared}
theorem md (elt t1 i1 t2 i2:Expr) (c1 c2:List Expr) (scope:Scope) (pos:Pos) (it acc:Value) (env:Env) :
 compTurn .(5) 1 it acc env=(do
  standAt i2.pos
  match ← pyNext it with
  | none=>pure (.done .next)
  | some v=>
    letOwnedTupleGo t2 it v
    assign t2 env v
    let mut ok:=true
    for c in c2 do
     if ok then ok ← isTrue c env (eval c env)
    if ok then
     (do let _ ← call (.builtin "list.append") [acc,← eval elt env])
    again (.compLoop .(5) 1 it acc env)):=by rfl
theorem ma (elt t1 i1 t2 i2:Expr) (c1 c2:List Expr) (scope:Scope) (pos:Pos) (it acc:Value) (env:Env) :
 compTurn .(5) 0 it acc env=(do
  standAt i1.pos
  match ← pyNext it with
  | none=>pure (.done .next)
  | some v=>
    letOwnedTupleGo t1 it v
    assign t1 env v
    let mut ok:=true
    for c in c1 do
     if ok then ok ← isTrue c env (eval c env)
    if ok then
     let x ← eval i2 env
     standAt i2.pos
     let x ← (if ((0:Nat) != 0)=true then foldedIterable i2 x else foldedSetIterable i2 env x)
     let _ ← runOwn (.compStart .(5) 1 (← holding [x] (if ((0:Nat) != 0)=true then asyncIter x else pyIter x)) acc env) env
    again (.compLoop .(5) 0 it acc env)):=by rfl
theorem kZ {elt t1 i1 t2 i2:Expr} {c1 c2:List Expr} {scope:Scope} {pos:Pos} {it acc:Value} {env:Env} (I:Nat->Shared->Prop)
 (turn:∀ n s,I n s->wpAny .(9) A (pyNext it) (fun r s₁=>match r with
   | none=>R (.ok .next) s₁
   | some v=>wpAny (model prog w) A (letOwnedTupleGo t2 it v) (fun _ s₁'=>wpAny (model prog w) A (assign t2 env v) (fun _ s₂=>
    wpAny .(9) A (forIn c2 true fun c r=>if r=true then do let ok ← isTrue c env (eval c env);pure (ForInStep.yield ok) else pure (ForInStep.yield r)) (fun ok s₃=>
     if ok=true then wpAny .(9) A (eval elt env) (fun x s₄=>
      wpAny .(9) A (call (.builtin "list.append") [acc,x]) (fun _ s₅=>∃ m,m<n/\I m s₅) .(59) s₄) .(59) s₃
     else ∃ m,m<n/\I m s₃) .(59) s₂) .(59) s₁') .(59) s₁) .(59) s)
 (n:Nat) (h:I n s) :
 codeAny .(9) A (.compLoop .(5) 1 it acc env) R s:=by
 refine codeAny_loop rfl I (fun n s hI=>?_) n h;show wpAny _ A ((compTurn .(5) 1 it acc env).onRaise (fun x=>do noteFrame x env;theTreesLotGoes x)) _ _ s;refine wpAny_noted ?_;rw [md];sleep 15
 cases r with
 | none=>exact wpAny_pure h₁
 | some v=>
   sleep 39
   sleep 8
   cases ok with
   | false=>exact wpAny_pure ⟨rfl,h₃⟩
   | true=>
     exact wpAny_bind .(58)
theorem iT {elt t1 i1 t2 i2:Expr} {c1 c2:List Expr} {scope:Scope} {pos:Pos} {it acc:Value} {env:Env}
 (h0:codeAny .(9) A (.compLoop .(5) 1 it acc env) R s)
 (h:wpAny .(9) A (pyIter it) (fun it' s'=>codeAny .(9) A (.compLoop .(5) 1 it' acc env) R s')
   (notedBy .(9) A env fun x s'=>R (.error x) s') s) :
 codeAny .(9) A (.compStart .(5) 1 it acc env) R s:=by
 refine codeAny_of_tree ?_;show wpAny _ _ ((compStart .(5) 1 it acc env).onRaise (fun x=>do noteFrame x env;standAt theWindowsPlace)) _ _ s;refine wpAny_notedAt ?_;unfold compStart;show wpAny _ _ (ask >>= _) _ _ s;refine wpAny_bind (wpAny_askSetting (wpAny_ite ?_));split
 · first
    | exact wpAny_bind (wpAny_pure (wpAny_pure (And.intro rfl h0)))
    | exact wpAny_pure (And.intro rfl h0)
 · first
    | exact wpAny_bind (wpAny_rule (wpAny_bind (wpAny_standAt (wpAny_bind (wpAny_mono h (fun it' s' h'=>wpAny_pure (And.intro rfl h')) fun _ _ x=>x)))))
    | (refine wpAny_bind (wpAny_rule ?_);show wpAny _ _ (standAt i2.pos >>= _) _ _ s;exact wpAny_bind (wpAny_standAt (wpAny_bind (wpAny_mono h (fun it' s' h'=>wpAny_pure (And.intro rfl h')) fun _ _ x=>x))))
theorem kY {elt t1 i1 t2 i2:Expr} {c1 c2:List Expr} {scope:Scope} {pos:Pos} {it acc:Value} {env:Env} (I:Nat->Shared->Prop)
 (hs:∀ x,foldedSetIterable i2 env x=pure x)
 (turn:∀ n s,I n s->wpAny .(9) A (pyNext it) (fun r s₁=>match r with
   | none=>R (.ok .next) s₁
   | some v=>wpAny (model prog w) A (letOwnedTupleGo t1 it v) (fun _ s₁'=>wpAny (model prog w) A (assign t1 env v) (fun _ s₂=>
    wpAny .(9) A (forIn c1 true fun c r=>if r=true then do let ok ← isTrue c env (eval c env);pure (ForInStep.yield ok) else pure (ForInStep.yield r)) (fun ok s₃=>
     if ok=true then wpAny .(9) A (eval i2 env) (fun x s₄=>wpAny .(9) A (pyIter x) (fun it2 s₅=>
      codeAny .(9) A (.compStart .(5) 1 it2 acc env) (fun r s₆=>r=.ok .next/\∃ m,m<n/\I m s₆) s₅) .(59) s₄) .(59) s₃
     else ∃ m,m<n/\I m s₃) .(59) s₂) .(59) s₁') .(59) s₁) .(59) s)
 (n:Nat) (h:I n s) :
 codeAny .(9) A (.compLoop .(5) 0 it acc env) R s:=by
 refine codeAny_loop rfl I (fun n s hI=>?_) n h;show wpAny _ A ((compTurn .(5) 0 it acc env).onRaise (fun x=>do noteFrame x env;theTreesLotGoes x)) _ _ s;refine wpAny_noted ?_;rw [ma];sleep 15
 cases r with
 | none=>exact wpAny_pure h₁
 | some v=>
   sleep 39
   sleep 8
   cases ok with
   | false=>exact wpAny_pure ⟨rfl,h₃⟩
   | true=>
     refine wpAny_bind (wpAny_mono h₃ (fun x s₄ h₄=>wpAny_bind (wpAny_standAt ?_)) fun _ _ h'=>h'.elim)
     refine wpAny_bind (wpAny_of_eq (t:=foldedSetIterable i2 env x) (hs x) ?_)
     refine wpAny_bind (wpAny_holding (wpAny_mono (t:=pyIter x) h₄ (fun it2 s₅ h₅=>?_) fun _ _ h'=>h'.elim))
     refine wpAny_bind (wpAny_runOwn (codeAny_mono h₅ (fun r s₆ h₆=>?_)))
     obtain ⟨rfl,h₆⟩:=h₆
     exact wpAny_pure ⟨rfl,h₆⟩
end
section
variable {X:Cx} {nv:List Str} {ix:List (Str×Nat)} {scope:Scope} {pins:List (Addr×Obj)} {σ:St} {H:Hp} {s:Shared} {elt t1 i1 t2 i2:Expr} {c1 c2:List Expr} {pos:Pos}
def CmpI (g:TG) (ti:TT) (te:TE) (σ:St) (J:It) (ys0:List V) (Fin:.(88)) (H1:Hp):Prop:=
 ∃ W:Nat->Nat->List V->Hp->Prop,(∃ m,W 0 m ys0 H1)/\∀ i m ys H,W i m ys H ->
   (J.stop i H/\Fin ys H)\/(J.go i H/\ys.length<sizeLine/\∃ N:List V->Hp->Prop,(∀ ys' H',N ys' H'->∃ m',m' < m/\W (i+1) m' ys' H') /\
     ∀ x H',J.yld i H x H'->g x σ H' fun σ2 H2=>ti σ2 H2 fun b H3=>if b=true then te σ2 H3 fun y H4=>N (ys++[y]) H4 else N ys H3)
def wM (nv:List Str) (ix:List (Str×Nat)) (g1:TG) (ti1:TT) (wi2:TI) (g2:TG) (ti2:TT) (te:TE) (σ:St) (J:It) (Fin:.(88)) (H1:Hp):Prop:=
 ∃ W:Nat->Nat->List V->Hp->Prop,(∃ m,W 0 m [] H1)/\∀ i m ys H,W i m ys H ->
   (J.stop i H/\Fin ys H)\/(J.go i H/\∃ N:List V->Hp->Prop,(∀ ys' H',N ys' H'->∃ m',m' < m/\W (i+1) m' ys' H') /\
     ∀ x H',J.yld i H x H'->g1 x .(98) H' fun σ1 H2=>ti1 σ1 H2 fun b H3=>if b=true then wi2 σ1 H3 fun J2 H4=>CmpI g2 ti2 te σ1 J2 ys N H4 else N ys H3)
def KpT (g2:TG) (σ1:St):Prop:=∀ (v:V) (H:Hp) (Q:St->Hp->Prop),g2 v σ1 H Q->g2 v σ1 H fun σ2 H2=>Kp σ1 σ2/\Q σ2 H2
def KpG2 (nv:List Str) (g1 g2:TG):Prop:=∀ (fr:St) (v:V) (H:Hp) (Q:St->Hp->Prop),g1 v (nv.map (fun _=>none)++fr) H Q->g1 v (nv.map (fun _=>none)++fr) H fun σ1 H1=>(Kp (nv.map (fun _=>none)++fr) σ1/\KpT g2 σ1)/\Q σ1 H1
theorem oa {D:Addr} {J:It} {fp:List Addr} {it:Addr} {tn:Nat->Heap->Prop} {g:TG} {ti:TT} {te:TE} {N:.(88)} {pl:.(26)} {ys:List V} {its:List Value} {k:Nat}
 (hc:X.calm=true) (hp0:X.pn=[]) (I:Inv X ([(D,cA its k)]++pl) σ H s) (rv:Vals ys its) (hz:ys.length<=sizeLine) (T:Turn X.prog X.w X.K t2 J fp it tn) (st:tn 0 s.heap) (hf:∀ b∈fp,dY X ([(D,cA its k)]++pl) H b)
 (hD1:D∈X.ex\/X.s₀.heap.objs.size<=D) (hD2:∀ x c,X.env.cells.lookup x=some c->c≠D) (hD3:∀ p∈pl,p.1≠D)
 (kg:KpT g σ) (hg:PG X t2 g) (hi:PIf X c2 ti) (he:PE X elt te) (hx:X.xe=fun _ _=>False) (q:CmpI g ti te σ J ys N H) :
 codeAny .(15) X.A (.compStart .(5) 1 (.ref it) (.ref D) X.env)
  .(93) s:=by
 obtain ⟨W,⟨m0,w0⟩,turn⟩:=q;have fpD:∀ b∈fp,b≠D:=fun b hb z=>by
  have:=(hf b hb).2.2.2.2.2 (D,cA its k) (by rw [hp0];simp);exact this z.symm
 have fpc:∀ {H':Hp} {its':List Value} {k':Nat},.(55)->∀ b∈fp,dY X ([(D,cA its' k')]++pl) H' b:=fun {H' its' k'} hn b hb=>by
  obtain ⟨_,f1,f2,f3,f4,f5⟩:=hf b hb;refine ⟨hn b hb,f1,f2,f3,f4,fun p hp z=>?_⟩;rw [hp0,List.nil_append] at hp;rcases zD4.mp hp with hp | hp
  · have e:p=(D,cA its' k'):=by simpa using hp
    subst e;exact fpD b hb z.symm
  · exact f5 p (by rw [hp0,List.nil_append];exact zB3 _ hp) z
 have loop:codeAny .(15) X.A (.compLoop .(5) 1 (.ref it) (.ref D) X.env)
  .(93) s:=by
  refine kZ (fun n s'=>∃ i H' ys its k,Inv X ([(D,cA its k)]++pl) σ H' s'/\Vals ys its/\ys.length<=sizeLine/\tn i s'.heap/\.(55)/\W i n ys H')
   ?_ m0 ⟨0,H,ys,its,k,I,rv,hz,st,fun b hb=>(hf b hb).1,w0⟩
  rintro n s3 ⟨i,H3,ys,its,k,I3,rv,hz,st3,fr3,w3⟩;rcases turn i n ys H3 w3 with ⟨stop,fin0⟩ | ⟨go,hlt',N',hN,step⟩
  · refine thn (T.done X rfl rfl rfl hc i _ s3 _ H3 _ I3 (fpc fr3) st3 stop) fun r s4 ⟨hr,I4⟩=>?_;subst hr;exact ⟨rfl,H3,ys,its,k,I4,rv,hz,fin0⟩
  · refine thn (T.item X rfl rfl rfl hc i _ s3 _ H3 _ I3 (fpc fr3) st3 go) fun r s4 ⟨u,hr,h4⟩=>?_;subst hr;refine thn h4 fun _ s5 ⟨x,H5,I5,r5,y5,st5,fr5⟩=>?_;have I5':=I5.pinned (fpc fr5) (T.obj _ _ st5);have hg':=hg _ s5 _ H5 x u _ I5' r5 (kg _ _ _ (step x H5 y5));rw [hx] at hg';refine thn hg' fun _ s6 ⟨σ6,H6,I6,kp,q6⟩=>?_;have hi':=hi _ s6 σ6 H6 _ I6 q6;rw [hx] at hi';refine thn hi' fun b s7 ⟨H7,I7,q7⟩=>?_;have again:∀ {s7:Shared} {H7:Hp} {ys' its':List _} {k':Nat},Inv X (([(D,cA its' k')]++pl)++bJ fp s5.heap) σ6 H7 s7->Vals ys' its'->ys'.length<=sizeLine->N' ys' H7 ->
     ∃ m,m<n/\∃ i H' ys its k,Inv X ([(D,cA its k)]++pl) σ H' s7/\Vals ys its/\ys.length<=sizeLine/\tn i s7.heap/\.(55)/\W i m ys H':=fun {s7 H7 ys' its' k'} I8 rv' hz' n8=>by
     obtain ⟨m',hm,w8⟩:=hN _ _ n8;sleep 19;sleep 10;obtain ⟨o,e,d⟩:=T.obj _ _ st5 b hb;exact (pn b o hb e).2.1
    cases b with
    | false=>
      rw [if_neg zC9] at q7 ⊢
      exact again I7 rv hz q7
    | true=>
      rw [if_pos rfl] at q7 ⊢
      have he':=he _ s7 σ6 H7 _ I7 q7
      rw [hx] at he'
      refine thn he' fun u8 s8 ⟨y,H8,I8,r8,q8⟩=>?_
      obtain ⟨p1,p2,p3,p4,p5⟩:=I8.pin (D,cA its k) (zB3 _ zA7)
      refine append_at (hsz:=by rw [zA8,← rv.length];exact Nat.le_of_lt hlt') p1 fun h9 hs9 hD9=>?_
      have I9:Inv X (pl++bJ fp s5.heap) σ6 H8 { s8 with heap:=h9 }:=by
       have Iu:Inv X (pl++bJ fp s5.heap) σ6 H8 s8:=I8.pins_of fun p hp=>I8.pin p (zB3 _ (by rw [zB7];exact zB3 _ hp));refine Iu.turned (t':=s8.toks) (it:=D) (fun b o hb e=>(hs9.2 b hb).trans e) p2 p3 hD1 hD2 fun p hp z=>?_;rw [hp0,List.nil_append] at hp;rcases zD4.mp hp with hp | hp
       · exact hD3 p hp z
       · obtain ⟨hb,_⟩:=df hp;exact fpD _ hb z
      have I10:Inv X (([(D,cA (its++[u8]) (k+1))]++pl)++bJ fp s5.heap) σ6 H8 { s8 with heap:=h9 }:=
       I9.pins_of fun p hp=>by
        rw [zB7] at hp;rcases zD4.mp hp with hp | hp
        · have e:p=(D,cA (its++[u8]) (k+1)):=by simpa using hp
          subst e;refine ⟨?_,p2,p3,p4,fun v z=>by cases z⟩;rw [List.push_toArray] at hD9;exact hD9
        · exact I9.pin p (zB3 _ hp)
      exact again I10 (rv.append (.cons r8 .nil)) (by rw [zA5,zK1];exact hlt') q8
 exact iT loop (T.self _ 0 _ _ _ st loop)
theorem oK {J:It} {fp:List Addr} {it:Addr} {tn:Nat->Heap->Prop} {g1 g2:TG} {ti1 ti2:TT} {wi2:TI} {te:TE} {Fin:.(88)} {E:.(14)} {RR:Value->Addr->Result->Shared->Prop}
 (co:.(52)) (hc:X.calm=true) (I:.(10)) (T:Turn X.prog X.w X.K t1 J fp it tn) (st:tn 0 s.heap) (hf:∀ b∈fp,dY X pins H b)
 (kg:KpG2 nv g1 g2) (hg:∀ C s₀ H₀ fp,PG .(7) t1 g1) (hi:∀ C s₀ H₀ fp,PIf .(7) c1 ti1)
 (hw2:∀ C s₀ H₀ fp,PI .(7) t2 i2 wi2) (hg2:∀ C s₀ H₀ fp,PG .(7) t2 g2) (hi2:∀ C s₀ H₀ fp,PIf .(7) c2 ti2) (he:∀ C s₀ H₀ fp,PE .(7) elt te)
 (hs2:∀ C s₀ H₀ fp x,foldedSetIterable i2 .(7).env x=pure x)
 (q:wM nv ix g1 ti1 wi2 g2 ti2 te σ J Fin H)
 (fin:.(63)) :
 wpAny .(15) X.A (newList []) (fun acc s₃=>wpAny .(15) X.A (newFunctionEnv scope X.env.globals (dJ X.env scope.names []) [] X.env.qual none .none (some X.env)) (fun cenv s₄=>
  codeAny .(15) X.A (.compStart .(5) 0 (.ref it) acc { cenv with scope:=relabel scope X.env }) (RR acc cenv.locals) s₄) E s₃) E s:=by
 obtain ⟨W,⟨m0,w0⟩,turn⟩:=q;refine wpAny_newObj_type (wpAny_newFunctionEnv co.nocell (by intro y hy;simp at hy) (fun h₁ hns₁ hsb₁=>?_) co.kind);dsimp only at hns₁ hsb₁ ⊢;generalize hH2:s.heap.push { cls:=.type "list",dict:=none,data:=.seq ([]:List Value).toArray }=H2 at hns₁ hsb₁ ⊢;have hC:H2.objs.size=s.heap.objs.size+1:=by rw [← hH2,Heap.size_push]
 rw [hC] at hns₁ hsb₁ ⊢;have hDC:s.heap.objs.size≠s.heap.objs.size+1:=zC3 (zF6 _);have below:∀ b,b<s.heap.objs.size->b≠s.heap.objs.size+1/\b≠s.heap.objs.size:=fun b hb=>⟨zC3 (zH3 hb),zC3 hb⟩
 sleep 30;have hacc:h₁.get? s.heap.objs.size=some (cA [] 0):=hsb₁.extBut _ _ hDC (Heap.get?_push_of_some _ (hH2▸Heap.get?_push_size _ rfl));have hlt:∀ b∈fp,b<s.heap.objs.size:=fun b hb=>by
  obtain ⟨o,e,_⟩:=T.obj 0 _ st b hb;exact Heap.lt_size e
 have I₁:=fun tk=>iF (tk:=tk) co I hf hlt hns₁ old hacc;have st₁:tn 0 h₁:=T.keep 0 _ _ st fun b _ o e=>old b o e;have fpD:∀ {H':Hp},H' s.heap.objs.size=none->dY X pins H' s.heap.objs.size:=fun hn=>I.fpOk (zA1 _) hn;have loop:∀ tk:Nat,codeAny .(15) X.A (.compLoop .(5) 0 (.ref it) .(21) (compEnvC scope (dJ X.env scope.names []) .(17) X.env))
  (RR .(21) .(17)) { s with heap:=h₁,toks:=tk }:=by
  intro tk;refine kY (fun n s'=>∃ i H' ys its k,Inv .(11) [.(36)] .(98) H' s'/\Vals ys its/\ys.length<=sizeLine/\tn i s'.heap/\.(55)/\W i n ys H')
   (hs2 .(17) s H fp) ?_ m0 ⟨0,H,[],[],0,I₁ tk,.nil,zC5 _,st₁,fun b hb=>(hf b hb).1,w0⟩
  rintro n s3 ⟨i,H3,ys,its,k,I3,rv,hz,st3,fr3,w3⟩;have fpc:∀ {H':Hp} {its:List Value} {k:Nat},.(55)->∀ b∈fp,dY .(11) [.(36)] H' b:=fun {H' its k} hn b hb=>by
   refine ⟨hn b hb,(below b (hlt b hb)).1,fun hs=>?_,.inl hb,fun x c e=>(hf b hb).2.2.2.2.1 x c (co.look I.ok e),fun p hp z=>?_⟩
   · rcases zB0.mp (I.stkSub b hs) with e | h
     · exact (hf b hb).2.1 e
     · exact (hf b hb).2.2.1 h
   · have e:p=.(36):=by simpa [bj] using hp
     subst e;exact (below b (hlt b hb)).2 z.symm
  have pD:=fun {ps:List (Addr×Obj)} {σ':St} {H':Hp} {s':Shared} (I':Inv .(11) (.(36)::ps) σ' H' s')=>
   I'.pin .(36) (zB3 _ zA7)
  rcases turn i n ys H3 w3 with ⟨stop,fin0⟩ | ⟨go,N,hN,step⟩
  · refine thn (T.done .(11) rfl rfl rfl hc i _ s3 _ H3 _ I3 (fpc fr3) st3 stop) fun r s4 ⟨hr,I4⟩=>?_;subst hr;obtain ⟨p1,p2,_⟩:=pD I4;have I5:=(oM I hf I4).track rv hz p1 p2 (fpD p2);obtain ⟨mC,hmC,_⟩:=I4.loc;exact fin _ _ s4 H3 ys I5 p2 fin0 ⟨mC,hmC⟩ (I.fpOk (Nat.le_succ _) (by rw [au (Ne.symm hDC)];exact I4.free))
  · refine thn (T.item .(11) rfl rfl rfl hc i _ s3 _ H3 _ I3 (fpc fr3) st3 go) fun r s4 ⟨u,hr,h4⟩=>?_;subst hr;refine thn h4 fun _ s5 ⟨x,H5,I5,r5,y5,st5,fr5⟩=>?_;have I5':=I5.pinned (fpc fr5) (T.obj _ _ st5);refine thn (hg _ _ _ _ _ s5 _ H5 x u _ I5' r5 (kg _ _ _ _ (step x H5 y5))) fun _ s6 ⟨σ6,H6,I6,⟨kp,kt⟩,q6⟩=>?_;refine thn (hi _ _ _ _ _ s6 σ6 H6 _ I6 q6) fun b s7 ⟨H7,I7,q7⟩=>?_;have again:∀ {s7:Shared} {H7:Hp} {ys' its':List _} {k':Nat},Inv .(11) ([(s.heap.objs.size,cA its' k')]++bJ fp s5.heap) σ6 H7 s7->Vals ys' its'->ys'.length<=sizeLine->N ys' H7 ->
     ∃ m,m<n/\∃ i H' ys its k,Inv .(11) [.(36)] .(98) H' s7/\Vals ys its/\ys.length<=sizeLine/\tn i s7.heap/\.(55)/\W i m ys H':=fun {s7 H7 ys' its' k'} I8 rv' hz' n8=>by
     obtain ⟨m',hm,w8⟩:=hN _ _ n8;sleep 19;sleep 10;obtain ⟨o,e,d⟩:=T.obj _ _ st5 b hb;exact (pn b o hb e).2.1
    cases b with
    | false=>
      rw [if_neg zC9] at q7 ⊢
      exact again I7 rv hz q7
    | true=>
      rw [if_pos rfl] at q7 ⊢
      refine thn (hw2 _ _ _ _ _ s7 σ6 H7 _ I7 q7) fun v8 s8 h8=>thn h8 fun itv s9 h9=>?_
      obtain ⟨it2,fp2,tn2,J2,H9,e9,I9,T2,st9,f9,q9⟩:=h9
      subst e9
      refine codeAny_mono (oa (X:=bj X nv ix scope .(17) s H fp) (elt:=elt) (t1:=t1) (i1:=i1) (c1:=c1) (i2:=i2) hc rfl I9 rv hz T2 st9 f9 (.inr (zA1 _)) (fun x c e z=>?_) (fun p hp z=>?_) kt (hg2 _ _ _ _) (hi2 _ _ _ _) (he _ _ _ _) rfl q9) fun r s10 h10=>?_
      · obtain ⟨v,o,e1,_⟩:=I.cell x c (co.look I.ok e);exact absurd (Heap.lt_size e1) (by rw [z];exact zG7 _)
      · obtain ⟨hb,_⟩:=df hp;exact (below _ (hlt _ hb)).2 z
      · obtain ⟨rfl,H10,ys',its',k',I10,rv10,hz10,n10⟩:=h10;exact ⟨rfl,again I10 rv10 hz10 n10⟩
 exact codeAny_compStart_list (loop _) (T.self _ 0 _ _ _ st₁ (loop _))
def sK (nv:List Str) (ix:List (Str×Nat)) (wi:TI) (g1:TG) (ti1:TT) (wi2:TI) (g2:TG) (ti2:TT) (te:TE):TE:=fun σ H Q=>wi σ H fun J H1=>wM nv ix g1 ti1 wi2 g2 ti2 te σ J (fun ys H2=>∀ D,H2 D=none->Q (.ref D) (upd H2 D (.lst ys))) H1
theorem pe_two {wi wi2:TI} {g1 g2:TG} {ti1 ti2:TT} {te:TE} (nv:List Str) (ix:List (Str×Nat)) (hc:X.calm=true) (co:.(52)) (hit:PI X t1 i1 wi) (kg:KpG2 nv g1 g2) (hg:∀ C s₀ H₀ fp,PG .(7) t1 g1)
 (hi:∀ C s₀ H₀ fp,PIf .(7) c1 ti1) (hw2:∀ C s₀ H₀ fp,PI .(7) t2 i2 wi2) (hg2:∀ C s₀ H₀ fp,PG .(7) t2 g2) (hi2:∀ C s₀ H₀ fp,PIf .(7) c2 ti2) (he:∀ C s₀ H₀ fp,PE .(7) elt te)
 (hs:∀ x,foldedSetIterable i1 X.env x=pure x:=by intro _;rfl) (hs2:∀ C s₀ H₀ fp x,foldedSetIterable i2 .(7).env x=pure x:=by intro _ _ _ _ _;rfl):PE X .(5) (sK nv ix wi g1 ti1 wi2 g2 ti2 te):=by
 sleep 11;rw [eval_ListComp];sleep 34;obtain ⟨it,fp,tn,J,H2,e,I2,T,st2,f2,q⟩:=h2;subst e;refine oK co hc I2 T st2 f2 kg hg hi hw2 hg2 hi2 he hs2 q fun D C s' H' ys I' hD fin ⟨m,hm⟩ hC=>?_;obtain ⟨c0,c1,c2,c3,c4,c5⟩:=hC;exact ⟨m,hm,fun h' hs'=>⟨.ref D,_,I'.turned (t':=s'.toks) (fun b o hb e=>(hs'.2 b hb).trans e) c0 c1 c3 c4 c5,rfl,fin D hD⟩⟩
theorem ze_two {wi wi2:TI} {g1 g2:TG} {ti1 ti2:TT} {te:TE} (nv:List Str) (ix:List (Str×Nat)) (hc:X.calm=true) (co:.(52)) (hit:ZI X t1 i1 wi) (kg:KpG2 nv g1 g2) (hg:∀ C s₀ H₀ fp,ZG .(7) t1 g1)
 (hi:∀ C s₀ H₀ fp,ZIf .(7) c1 ti1) (hw2:∀ C s₀ H₀ fp,ZI .(7) t2 i2 wi2) (hg2:∀ C s₀ H₀ fp,ZG .(7) t2 g2) (hi2:∀ C s₀ H₀ fp,ZIf .(7) c2 ti2) (he:∀ C s₀ H₀ fp,ZE .(7) elt te)
 (hs:∀ x,foldedSetIterable i1 X.env x=pure x:=by intro _;rfl) (hs2:∀ C s₀ H₀ fp x,foldedSetIterable i2 .(7).env x=pure x:=by intro _ _ _ _ _;rfl):ZE X .(5) (sK nv ix wi g1 ti1 wi2 g2 ti2 te):=by with_unfolding_all exact pe_two nv ix hc co hit kg hg hi hw2 hg2 hi2 he hs hs2
end
def NoSl (i:Expr):Prop:=∀ ov iv,subscripted i false ov iv=operate [ov,iv] (getItem ov iv)
theorem ux {prog:Program} {w:World} {A:Around} {E:.(14)} {s:Shared} {env:Env} {value slice:Expr} {pos:Pos} {T id:String} {Q:.(14)}
 (hl:typeLookup (.type T) "__getitem__" = pure (some (.builtin id))) (hs:NoSl slice)
 (h:wpAny .(9) A (eval value env) (fun o s₁=>wpAny .(9) A (eval slice env) (fun i s₂=>s₂.TypeIs o T/\wpAny .(9) A (getItem o i) Q E s₂) E s₁) E s) :
 wpAny .(9) A (eval (.Subscript value slice pos) env) Q E s:=by
 refine Subscript_ (wpAny_mono h (fun o s₁ h₁=>wpAny_mono h₁ (fun i s₂ h₂=>?_) fun _ _ x=>x) fun _ _ x=>x);obtain ⟨hT,h₂⟩:=h₂;unfold subscriptTail;refine wpAny_bind ?_;rw [getitemInPython_of_ne hT.not_modules];refine wpAny_bind (wpAny_specialOf hT hl ?_);have fin:wpAny .(9) A (subscripted slice false o i) (fun r s₃=>wpAny .(9) A (letTemporaryGo value o r >>= fun _=>pure r) Q E s₃) E s₂:=by
  rw [hs o i];exact wpAny_operating (wpAny_mono h₂ (fun r s₃ h₃=>wpAny_bind (wpAny_letTemporaryGo (wpAny_pure h₃))) fun _ _ x=>x)
 first
  | exact wpAny_pure (wpAny_bind fin)
  | exact wpAny_bind (wpAny_pure (wpAny_bind fin))
  | exact wpAny_bind fin
end L2
namespace L2
open PySem PySem.Spec PyProof.Rows
section
variable {X:Cx}
def Itv (K:PySem.W.Frag) (a:Addr) (n:Nat):It:=⟨fun i H=>i<n/\∃ xs,SqL K H a xs/\xs.length=n,fun i H x H'=>H'=H/\∀ xs,SqL K H a xs->xs[n - 1 - i]? = some x,fun i _=>i=n⟩
theorem p6 {P:Program} {w:World} {K:PySem.W.Frag} {tg:Expr} {a it:Addr} {n:Nat}:Turn P w K tg (Itv K a n) [it] it (fun i h=>h.IsRevIter it a ((n:Int) - 1 - (i:Int))) where
 mem:=by simp
 obj:=fun i h st b hb=>by
  have e:b=it:=by simpa using hb
  subst e;obtain ⟨o,e,c,d⟩:=st;exact ⟨o,e,fun v z=>by rw [d] at z;cases z⟩
 keep:=fun i h h' st k=>st.at fun o e=>k it (by simp) o e
 item:=by
  sleep 1;subst hP hw hK;obtain ⟨hi,xs,hq,hl⟩:=hg;obtain ⟨its,rv,pl,hz⟩:=I.list hq;sleep 4;have e:(n:Int) - 1 - (i:Int)=((n - 1 - i:Nat):Int):=by lia
  rw [e] at st;have hxl:n - 1 - i<xs.length:=by lia
  have hx:xs[n - 1 - i]? = some xs[n - 1 - i]:=List.getElem?_eq_getElem hxl;obtain ⟨u,hu,ru⟩:=rv.get hx;refine wpAny_pyNext_rev_item st pl.isList (x:=u) (by simpa using hu) fun h' st' sb=>?_;sleep 13;have e2:((n - 1 - i:Nat):Int) - 1=(n:Int) - 1 - ((i+1:Nat):Int):=by lia
  rw [e2] at st';obtain ⟨o,e,c,d⟩:=id st';exact ⟨u,rfl,on (s:={ s with heap:=h' }) e c d (by decide) ⟨xs[n - 1 - i],H,I1,ru,⟨rfl,fun ys hy=>by rw [I.list_inj hy hq];exact hx⟩,st',fun b hb=>(hf b hb).1⟩⟩
 done:=by
  sleep 1;subst hP hw hK;have hi:i=n:=hg;subst hi;sleep 4;have e:(i:Int) - 1 - (i:Int)=-1:=by lia
  rw [e] at st;exact wpAny_pyNext_rev_end (I.ok.hd hc) st fun h' eb=>⟨rfl,I.turned (t':=s.toks) (fun b o hb e=>eb b o hb e) f0 f1 f3 f4 f5⟩
 self:=fun _ _ _ _ _ st h=>wpAny_pyIter_revIter st h
theorem fH:bootBuiltins "reversed" = some (.type "reversed"):=by decide +kernel
def iRev (K:PySem.W.Frag) (ta:TA):TI:=fun σ H R=>ta σ H fun vs H1=>match vs with
 | [.ref a]=>∃ xs,SqL K H1 a xs/\R (Itv K a xs.length) H1
 | _=>False
theorem pi_rev {l tg:Expr} {ta:TA} {p pos:Pos} (hg:Gl X "reversed") (hm:X.mg "reversed" = none) (ha:PA X [l] ta) (hs:starEach [l] X.env=[(false,eval l X.env)]:=by rfl) :
 PI X tg (.Call (.Name "reversed" p) [l] [] pos) (iRev X.K ta):=by
 intro pins s σ H R I h;refine Call_ (dP I hg hm fH (PyProof.Rows.callWith_type1 (thn .(61) fun us s1 ⟨vs,H1,I1,r1,q1⟩=>?_) hs rfl));dsimp only at q1;split at q1
 · rename_i a
   obtain ⟨xs,hx,q⟩:=q1;obtain ⟨u,rfl,rx⟩:=cv r1
   cases rx
   obtain ⟨its,rv,pl,hz⟩:=I1.list hx;refine call_reversed_list pl.isList ?_;have e:((its.toArray.size:Nat):Int) - 1=(xs.length:Int) - 1 - ((0:Nat):Int):=by rw [zA8,← rv.length];lia
   rw [e];have hit:(s1.heap.push (revObj a ((xs.length:Int) - 1 - ((0:Nat):Int)))).IsRevIter s1.heap.objs.size a ((xs.length:Int) - 1 - ((0:Nat):Int)):=⟨_,Heap.get?_push_size _ rfl,rfl,rfl⟩
   refine wpAny_pyIter_revIter (s:={ s1 with heap:=s1.heap.push (revObj a ((xs.length:Int) - 1 - ((0:Nat):Int))) }) hit ⟨s1.heap.objs.size,[s1.heap.objs.size],_,_,H1,rfl,I1.kept (t':=s1.toks) fun b o e=>Heap.get?_push_of_some _ e,p6,hit,fun b hb=>?_,q⟩;have e:b=s1.heap.objs.size:=by simpa using hb
   subst e;exact I1.fpOk (zA1 _) (I1.hok.fresh (zA1 _))
 · exact q1.elim
theorem zi_rev {l tg:Expr} {ta:TA} {p pos:Pos} (hg:Gl X "reversed") (hm:X.mg "reversed" = none) (ha:ZA X [l] ta) (hs:starEach [l] X.env=[(false,eval l X.env)]:=by rfl) :
 ZI X tg (.Call (.Name "reversed" p) [l] [] pos) (iRev X.K ta):=by with_unfolding_all exact pi_rev hg hm ha hs
theorem ww {K:PySem.W.Frag} {a:Addr} {xs:List V} {nv:List Str} {ix:List (Str×Nat)} {σ:St} {H:Hp} {g:TG} {ti:TT} {te:TE} {Fin:.(88)} (Pv:.(94)) (h0:Pv 0 [] H) (hl:∀ i ys H,i<=xs.length->Pv i ys H->SqL K H a xs)
 (hs:∀ i x ys H,i<xs.length->xs[xs.length - 1 - i]? = some x->Pv i ys H->ys.length<sizeLine/\g x .(98) H fun σ2 H2=>ti σ2 H2 fun b H3=>if b=true then te σ2 H3 fun y H4=>Pv (i+1) (ys++[y]) H4 else Pv (i+1) ys H3)
 (hd:∀ ys H,Pv xs.length ys H->Fin ys H):su nv ix g ti te σ (Itv K a xs.length) Fin H:=by
 refine ⟨fun i m ys H=>m=xs.length - i/\i<=xs.length/\Pv i ys H,.(86),?_⟩;rintro i m ys H ⟨rfl,hi,p⟩;have q:=hl i ys H hi p;by_cases hlt:i<xs.length
 · have hx:xs[xs.length - 1 - i]? = some (xs[xs.length - 1 - i]'(by lia)):=List.getElem?_eq_getElem (by lia);refine .inr ⟨⟨hlt,xs,q,rfl⟩,(hs i _ ys H hlt hx p).1,Pv (i+1),fun σ' H' p'=>.(56),fun x H' y=>?_⟩;obtain ⟨e',y⟩:=y;subst e';exact (hs i x ys _ hlt (y xs q) p).2
 · have e:i=xs.length:=by lia
   subst e;exact .inl ⟨rfl,hd ys H p⟩
end
section
variable {X:Cx}
theorem rB {ns:List Int} (h:ns≠[]):ns.getD (argBest (fun i j=>decide (ns.getD i 0<ns.getD j 0)) (ns.length - 1)) 0∈ns/\∀ n∈ns,ns.getD (argBest (fun i j=>decide (ns.getD i 0<ns.getD j 0)) (ns.length - 1)) 0<=n:=by
 have hp:0<ns.length:=zH0.mpr h;obtain ⟨h1,h2⟩:=argBest_lt (fun i=>ns.getD i 0) (ns.length - 1);have hlt:argBest (fun i j=>decide (ns.getD i 0<ns.getD j 0)) (ns.length - 1)<ns.length:=by lia
 refine ⟨?_,fun n hn=>?_⟩
 · rw [zA2,List.getElem?_eq_getElem hlt];exact zC0 hlt
 · obtain ⟨i,hi,rfl⟩:=zE7.mp hn;have:=h2 i (by lia);have e:ns.getD i 0=ns[i]:=by rw [zA2,List.getElem?_eq_getElem hi];rfl
   rw [e] at this;exact this
def qA:List V->Hp->VK->Prop:=fun xs H Q=>match xs with
 | [.ref p]=>∃ ns:List Int,H p=some (.tup (ns.map V.int))/\ns≠[]/\∀ M,M∈ns->(∀ n∈ns,M<=n)->Q (.int M) H
 | _=>False
theorem oV (hc:X.calm=true):CallR X (.builtin "min") qA:=by
 sleep 5;unfold qA at h;split at h
 · rename_i p
   obtain ⟨ns,hq,hne,q⟩:=h;sleep 25
   cases rx
   have hh:X.A.in1.handled=none:=I.ok.hd hc;have hb:=rB hne;obtain ⟨its,rv,pl,hz⟩:=I.tuple (SqT.of hq);have hlen:its.length=ns.length:=by rw [← rv.length,zA0]
   have hlt:p<s.heap.objs.size:=pl.lt;refine call_min_walk (wpAny_pyIter_tuple pl ?_);refine ⟨s.heap.objs.size,_,_,_,_,_,_,rfl,Walks.tuple hh s.heap.objs.size p (zC3 hlt) its.toArray,⟨⟨_,Heap.get?_push_size _ rfl,rfl,rfl⟩,pl.push _⟩,?_,?_,CmpOf.ints_lt (fun i=>ns.getD i 0) (fun i v hv=>bM rv hv),fun v h' tk hv hk=>?_⟩
   · intro b hb;rw [Heap.size_push];sleep 6
     · exact zF6 _
     · sleep 6
       · exact zH3 hlt
       · cases hb
   · rw [zA8,hlen];exact zH0.mpr hne
   · obtain ⟨t,rfl⟩:=bM rv hv;sleep 12;rw [zA8,hlen];exact q _ hb.1 hb.2
 · exact h.elim
variable {e:Expr} {es:List Expr} {t:TA} {p pos:Pos}
theorem qT (hc:X.calm=true) (hg:Gl X "min") (hm:X.mg "min" = none) (ha:PA X (e::es) t) (he:.(1)) (hpl:.(2)) :
 PE X (.Call (.Name "min" p) (e::es) [] pos) (tCB qA t):=bp (oV hc) hg hm iJ ha (by decide) (by decide) he hpl
theorem pT (hc:X.calm=true) (hg:Gl X "min") (hm:X.mg "min" = none) (ha:ZA X (e::es) t) (he:.(1)) (hpl:.(2)) :
 ZE X (.Call (.Name "min" p) (e::es) [] pos) (tCB qA t):=by with_unfolding_all exact qT hc hg hm ha he hpl
end
def KTu (K:PySem.W.Frag) (a:Addr) (xs:List V):Prop:=∃ (o:Obj) (its:Array Value) (n:Nat),K.lookup a=some o/\o.cls=.type "tuple"/\o.data=.seq its n/\its.size<=sizeLine/\Vals xs its.toList
theorem KTu.sq {K:PySem.W.Frag} {a:Addr} {xs:List V} (h:KTu K a xs) (H:Hp):SqT K H a xs:=.inr h
def lg:List Value->List Int->Bool
 | [],[]=>true
 | .int i _::vs,n::ns=>decide (i=n)&&lg vs ns
 | _,_=>false
theorem rH:∀ {vs:List Value} {ns:List Int},lg vs ns=true->Vals .(27) vs:=by
 intro vs;induction vs with
 | nil=>intro ns h;cases ns with
   | nil=>exact .nil
   | cons n ns=>simp [lg] at h
 | cons v vs ih=>
   intro ns h
   cases ns with
   | nil=>cases v <;> simp [lg] at h
   | cons n ns=>
     cases v <;> simp [lg] at h
     obtain ⟨rfl,h⟩:=h
     exact .cons ⟨_,rfl⟩ (ih h)
def tupI (K:PySem.W.Frag) (v:Value) (ns:List Int):Bool:=match v with
 | .ref a=>(match K.lookup a with
   | some o=>o.cls == .type "tuple"&&(match o.data with | .seq its _=>decide (its.size<=1000)&&lg its.toList ns | _=>false)
   | none=>false)
 | _=>false
theorem uo {K:PySem.W.Frag} {v:Value} {ns:List Int} (h:tupI K v ns=true):∃ a,v=.ref a/\KTu K a .(27):=by
 unfold tupI at h;split at h
 · split at h
   · rename_i a _ o ho
     simp only [zC8] at h;obtain ⟨h1,h2⟩:=h;split at h2
     · rename_i its n hd
       simp only [zC8,decide_eq_true_eq] at h2;exact ⟨a,rfl,o,its,n,ho,beq_iff_eq.mp h1,hd,Nat.le_of_lt (ao h2.1),rH h2.2⟩
     · cases h2
   · cases h
 · cases h
def kJ (K:PySem.W.Frag):List Value->List (List Int)->Bool
 | [],[]=>true
 | v::vs,n::ns=>tupI K v n&&kJ K vs ns
 | _,_=>false
def KRows (K:PySem.W.Frag) (as:List Addr) (R:List (List Int)):Prop:=as.length=R.length/\∀ (i:Nat) (h:i<as.length) (h2:i<R.length),KTu K as[i] (R[i].map V.int)
theorem jw {K:PySem.W.Frag}:∀ {vs:List Value} {R:List (List Int)},kJ K vs R=true->∃ as:List Addr,Vals (as.map V.ref) vs/\KRows K as R
 | [],[],_=>⟨[],.nil,rfl,fun i h=>absurd h (zG6 _)⟩
 | v::vs,n::ns,h=>by
   simp only [kJ,zC8] at h;obtain ⟨a,rfl,ha⟩:=uo h.1;obtain ⟨as,hv,hl,hr⟩:=jw h.2;refine ⟨a::as,.cons rfl hv,by rw [zC4,zC4,hl],fun i h1 h2=>?_⟩
   cases i with
   | zero=>exact ha
   | succ i=>exact hr i (Nat.lt_of_succ_lt_succ h1) (Nat.lt_of_succ_lt_succ h2)
 | [],_::_,h=>by simp [kJ] at h
 | _::_,[],h=>by simp [kJ] at h
def KTs (K:PySem.W.Frag) (a:Addr) (R:List (List Int)):Prop:=∃ as:List Addr,KTu K a (as.map V.ref)/\KRows K as R
def tupT (K:PySem.W.Frag) (v:Value) (R:List (List Int)):Bool:=match v with
 | .ref a=>(match K.lookup a with
   | some o=>o.cls == .type "tuple"&&(match o.data with | .seq its _=>decide (its.size<=1000)&&kJ K its.toList R | _=>false)
   | none=>false)
 | _=>false
theorem um {K:PySem.W.Frag} {v:Value} {R:List (List Int)} (h:tupT K v R=true):∃ a,v=.ref a/\KTs K a R:=by
 unfold tupT at h;split at h
 · split at h
   · rename_i a _ o ho
     simp only [zC8] at h;obtain ⟨h1,h2⟩:=h;split at h2
     · rename_i its n hd
       simp only [zC8,decide_eq_true_eq] at h2;obtain ⟨as,hv,hr⟩:=jw h2.2;exact ⟨a,rfl,as,⟨o,its,n,ho,beq_iff_eq.mp h1,hd,Nat.le_of_lt (ao h2.1),hv⟩,hr⟩
     · cases h2
   · cases h
 · cases h
def kL (K:PySem.W.Frag):List DictEntry->List (Int×List (List Int))->Bool
 | [],[]=>true
 | e::es,(i,R)::D=>(match e.key with | .int j _=>decide (j=i) | _=>false)&&e.hash == hashInt i&&tupT K e.val R&&kL K es D
 | _,_=>false
theorem jG (prog:Program) (w:World) {K:PySem.W.Frag}:∀ {es:List DictEntry} {D:List (Int×List (List Int))},kL K es D=true ->
 (∀ e∈es,∃ k,(PySem.intKind prog w).is k e.key=true/\e.hash=(PySem.intKind prog w).hash k)/\∃ kvs:List (Int×Value),Pairs (PySem.intKind prog w) es kvs/\kvs.map (·.1)=D.map (·.1) /\
   ∀ t R,D.lookup t=some R->∃ a,valueAt kvs t=some (.ref a)/\KTs K a R
 | [],[],_=>⟨(fun _ h=>(nomatch h)),[],.nil,rfl,fun t R h=>by cases h⟩
 | e::es,(i,R)::D,h=>by
   simp only [kL,zC8] at h;obtain ⟨⟨⟨h1,h2⟩,h3⟩,h4⟩:=h;obtain ⟨hk,kvs,hp,hm,hf⟩:=jG prog w h4;split at h1
   · rename_i j t hkey
     obtain rfl:=of_decide_eq_true h1;have hi:(PySem.intKind prog w).is j e.key=true:=by rw [hkey];show Value.isInt j (.int j t)=true;simp [Value.isInt]
     obtain ⟨a,ea,ha⟩:=um h3;refine ⟨fun e' he'=>?_,(j,e.val)::kvs,.cons hi rfl hp,by simp [hm],fun t' R' hl=>?_⟩
     · rcases zB0.mp he' with rfl | he'
       · exact ⟨j,hi,beq_iff_eq.mp h2⟩
       · exact hk e' he'
     · rw [zF5] at hl;by_cases hj:t'=j
       · subst hj;rw [beq_self_eq_true] at hl
         cases hl
         exact ⟨a,by simp [valueAt,ea],ha⟩
       · have hb:(t' == j)=false:=by simpa using hj
         rw [hb] at hl;obtain ⟨b,e1,e2⟩:=hf t' R' hl;refine ⟨b,?_,e2⟩;rw [← e1];unfold valueAt;rw [List.find?_cons];have:decide (j=t')=false:=by simpa using fun z=>hj z.symm
         simp only [this]
   · cases h1
 | [],_::_,h=>by simp [kL] at h
 | _::_,[],h=>by simp [kL] at h
def tabL (K:PySem.W.Frag) (a:Addr) (D:List (Int×List (List Int))):Bool:=!(a == sysModules)&&decide ((D.map (·.1)).Nodup)&&(match K.lookup a with
 | some o=>o.cls == .type "dict"&&o.dict.isNone&&o.slots.isEmpty&&(match o.data with | .dict es _=>kL K es.toList D | _=>false)
 | none=>false)
theorem uw (prog:Program) (w:World) {K:PySem.W.Frag} {h:Heap} (hK:K.In h) {a:Addr} {D:List (Int×List (List Int))} (hl:tabL K a D=true) :
 ∃ kvs:List (Int×Value),h.DictOf (PySem.intKind prog w) a kvs/\∀ t R,D.lookup t=some R->∃ b,valueAt kvs t=some (.ref b)/\KTs K b R:=by
 simp only [tabL,zC8] at hl;obtain ⟨⟨h0,hn⟩,hl⟩:=hl;split at hl
 · rename_i o ho
   simp only [zC8] at hl;obtain ⟨⟨⟨e1,e2⟩,e3⟩,e4⟩:=hl;split at e4
   · rename_i es ep hd
     obtain ⟨hk,kvs,hp,hm,hf⟩:=jG prog w e4;exact ⟨kvs,⟨o,es,ep,hK _ _ ho,⟨beq_iff_eq.mp e1,by simpa using e2,by simpa using e3⟩,hd,fun e he=>hk e (by simpa using he),hp,by rw [hm];exact of_decide_eq_true hn⟩,hf⟩
   · cases e4
 · cases hl
structure TabG (K:PySem.W.Frag) (mg:Str->Option Value) (x:Str) (D:List (Int×List (List Int))):Prop where
 ex:∃ a,mg x=some (.ref a)/\tabL K a D=true
section
variable {X:Cx}
def tTab (K:PySem.W.Frag) (D:List (Int×List (List Int))) (ti:TE):TE:=fun σ H Q=>ti σ H fun y H1=>∃ t R,y=.int t/\D.lookup t=some R/\∀ a,KTs K a R->Q (.ref a) H1
theorem pe_tab {x:Str} {i:Expr} {ti:TE} {D:List (Int×List (List Int))} {p pos:Pos} (hg:Gl X x) (hm:TabG X.K X.mg x D) (hi:PE X i ti) (hs:NoSl i) (hd:.(34)=false:=by decide):PE X (.Subscript (.Name x p) i pos) (tTab X.K D ti):=by
 obtain ⟨a,ha,hl⟩:=hm.ex;sleep 11;refine ux PySem.F.slot_dict_getitem.lookup hs (thn ((vp (v:=.ref a) hg ha rfl hd) pins s σ H (fun x H1=>x=.ref a/\H1=H) I ⟨rfl,rfl⟩) fun u s1 ⟨x,H1,I1,rx,ex,eH⟩=>?_);subst ex eH;obtain rfl:u=Value.ref a:=rx;refine thn (hi pins s1 σ H1 _ I1 h) fun iv s2 ⟨y,H2,I2,ry,t,R,ey,hD,q⟩=>?_;subst ey;obtain ⟨tk,rfl⟩:=ry;obtain ⟨kvs,dd,hf⟩:=uw X.prog X.w I2.kIn hl;obtain ⟨b,hb,hT⟩:=hf t R hD;exact ⟨dd.typeIs,wpAny_getItem_of (intKind_is X.prog X.w t tk) dd.mapOf hb ⟨.ref b,H2,I2.tok _,rfl,q b hT⟩⟩
theorem sA {x:Str} {i:Expr} {ti:TE} {D:List (Int×List (List Int))} {p pos:Pos} (hg:Gl X x) (hm:TabG X.K X.mg x D) (hi:ZE X i ti) (hs:NoSl i) (hd:.(34)=false:=by decide):ZE X (.Subscript (.Name x p) i pos) (tTab X.K D ti):=by with_unfolding_all exact pe_tab hg hm hi.p hs hd
def qF (K:PySem.W.Frag):List V->Hp->VK->Prop:=fun xs H Q=>match xs with
 | [.ref p]=>∃ ys,(SqL K H p ys\/SqT K H p ys)/\Q (.int ys.length) H
 | _=>False
theorem o8:CallR X (.builtin "len") (qF X.K):=call_len_seq.imp fun xs H Q h=>by
 unfold qF at h;split at h
 · obtain ⟨ys,h1,q⟩:=h;exact ⟨_,ys,rfl,h1,q⟩
 · exact h.elim
def u6 (K:PySem.W.Frag):R2:=fun x y H Q=>match x,y with
 | .int i,.int j=>Q (.int (i+j)) H
 | .ref a,.ref b=>∃ xs ys,SqT K H a xs/\SqT K H b ys/\xs≠[]/\ys≠[]/\xs.length+ys.length<=sizeLine/\∀ p,H p=none->Q (.ref p) (upd H p (.tup (xs++ys)))
 | _,_=>False
theorem nJ:OpR X (binaryOp .Add) (u6 X.K):=by
 sleep 2;unfold u6 at h;split at h
 · exact tj pins s σ H _ _ v u Q I rx ry ⟨_,_,rfl,rfl,h⟩
 · obtain ⟨xs,ys,h1,h2,n1,n2,hz,q⟩:=h;exact nH pins s σ H _ _ v u Q I rx ry ⟨_,_,xs,ys,rfl,rfl,h1,h2,n1,hz,fun e=>absurd e n2,fun _ p hp=>q p hp⟩
 · exact h.elim
def qx (K:PySem.W.Frag):List V->Hp->VK->Prop:=fun xs H Q=>match xs with
 | [.ref p]=>∃ ns:List Int,SqT K H p (ns.map V.int)/\Q (.int ns.sum) H
 | _=>False
theorem oS (hc:X.calm=true):CallR X (.builtin "sum") (qx X.K):=by
 sleep 5;unfold qx at h;split at h
 · rename_i p
   obtain ⟨ns,hq,q⟩:=h;sleep 25
   cases rx
   have hh:X.A.in1.handled=none:=I.ok.hd hc;obtain ⟨its,rv,pl,hz⟩:=I.tuple hq;have hlt:p<s.heap.objs.size:=pl.lt;refine call_sum_walkAnyS (wpAny_pyIter_tuple (show s.heap.IsTuple p its.toArray from pl) ?_);sleep 16
   · exact IsTup.keeps pl fun b o e=>Heap.get?_push_of_some _ e
   · intro b hb;rw [Heap.size_push];sleep 6
     · exact zF6 _
     · sleep 6
       · exact zH3 hlt
       · cases hb
   · sleep 20;refine ⟨.int _,H,I1,⟨t',rfl⟩,?_⟩;rw [zA8,← rv.length,zA0,ce];exact q
 · exact h.elim
def rIxK (K:PySem.W.Frag):R2:=fun x y H Q=>match x,y with
 | .ref p,.int i=>∃ xs,SqT K H p xs/\∃ v,atI xs i=some v/\Q v H
 | _,_=>False
theorem ix_K:IxR X (rIxK X.K):=by
 intro value slice pins s σ H x y v u Q I rx ry h hs;unfold rIxK at h;split at h
 · obtain ⟨xs,h1,w,e,q⟩:=h;exact tx value slice pins s σ H _ _ v u Q I rx ry ⟨_,xs,_,w,rfl,rfl,h1,e,q⟩ hs
 · exact h.elim
variable {e:Expr} {es:List Expr} {t:TA} {p pos:Pos}
theorem qR (hc:X.calm=true) (hg:Gl X "sum") (hm:X.mg "sum" = none) (ha:PA X (e::es) t) (he:.(1)) (hpl:.(2)) :
 PE X (.Call (.Name "sum" p) (e::es) [] pos) (tCB (qx X.K) t):=bp (oS hc) hg hm iH ha (by decide) (by decide) he hpl
theorem pR (hc:X.calm=true) (hg:Gl X "sum") (hm:X.mg "sum" = none) (ha:ZA X (e::es) t) (he:.(1)) (hpl:.(2)) :
 ZE X (.Call (.Name "sum" p) (e::es) [] pos) (tCB (qx X.K) t):=by with_unfolding_all exact qR hc hg hm ha he hpl
theorem qV (hg:Gl X "len") (hm:X.mg "len" = none) (ha:PA X (e::es) t) (he:.(1)) (hpl:.(2)) :
 PE X .(38) (tCB (qF X.K) t):=bp o8 hg hm PySem.boot_len ha (by decide) (by decide) he hpl
theorem js (hg:Gl X "len") (hm:X.mg "len" = none) (ha:ZA X (e::es) t) (he:.(1)) (hpl:.(2)) :
 ZE X .(38) (tCB (qF X.K) t):=by with_unfolding_all exact qV hg hm ha he hpl
def qz:List V->Hp->VK->Prop:=fun vs H1 Q=>match vs with
 | [.int j]=>∀ p,H1 p=none->Q (.ref p) (upd H1 p (qt p 0 j 1))
 | _=>False
theorem oU:CallR X (.type "range") qz:=by
 sleep 5;unfold qz at h;split at h
 · obtain ⟨u1,rfl,t1,rfl⟩:=cv r;exact call_range_1 ⟨.ref s.heap.objs.size,_,gm I,rfl,h _ .(69)⟩
 · exact h.elim
theorem kQ (hg:Gl X "range") (hm:X.mg "range" = none) (ha:PA X (e::es) t) (he:.(1)) (hpl:.(2)) :
 PE X (.Call (.Name "range" p) (e::es) [] pos) (tCB qz t):=bH oU hg hm boot_range ha (by decide) (by decide) he hpl
theorem kB (hg:Gl X "range") (hm:X.mg "range" = none) (ha:ZA X (e::es) t) (he:.(1)) (hpl:.(2)) :
 ZE X (.Call (.Name "range" p) (e::es) [] pos) (tCB qz t):=by with_unfolding_all exact kQ hg hm ha he hpl
end
section
variable {X:Cx}
theorem pQ {pos:Pos}:ZS X (.Break pos) sL:=by with_unfolding_all exact qL
variable {e:Expr} {es:List Expr} {t:TA} {p pos:Pos}
end
end L2
namespace MRow
def vd:Nat->(Nat->Int)->Nat->Nat->Int
 | 0,f,_,n=>f n
 | k+1,f,s,n=>f n+(if s<=n then vd k f s (n - s) else 0)
def put (f:Nat->Int) (s n:Nat):Int:=vd n f s n
theorem db {f:Nat->Int} {s:Nat} (hs:0<s):∀ (k n:Nat),n<=k->vd k f s n=vd n f s n
 | 0,n,h=>by have:n=0:=(by lia); subst this;rfl
 | k+1,0,_=>by
   show f 0+(if s<=0 then _ else 0)=f 0;rw [if_neg (by lia)];lia
 | k+1,n+1,h=>by
   show f (n+1)+(if s<=n+1 then vd k f s (n+1 - s) else 0)=f (n+1)+(if s<=n+1 then vd n f s (n+1 - s) else 0)
   by_cases hn:s<=n+1
   · rw [if_pos hn,if_pos hn,db hs k _ (by lia),db hs n _ (by lia)]
   · rw [if_neg hn,if_neg hn]
theorem put_eq (f:Nat->Int) {s:Nat} (hs:0<s) (n:Nat):put f s n=f n+(if s<=n then put f s (n - s) else 0):=by
 unfold put;rw [← db hs (n+1) n (by lia)];show f n+(if s<=n then vd n f s (n - s) else 0)=_;by_cases hn:s<=n
 · rw [if_pos hn,if_pos hn,db hs n _ (by lia)]
 · rw [if_neg hn,if_neg hn]
def dl:Nat->Int:=fun n=>if n=0 then 1 else 0
def R:Nat->Nat->Int
 | 0=>dl
 | s+1=>put (R s) (s+1)
def tb (f:Nat->Int) (L:Nat):List Int:=(List.range L).map f
theorem bQ (f:Nat->Int) (L:Nat):(tb f L).length=L:=by simp [tb]
theorem cW {f:Nat->Int} {L j:Nat} (h:j<(tb f L).length):(tb f L)[j]=f j:=by simp [tb]
theorem tb_get {f:Nat->Int} {L j:Nat} (h:j<L):(tb f L)[j]? = some (f j):=by
 rw [List.getElem?_eq_getElem (by rw [bQ];exact h),cW]
theorem uu (f:Nat->Int) (L:Nat):tb f (L+1)=tb f L++[f L]:=by simp [tb,zB2]
theorem gN {f g:Nat->Int} {L:Nat} (h:∀ j,j<L->f j=g j):tb f L=tb g L:=by
 unfold tb;exact zA4 fun j hj=>h j (zA6.mp hj)
theorem tb_dl (n:Nat):tb dl (n+1)=1::List.replicate n 0:=by
 refine zD2 (by simp [tb]) fun i h1 h2=>?_;rw [cW]
 cases i with
 | zero=>rfl
 | succ i=>simp [dl]
def up (f g:Nat->Int) (k:Nat):Nat->Int:=fun j=>if j<k then g j else f j
theorem tb_set {f g:Nat->Int} {L k:Nat} (h:k<L):(tb (up f g k) L).set k (g k)=tb (up f g (k+1)) L:=by
 refine zD2 (by rw [List.length_set,bQ,bQ]) fun i h1 h2=>?_;rw [List.getElem_set,cW h2];unfold up;by_cases hk:k=i
 · subst hk;simp
 · rw [if_neg hk,cW];by_cases hi:i<k
   · rw [if_pos hi,if_pos (by lia)]
   · rw [if_neg hi,if_neg (by lia)]
theorem i5 (f:Nat->Int) {s n:Nat} (hs:0<s) (h:n<s):put f s n=f n:=by rw [put_eq f hs,if_neg (by lia)];lia
theorem pZ (f:Nat->Int) {s:Nat} (hs:0<s) (L:Nat):tb (up f (put f s) s) L=tb f L:=gN fun j _=>by
 unfold up;by_cases h:j<s
 · rw [if_pos h,i5 f hs h]
 · rw [if_neg h]
theorem up_all (f g:Nat->Int) {k L:Nat} (h:L<=k):tb (up f g k) L=tb g L:=gN fun j hj=>by
 unfold up;rw [if_pos (by lia)]
end MRow
set_option exponentiation.threshold 3000
namespace M27
open PySem L2 MRow
def Bad (ns:List Int) (m a q:Int) (j:Nat):Prop:=∃ x,ns[j]? = some x/\(j:Int) % m=a/\x % q≠0
def IsF (ns:List Int) (m a q:Int) (v:V):Prop:=(v=.non/\∀ j,¬ Bad ns m a q j)\/∃ p:Nat,p<ns.length/\v=.int p/\Bad ns m a q p/\∀ j,j<p->¬ Bad ns m a q j
def CB (m a q:Int):Prop:=1<=m/\m<=600/\0<=a/\a<m/\2<=q/\q<=1000000
theorem size_up {a b m:Int} (hm:1<=m):Builtin.Range.rangeSize a b m=if a<b then (b - a - 1) / m+1 else 0:=by
 unfold Builtin.Range.rangeSize;rw [if_pos (by lia)]
theorem uN {a b m:Int} {i:Nat} (hm:1<=m) (h:i<(Builtin.Range.rangeSize a b m).toNat):a+(i:Int)*m<b:=by
 rw [size_up hm] at h;by_cases hab:a<b
 · rw [if_pos hab] at h;have h0:0<=(b - a - 1) / m:=Int.ediv_nonneg (by lia) (by lia);have h1:(i:Int)<=(b - a - 1) / m:=by lia
   have h2:(i:Int)*m<=(b - a - 1) / m*m:=zI0 h1 (by lia);have h3:=Int.ediv_mul_le (b - a - 1) (b:=m) (by lia);lia
 · rw [if_neg hab] at h;simp at h
theorem qj {a b m:Int} (hm:1<=m) {j:Int} (h:j<b):j<a+((Builtin.Range.rangeSize a b m).toNat:Int)*m:=by
 rw [size_up hm];by_cases hab:a<b
 · rw [if_pos hab];have h0:0<=(b - a - 1) / m:=Int.ediv_nonneg (by lia) (by lia);have e:(((b - a - 1) / m+1).toNat:Int)=(b - a - 1) / m+1:=by lia
   rw [e];have:=Int.lt_ediv_add_one_mul_self (b - a - 1) (b:=m) (by lia);lia
 · rw [if_neg hab];simp;lia
theorem small_up {a b m:Int} (hm:1<=m) (hm':m<=1000000) (ha:0<=a) (ha':a<=1000000) (hb:0<=b) (hb':b<=1000000):Builtin.Range.small a b m=true:=by
 have e:=size_up (a:=a) (b:=b) hm;unfold Builtin.Range.small;rw [e];by_cases hab:a<b
 · rw [if_pos hab];have h0:0<=(b - a - 1) / m:=Int.ediv_nonneg (by lia) (by lia);have h1:(b - a - 1) / m<=b - a - 1:=Int.ediv_le_self _ (by lia);simp only [Builtin.Range.rangeFitsLong,zC8,Bool.or_eq_true,decide_eq_true_eq,beq_iff_eq,show m > 0 by lia,if_true];generalize (b - a - 1) / m=k at h0 h1;lia
 · rw [if_neg hab];simp only [Builtin.Range.rangeFitsLong,zC8,Bool.or_eq_true,decide_eq_true_eq,beq_iff_eq,show m > 0 by lia,if_true];lia
theorem vN {ns:List Int} {m a q:Int} (hm:1<=m) {i P:Nat} (hP:(P:Int)=a+(i:Int)*m) (h:∀ j:Nat,(j:Int)<a+(i:Int)*m->¬ Bad ns m a q j) (hb:¬ Bad ns m a q P) :
 ∀ j:Nat,(j:Int)<a+((i+1:Nat):Int)*m->¬ Bad ns m a q j:=by
 intro j hj hB;by_cases hl:(j:Int)<a+(i:Int)*m
 · exact h j hl hB
 · have hc:(j:Int) % m=a:=by obtain ⟨_,_,e,_⟩:=hB;exact e
   have e:=Int.mul_ediv_add_emod (j:Int) m;rw [hc] at e;have h1:m*(i:Int)<=m*((j:Int) / m):=by rw [zL4 m (i:Int)];lia
   have h2:m*((j:Int) / m)<m*((i:Int)+1):=by
    rw [zL4 m ((i:Int)+1)];have:(((i+1:Nat):Int))=(i:Int)+1:=by lia
    rw [this] at hj;lia
   have h3:=Int.le_of_mul_le_mul_left h1 (by lia);have h4:=Int.lt_of_mul_lt_mul_left h2 (by lia);have h5:(j:Int) / m=i:=by lia
   rw [h5,zL4] at e;have:j=P:=by lia
   subst this;exact hb hB
theorem oO {m a:Int} (h0:0<=a) (h1:a<m) (i:Int):(a+i*m) % m=a:=by
 rw [Int.add_mul_emod_self_right];exact zJ4 h0 h1
end M27
namespace K79
open PySem L2 MRow M27
theorem cc (n:Nat) (x:Int):(List.replicate n [V.int x]).flatten=(List.replicate n x).map V.int:=by
 induction n with
 | zero=>rfl
 | succ n ih=>rw [zG9,zD8,ih,zG9,zB6];rfl
theorem cm {n:Nat} (h:n<=1000):n<=sizeLine:=Nat.le_of_lt (ao h)
section
variable {P:Program} {w:World} {K:PySem.W.Frag} {mg:Str->Option Value} {base:Heap} {f:Addr} {fd:FuncData}
theorem sc_begun:FnScope ["most"] ["most"] (ag (top 34)):=.(0)
def gf:Sp:=fun vs H Q _=>∃ n:Nat,vs=[.int n]/\n<=1000/\∀ p H',H p=none->Same H H'->H' p=some (.lst ((tb dl (n+1)).map V.int))->Q (.ref p) H'
theorem bY {H H':Hp} {p:Addr} (y:Same H H') (h:H' p=none):H p=none:=by
 cases e:H p with
 | none=>rfl
 | some o=>
   have:=y _ _ e
   rw [h] at this
   cases this
theorem q0 (F:Fun K "begun" "begun" (top 34) f fd)  : FnOk P w K mg base CX0 1 f fd ["most"] gf:=by
 refine F.ok sc_begun .(16) .(3)
 · obtain ⟨n,rfl,_⟩:=h;rfl
 obtain ⟨n,rfl,hn,q⟩:=h;have nd:=sc_begun.nd;refine ⟨_,(aT (bD (aY aG (jN (aA av aZ)) (aY aI (jN (aA av aZ)) (pn 0))))),?_⟩;sleep 9;have g1:=Same.new hd (.lst [.int 1]);refine ⟨by show 1<=sizeLine;decide,fun d2 hd2=>?_⟩;have g2:=Same.new hd2 (.lst [.int 0]);refine ⟨.(40),.inl ⟨_,ae,cm (by show 1*(n:Int).toNat<=1000;lia),fun d3 hd3=>?_⟩⟩;have g3:=Same.new hd3 (.lst (List.replicate (n:Int).toNat [V.int 0]).flatten);refine .inl ⟨_,_,g3 _ _ (g2 _ _ ae),ae,?_,fun d4 hd4=>?_⟩
 · rw [gx,sizeLine_eq];show 1+_*1<=_;lia
 · refine q d4 _ (bY ((g1.trans g2).trans g3) hd4) (((g1.trans g2).trans g3).trans (Same.new hd4 _)) ?_;rw [ae,cc,tb_dl];rfl
theorem sc_put_on:FnScope ["row","size","told","n"] ["row","size"] (ag (top 35)):=.(0)
def eM:Sp:=fun vs H Q _=>∃ (a:Addr) (s L:Nat) (g:Nat->Int),vs=[.ref a,.int s]/\0<s/\s<=1000000/\L<=1000/\H a=some (.lst ((tb g L).map V.int))/\∀ p H',H p=none->Same H H'->H' p=some (.lst ((tb (put g s) L).map V.int))->Q (.ref p) H'
theorem nM (F:Fun K "put_on" "put_on" (top 35) f fd) (m_len:.(79)) (m_list:mg "list" = none) (m_range:.(81)):FnOk P w K mg base CX0 1 f fd ["row","size"] eM:=by
 refine F.ok sc_put_on .(16) .(3)
 · obtain ⟨a,z,L,g,rfl,_⟩:=h;rfl
 obtain ⟨a,z,L,g,rfl,hz,hz2,hL,ha,q⟩:=h;have nd:=sc_put_on.nd;refine ⟨_,(aC (dc (i:=2) nd rfl .(12) (jP rfl m_list (aA (pn 0) aZ) rfl rfl))
  (aC (jK PassesOwn.never rfl (ie rfl m_range (aA (pn 1) (aA .(65) aZ))) (cy (i:=3) nd rfl .(12)) (aT (nk (pn 2) (pn 3) gA (cP dz (pn 2) (aY ba (pn 3) (pn 1)) .(33)) gz eP)))
  (aT (bD (pn 2))))),?_⟩
 refine ⟨_,.inl (SqL.of ha),fun p hp=>?_⟩;have y0:=Same.new hp (.lst ((tb g L).map V.int));refine ⟨_,.inl (SqL.of (y0 _ _ ha)),?_⟩;rw [zA0,bQ];refine ⟨(z:Int),(L:Int),rfl,⟨by lia,by lia,by lia,by lia⟩,?_⟩;refine bI (fun i σ H'=>Same H H'/\H' p=some (.lst ((tb (up g (put g z) (z+i)) L).map V.int))/\∃ pp,σ=[some (.ref a),some (.int z),some (.ref p),pp]) ⟨y0,by rw [zI4,pZ g hz];exact ae,none,rfl⟩ ?_ ?_
 · rintro i σ H' hi ⟨y,hp',pp,rfl⟩;have hn:z+i<L:=by lia
   have hget:∀ j,j<L->((tb (up g (put g z) (z+i)) L).map V.int)[j]? = some (.int (up g (put g z) (z+i) j)):=fun j hj=>by rw [List.getElem?_map,tb_get hj];rfl
   have e1:((z:Int)+(i:Int)).toNat=z+i:=by lia
   refine ⟨_,_,SqL.of hp',by lia,by rw [e1];exact hget _ hn,?_⟩;refine ⟨_,.inl (SqL.of hp'),.int (up g (put g z) (z+i) i),bx (j:=i) (by lia) (hget i (by lia)),?_⟩;refine ⟨_,hp',by lia,by rw [e1,zA0,bQ];exact hn,Same.updN y hp,?_,_,rfl⟩;rw [ae,e1];have e2:up g (put g z) (z+i) (z+i)+up g (put g z) (z+i) i=put g z (z+i):=by
    unfold up;rw [if_neg (zG7 _),if_pos (by lia),put_eq g hz (z+i),if_pos (by lia),Nat.add_sub_cancel_left]
   dsimp only;rw [e2,← List.map_set,tb_set hn];rfl
 · rintro σ H' ⟨y,hp',pp,rfl⟩;refine q p H' hp y ?_;rw [hp',up_all _ _ (by lia)]
end
section
variable {P:Program} {w:World} {K:PySem.W.Frag} {mg:Str->Option Value} {base:Heap} {f:Addr} {fd:FuncData}
theorem sc_of_sizes:FnScope ["some","most","row","size"] ["some","most"] (ag (top 38)):=.(0)
def wP (n:Nat):List V:=((List.range n).map fun (k:Nat)=>(1:Int)+(k:Int)*1).map V.int
def cM:Sp:=fun vs H Q _=>∃ (l:Addr) (n:Nat),vs=[.ref l,.int n]/\n<=600/\H l=some (.lst (wP n))/\∀ p H',Same H H'->H' p=some (.lst ((tb (R n) (n+1)).map V.int))->Q (.ref p) H'
theorem i8 (F:Fun K "of_sizes" "of_sizes" (top 38) f fd)  (F_begun:FnA P w K mg base "begun" 1 ["most"] gf) (F_put_on:FnA P w K mg base "put_on" 1 ["row","size"] eM):FnOk P w K mg base CX0 2 f fd ["some","most"] cM:=by
 refine F.ok sc_of_sizes .(16) .(3)
 · obtain ⟨l,n,rfl,_⟩:=h;rfl
 obtain ⟨l,n,rfl,hn,hl,q⟩:=h;have nd:=sc_of_sizes.nd;have hul:(wP n).length=n:=by unfold wP;simp
 refine ⟨_,(aC (dc (i:=2) nd rfl .(12) (nB F_begun hr (by decide) rfl (aA (pn 1) aZ)))
  (aC (jK PassesOwn.never rfl (nz (pn 0)) (cy (i:=3) nd rfl .(12)) (aT (dc (i:=2) nd rfl .(12) (nB F_put_on hr (by decide) rfl (aA (pn 2) (aA (pn 3) aZ))))))
  (aT (bD (pn 2))))),?_⟩
 refine ⟨n,rfl,by lia,fun p H1 hp y1 hp1=>?_⟩;refine ⟨l,rfl,⟨_,SqL.of (y1 _ _ hl)⟩,cG (xs:=wP n) (fun i σ H'=>Same H H'/\∃ r p3,σ=[some (.ref l),some (.int n),some (.ref r),p3]/\H' r=some (.lst ((tb (R i) (n+1)).map V.int))) ⟨y1,p,_,rfl,hp1⟩ ?_ ?_ ?_⟩
 · rintro i σ H' _ ⟨y,_⟩;exact SqL.of (y _ _ hl)
 · rintro i x σ H' hx ⟨y,r,p3,rfl,hr'⟩;have hi:i<n:=by rw [← hul];exact (List.getElem?_eq_some_iff.mp hx).1
   have ex:x=.int ((i+1:Nat):Int):=by
    unfold wP at hx;rw [List.getElem?_map,List.getElem?_map,List.getElem?_range hi] at hx;have:=.(25).symm;rw [this];show V.int (1+(i:Int)*1)=V.int ((i+1:Nat):Int);congr 1;lia
   subst ex;refine ⟨r,i+1,n+1,R i,rfl,by lia,by lia,by lia,hr',fun p2 H2 hp2 y2 hp2'=>?_⟩;exact ⟨y.trans y2,p2,_,rfl,hp2'⟩
 · rintro σ H' ⟨y,r,p3,rfl,hr'⟩;rw [hul] at hr';exact q r H' y hr'
theorem sc_counted:FnScope ["kind","most","word"] ["kind","most"] (ag (top 42)):=.(0)
def dE:Sp:=fun vs H Q _=>∃ (k:Addr) (n:Nat),vs=[.ref k,.int n]/\n<=600/\H k=some (.tup [.str "all"])/\∀ p H',Same H H'->H' p=some (.lst ((tb (R n) (n+1)).map V.int))->Q (.ref p) H'
theorem kU (F:Fun K "counted" "counted" (top 42) f fd) (m_list:mg "list" = none) (m_min:mg "min" = none) (m_range:.(81)) (F_of_sizes:FnA P w K mg base "of_sizes" 2 ["some","most"] cM):FnOk P w K mg base CX0 3 f fd ["kind","most"] dE:=by
 refine F.ok sc_counted .(16) .(3)
 · obtain ⟨k,n,rfl,_⟩:=h;rfl
 obtain ⟨k,n,rfl,hn,hk,q⟩:=h;have nd:=sc_counted.nd;have hu:=hr.units;refine ⟨_,(aC (dc (i:=2) nd rfl .(12) .(30))
  (aC .(78)
  (aC .(78)
  (aC .(78)
  (aC .(78)
  (aC .(78)
  (aC (dS (bm (bo hu) (pn 2) eX (aJ _)) (aT (bD (nB F_of_sizes hr (by decide) rfl (aA (fO rfl rfl m_list (aA (nG rfl m_range (aA av (aA (aY aG (pn 1) av) aZ)) rfl rfl) aZ) rfl rfl) (aA (pn 1) aZ))))) bC)
  bU))))))),?_⟩
 refine ⟨_,.inr hk,.str "all",rfl,?_⟩;refine fun rp hrp=>?_;have g1:=Same.new hrp (qt rp 1 ((n:Int)+1) 1);have es:Builtin.Range.rangeSize 1 ((n:Int)+1) 1=(n:Int):=by
  rw [size_up (by decide)];by_cases h:(1:Int)<(n:Int)+1
  · rw [if_pos h,Int.ediv_one];lia
  · rw [if_neg h];lia
 have es2:(Builtin.Range.rangeSize 1 ((n:Int)+1) 1).toNat=n:=by rw [es];lia
 refine ⟨1,(n:Int)+1,1,ae,small_up (by decide) (by decide) (by decide) (by decide) (by lia) (by lia),by decide,by rw [es2];lia,fun l hl=>?_⟩;rw [es2];have g2:=Same.new hl (.lst (wP n));exact ⟨l,n,rfl,hn,ae,fun p H' y hp=>q p H' ((g1.trans g2).trans y) hp⟩
theorem sc_counts:FnScope ["kind","most"] ["kind","most"] (ag (top 43)):=.(0)
def cZ:Sp:=fun vs H Q _=>∃ (k:Addr) (n:Nat),vs=[.ref k,.int n]/\n<=600/\H k=some (.tup [.str "all"])/\∀ p H',Same H H'->H' p=some (.tup ((tb (R n) (n+1)).map V.int))->Q (.ref p) H'
theorem nN (F:Fun K "counts" "counts" (top 43) f fd) (m_tuple:.(99)) (F_counted:FnA P w K mg base "counted" 3 ["kind","most"] dE):FnOk P w K mg base CX0 4 f fd ["kind","most"] cZ:=by
 refine F.ok sc_counts .(16) .(3)
 · obtain ⟨k,n,rfl,_⟩:=h;rfl
 obtain ⟨k,n,rfl,hn,hk,q⟩:=h;have nd:=sc_counts.nd;refine ⟨_,(aT (bD (ig rfl m_tuple (aA (nB F_counted hr (by decide) rfl (aA (pn 0) (aA (pn 1) aZ))) aZ) rfl rfl))),?_⟩;refine ⟨k,n,rfl,hn,hk,fun p H1 y1 hp1=>?_⟩;exact ⟨_,.inl (SqL.of hp1),fun r2 H2 y2 hr2=>q r2 H2 (y1.trans y2) hr2⟩
end
def hd0 (as:List Int):Int:=as.headD 0
def rk (as:List Int):Int:=hd0 as - as.length
def gr (as:List Int) (o:Int):List Int:=as.filter fun n=>decide (o<n)
def mk (as:List Int):Int:=if as.count 1=0 then hd0 as else (gr as (as.count 1)).length - as.count 1
theorem iC {as:List Int} {i:Nat} (hi:i<as.length) (p:Int->Bool):(as.take (i+1)).filter p=(as.take i).filter p++if p as[i]=true then [as[i]] else []:=by
 rw [zD3,List.getElem?_eq_getElem hi,zG4];congr 1;show List.filter p [as[i]]=_;rw [List.filter_cons];split <;> rfl
section
variable {P:Program} {w:World} {K:PySem.W.Frag} {mg:Str->Option Value} {base:Heap} {f:Addr} {fd:FuncData}
theorem sc_rank:FnScope ["parting"] ["parting"] (ag (top 50)):=.(0)
def iW:Sp:=fun vs H Q _=>∃ (a:Addr) (as:List Int),vs=[.ref a]/\H a=some (.tup (as.map V.int))/\Q (.int (rk as)) H
theorem vH (F:Fun K "rank" "rank" (top 50) f fd) (m_len:.(79)):FnOk P w K mg base CX0 1 f fd ["parting"] iW:=by
 refine F.ok sc_rank .(16) .(3)
 · obtain ⟨a,as,rfl,_⟩:=h;rfl
 obtain ⟨a,as,rfl,ha,q⟩:=h;have nd:=sc_rank.nd;have hu:=hr.units;refine ⟨_,(aC (dS (bm (bo hu) .(65) av (aJ _)) (aT (bD av)) bC)
  (aT (bD (aY ba .(30) .(65))))),?_⟩
 refine ⟨_,.inr ha,?_⟩;refine jf (fun c=>?_) (fun c=>?_)
 · have:as=[]:=by
    have:=V.int.inj c;rw [zA0] at this;exact zL2.mp (by lia)
   subst this;exact q
 · cases as with
   | nil=>exact absurd rfl c
   | cons x r=>
     refine ⟨_,.inr ha,.int x,bx (j:=0) rfl rfl,?_⟩
     refine ⟨_,.inr ha,?_⟩
     rw [zA0]
     exact q
theorem sc_mark:FnScope ["parting","ones"] ["parting"] (ag (top 51)):=.(0)
def iX:Sp:=fun vs H Q _=>∃ (a:Addr) (as:List Int),vs=[.ref a]/\H a=some (.tup (as.map V.int))/\as.length<=1000/\∀ H',Same H H'->Q (.int (mk as)) H'
theorem vI (F:Fun K "mark" "mark" (top 51) f fd) (m_len:.(79)):FnOk P w K mg base CX0 1 f fd ["parting"] iX:=by
 refine F.ok sc_mark .(16) .(3)
 · obtain ⟨a,as,rfl,_⟩:=h;rfl
 obtain ⟨a,as,rfl,ha,hl,q⟩:=h;have nd:=sc_mark.nd;have hu:=hr.units;refine ⟨_,(aC (dS (bm (bo hu) .(65) av (aJ _)) (aT (bD av)) bC)
  (aC (dc (i:=1) nd rfl (Or.inr rfl) (qM (pn 0) (aA av aZ)))
  (aC (dS (bm (bo hu) (pn 1) av (aJ _)) (aT (bD .(30))) bC)
  (aT (bD (aY ba (cf rfl m_len (aA (nC ["part"] [("ones",1)] rfl .(4) (sX (pn 0)) aQ (fun _ _ _ _=>cy (i:=0) (show List.Nodup (["part","ones"]:List Str) by decide +kernel) rfl .(12)) (fun _ _ _ _=>(nt (bm ii (pn 0) (pn 1) (aJ _)))) (fun _ _ _ _=>(pn 0))) aZ) rfl rfl) (pn 1))))))),?_⟩
 refine ⟨_,.inr ha,?_⟩;refine jf (fun c=>?_) (fun c=>?_)
 · have:as=[]:=by
    have:=V.int.inj c;rw [zA0] at this;exact zL2.mp (by lia)
   subst this;exact q H (Same.refl H)
 · refine ⟨tyT ha,as,ha,?_⟩;refine jf (fun c1=>?_) (fun c1=>?_)
   · have c2:as.count 1=0:=by have:=V.int.inj c1;lia
     cases as with
     | nil=>exact absurd rfl c
     | cons x r=>
       refine ⟨_,.inr ha,.int x,bx (j:=0) rfl rfl,?_⟩
       have:=q H (Same.refl H)
       unfold mk at this
       rw [if_pos c2] at this
       exact this
   · have c2:¬ as.count 1=0:=fun e=>c1 (by rw [e];rfl);refine ⟨a,rfl,⟨_,SqT.of ha⟩,cR (xs:=as.map V.int) (fun i ys H'=>H'=H/\ys=((as.take i).filter fun n=>decide ((as.count 1:Int)<n)).map V.int) ⟨rfl,by rw [zK5];rfl⟩ ?_ ?_ ?_⟩
     · rintro i ys H' _ ⟨rfl,_⟩;exact SqT.of ha
     · rintro i x ys H' hx ⟨rfl,rfl⟩;have hi:i<as.length:=by
        sleep 0;rw [zA0] at this;exact this
       have ex:x=.int as[i]:=by rw [fP hi] at hx;exact .(25).symm
       subst ex;have hlf:=List.length_filter_le (fun n=>decide ((as.count 1:Int)<n)) (as.take i);rw [zB9] at hlf;refine ⟨by rw [zA0];exact ao (by lia),?_⟩;refine jf (fun c3=>?_) (fun c3=>?_)
       · refine ⟨rfl,?_⟩;rw [iC hi,if_pos (decide_eq_true c3),zA3];rfl
       · refine ⟨rfl,?_⟩;rw [iC hi,if_neg (by simpa using c3),zD6]
     · rintro ys H' ⟨rfl,rfl⟩ D hD;refine ⟨_,.inl (SqL.of ae),?_⟩;rw [zA0,zA0,zB8 (zA1 _)];have e:(((gr as (as.count 1)).length:Int) - as.count 1)=mk as:=by unfold mk;rw [if_neg c2]
       show Q (.int (((gr as (as.count 1)).length:Int) - as.count 1)) _;rw [e];exact q _ (Same.new hD _)
end
end K79
namespace M34
open MRow
def PC:List (List Int):=[[1,1,2,3,5,7,11,15,22,30],[42,56,77,101,135,176,231,297,385,490],[627,792,1002,1255,1575,1958,2436,3010,3718,4565],[5604,6842,8349,10143,12310,14883,17977,21637,26015,31185],[37338,44583,53174,63261,75175,89134,105558,124754,147273,173525],[204226,239943,281589,329931,386155,451276,526823,614154,715220,831820],[966467,1121505,1300156,1505499,1741630,2012558,2323520,2679689,3087735,3554345],[4087968,4697205,5392783,6185689,7089500,8118264,9289091,10619863,12132164,13848650],[15796476,18004327,20506255,23338469,26543660,30167357,34262962,38887673,44108109,49995925],[56634173,64112359,72533807,82010177,92669720,104651419,118114304,133230930,150198136,169229875],[190569292]]
def p (j:Nat):Int:=(PC.getD (j / 10) []).getD (j % 10) 0
def eK (s:Nat):List Int->List Int->List Int
 | [],acc=>acc.reverse
 | x::r,acc=>eK s r ((x+acc.getD (s - 1) 0)::acc)
theorem sV (f:Nat->Int) {s:Nat} (hs:0<s):∀ (k i:Nat),eK s ((List.range' i k).map f) (tb (put f s) i).reverse=tb (put f s) (i+k)
 | 0,i=>by simp [eK]
 | k+1,i=>by
   rw [List.range'_succ,zB6];show eK s ((List.range' (i+1) k).map f) ((f i+(tb (put f s) i).reverse.getD (s - 1) 0)::(tb (put f s) i).reverse)=_;have e:f i+(tb (put f s) i).reverse.getD (s - 1) 0=put f s i:=by
    rw [put_eq f hs i];congr 1;by_cases h:s<=i
    · have hl:s - 1<(tb (put f s) i).reverse.length:=by rw [zJ9,bQ];lia
      rw [if_pos h,zA2,List.getElem?_eq_getElem hl,List.getElem_reverse,cW,Option.getD_some];congr 1;rw [bQ];lia
    · rw [if_neg h,zA2,List.getElem?_eq_none (by rw [zJ9,bQ];lia)];rfl
   rw [e,← List.singleton_append,← List.reverse_singleton,← zL3,← uu,sV f hs k (i+1)];congr 1;lia
def rows (L:Nat):Nat->List Int
 | 0=>tb dl L
 | s+1=>eK (s+1) (rows L s) []
theorem mP (L:Nat):∀ s,rows L s=tb (R s) L
 | 0=>rfl
 | s+1=>by
   have:=sV (R s) (s:=s+1) (Nat.succ_pos _) L 0;rw [zH9] at this;show eK (s+1) (rows L s) []=tb (put (R s) (s+1)) L;rw [mP L s,← this];show eK (s+1) ((List.range L).map (R s)) []=_;rw [List.range_eq_range'];rfl
theorem qp:rows 101 100=(List.range 101).map p:=by decide +kernel
theorem tY:∀ (d n j:Nat),j<=n->R (n+d) j=R n j
 | 0,n,j,_=>rfl
 | d+1,n,j,h=>by
   show put (R (n+d)) (n+d+1) j=R n j;rw [i5 _ (Nat.succ_pos _) (by lia)];exact tY d n j h
theorem R_p {n j:Nat} (h:j<=n) (hn:n<=100):R n j=p j:=by
 have h1:=tY (100 - n) n j h;rw [show n+(100 - n)=100 by lia] at h1;have h2:=qp;rw [mP] at h2;have h3:=congrArg (fun l=>l[j]?) h2;simp only [tb_get (show j<101 by lia),List.getElem?_map,List.getElem?_range (show j<101 by lia),Option.map_some] at h3;rw [← h1];exact Option.some.inj h3
theorem p_lim:∀ j,j<101->0<p j/\p j<200000000:=by decide +kernel
def near (b v k:Nat):Nat:=k*(b*k - 1) / 2+k*v
def sg (k:Nat):Int:=if k % 2=1 then 1 else -1
def term (b n v k:Nat):Int:=if near b v k<=n then sg k*p (n - near b v k) - (if near b v k+k<=n then sg k*p (n - (near b v k+k)) else 0) else 0
def ms (b n v:Nat):Nat->Int
 | 0=>0
 | m+1=>ms b n v m+term b n v (m+1)
theorem nQ {b v j k:Nat} (h:j<=k):near b v j<=near b v k:=by
 unfold near;have h1:j*(b*j - 1)<=k*(b*k - 1):=Nat.mul_le_mul h (by have:=Nat.mul_le_mul_left b h;lia);have h2:=Nat.mul_le_mul_right v h;have h3:j*(b*j - 1) / 2<=k*(b*k - 1) / 2:=zK7 h1;lia
theorem jd {b n v k:Nat} (h:n<near b v (k+1)):∀ d,ms b n v (k+d)=ms b n v k
 | 0=>rfl
 | d+1=>by
   show ms b n v (k+d)+term b n v (k+d+1)=_;rw [jd h d];have:=nQ (b:=b) (v:=v) (show k+1<=k+d+1 by lia);unfold term;rw [if_neg (by lia)];lia
theorem jV {b v n:Nat} (hb:1<=b) (hn:n<=100):n<near b v (n+2)/\n<near b v 15:=by
 have h1:near 1 0 (n+2)<=near b v (n+2):=by
  unfold near;have e:(n+2)*(1*(n+2) - 1)<=(n+2)*(b*(n+2) - 1):=Nat.mul_le_mul_left _ (by have:=Nat.mul_le_mul_right (n+2) hb;lia);have:=zK7 (c:=2) e;lia
 have h2:near 1 0 15<=near b v 15:=by
  unfold near;lia
 have h3:∀ m,m<101->m<near 1 0 (m+2)/\m<near 1 0 15:=by decide +kernel
 have:=h3 n (by lia);lia
def tot (b n v:Nat):Int:=ms b n v 14
theorem sI {b n v k:Nat} (hb:1<=b) (hn:n<=100) (h:n<near b v (k+1)):ms b n v k=tot b n v:=by
 have h2:=(jV (v:=v) hb hn).2;unfold tot;by_cases hk:k<=14
 · have:=jd h (14 - k);rw [show k+(14 - k)=14 by lia] at this;exact this.symm
 · have:=jd (k:=14) h2 (k - 14);rw [show 14+(k - 14)=k by lia] at this;exact this
theorem uq {b n v:Nat} (hb:1<=b) (hn:n<=100):ms b n v (n+1)=tot b n v:=sI hb hn (jV hb hn).1
end M34
namespace K79
open PySem L2 MRow M34
def Wh (w:Str):Prop:=w="rank"\/w="mark"
def wb (w:Str):Nat:=if w="rank" then 3 else 1
theorem wb_ok {w:Str} (h:Wh w):wb w=1\/wb w=3:=by
 rcases h with rfl | rfl
 · exact .inr rfl
 · exact .inl rfl
theorem fh {a b:Int} (h1:-1000000000<=a) (h2:a<=1000000000):IntMulOk a b:=nR (by lia) (by lia)
theorem re {b v k:Nat} (hb:1<=b) (hk:1<=k):((k:Int)*((b:Int)*(k:Int) - 1)) / 2+(k:Int)*(v:Int)=((near b v k:Nat):Int):=by
 unfold near;have h1:1<=b*k:=Nat.mul_pos hb hk;rw [zK0,Int.natCast_ediv,zI5,zI5,Int.natCast_sub h1,zI5];rfl
theorem wI (v:Int):(if v<0 then -v else v)=(v.natAbs:Int):=by split <;> lia
def vals (n:Nat):List Int:=(List.range (2*n+1)).map fun (i:Nat)=>-(n:Int)+(i:Int)
theorem jv (n:Nat):(vals n).length=2*n+1:=by unfold vals;simp
theorem uk {n i:Nat} (h:i<(vals n).length):(vals n)[i]=-(n:Int)+(i:Int):=by simp [vals]
def v01 (w:Str) (n:Nat):Int:=if w="rank" then rk (List.replicate n 1) else mk (List.replicate n 1)
def pN (w:Str) (n:Nat):List (Int×Int):=if n<2 then [(v01 w n,1)] else ((vals n).map fun v=>(v,tot (wb w) n v.natAbs)).filter fun q=>decide (0<q.2)
section
variable {P:Program} {w:World} {K:PySem.W.Frag} {mg:Str->Option Value} {base:Heap} {f:Addr} {fd:FuncData}
theorem sc_vo:FnScope ["which","parting"] ["which","parting"] (ag (top 53)):=.(0)
def uy:Sp:=fun vs H Q _=>∃ (x:Str) (a:Addr) (n:Nat),vs=[.str x,.ref a]/\Wh x/\n<=100/\H a=some (.tup ((List.replicate n (1:Int)).map V.int))/\∀ H',Same H H'->Q (.int (v01 x n)) H'
theorem ok_vo (F:Fun K "value_of" "value_of" (top 53) f fd)  (F_mark:FnA P w K mg base "mark" 1 ["parting"] iX) (F_rank:FnA P w K mg base "rank" 1 ["parting"] iW):FnOk P w K mg base CX0 2 f fd ["which","parting"] uy:=by
 refine F.okz sc_vo .(16) .(3)
 · obtain ⟨x,a,n,rfl,_⟩:=h;rfl
 obtain ⟨x,a,n,rfl,hx,hn,ha,q⟩:=h;have nd:=sc_vo.nd;have hu:=hr.units;rcases hx with rfl | rfl
 · refine ⟨_,.(89),?_⟩;exact ⟨a,_,rfl,ha,q _ (Same.refl _)⟩
 · refine ⟨_,.(89),?_⟩;exact ⟨a,_,rfl,ha,by rw [zH1];lia,fun H' y=>q _ y⟩
theorem sc_mw:FnScope ["which","value","everything","n","bend","total","k","near","far","sign"] ["which","value","everything"] (ag (top 54)):=.(0)
def uG:Sp:=fun vs H Q _=>∃ (x:Str) (v:Int) (a:Addr) (n:Nat),vs=[.str x,.int v,.ref a]/\Wh x/\n<=100/\v.natAbs<=100/\H a=some (.tup ((tb (R n) (n+1)).map V.int))/\Q (.int (tot (wb x) n v.natAbs)) H
theorem rO {n j:Nat} (h:j<=n) (hn:n<=100):((tb (R n) (n+1)).map V.int)[j]? = some (.int (p j)):=by
 rw [List.getElem?_map,tb_get (by lia),R_p h hn];rfl
theorem ok_mw (F:Fun K "many_with" "many_with" (top 54) f fd) (m_abs:mg "abs" = none) (m_len:.(79)) (m_range:.(81)):FnOk P w K mg base CX0 1 f fd ["which","value","everything"] uG:=by
 refine F.okz sc_mw .(16) .(3)
 · obtain ⟨x,v,a,n,rfl,_⟩:=h;rfl
 obtain ⟨x,v,a,n,rfl,hx,hn,hv,ha,q⟩:=h;have nd:=sc_mw.nd;have hu:=hr.units;have rest:∃ t,ZSs (tJ CX0 P w K mg base ["which","value","everything","n","bend","total","k","near","far","sign"] "many_with" (ag (top 54)) f cdv A outer s H E).nox ((ak (top 54)).drop 2) t /\
  ∀ (b:Nat) (N:Int),b=wb x->N=(n:Int)->t { nx:=fun _ H'=>Q .non H',rt:=Q } [some (.str x),some (.int v),some (.ref a),some (.int N),some (.int b),none,none,none,none,none] H:=by
  refine ⟨_,(ah (ay (i:=5) nd rfl .(12) am)
   (ah (bE PassesOwn.never rfl (eF rfl m_range (aa am (aa (ax aG (zn 3) am) af))) (aj (i:=6) nd rfl .(12)) (ah (ay (i:=7) nd rfl .(12) (ax aG (ax bf (ax aI (zn 6) (ax ba (ax aI (zn 4) (zn 6)) am)) am) (ax aI (zn 6) (uf rfl m_abs (aa (zn 1) af) rfl rfl))))
   (ah (ay (i:=8) nd rfl .(12) (ax aG (zn 7) (zn 6)))
   (ah (dR (aR ii (zn 7) (zn 3) (aJ _)) (ai pQ) bA)
   (ah (ay (i:=9) nd rfl .(12) (cU (aR (bo hu) (ax bn (zn 6) am) am (aJ _)) am (fU cV am)))
   (ah (sw (i:=5) nd rfl .(12) (ax aI (zn 9) (cJ dz (zn 2) (ax ba (zn 3) (zn 7)) .(33))) gz)
   (ai (dR (aR op_leP (zn 8) (zn 3) (aJ _)) (ai (sw (i:=5) nd rfl .(12) (ax aI (zn 9) (cJ dz (zn 2) (ax ba (zn 3) (zn 8)) .(33))) vY)) bA))))))))
   (ai (aH (zn 5))))),?_⟩
  intro b N hb hN;subst hN;have hb13:b=1\/b=3:=by rw [hb];exact wb_ok hx
  have hb1:1<=b:=by lia
  rw [← hb] at q;refine ⟨1,(n:Int)+2,rfl,⟨by decide,by decide,by lia,by lia⟩,?_⟩;have en:((n:Int)+2 - 1).toNat=n+1:=by lia
  rw [en];refine bI (fun i σ H'=>H'=H/\i<=n+1/\∃ x6 x7 x8 x9,σ=[some (.str x),some (.int v),some (.ref a),some (.int n),some (.int b),some (.int (ms b n v.natAbs i)),x6,x7,x8,x9]) ⟨rfl,zC5 _,_,_,_,_,rfl⟩ ?_ ?_
  · rintro i σ H' hi ⟨rfl,_,x6,x7,x8,x9,rfl⟩;have ek:(1:Int)+(i:Int)=((i+1:Nat):Int):=by lia
    rw [ek];refine ⟨fh (by lia) (by lia),fh (by lia) (by lia),⟨by decide,by decide⟩,fh (by lia) (by lia),?_⟩;have enr:((i+1:Nat):Int)*((b:Int)*((i+1:Nat):Int) - 1) / 2+((i+1:Nat):Int)*(if v<0 then -v else v)=((near b v.natAbs (i+1):Nat):Int):=by rw [wI];exact re hb1 (Nat.succ_pos i)
    have dn:∀ z,z=ms b n v.natAbs (i+1)->∀ y6 y7 y8 y9,H'=H'/\i+1<=n+1/\∃ x6 x7 x8 x9,[some (.str x),some (.int v),some (.ref a),some (.int n),some (.int b),some (V.int z),y6,y7,y8,y9]=[some (.str x),some (.int v),some (.ref a),some (.int n),some (.int b),some (.int (ms b n v.natAbs (i+1))),x6,x7,x8,x9]:=
     fun z hz y6 y7 y8 y9=>⟨rfl,by lia,y6,y7,y8,y9,by rw [hz]⟩
    have es:ms b n v.natAbs (i+1)=ms b n v.natAbs i+term b n v.natAbs (i+1):=rfl;refine jf (fun c=>?_) (fun c=>?_)
    · have c':(n:Int)<((near b v.natAbs (i+1):Nat):Int):=by rw [← enr];exact c
      have e:=sI (b:=b) (v:=v.natAbs) hb1 hn (show n<near b v.natAbs (i+1) by lia);rw [← e] at q;exact q
    · have c':¬ (n:Int)<((near b v.natAbs (i+1):Nat):Int):=by rw [← enr];exact c
      have hle:near b v.natAbs (i+1)<=n:=by lia
      have e1:(n:Int) - (((i+1:Nat):Int)*((b:Int)*((i+1:Nat):Int) - 1) / 2+((i+1:Nat):Int)*(if v<0 then -v else v))=((n - near b v.natAbs (i+1):Nat):Int):=by rw [enr];lia
      have pl:=p_lim (n - near b v.natAbs (i+1)) (by lia);refine ⟨(show (0:Int)<2 by decide),?_⟩;refine jf (fun c3=>?_) (fun c3=>?_)
      · have hs:sg (i+1)=1:=by
         have:=V.int.inj c3;unfold sg;rw [if_pos (by lia)]
        refine ⟨_,rfl,_,.inr ha,.int (p (n - near b v.natAbs (i+1))),bx e1 (rO (by lia) hn),fh (by decide) (by decide),?_⟩;refine jf (fun c4=>?_) (fun c4=>?_)
        · have c4':((near b v.natAbs (i+1):Nat):Int)+((i+1:Nat):Int)<=(n:Int):=by rw [← enr];exact c4
          sleep 26;refine ⟨_,rfl,_,.inr ha,.int (p (n - (near b v.natAbs (i+1)+(i+1)))),bx e2 (rO (by lia) hn),fh (by decide) (by decide),?_⟩;refine dn _ ?_ _ _ _ _;rw [es];unfold term;rw [if_pos hle,if_pos (by lia),hs];dsimp only;lia
        · have c4':¬ ((near b v.natAbs (i+1):Nat):Int)+((i+1:Nat):Int)<=(n:Int):=by rw [← enr];exact c4
          refine dn _ ?_ _ _ _ _;rw [es];unfold term;rw [if_pos hle,if_neg (by lia),hs];dsimp only;lia
      · have hs:sg (i+1)=-1:=by
         unfold sg;rw [if_neg (fun z=>c3 (congrArg V.int (by lia)))]
        refine ⟨1,rfl,?_⟩;refine ⟨_,rfl,_,.inr ha,.int (p (n - near b v.natAbs (i+1))),bx e1 (rO (by lia) hn),fh (by decide) (by decide),?_⟩;refine jf (fun c4=>?_) (fun c4=>?_)
        · have c4':((near b v.natAbs (i+1):Nat):Int)+((i+1:Nat):Int)<=(n:Int):=by rw [← enr];exact c4
          sleep 26;refine ⟨_,rfl,_,.inr ha,.int (p (n - (near b v.natAbs (i+1)+(i+1)))),bx e2 (rO (by lia) hn),fh (by decide) (by decide),?_⟩;refine dn _ ?_ _ _ _ _;rw [es];unfold term;rw [if_pos hle,if_pos (by lia),hs];dsimp only;lia
        · have c4':¬ ((near b v.natAbs (i+1):Nat):Int)+((i+1:Nat):Int)<=(n:Int):=by rw [← enr];exact c4
          refine dn _ ?_ _ _ _ _;rw [es];unfold term;rw [if_pos hle,if_neg (by lia),hs];dsimp only;lia
  · rintro σ H' ⟨rfl,_,x6,x7,x8,x9,rfl⟩;have e:=uq (b:=b) (v:=v.natAbs) hb1 hn;rw [← e] at q;exact q
 obtain ⟨t2,ht2,rest⟩:=rest;have el:(((tb (R n) (n+1)).map V.int).length:Int) - 1=(n:Int):=by rw [zA0,bQ];lia
 rcases hx with rfl | rfl
 · refine ⟨_,(ah (ay (i:=3) nd rfl .(12) (ax ba (bK rfl m_len (aa (zn 2) af) rfl rfl) am))
    (ah (ay (i:=4) nd rfl .(12) (cU (aR (bo hu) (zn 0) dN (aJ _)) am am))
    ht2)),?_⟩
   refine ⟨_,.inr ha,?_⟩;exact rest 3 _ rfl el
 · refine ⟨_,(ah (ay (i:=3) nd rfl .(12) (ax ba (bK rfl m_len (aa (zn 2) af) rfl rfl) am))
    (ah (ay (i:=4) nd rfl .(12) (cU (aR (bo hu) (zn 0) dN (aJ _)) am am))
    ht2)),?_⟩
   refine ⟨_,.inr ha,?_⟩;exact rest 1 _ rfl el
end
def kR (w:Str) (n:Nat):List (Int×Int):=(vals n).map fun v=>(v,tot (wb w) n v.natAbs)
theorem de (w:Str) (n:Nat):(kR w n).length=2*n+1:=by unfold kR;rw [zA0,jv]
theorem qX {w:Str} {n i:Nat} (h:i<2*n+1):(kR w n)[i]? = some (-(n:Int)+(i:Int),tot (wb w) n (-(n:Int)+(i:Int)).natAbs):=by
 unfold kR;rw [List.getElem?_map,List.getElem?_eq_getElem (show i<(vals n).length by rw [jv];exact h),uk];rfl
theorem filtP {ps:List (Int×Int)} {i:Nat} {q:Int×Int} (hi:ps[i]? = some q) (P:Int×Int->Bool):(ps.take (i+1)).filter P=(ps.take i).filter P++if P q=true then [q] else []:=by
 rw [zD3,hi,zG4];congr 1;show List.filter P [q]=_;rw [List.filter_cons];split <;> rfl
section
variable {P:Program} {w:World} {K:PySem.W.Frag} {mg:Str->Option Value} {base:Heap} {f:Addr} {fd:FuncData}
theorem sc_spr:FnScope ["which","n","everything","told"] ["which","n"] (ag (top 55)):=.(0)
def mG:Sp:=fun vs H Q _=>∃ (x:Str) (n:Nat),vs=[.str x,.int n]/\Wh x/\n<=100/\∀ r us H',Same H H'->H' r=some (.tup us)->Prs H' us (pN x n)->Q (.ref r) H'
theorem ok_spr (F:Fun K "spread" "spread" (top 55) f fd) (m_range:.(81)) (m_tuple:.(99)) (F_counts:FnA P w K mg base "counts" 4 ["kind","most"] cZ) (F_many_with:FnA P w K mg base "many_with" 1 ["which","value","everything"] uG) (F_value_of:FnA P w K mg base "value_of" 2 ["which","parting"] uy):FnOk P w K mg base CX0 5 f fd ["which","n"] mG:=by
 refine F.okz sc_spr .(16) .(3)
 · obtain ⟨x,n,rfl,_⟩:=h;rfl
 obtain ⟨x,n,rfl,hx,hn,q⟩:=h;have nd:=sc_spr.nd;have hu:=hr.units;refine ⟨_,(ah (dR (aR tf (zn 1) am (aJ _)) (ai (aH (bq (aa (bq (aa (az F_value_of hr (by decide) rfl (aa (zn 0) (aa (ax aI (bq (aa am af)) (zn 1)) af))) (aa am af))) af)))) bA)
  (ah (ay (i:=2) nd rfl (Or.inr rfl) (az F_counts hr (by decide) rfl (aa (bq (aa dN af)) (aa (zn 1) af))))
  (ah (cC (i:=3) ["value"] [("which",0),("everything",2)] rfl nd rfl .(12) .(4) (eF rfl m_range (aa (fU cV (zn 1)) (aa (ax aG (zn 1) am) af))) aQ (fun _ _ _ _=>aj (i:=0) (show List.Nodup (["value","which","everything"]:List Str) by decide +kernel) rfl .(12)) .(37) (fun _ _ _ _=>(bq (aa (zn 0) (aa (az F_many_with hr (by decide) rfl (aa (zn 1) (aa (zn 0) (aa (zn 2) af)))) af)))))
  (ai (aH (be rfl m_tuple (aa (aV ["value","many"] [] rfl .(4) (bF (zn 3)) dH (fun _ _ _ _=>cr rfl (aB (aj (i:=0) (show List.Nodup (["value","many"]:List Str) by decide +kernel) rfl .(12)) (aB (aj (i:=1) (show List.Nodup (["value","many"]:List Str) by decide +kernel) rfl .(12)) bB))) (fun _ _ _ _=>(lO (aR ii (zn 1) am (aJ _)))) (fun _ _ _ _=>(bq .(31)))) af) rfl rfl)))))),?_⟩
 refine jf (fun c=>?_) (fun c=>?_)
 · have c':(n:Int)<2:=c;sleep 9;have yd:=Same.new hd (.tup [V.int 1]);refine ⟨.(40),.inr ⟨_,ae,cm (by show 1*(n:Int).toNat<=1000;lia),fun r1 H1 y1 hr1=>?_⟩⟩;rw [cc,zD9] at hr1;refine ⟨x,r1,n,rfl,hx,hn,hr1,fun H2 y2=>?_⟩;refine ⟨by show 2<=sizeLine;decide,fun d2 hd2=>?_⟩;have y3:=Same.new hd2 (.tup [V.int (v01 x n),.int 1]);refine ⟨by show 1<=sizeLine;decide,fun d3 hd3=>?_⟩;have y4:=Same.new hd3 (.tup [V.ref d2]);refine q d3 [.ref d2] _ ((yd.trans (y1.trans y2)).trans (y3.trans y4)) ae ?_;unfold pN;rw [if_pos (by lia)];exact .cons ⟨d2,rfl,y4 _ _ ae⟩ .nil
 · have c':¬ (n:Int)<2:=c;sleep 9;have yd:=Same.new hd (.tup [V.str "all"]);refine ⟨d,n,rfl,by lia,ae,fun ev H1 y1 hev=>?_⟩;have y01:=yd.trans y1;refine ⟨(n:Int),rfl,?_⟩;refine ⟨-(n:Int),(n:Int)+1,rfl,⟨by lia,by lia,by lia,by lia⟩,?_⟩;have en:((n:Int)+1 - -(n:Int)).toNat=2*n+1:=by lia
   rw [en];refine iG (fun i zs H'=>Same H1 H'/\i<=2*n+1/\Prs H' zs ((kR x n).take i)) ⟨Same.refl _,zC5 _,.nil⟩ ?_ ?_
   · rintro i zs H' hi ⟨y,_,pr⟩;have l1:=pr.length;rw [zB9,de] at l1;refine ⟨ao (by lia),?_⟩;refine ⟨x,-(n:Int)+(i:Int),ev,n,rfl,hx,hn,by lia,y _ _ hev,?_⟩;refine ⟨by show 2<=sizeLine;decide,fun d2 hd2=>?_⟩;have y2:=Same.new hd2 (.tup [V.int (-(n:Int)+(i:Int)),.int (tot (wb x) n (-(n:Int)+(i:Int)).natAbs)]);refine ⟨y.trans y2,by lia,?_⟩;rw [zD3,qX hi];exact Prs.snoc (p:=(-(n:Int)+(i:Int),tot (wb x) n (-(n:Int)+(i:Int)).natAbs)) ⟨d2,rfl,ae⟩ (pr.same y2)
   · rintro zs H2 ⟨y2,_,pr⟩ D hD;rw [zB8 (by rw [de];exact zA1 _)] at pr;have yD:=Same.new hD (.lst zs);have hDD:upd H2 D (.lst zs) D=some (.lst zs):=ae;have pr3:=pr.same yD;have y3:=(y01.trans y2).trans yD;generalize upd H2 D (.lst zs)=H3 at hDD pr3 y3;have l3:=pr3.length;rw [de] at l3;refine ⟨D,rfl,⟨_,SqL.of hDD⟩,cH (xs:=zs) (fun i us H'=>Same H3 H'/\us.length<=i/\Prs H' us (((kR x n).take i).filter fun q=>decide (0<q.2))) ⟨Same.refl _,zA1 _,.nil⟩ ?_ ?_ ?_⟩
     · rintro i us H' _ ⟨y,_⟩;exact SqL.of (y _ _ hDD)
     · rintro i z us H' hz ⟨y,ul,pu⟩;have hi:i<zs.length:=(List.getElem?_eq_some_iff.mp hz).1;obtain ⟨q',hq',b,rfl,hb⟩:=pr3.get hz;refine ⟨ao (by lia),?_⟩;refine ⟨b,_,rfl,SqT.of (y _ _ hb),rfl,_,_,rfl,_,_,rfl,rfl,?_⟩;refine jf (fun c3=>?_) (fun c3=>?_)
       · have c3':0<q'.2:=c3;refine ⟨by show 2<=sizeLine;decide,fun d4 hd4=>?_⟩;have y4:=Same.new hd4 (.tup [V.int q'.1,.int q'.2]);refine ⟨y.trans y4,by rw [zA5];show us.length+1<=i+1;lia,?_⟩;rw [filtP hq',if_pos (decide_eq_true c3')];exact (pu.same y4).snoc ⟨d4,rfl,ae⟩
       · have c3':¬ 0<q'.2:=c3;refine ⟨y,by lia,?_⟩;rw [filtP hq',if_neg (by simpa using c3'),zD6];exact pu
     · rintro us H4 ⟨y4,_,pu⟩ D2 hD2;rw [zB8 (by rw [de,l3];exact zA1 _)] at pu;refine ⟨_,.inl (SqL.of ae),fun r H5 y5 hr5=>?_⟩;have yy:=(Same.new hD2 (.lst us)).trans y5;refine q r us H5 ((y3.trans y4).trans yy) hr5 ?_;unfold pN;rw [if_neg (by lia)];exact pu.same yy
end
def wT (t:Nat) (acc:List Int) (q:Int×Int):List Int:=acc.set (q.1 % (t:Int)).toNat (acc.getD (q.1 % (t:Int)).toNat 0+q.2)
def bks (t:Nat) (ps:List (Int×Int)):List Int:=ps.foldl (wT t) (List.replicate t 0)
theorem sr (t:Nat) (acc:List Int) (q:Int×Int):(wT t acc q).length=acc.length:=by unfold wT;rw [List.length_set]
theorem kc (t:Nat):∀ (ps:List (Int×Int)) (acc:List Int),(ps.foldl (wT t) acc).length=acc.length
 | [],acc=>rfl
 | q::ps,acc=>by rw [List.foldl_cons,kc t ps,sr]
theorem wA (t:Nat) (ps:List (Int×Int)):(bks t ps).length=t:=by unfold bks;rw [kc,zH1]
theorem se {t i:Nat} {ps:List (Int×Int)} {q:Int×Int} (h:ps[i]? = some q):bks t (ps.take (i+1))=wT t (bks t (ps.take i)) q:=by
 unfold bks;rw [zD3,h,List.foldl_append];rfl
theorem uW {t:Nat} (h:0<t) (v:Int):0<=v % (t:Int)/\v % (t:Int)<(t:Int):=⟨zE5 _ (by lia),zE3 _ (by lia)⟩
section
variable {P:Program} {w:World} {K:PySem.W.Frag} {mg:Str->Option Value} {base:Heap} {f:Addr} {fd:FuncData}
theorem sc_shs:FnScope ["which","n","t","told","value","many"] ["which","n","t"] (ag (top 56)):=.(0)
def mH:Sp:=fun vs H Q _=>∃ (x:Str) (n t:Nat),vs=[.str x,.int n,.int t]/\Wh x/\n<=100/\1<=t/\t<=1000/\∀ r H',Same H H'->H' r=some (.tup ((bks t (pN x n)).map V.int))->Q (.ref r) H'
theorem ok_shs (F:Fun K "shares" "shares" (top 56) f fd) (m_tuple:.(99)) (F_spread:FnA P w K mg base "spread" 5 ["which","n"] mG):FnOk P w K mg base CX0 6 f fd ["which","n","t"] mH:=by
 refine F.okz sc_shs .(16) .(3)
 · obtain ⟨x,n,t,rfl,_⟩:=h;rfl
 obtain ⟨x,n,t,rfl,hx,hn,t1,t2,q⟩:=h;have nd:=sc_shs.nd;have hu:=hr.units;refine ⟨_,(ah (ay (i:=3) nd rfl .(12) (ax aI (bP (aa am af)) (zn 2)))
  (ah (bE PassesOwn.never rfl (dM (az F_spread hr (by decide) rfl .(31))) (cr rfl (aB (aj (i:=4) nd rfl .(12)) (aB (aj (i:=5) nd rfl .(12)) bB))) (ai (lM (zn 3) (ax bn (zn 4) (zn 2)) gA (zn 5) gz eP)))
  (ai (aH (be rfl m_tuple (aa (zn 3) af) rfl rfl))))),?_⟩
 sleep 9;have yd:=Same.new hd .(96);refine ⟨.(40),.inl ⟨_,ae,cm (by show 1*(t:Int).toNat<=1000;lia),fun L hL=>?_⟩⟩;rw [cc,zD9];have yL:=Same.new hL (.lst ((List.replicate t (0:Int)).map V.int));have hLL:upd (upd H d .(96)) L (.lst ((List.replicate t (0:Int)).map V.int)) L=some (.lst ((bks t []).map V.int)):=ae;have hLH:H L=none:=bY yd hL;have y0:=yd.trans yL;generalize upd (upd H d .(96)) L (.lst ((List.replicate t (0:Int)).map V.int))=H0 at hLL y0;refine ⟨x,n,rfl,hx,hn,fun r us H1 y1 hr1 pu=>?_⟩;have hL1:=y1 _ _ hLL;have z1:=y0.trans y1;have rL:r≠L:=fun z=>by rw [z,hL1] at hr1;cases hr1
 refine ⟨r,rfl,⟨_,SqT.of hr1⟩,ox (xs:=us) (fun i σ H'=>(∀ b o,b≠L->H1 b=some o->H' b=some o)/\H' L=some (.lst ((bks t ((pN x n).take i)).map V.int))/\∃ x4 x5,σ=[some (.str x),some (.int n),some (.int t),some (.ref L),x4,x5]) ⟨fun b o _ e=>e,hL1,_,_,rfl⟩ ?_ ?_ ?_⟩
 · rintro i σ H' _ ⟨k,_⟩;exact SqT.of (k _ _ rL hr1)
 · rintro i z σ H' hz ⟨k,hL',x4,x5,rfl⟩;obtain ⟨q',hq',b,rfl,hb⟩:=pu.get hz;have bL:b≠L:=fun z=>by rw [z,hL1] at hb;cases hb
   refine ⟨b,_,rfl,SqT.of (k _ _ bL hb),rfl,_,_,rfl,_,_,rfl,rfl,?_⟩;have rl:=uW (t:=t) (by lia) q'.1;have hj:(q'.1 % (t:Int)).toNat<(bks t ((pN x n).take i)).length:=by rw [wA];lia
   refine ⟨show (0:Int)<(t:Int) by lia,?_⟩;refine ⟨_,.int ((bks t ((pN x n).take i)).getD (q'.1 % (t:Int)).toNat 0),SqL.of hL',rl.1,?_,?_⟩
   · rw [List.getElem?_map,List.getElem?_eq_getElem hj,zA2,List.getElem?_eq_getElem hj];rfl
   refine ⟨_,hL',rl.1,by rw [zA0];exact hj,fun c o nc e=>by rw [au nc];exact k c o nc e,?_,_,_,rfl⟩;rw [ae,se hq'];unfold wT;rw [← List.map_set]
 · rintro σ H' ⟨k,hL',x4,x5,rfl⟩;rw [zB8 (by rw [pu.length];exact zA1 _)] at hL';refine ⟨_,.inl (SqL.of hL'),fun r2 H2 y2 hr2=>q r2 H2 (fun c o e=>y2 _ _ (k c o (fun z=>by rw [z,hLH] at e;cases e) (z1 _ _ e))) hr2⟩
end
end K79
namespace M80
open MRow
def off (g:Nat->Int) (s n:Nat):Int:=g n - if s<=n then g (n - s) else 0
theorem put_of {F c:Nat->Int} {s:Nat} (hs:0<s) (h:off F s=c):F=put c s:=by
 funext n;induction n using Nat.strongRecOn with
 | ind n ih=>
   have e:=congrFun h n
   unfold off at e
   rw [put_eq c hs]
   by_cases hn:s<=n
   · rw [if_pos hn] at e ⊢;rw [← ih (n - s) (by lia)];lia
   · rw [if_neg hn] at e ⊢;lia
theorem nO (g:Nat->Int) {s:Nat} (hs:0<s):off (put g s) s=g:=by
 funext n;unfold off;rw [put_eq g hs n];lia
theorem vc (g:Nat->Int) {s:Nat} (hs:0<s):put (off g s) s=g:=(put_of hs rfl).symm
def PL (g:Nat->Int) (ss:List Nat):Nat->Int:=ss.foldl put g
theorem tZ (g:Nat->Int) (a b:List Nat):PL g (a++b)=PL (PL g a) b:=by unfold PL;rw [List.foldl_append]
def ups (n:Nat):List Nat:=(List.range n).map (· + 1)
theorem ups_succ (n:Nat):ups (n+1)=ups n++[n+1]:=by unfold ups;rw [zB2,zA3];rfl
end M80
namespace M17
open MRow M80
theorem tX (k:Nat):PL dl (ups (k+1))=put (PL dl (ups k)) (k+1):=by rw [ups_succ,tZ];rfl
theorem R_low {k j:Nat} (h:j<=k):PL dl (ups (k+1)) j=PL dl (ups k) j:=by rw [tX,i5 _ (by lia) (by lia)]
theorem R_far {n j:Nat} (h:j<=n):∀ e,PL dl (ups (n+e)) j=PL dl (ups n) j
 | 0=>rfl
 | e+1=>by rw [← zI3,R_low (by lia),R_far h e]
end M17
namespace M17
open MRow M80
def blk (s:Nat):Nat->List Int->List Int->List Int
 | 0,_,_=>[]
 | f+1,prev,l=>match l with
   | []=>[]
   | _=>List.zipWith (· + ·) (l.take s) prev++blk s f (List.zipWith (· + ·) (l.take s) prev) (l.drop s)
def sW (L s:Nat) (l:List Int):List Int:=blk s (L / s+1) (List.replicate s 0) l
def tbf (g:Nat->Int) (p L:Nat):List Int:=(List.range L).map fun j=>g (p+j)
theorem cL (g:Nat->Int) (p L:Nat):(tbf g p L).length=L:=by unfold tbf;simp
theorem dO {g:Nat->Int} {p L i:Nat} (h:i<(tbf g p L).length):(tbf g p L)[i]=g (p+i):=by simp [tbf]
theorem p9 (g:Nat->Int) (p L s:Nat):(tbf g p L).take s=tbf g p (min s L):=by
 unfold tbf;rw [← List.map_take,List.take_range]
theorem qa (g:Nat->Int) (p L s:Nat):(tbf g p L).drop s=tbf g (p+s) (L - s):=by
 refine zD2 (by simp [tbf]) fun i h1 h2=>?_;rw [zL1,dO,dO,zI3]
theorem ut (g:Nat->Int) (p a b:Nat):tbf g p a++tbf g (p+a) b=tbf g p (a+b):=by
 refine zD2 (by simp [tbf]) fun i h1 h2=>?_;rw [List.getElem_append];split
 · rw [dO,dO]
 · rename_i c
   have c':¬ i<a:=by rw [cL] at c;exact c
   rw [dO,dO];congr 1;rw [cL];lia
theorem zip_is {g:Nat->Int} {s p k:Nat} {prev:List Int} (hs:0<s) (hk:k<=s) (hl:prev.length=s) (hp:∀ j,j<k->prev.getD j 0=if s<=p+j then put g s (p+j - s) else 0) :
 List.zipWith (· + ·) (tbf g p k) prev=tbf (put g s) p k:=by
 refine zD2 (by rw [List.length_zipWith,cL,cL];lia) fun i h1 h2=>?_;have hi:i<k:=by rw [cL] at h2;exact h2
 rw [List.getElem_zipWith];have e:=hp i hi;rw [zA2,List.getElem?_eq_getElem (by lia)] at e;have e:prev[i]=if s<=p+i then put g s (p+i - s) else 0:=e
 rw [e,dO,dO,put_eq g hs (p+i)]
theorem tP {g:Nat->Int} {s:Nat} (hs:0<s):∀ (f p L:Nat) (prev:List Int),L<f*s->prev.length=s->(∀ j,j<min s L->prev.getD j 0=if s<=p+j then put g s (p+j - s) else 0)->blk s f prev (tbf g p L)=tbf (put g s) p L
 | 0,p,L,prev,h,_,_=>by lia
 | f+1,p,0,prev,_,_,_=>rfl
 | f+1,p,L+1,prev,h,hl,hp=>by
   have e0:∃ x r,tbf g p (L+1)=x::r:=by
    cases e:tbf g p (L+1) with
    | nil=>have:=cL g p (L+1);rw [e] at this;cases this
    | cons x r=>exact ⟨x,r,rfl⟩
   obtain ⟨x,r,e0⟩:=e0;have e1:blk s (f+1) prev (tbf g p (L+1))=List.zipWith (· + ·) ((tbf g p (L+1)).take s) prev++blk s f (List.zipWith (· + ·) ((tbf g p (L+1)).take s) prev) ((tbf g p (L+1)).drop s):=by rw [e0];rfl
   rw [e1,p9,qa,zip_is hs (Nat.min_le_left _ _) hl hp];by_cases c:L+1<=s
   · have z:L+1 - s=0:=by lia
     rw [z,Nat.min_eq_right c];have:blk s f (tbf (put g s) p (L+1)) (tbf g (p+s) 0)=[]:=by cases f <;> rfl
     rw [this,zD6]
   · rw [Nat.min_eq_left (by lia),tP hs f (p+s) (L+1 - s) (tbf (put g s) p s) (by rw [Nat.succ_mul] at h;lia) (cL _ _ _) fun j hj=>?_,ut,show s+(L+1 - s)=L+1 by lia];have hj':j<s:=by lia
     unfold tbf;rw [zA2,List.getElem?_map,List.getElem?_range hj',if_pos (by lia),show p+s+j - s=p+j by lia];rfl
theorem sJ (g:Nat->Int) (L:Nat):tb g L=tbf g 0 L:=by unfold tb tbf;exact zA4 fun j _=>by rw [zH9]
theorem i6 (g:Nat->Int) {s:Nat} (hs:0<s) (L:Nat):sW L s (tb g L)=tb (put g s) L:=by
 unfold sW;rw [sJ,sJ];refine tP hs _ 0 L _ ?_ (zH1 ..) fun j hj=>?_
 · have:=Nat.lt_mul_div_succ L hs;rw [zG2];exact this
 · rw [if_neg (by lia),zA2,List.getElem?_replicate,if_pos (by lia)];rfl
def PLL (L:Nat) (l:List Int) (ss:List Nat):List Int:=ss.foldl (fun l s=>sW L s l) l
theorem t4 (L:Nat):∀ (ss:List Nat) (g:Nat->Int),(∀ x∈ss,0<x)->PLL L (tb g L) ss=tb (PL g ss) L
 | [],_,_=>rfl
 | s::ss,g,h=>by
   show PLL L (sW L s (tb g L)) ss=_;rw [i6 g (h s zA7),t4 L ss _ fun x hx=>h x (zA9 s hx)];rfl
def shf (k:Nat) (a:List Int):List Int->List Int:=fun r=>a.take k++List.zipWith (· + ·) (a.drop k) r
theorem sN (f r:Nat->Int) {k L:Nat} (hk:k<=L):shf k (tb f L) (tb r L)=tb (fun j=>f j+if k<=j then r (j - k) else 0) L:=by
 unfold shf;refine zD2 ?_ fun i h1 h2=>?_
 · simp [tb];lia
 · have hi:i<L:=by rw [bQ] at h2;exact h2
   rw [List.getElem_append];split
   · rename_i c
     have c':i<k:=by simp [tb] at c;lia
     rw [zG0,cW,cW,if_neg (by lia),Int.add_zero]
   · rename_i c
     have c':¬ i<k:=fun z=>c (by simp [tb];lia);have el:((tb f L).take k).length=k:=by simp [tb];lia
     rw [List.getElem_zipWith,zL1,cW,cW,cW,if_pos (by lia)];simp only [el];rw [show k+(i - k)=i by lia]
end M17
namespace M12
open MRow M80 M17
def fl (p:Nat->Bool) (n:Nat):List Nat:=(ups n).filter p
theorem wd (p:Nat->Bool) (n:Nat):fl p (n+1)=fl p n++if p (n+1)=true then [n+1] else []:=by
 unfold fl;rw [ups_succ,zG4];congr 1;by_cases h:p (n+1)=true
 · rw [if_pos h,zI9 h];rfl
 · rw [if_neg h,zJ0 h];rfl
theorem fl_all (n:Nat):fl (fun _=>true) n=ups n:=by
 unfold fl;exact List.filter_eq_self.mpr fun _ _=>rfl
end M12
namespace M17
open MRow M80
theorem tb_one {f g:Nat->Int} {L:Nat} (h:tb f L=tb g L) {j:Nat} (hj:j<L):f j=g j:=by
 have h1:=tb_get (f:=f) hj;have h2:=tb_get (f:=g) hj;rw [h,h2] at h1;exact (Option.some.inj h1).symm
end M17
namespace M11
open MRow M80 M17 M12
def lsN (prev:Nat->List (List Nat)) (s:Nat):Nat->Nat->List (List Nat)
 | 0,n=>prev n
 | f+1,n=>(if s<=n then (lsN prev s f (n - s)).map (s::·) else [])++prev n
def Lst:Nat->Nat->List (List Nat)
 | 0=>fun n=>if n=0 then [[]] else []
 | m+1=>fun n=>lsN (Lst m) (m+1) n n
theorem eA {f:Nat->List (List Nat)} {s:Nat} (hs:0<s):∀ (k n:Nat),n<=k->lsN f s k n=lsN f s n n
 | 0,n,h=>by have:n=0:=(by lia); subst this;rfl
 | k+1,0,_=>by
   show (if s<=0 then _ else [])++f 0=f 0;rw [if_neg (by lia)];rfl
 | k+1,n+1,h=>by
   show (if s<=n+1 then (lsN f s k (n+1 - s)).map (s::·) else [])++f (n+1)=(if s<=n+1 then (lsN f s n (n+1 - s)).map (s::·) else [])++f (n+1);by_cases hn:s<=n+1
   · rw [if_pos hn,if_pos hn,eA hs k _ (by lia),eA hs n _ (by lia)]
   · rw [if_neg hn,if_neg hn]
theorem ls_eq (m n:Nat):Lst (m+1) n=(if m+1<=n then (Lst (m+1) (n - (m+1))).map ((m+1)::·) else [])++Lst m n:=by
 show lsN (Lst m) (m+1) n n=(if m+1<=n then (lsN (Lst m) (m+1) (n - (m+1)) (n - (m+1))).map ((m+1)::·) else [])++Lst m n;rw [← eA (by lia) (n+1) n (by lia)];show (if m+1<=n then (lsN (Lst m) (m+1) n (n - (m+1))).map ((m+1)::·) else [])++Lst m n=_;by_cases hn:m+1<=n
 · rw [if_pos hn,if_pos hn,eA (by lia) n _ (by lia)]
 · rw [if_neg hn,if_neg hn]
def cn (m n:Nat) (p:List Nat->Bool):Int:=((Lst m n).countP p:Nat)
theorem cn_zero (n:Nat) (p:List Nat->Bool):cn 0 n p=if p []=true then dl n else 0:=by
 unfold cn;show ((List.countP p (if n=0 then [[]] else []):Nat):Int)=_;unfold dl;by_cases h:n=0
 · rw [if_pos h,if_pos h]
   cases hp:p [] with
   | true=>rw [List.countP_cons_of_pos hp];rfl
   | false=>rw [List.countP_cons_of_neg (by rw [hp];decide)];rfl
 · rw [if_neg h,if_neg h]
   cases p [] <;> rfl
theorem ji (m n:Nat) (p:List Nat->Bool):cn (m+1) n p=(if m+1<=n then cn (m+1) (n - (m+1)) (fun l=>p ((m+1)::l)) else 0)+cn m n p:=by
 unfold cn;rw [ls_eq,List.countP_append,zK0];congr 1;by_cases h:m+1<=n
 · rw [if_pos h,if_pos h,List.countP_map];rfl
 · rw [if_neg h,if_neg h];rfl
theorem ko {m n:Nat} {p q:List Nat->Bool} (h:∀ l∈Lst m n,p l=q l):cn m n p=cn m n q:=by
 unfold cn;rw [List.countP_congr fun l hl=>by rw [h l hl]]
theorem wu {m n:Nat} {p:List Nat->Bool} (h:∀ l∈Lst m n,p l=false):cn m n p=0:=by
 rw [ko (q:=fun _=>false) h];unfold cn;rw [List.countP_false];rfl
theorem ls_mem:∀ m n l,l∈Lst m n->(∀ x∈l,1<=x/\x<=m)/\l.sum=n:=by
 intro m;induction m with
 | zero=>
   intro n l h
   have h:l∈(if n=0 then [[]] else []):=h
   by_cases e:n=0
   · rw [if_pos e] at h;rw [zC6.mp h];exact ⟨fun x hx=>(nomatch hx),e.symm⟩
   · rw [if_neg e] at h;cases h
 | succ m ih=>
   intro n
   induction n using Nat.strongRecOn with
   | _ n ihn=>
     intro l h
     rw [ls_eq] at h
     rcases zD4.mp h with h | h
     · by_cases e:m+1<=n
       · rw [if_pos e] at h;obtain ⟨y,hy,rfl⟩:=zD0.mp h;obtain ⟨a,b⟩:=ihn (n - (m+1)) (by lia) y hy;refine ⟨fun x hx=>?_,by rw [zB4,b];lia⟩;rcases zB0.mp hx with e | e
         · lia
         · exact a x e
       · rw [if_neg e] at h;cases h
     · obtain ⟨a,b⟩:=ih n l h;exact ⟨fun x hx=>by have:=a x hx;lia,b⟩
theorem cn_all (p:Nat->Bool):∀ m n,cn m n (fun l=>l.all p)=PL dl (fl p m) n:=by
 intro m;induction m with
 | zero=>intro n;rw [cn_zero];rfl
 | succ m ih=>
   intro n
   rw [wd]
   cases hp:p (m+1) with
   | false=>
     rw [if_neg (by decide),zD6,← ih n,ji]
     rw [show (if m+1<=n then cn (m+1) (n - (m+1)) (fun l=>((m+1)::l).all p) else 0)=0 from ?_]
     · lia
     · split
       · exact wu fun l _=>by rw [List.all_cons,hp];rfl
       · rfl
   | true=>
     rw [if_pos rfl,tZ]
     show _=put (PL dl (fl p m)) (m+1) n
     induction n using Nat.strongRecOn with
     | _ n ihn=>
       rw [ji,put_eq _ (by lia),ih n]
       by_cases h:m+1<=n
       · rw [if_pos h,if_pos h,← ihn (n - (m+1)) (by lia)];have:cn (m+1) (n - (m+1)) (fun l=>((m+1)::l).all p)=cn (m+1) (n - (m+1)) (fun l=>l.all p):=ko fun l _=>by rw [List.all_cons,hp];rfl
         rw [this];lia
       · rw [if_neg h,if_neg h];lia
end M11
namespace M66
open MRow M80 M17 M12 M11
theorem cn_pos (m n:Nat) (p:List Nat->Bool):0<=cn m n p:=by unfold cn;lia
theorem cn_up (m n:Nat) (p:List Nat->Bool):cn m n p<=cn (m+1) n p:=by
 rw [ji];have:0<=(if m+1<=n then cn (m+1) (n - (m+1)) (fun l=>p ((m+1)::l)) else 0):=by
  split
  · exact cn_pos _ _ _
  · decide
 lia
theorem tO {m:Nat} (n:Nat) (p:List Nat->Bool):∀ e,cn m n p<=cn (m+e) n p
 | 0=>zF1 _
 | e+1=>zE8 (tO n p e) (cn_up (m+e) n p)
theorem cn_le {a b:Nat} (n:Nat) (p:List Nat->Bool) (h:a<=b):cn a n p<=cn b n p:=by
 have:=tO (m:=a) n p (b - a);rw [show a+(b - a)=b by lia] at this;exact this
def Fl:List Nat->Prop
 | []=>True
 | [a]=>1<=a
 | a::b::r=>b<=a/\Fl (b::r)
theorem Fl.tail {a:Nat} {r:List Nat} (h:Fl (a::r)):Fl r:=by
 cases r with
 | nil=>trivial
 | cons b r=>exact h.2
theorem Fl.pos:∀ {x:List Nat},Fl x->∀ a∈x,1<=a
 | [],_,_,h=>nomatch h
 | [b],h,a,ha=>by rw [zC6.mp ha];exact h
 | b::c::r,h,a,ha=>by
   rcases zB0.mp ha with e | e
   · have:=Fl.pos h.2 c zA7;have:=h.1;lia
   · exact Fl.pos h.2 a e
theorem Fl.head {b:Nat}:∀ {r:List Nat},Fl (b::r)->∀ a∈b::r,a<=b
 | [],_,a,ha=>by rw [zC6.mp ha];exact zA1 _
 | c::r,h,a,ha=>by
   rcases zB0.mp ha with e | e
   · lia
   · have:=Fl.head h.2 a e;have:=h.1;lia
end M66
namespace SRV
open PySem PySem.W PySem.Calls
open PyProof.Rows hiding K SortedTo K_bubble K_mirror K_congr K_mirror_equal
def lexb:List Int->List Int->Bool
 | [],[]=>false
 | [],_::_=>true
 | _::_,[]=>false
 | a::as,b::bs=>if a=b then lexb as bs else decide (a<b)
end SRV
namespace M63
open M11 M66 SRV
def toI (x:List Nat):List Int:=x.map fun (k:Nat)=>(k:Int)
def Asc (m n:Nat):List (List Nat):=(Lst m n).reverse
theorem dv (n:Nat):Asc 0 n=if n=0 then [[]] else []:=by
 unfold Asc;show (if n=0 then [[]] else []:List (List Nat)).reverse=_;split <;> rfl
theorem asc_eq (m n:Nat):Asc (m+1) n=Asc m n++(if m+1<=n then (Asc (m+1) (n - (m+1))).map ((m+1)::·) else []):=by
 unfold Asc;rw [ls_eq,zL3];congr 1;split
 · rw [List.map_reverse]
 · rfl
theorem asc_mem {m n:Nat} {x:List Nat}:x∈Asc m n↔x∈Lst m n:=List.mem_reverse
theorem asc_low {m n:Nat} (h:n<=m):Asc m n=Asc n n:=by
 obtain ⟨e,rfl⟩:∃ e,m=n+e:=⟨m - n,by lia⟩
 induction e with
 | zero=>rfl
 | succ e ih=>rw [show n+(e+1)=(n+e)+1 by lia,asc_eq,if_neg (by lia),zD6];exact ih (by lia)
theorem ls_fl:∀ (m n:Nat) (x:List Nat),x∈Asc m n->Fl x:=by
 intro m;induction m with
 | zero=>
   intro n x hx
   rw [dv] at hx
   split at hx
   · rw [zC6.mp hx];trivial
   · cases hx
 | succ m ih=>
   intro n
   induction n using Nat.strongRecOn with
   | ind n ihn=>
     intro x hx
     rw [asc_eq] at hx
     sleep 24
     · exact ih n x hx
     · split at hx
       · rename_i hn
         obtain ⟨y,hy,rfl⟩:=zD0.mp hx;have fy:=ihn _ (by lia) y hy;have by':=(ls_mem _ _ y (asc_mem.mp hy)).1
         cases y with
         | nil=>show 1<=m+1;lia
         | cons b r=>exact ⟨(by' b zA7).2,fy⟩
       · cases hx
theorem asc_up:∀ (m n:Nat),(Asc m n).Pairwise (fun a b=>lexb (toI a) (toI b)=true):=by
 intro m;induction m with
 | zero=>
   intro n
   rw [dv]
   split
   · exact List.pairwise_singleton _ _
   · exact .nil
 | succ m ih=>
   intro n
   induction n using Nat.strongRecOn with
   | ind n ihn=>
     rw [asc_eq]
     refine zC7.mpr ⟨ih n,?_,fun a ha b hb=>?_⟩
     · split
       · rename_i hn
         rw [zG1];refine (ihn _ (by lia)).imp fun {a b} h=>?_;show lexb (((m+1:Nat):Int)::toI a) (((m+1:Nat):Int)::toI b)=true;rw [lexb,if_pos rfl];exact h
       · exact .nil
     · split at hb
       · obtain ⟨y,hy,rfl⟩:=zD0.mp hb;show lexb (toI a) (((m+1:Nat):Int)::toI y)=true
         cases a with
         | nil=>rfl
         | cons c r=>
           have:=((ls_mem _ _ _ (asc_mem.mp ha)).1 c zA7).2
           show lexb ((c:Int)::toI r) (((m+1:Nat):Int)::toI y)=true
           rw [lexb,if_neg (by lia)]
           exact decide_eq_true (by lia)
       · cases hb
end M63
namespace MP
def pb:Nat->Nat->Nat->List (List Int)
 | 0,_,_=>[[]]
 | f+1,n,m=>if n=0 then [[]] else (List.range (min n m)).flatMap fun i=>(pb f (n - (i+1)) (i+1)).map fun b=>((i+1:Nat):Int)::b
theorem vB (f m:Nat):pb f 0 m=[[]]:=by cases f <;> rfl
theorem flat_congr {α β:Type} {f g:α->List β}:∀ {l:List α},(∀ a∈l,f a=g a)->l.flatMap f=l.flatMap g
 | [],_=>rfl
 | a::l,h=>by rw [zE0,zE0,h a zA7,flat_congr fun b hb=>h b (zA9 _ hb)]
theorem i7:∀ (f n m:Nat),n<=f->pb f n m=pb n n m
 | 0,n,m,h=>by
   have:n=0:=by lia
   subst this;rfl
 | f+1,0,m,_=>by rw [vB];rfl
 | f+1,n+1,m,h=>by
   show (if n+1=0 then [[]] else .(62).flatMap fun i=>(pb f (n+1 - (i+1)) (i+1)).map fun b=>((i+1:Nat):Int)::b)=(if n+1=0 then [[]] else .(62).flatMap fun i=>(pb n (n+1 - (i+1)) (i+1)).map fun b=>((i+1:Nat):Int)::b)
   rw [if_neg (by lia),if_neg (by lia)];refine flat_congr fun i hi=>?_;rw [i7 f (n+1 - (i+1)) (i+1) (by lia),i7 n (n+1 - (i+1)) (i+1) (by lia)]
def PB (n m:Nat):List (List Int):=pb n n m
def blk (n i:Nat):List (List Int):=(PB (n - (i+1)) (i+1)).map fun b=>((i+1:Nat):Int)::b
theorem gI (m:Nat):PB 0 m=[[]]:=rfl
theorem pM {n:Nat} (h:n≠0) (m:Nat):PB n m=(List.range (min n m)).flatMap (blk n):=by
 cases n with
 | zero=>exact absurd rfl h
 | succ n=>
   show (if n+1=0 then [[]] else .(62).flatMap fun i=>(pb n (n+1 - (i+1)) (i+1)).map fun b=>((i+1:Nat):Int)::b)=_
   rw [if_neg (by lia)]
   refine flat_congr fun i hi=>?_
   unfold blk PB
   rw [i7 n (n+1 - (i+1)) (i+1) (by lia)]
def bs (n k:Nat):List (List Int):=(List.range k).flatMap (blk n)
theorem pd (n k:Nat):bs n (k+1)=bs n k++blk n k:=by unfold bs;rw [zB2,List.flatMap_append];simp
theorem jm (n i:Nat):(blk n i).length=(PB (n - (i+1)) (i+1)).length:=by unfold blk;rw [zA0]
theorem t6:∀ (N n m:Nat),n<=N->∀ b∈PB n m,(∀ x∈b,(1:Int)<=x/\x<=n)/\b.length<=n/\b.sum=n
 | 0,n,m,h,b,hb=>by
   have:n=0:=by lia
   subst this;have:b=[]:=by simpa [PB,pb] using hb
   subst this;exact ⟨(fun _ z=>nomatch z),zA1 _,rfl⟩
 | N+1,n,m,h,b,hb=>by
   by_cases h0:n=0
   · subst h0;have:b=[]:=by simpa [PB,pb] using hb
     subst this;exact ⟨(fun _ z=>nomatch z),zA1 _,rfl⟩
   · rw [pM h0] at hb;obtain ⟨i,hi,hb⟩:=List.mem_flatMap.mp hb;have hi':=zA6.mp hi;obtain ⟨c,hc,rfl⟩:=zD0.mp hb;obtain ⟨h1,h2,h3⟩:=t6 N (n - (i+1)) (i+1) (by lia) c hc;refine ⟨fun x hx=>?_,?_,?_⟩
     · rcases zB0.mp hx with rfl | hx
       · lia
       · have:=h1 x hx;lia
     · rw [zC4];lia
     · rw [zB4,h3];lia
end MP
namespace M05
open MRow M80 M17 M12 M11 M66 M63 MP
theorem fT {n:Nat} (h:n≠0):∀ m,Asc m n=.(20).flatMap fun i=>if i+1<=n then (Asc (i+1) (n - (i+1))).map ((i+1)::·) else []
 | 0=>by rw [dv,if_neg h];rfl
 | m+1=>by
   rw [asc_eq,fT h m,zB2,List.flatMap_append];simp
theorem PB_asc:∀ (N n m:Nat),n<=N->PB n m=(Asc m n).map toI:=by
 intro N;induction N with
 | zero=>
   intro n m h
   have:n=0:=by lia
   subst this
   rw [gI]
   rw [asc_low (zC5 m),dv]
   rfl
 | succ N ih=>
   intro n m h
   by_cases h0:n=0
   · subst h0;rw [gI,asc_low (zC5 m),dv];rfl
   · have e:Asc m n=Asc (min n m) n:=by
      by_cases hm:n<=m
      · rw [Nat.min_eq_left hm,asc_low hm]
      · rw [Nat.min_eq_right (by lia)]
     rw [pM h0,e,fT h0,List.map_flatMap];refine flat_congr fun i hi=>?_;have hi:=zA6.mp hi;rw [if_pos (by lia),zE6];unfold MP.blk;rw [ih (n - (i+1)) (i+1) (by lia),zE6];rfl
theorem row30:PLL 31 (tb dl 31) (ups 30)=[1,1,2,3,5,7,11,15,22,30,42,56,77,101,135,176,231,297,385,490,627,792,1002,1255,1575,1958,2436,3010,3718,4565,5604]:=by decide +kernel
theorem len_row {n:Nat} (h:n<=30):((Lst 30 n).length:Int)=([1,1,2,3,5,7,11,15,22,30,42,56,77,101,135,176,231,297,385,490,627,792,1002,1255,1575,1958,2436,3010,3718,4565,5604]:List Int).getD n 0:=by
 have e1:cn 30 n (fun l=>l.all fun _=>true)=PL dl (fl (fun _=>true) 30) n:=cn_all _ 30 n;rw [fl_all] at e1;have e2:PLL 31 (tb dl 31) (ups 30)=tb (PL dl (ups 30)) 31:=t4 31 _ dl (by decide);rw [row30] at e2;have e3:cn 30 n (fun l=>l.all fun _=>true)=((Lst 30 n).length:Int):=by
  unfold cn;congr 1;rw [List.countP_eq_length];exact fun x _=>zI8.mpr fun _ _=>rfl
 rw [← e3,e1,e2,zA2,tb_get (by lia)];rfl
theorem len30 {n:Nat} (h:n<=30):(Lst 30 n).length<=6000:=by
 have e:=len_row h;have key:((List.range 31).all fun n=>decide (([1,1,2,3,5,7,11,15,22,30,42,56,77,101,135,176,231,297,385,490,627,792,1002,1255,1575,1958,2436,3010,3718,4565,5604]:List Int).getD n 0<=6000))=true:=by decide +kernel
 have:=of_decide_eq_true (zI8.mp key n (zA6.mpr (by lia)));lia
theorem pE {m n:Nat} (hn:n<=30):(Asc m n).length<=6000:=by
 have key:∀ m,m<=30->(Asc m n).length<=6000:=fun m hm=>by
  unfold Asc;rw [zJ9];have h30:=len30 hn;have le:=cn_le n (fun _=>true) hm;unfold cn at le;rw [List.countP_true] at le;lia
 by_cases hm:m<=30
 · exact key m hm
 · rw [asc_low (by lia)];exact key n hn
theorem PB_len30 {n m:Nat} (hn:n<=30):(PB n m).length<=6000:=by rw [PB_asc n n m (zA1 n),zA0];exact pE hn
theorem sa {n k:Nat} (hn:n<=30) (hk:k<=n) (h0:n≠0):(bs n k).length<=6000:=by
 have:=PB_len30 (n:=n) (m:=k) hn;rw [pM h0,Nat.min_eq_right hk] at this;exact this
end M05
namespace L2
open PySem PySem.Spec PyProof.Rows
theorem vV {n j:Nat} (h:j<n):ixN n (j:Int)=some j:=by
 unfold ixN;rw [if_pos (by lia),if_pos (by lia),zD9]
theorem uK {n:Nat} (h:n<=6000):n<sizeLine:=by rw [sizeLine_eq];lia
end L2
namespace K79
open PySem L2 MP M05
section
variable {P:Program} {w:World} {K:PySem.W.Frag} {mg:Str->Option Value} {base:Heap} {f:Addr} {fd:FuncData}
def mI:Nat->Sp
 | 0=>fun _ _ _ _=>False
 | N+1=>fun vs H Q _=>∃ n m:Nat,vs=[.int n,.int m]/\n<=N/\n<=30/\∀ F us H',H F=none->Same H H'->H' F=some (.lst us)->Tps H' us (PB n m)->Q (.ref F) H'
theorem sc_pb:FnScope ["n","most","told","first","behind"] ["n","most"] (ag (top 45)):=.(0)
theorem pb_ok (F:Fun K "partings_below" "partings_below" (top 45) f fd) (m_min:mg "min" = none) (m_range:.(81)) (b:Binds K fd ["n","most"] []) (kp:PySem.W.keepIn K (.ref f)=true) (m:mg "partings_below" = some (.ref f)):∀ N,FnOk P w K mg base CX0 N f fd ["n","most"] (mI N)
 | 0=>⟨fun _ _ _ _ h=>h.elim,fun _ _ _ _ _ _ _ _ _ _ _ _ _ h=>h.elim⟩
 | N+1=>by
   have F_partings_below:FnA P w K mg base "partings_below" N ["n","most"] (mI N):=⟨⟨f,fd,pb_ok F m_min m_range b kp m N,b,kp,m⟩⟩
   refine F.okz sc_pb .(16) .(3)
   · obtain ⟨n,m,rfl,_⟩:=h;rfl
   obtain ⟨n,m,rfl,hN,hn,q⟩:=h;have nd:=sc_pb.nd;have hu:=hr.units;refine ⟨_,(ah (dR (aR (bo hu) (zn 0) am (aJ _)) (ai (aH (bP (aa (bq af) af)))) bA)
    (ah (ay (i:=2) nd rfl .(12) (bP af))
    (ah (bE PassesOwn.never rfl (eF rfl m_range (aa am (aa (ax aG (lT rfl rfl m_min .(31) rfl rfl) am) af))) (aj (i:=3) nd rfl .(12)) (ai (bE PassesOwn.never rfl (bF (az F_partings_below hr (zA1 _) rfl (aa (ax ba (zn 0) (zn 3)) (aa (zn 3) af)))) (aj (i:=4) nd rfl .(12)) (ai (dA (bN (zn 2) (aa (ax aG (bq (aa (zn 3) af)) (zn 4)) af)))))))
    (ai (aH (zn 2)))))),?_⟩
   refine jf (fun c=>?_) (fun c=>?_)
   · have e0:n=0:=by have:=V.int.inj c;lia
     subst e0;refine ⟨by show 0<=sizeLine;decide,fun t ht=>?_⟩;have y1:=Same.new ht (.tup []);refine ⟨by show 1<=sizeLine;decide,fun L hL=>?_⟩;refine q L [.ref t] _ (bY y1 hL) (y1.trans (Same.new hL _)) ae ?_;rw [gI];exact .cons (ls:=[]) (Same.new hL _ _ _ ae) .nil
   · have e0:n≠0:=fun z=>c (by show V.int (n:Int)=V.int 0;rw [z];rfl);obtain ⟨N',rfl⟩:∃ N',N=N' + 1:=⟨N - 1,by lia⟩
     refine ⟨by show 0<=sizeLine;decide,fun L hL=>?_⟩;have yL:=Same.new hL (.lst []);have gL:upd H L (.lst []) L=some (.lst []):=ae;generalize upd H L (.lst [])=H1 at yL gL;have em:(if (m:Int)<(n:Int) then (m:Int) else (n:Int))=((min n m:Nat):Int):=by split <;> lia
     have hl2:6000<sizeLine:=uK (zA1 _);refine ⟨1,((min n m:Nat):Int)+1,by rw [← em],⟨by lia,by lia,by lia,by lia⟩,?_⟩;have eN:(((min n m:Nat):Int)+1 - 1).toNat=min n m:=by lia
     rw [eN];refine bI (fun i σ H'=>i<=min n m/\Same H H'/\∃ us x3 x4,H' L=some (.lst us)/\Tps H' us (bs n i)/\σ=[some (.int n),some (.int m),some (.ref L),x3,x4]) ⟨zC5 _,yL,[],none,none,gL,.nil,rfl⟩ ?_ ?_
     · rintro i σ H2 hi ⟨_,y2,us,x3,x4,hL2,tp2,rfl⟩;have e1:(n:Int) - (1+(i:Int))=((n - (i+1):Nat):Int):=by lia
       have e2:(1:Int)+(i:Int)=((i+1:Nat):Int):=by lia
       refine ⟨n - (i+1),i+1,by dsimp only;rw [e1,e2],by lia,by lia,fun B vs H3 hB y3 hB3 tpB=>?_⟩;have BL:B≠L:=fun z=>by rw [z,hL2] at hB;cases hB
       have hL3:=y3 _ _ hL2;have tp3:=tp2.same y3;have z3:=y2.trans y3;have lvs:=tpB.length;refine ⟨B,rfl,⟨_,SqL.of hB3⟩,cG (xs:=vs) (fun j σ H'=>j<=vs.length/\Same H H'/\H' B=some (.lst vs)/\Tps H' vs (PB (n - (i+1)) (i+1))/\∃ us x4,H' L=some (.lst us)/\Tps H' us (bs n i++(blk n i).take j)/\σ=[some (.int n),some (.int m),some (.ref L),some (.int (1+(i:Int))),x4]) ⟨zC5 _,z3,hB3,tpB,us,x4,hL3,by rw [zK5,zD6];exact tp3,rfl⟩ ?_ ?_ ?_⟩
       · rintro j σ H' _ ⟨_,_,h,_⟩;exact SqL.of h
       · rintro j z σ H4 hz ⟨_,y4,hB4,tpB4,us4,x4',hL4,tp4,rfl⟩;have hj:j<vs.length:=(List.getElem?_eq_some_iff.mp hz).1;obtain ⟨ls,b',hls,rfl,hb'⟩:=tpB4.get hz;refine ⟨tyL hL4,?_⟩;sleep 9;have yd:=Same.new hd (.tup [V.int (1+(i:Int))]);have gd:upd H4 d (.tup [V.int (1+(i:Int))]) d=some (.tup [V.int (1+(i:Int))]):=ae;have hB5:=yd _ _ hB4;have tpB5:=tpB4.same yd;have hL5:=yd _ _ hL4;have tp5:=tp4.same yd;have hb5:=yd _ _ hb';have z5:=y4.trans yd;generalize upd H4 d (.tup [V.int (1+(i:Int))])=H5 at yd gd hB5 tpB5 hL5 tp5 hb5 z5;have lls:=(t6 _ _ _ (zA1 _) ls (zH7 hls)).2.1;refine .inr ⟨_,_,gd,hb5,zD5 (show 1+(ls.map V.int).length<=1000 by rw [zA0];lia) (by rw [sizeLine_eq];lia),fun r H6 y6 hr6=>?_⟩;have hL6:=y6 _ _ hL5;have tp6:=tp5.same y6;have l6:=tp6.length;have hbl:(bs n i++(blk n i).take j).length<6000:=by
          have h1:=sa (n:=n) (k:=i+1) hn (by lia) e0;rw [pd,zA5,jm] at h1;rw [zA5,zB9,jm];lia
         refine ⟨us4,hL6,by lia,?_⟩;have hr7:H6 r=some (.tup (((((i+1:Nat):Int))::ls).map V.int)):=by rw [hr6,e2];rfl
         refine ⟨by lia,Same.updN (z5.trans y6) hL,by rw [au BL];exact y6 _ _ hB5,(tpB5.same y6).updL hL6,us4++[.ref r],_,ae,?_,rfl⟩;have eb:(blk n i)[j]? = some (((i+1:Nat):Int)::ls):=by unfold blk;rw [List.getElem?_map,hls];rfl
         rw [zD3,eb,← zB7];exact Tps.snoc (by rw [au (kW hr7 hL6 (by intro z;cases z))];exact hr7) (tp6.updL hL6)
       · rintro σ H4 ⟨_,y4,hB4,tpB4,us4,x4',hL4,tp4,rfl⟩;refine ⟨by lia,y4,us4,_,_,hL4,?_,rfl⟩;rw [pd];rw [zB8 (by rw [jm,lvs];exact zA1 _)] at tp4;exact tp4
     · rintro σ H2 ⟨_,y2,us,x3,x4,hL2,tp2,rfl⟩;refine q L us H2 hL y2 hL2 ?_;rw [pM e0];exact tp2
theorem ok_pb (N:Nat) (F:Fun K "partings_below" "partings_below" (top 45) f fd) (m_min:mg "min" = none) (m_range:.(81)) (b:Binds K fd ["n","most"] []) (kp:PySem.W.keepIn K (.ref f)=true) (m:mg "partings_below" = some (.ref f)):FnOk P w K mg base CX0 N f fd ["n","most"] (mI N):=pb_ok F m_min m_range b kp m N
theorem sc_ps:FnScope ["n"] ["n"] (ag (top 46)):=.(0)
def uF:Sp:=fun vs H Q _=>∃ n:Nat,vs=[.int n]/\n<=30/\∀ F us H',Same H H'->H' F=some (.tup us)->Tps H' us (PB n n)->Q (.ref F) H'
theorem ok_ps (F:Fun K "partings" "partings" (top 46) f fd) (m_tuple:.(99)) (F_partings_below:FnA P w K mg base "partings_below" 31 ["n","most"] (mI 31)):FnOk P w K mg base CX0 32 f fd ["n"] uF:=by
 refine F.okz sc_ps .(16) .(3)
 · obtain ⟨n,rfl,_⟩:=h;rfl
 obtain ⟨n,rfl,hn,q⟩:=h;have nd:=sc_ps.nd;refine ⟨_,(ai (aH (be rfl m_tuple (aa (az F_partings_below hr (by decide) rfl (aa (zn 0) .(50))) af) rfl rfl))),?_⟩;refine ⟨n,n,rfl,hn,hn,fun L us H1 hL y1 hL1 tp=>?_⟩;refine ⟨us,.inl (SqL.of hL1),fun r H2 y2 hr2=>?_⟩;exact q r us H2 (y1.trans y2) hr2 (tp.same y2)
end
end K79
namespace M39
def bd (ns:List Int) (k:Nat):List Int:=(List.range k).map fun (i:Nat)=>ns.getD i 0+k - 1 - i
theorem bi (ns:List Int) (k:Nat):(bd ns k).length=k:=by unfold bd;rw [zA0,zC1]
def ct (ns:List Int) (k t r:Nat):Nat:=(bd ns k).countP fun b=>decide .(28)
def rd (ns:List Int) (t:Nat):Nat:=(ns.length+t - 1) / t
def vec (ns:List Int) (t:Nat):List Int:=.(8).map fun (r:Nat)=>(ct ns (t*rd ns t) t r:Int) - rd ns t
theorem fZ (ns:List Int) (t:Nat):(vec ns t).length=t:=by unfold vec;rw [zA0,zC1]
theorem g9 (ns:List Int) {t:Nat} (ht:0<t):ns.length<=t*rd ns t:=by
 unfold rd;have:=Nat.div_add_mod (ns.length+t - 1) t;have h2:=Nat.mod_lt (ns.length+t - 1) ht;lia
theorem uY (ns:List Int) {t:Nat} (ht:0<t):t*rd ns t<=ns.length+t - 1:=by
 unfold rd;have:=Nat.div_add_mod (ns.length+t - 1) t;lia
theorem cnt_one:∀ (t c:Nat),.(8).countP (fun j=>decide (j=c))=if c<t then 1 else 0
 | 0,c=>by simp
 | t+1,c=>by
   rw [zB2,List.countP_append,cnt_one t c,List.countP_singleton];by_cases h:t=c
   · subst h;rw [if_neg (zG7 _),if_pos (decide_eq_true rfl),if_pos (zF6 _)]
   · rw [if_neg (show ¬ decide (t=c)=true by simpa using h)];by_cases h2:c<t
     · rw [if_pos h2,if_pos (by lia)]
     · rw [if_neg h2,if_neg (by lia)]
theorem wn {ns:List Int} {k t r:Nat} (hk:ns.length<=k) (hr:r<t):ct ns (k+t) t r=ct ns k t r+1:=by
 have hz:((t:Int))≠0:=by lia
 unfold ct bd;rw [List.range_add,zA3,List.countP_append,zE6,List.countP_map,List.countP_map,List.countP_map];have e1:List.countP ((fun b=>decide .(28)) ∘ fun (i:Nat)=>ns.getD i 0+((k+t:Nat):Int) - 1 - i) (List.range k)=List.countP ((fun b=>decide .(28)) ∘ fun (i:Nat)=>ns.getD i 0+(k:Int) - 1 - i) (List.range k):=by
  refine List.countP_congr fun i _=>?_;have:ns.getD i 0+((k+t:Nat):Int) - 1 - (i:Int)=(ns.getD i 0+(k:Int) - 1 - i)+t:=by lia
  show decide ((ns.getD i 0+((k+t:Nat):Int) - 1 - (i:Int)) % (t:Int)=(r:Int))=true↔decide ((ns.getD i 0+(k:Int) - 1 - (i:Int)) % (t:Int)=(r:Int))=true;rw [decide_eq_true_iff,decide_eq_true_iff,this,Int.add_emod_right]
 have e2:List.countP ((fun b=>decide .(28)) ∘ ((fun (i:Nat)=>ns.getD i 0+((k+t:Nat):Int) - 1 - i) ∘ fun x=>k+x)) .(8)=1:=by
  have h:=cnt_one t (t - 1 - r);rw [if_pos (by lia)] at h;rw [← h];refine List.countP_congr fun j hj=>?_;have hj':=zA6.mp hj;show decide ((ns.getD (k+j) 0+((k+t:Nat):Int) - 1 - ((k+j:Nat):Int)) % (t:Int)=(r:Int))=true↔decide (j=t - 1 - r)=true;rw [decide_eq_true_iff,decide_eq_true_iff];have g:ns.getD (k+j) 0=0:=by
   rw [zA2,List.getElem?_eq_none (by lia)];rfl
  rw [g];have:(0:Int)+((k+t:Nat):Int) - 1 - ((k+j:Nat):Int)=((t - 1 - j:Nat):Int):=by lia
  rw [this];have hm:((t - 1 - j:Nat):Int) % (t:Int)=((t - 1 - j:Nat):Int):=zJ4 (by lia) (by lia);rw [hm];lia
 rw [e1,e2]
theorem cq {ns:List Int} {t r:Nat} (hr:r<t):∀ m:Nat,ct ns (t*(rd ns t+m)) t r=ct ns (t*rd ns t) t r+m
 | 0=>rfl
 | m+1=>by
   have e:t*(rd ns t+(m+1))=t*(rd ns t+m)+t:=by rw [← zI3,Nat.mul_add,Nat.mul_one]
   have:=g9 ns (t:=t) (by lia);rw [e,wn (by rw [Nat.mul_add];lia) hr,cq hr m];rfl
theorem jt (ns:List Int) (t m:Nat):(.(8).map fun (r:Nat)=>(ct ns (t*(rd ns t+m)) t r:Int) - ((rd ns t+m:Nat):Int))=vec ns t:=by
 unfold vec;refine zA4 fun r hr=>?_;rw [cq (zA6.mp hr) m];lia
theorem bG (f g:Nat->Int):∀ l:List Nat,(l.map fun r=>f r+g r).sum=(l.map f).sum+(l.map g).sum
 | []=>by simp
 | x::l=>by simp only [zB6,zB4,bG f g l];lia
theorem mB (t:Nat) (c:Int) (h0:0<=c) (h1:c<t):(.(8).map fun (r:Nat)=>if c=(r:Int) then (1:Int) else 0).sum=1:=by
 have key:∀ n:Nat,((List.range n).map fun (r:Nat)=>if c=(r:Int) then (1:Int) else 0).sum=if c<n then 1 else 0:=by
  intro n;induction n with
  | zero=>simp;lia
  | succ n ih=>
    rw [zB2,zA3,zC2,ih]
    sleep 23
    by_cases h:c=(n:Int)
    · rw [if_neg (by lia),if_pos h,if_pos (by lia)];rfl
    · rw [if_neg h];by_cases h2:c<n
      · rw [if_pos h2,if_pos (by lia)];rfl
      · rw [if_neg h2,if_neg (by lia)];rfl
 rw [key,if_pos h1]
theorem dC (t:Nat) (ht:0<t):∀ l:List Int,(.(8).map fun (r:Nat)=>((l.countP fun b=>decide .(28):Nat):Int)).sum=l.length
 | []=>by
   have:(.(8).map fun (r:Nat)=>(((([]:List Int).countP fun b=>decide .(28)):Nat):Int))=.(8).map fun _=>(0:Int):=zA4 fun _ _=>rfl;rw [this];have:∀ l:List Nat,(l.map fun _=>(0:Int)).sum=0:=by
    intro l;induction l with
    | nil=>rfl
    | cons x l ih=>rw [zB6,zB4,ih];rfl
   rw [this];rfl
 | x::l=>by
   have e:(.(8).map fun (r:Nat)=>((((x::l).countP fun b=>decide .(28)):Nat):Int))=.(8).map fun (r:Nat)=>((l.countP fun b=>decide .(28):Nat):Int)+(if x % (t:Int)=(r:Int) then (1:Int) else 0):=by
    refine zA4 fun r _=>?_;rw [List.countP_cons];by_cases h:x % (t:Int)=(r:Int)
    · rw [if_pos h,if_pos (decide_eq_true h)];lia
    · rw [if_neg h,if_neg (by simpa using h)];lia
   rw [e,bG,dC t ht l,mB t _ (zE5 _ (by lia)) (zE3 _ (by lia)),zC4];lia
theorem lX (ns:List Int) {t:Nat} (ht:0<t):(vec ns t).sum=0:=by
 have h:=dC t ht .(23);rw [bi] at h;have e:vec ns t=.(8).map fun (r:Nat)=>(.(23).countP (fun b=>decide .(28)):Int)+(-(rd ns t:Int)):=by
  unfold vec ct;refine zA4 fun r _=>by lia
 have c:∀ (z:Int) (l:List Nat),(l.map fun _=>z).sum=l.length*z:=by
  intro z l;induction l with
  | nil=>simp
  | cons x l ih=>rw [zB6,zB4,ih,zC4,zK0,Int.add_mul];simp;lia
 rw [e,bG (fun r=>(.(23).countP (fun b=>decide .(28)):Int)) (fun _=>-(rd ns t:Int)),h,c,zC1,Int.mul_neg,zI5];lia
end M39
namespace M40
open M39
def asc (l:List Int):List Int:=l.mergeSort fun a b=>decide (a<=b)
theorem bb (l:List Int):(asc l).Perm l:=List.mergeSort_perm _ _
theorem asc_up (l:List Int):(asc l).Pairwise (·<=·):=by
 have:=List.pairwise_mergeSort (le:=fun a b:Int=>decide (a<=b)) (fun a b c h1 h2=>by simp at *;lia) (fun a b=>by simp;lia) l;exact this.imp fun h=>by simpa using h
theorem l0:∀ {l m:List Int},l.Perm m->l.Pairwise (·<=·)->m.Pairwise (·<=·)->l=m
 | [],m,h,_,_=>(List.Perm.nil_eq h)
 | a::l,[],h,_,_=>by cases h.length_eq
 | a::l,b::m,h,h1,h2=>by
   have ha:a∈b::m:=h.mem_iff.mp zA7;have hb:b∈a::l:=h.mem_iff.mpr zA7;have e:a=b:=by
    rcases zB0.mp ha with e | ha
    · exact e
    · rcases zB0.mp hb with e | hb
      · exact e.symm
      · have:=List.rel_of_pairwise_cons h1 hb;have:=List.rel_of_pairwise_cons h2 ha;lia
   subst e;rw [l0 (List.Perm.cons_inv h) (List.Pairwise.of_cons h1) (List.Pairwise.of_cons h2)]
theorem asc_eq {l m:List Int} (h:m.Perm l) (hm:m.Pairwise (·<=·)):m=asc l:=l0 (h.trans (bb l).symm) hm (asc_up l)
theorem asc_of {l m:List Int} (h:l.Perm m):asc l=asc m:=asc_eq ((bb l).trans h) (asc_up l)
theorem gH (l:List Int):(asc l).length=l.length:=(bb l).length_eq
def dl (as:List Int):List Int:=(List.range as.length).map fun (j:Nat)=>as.getD j 0 - j
def pt (bs:List Int):List Int:=(dl (asc bs)).reverse.filter fun x=>decide (0<x)
theorem kh (as:List Int):(dl as).length=as.length:=by unfold dl;simp
theorem vf {l m:List Int} (h:l.Perm m):pt l=pt m:=by unfold pt;rw [asc_of h]
theorem rng_up (m:Nat):(.(20).map fun (i:Nat)=>(i:Int)).Pairwise (·<=·):=by
 refine zG1.mpr (zJ5.imp fun h=>?_);lia
theorem pC {bs:List Int} (m:Nat) (h0:∀ b∈bs,(0:Int)<=b):asc ((.(20).map fun (i:Nat)=>(i:Int))++bs.map fun (b:Int)=>b+(m:Int))=(.(20).map fun (i:Nat)=>(i:Int))++(asc bs).map fun (b:Int)=>b+(m:Int):=by
 refine (asc_eq ?_ ?_).symm
 · exact (List.Perm.refl _).append ((bb bs).map _)
 · refine zC7.mpr ⟨rng_up m,zG1.mpr ((asc_up bs).imp fun h=>by lia),fun x hx y hy=>?_⟩;obtain ⟨i,hi,rfl⟩:=zD0.mp hx;obtain ⟨b,hb,rfl⟩:=zD0.mp hy;have:=zA6.mp hi;have:=h0 b ((bb bs).mem_iff.mp hb);lia
theorem rQ (m:Nat) (as:List Int):dl ((.(20).map fun (i:Nat)=>(i:Int))++as.map fun (b:Int)=>b+(m:Int))=List.replicate m 0++dl as:=by
 unfold dl;refine zD2 (by simp) fun j h1 h2=>?_;have hl:j<m+as.length:=by simpa using h1
 rw [zG8,zG5];by_cases hj:j<m
 · rw [zF4 (by simpa using hj),List.getElem_replicate,zA2,List.getElem?_append_left (by simpa using hj),List.getElem?_map,List.getElem?_range hj];show ((j:Nat):Int) - j=0;lia
 · rw [zF3 (by simpa using hj),zG8,zG5,zA2,List.getElem?_append_right (by simpa using hj),List.getElem?_map];have hk:j - m<as.length:=by lia
   simp only [zA0,zC1,zH1];rw [List.getElem?_eq_getElem hk,zA2,List.getElem?_eq_getElem hk];show as[j - m]+(m:Int) - (j:Int)=as[j - m] - ((j - m:Nat):Int);lia
theorem gu {bs cs:List Int} (m:Nat) (h0:∀ b∈bs,(0:Int)<=b) (h:cs.Perm ((.(20).map fun (i:Nat)=>(i:Int))++bs.map fun (b:Int)=>b+(m:Int))):pt cs=pt bs:=by
 rw [vf h];unfold pt;rw [pC m h0,rQ,zL3,zG4];have:(List.replicate m (0:Int)).reverse.filter (fun x=>decide (0<x))=[]:=by
  rw [List.reverse_replicate,List.filter_replicate];rfl
 rw [this,zD6]
def rq (bs:List Int) (t r:Nat):List Int:=(bs.filter fun b=>decide .(28)).map fun b=>b / (t:Int)
theorem jL:∀ (t r:Nat),r<t->.(8).filter (fun j=>decide (j=r))=[r]
 | 0,r,h=>by lia
 | t+1,r,h=>by
   rw [zB2,zG4];by_cases e:r=t
   · subst e;have:(List.range r).filter (fun j=>decide (j=r))=[]:=by
      refine List.filter_eq_nil_iff.mpr fun j hj=>?_;have:=zA6.mp hj;simp;lia
     rw [this];simp
   · rw [jL t r (by lia),zJ0 (by simp;lia)];rfl
theorem po {ns:List Int} {k:Nat} (t:Nat) (hk:ns.length<=k):bd ns (k+t)=(bd ns k).map (fun (b:Int)=>b+(t:Int))++(.(8).reverse.map fun (j:Nat)=>(j:Int)):=by
 unfold bd;rw [List.range_add,zA3,zE6,zE6];congr 1
 · refine zA4 fun i _=>?_;show ns.getD i 0+((k+t:Nat):Int) - 1 - (i:Int)=ns.getD i 0+(k:Int) - 1 - i+t;lia
 · refine zD2 (by simp) fun j h1 h2=>?_;have hj:j<t:=by simpa using h1
   rw [zG8,zG5,zG8,List.getElem_reverse,zG5];show ns.getD (k+j) 0+((k+t:Nat):Int) - 1 - ((k+j:Nat):Int)=_;have g:ns.getD (k+j) 0=0:=by
    rw [zA2,List.getElem?_eq_none (by lia)];rfl
   rw [g];simp only [zC1];lia
theorem uS {ns:List Int} {k t r:Nat} (hk:ns.length<=k) (hr:r<t):rq (bd ns (k+t)) t r=.(82).map (fun (b:Int)=>b+((1:Nat):Int))++[0]:=by
 have hz:((t:Int))≠0:=by lia
 unfold rq;rw [po t hk,zG4,zA3];congr 1
 · rw [List.filter_map,zE6,zE6];have e1:((fun (b:Int)=>decide .(28)) ∘ fun (b:Int)=>b+(t:Int))=fun (b:Int)=>decide .(28):=by
    funext b;show decide ((b+(t:Int)) % (t:Int)=(r:Int))=_;rw [Int.add_emod_right]
   rw [e1];refine zA4 fun b _=>?_;show (b+(t:Int)) / (t:Int)=b / (t:Int)+((1:Nat):Int)
   rw [Int.add_ediv_of_dvd_right (Int.dvd_refl _),Int.ediv_self hz];rfl
 · rw [List.filter_map,List.filter_congr (q:=fun j=>decide (j=r)) fun j hj=>?_]
   · rw [List.filter_reverse,jL t r hr];show [(r:Int) / (t:Int)]=[0]
     rw [Int.ediv_eq_zero_of_lt (by lia) (by lia)]
   · have:=zA6.mp (List.mem_reverse.mp hj);show decide ((j:Int) % (t:Int)=(r:Int))=decide (j=r);rw [zJ4 (by lia) (by lia)];by_cases e:j=r
     · subst e;simp
     · rw [decide_eq_false e,decide_eq_false (by lia)]
theorem uU {bs:List Int} {t r:Nat} (h:∀ b∈bs,(0:Int)<=b):∀ x∈rq bs t r,(0:Int)<=x:=fun x hx=>by
 obtain ⟨b,hb,rfl⟩:=zD0.mp hx;exact Int.ediv_nonneg (h b (zH8.mp hb).1) (by lia)
theorem jo {ns:List Int} {k:Nat} (h:∀ n∈ns,(0:Int)<=n):∀ b∈bd ns k,(0:Int)<=b:=fun b hb=>by
 obtain ⟨i,hi,rfl⟩:=zD0.mp hb;have:=zA6.mp hi;have h0:(0:Int)<=ns.getD i 0:=by
  rw [zA2]
  cases e:ns[i]? with
  | none=>exact zF1 _
  | some n=>exact h n (zH7 e)
 lia
theorem qI {ns:List Int} {k t r:Nat} (hn:∀ n∈ns,(0:Int)<=n) (hk:ns.length<=k) (hr:r<t):pt (rq (bd ns (k+t)) t r)=pt .(82):=by
 rw [uS hk hr];refine gu 1 (uU (jo hn)) ?_;exact zH2
theorem gt {ns:List Int} {t r:Nat} (hn:∀ n∈ns,(0:Int)<=n) (hr:r<t):∀ m:Nat,pt (rq (bd ns (t*(rd ns t+m))) t r)=pt (rq .(23) t r)
 | 0=>rfl
 | m+1=>by
   rw [← gt hn hr m];have e:t*(rd ns t+(m+1))=t*(rd ns t+m)+t:=by rw [← zI3,Nat.mul_succ]
   rw [e];refine qI hn ?_ hr;have:=g9 ns (t:=t) (by lia);have:t*rd ns t<=t*(rd ns t+m):=Nat.mul_le_mul_left _ (by lia);lia
def aE (t:Nat) (c:Nat->Nat):List Int:=.(8).flatMap fun (r:Nat)=>(List.range (c r)).map fun (i:Nat)=>((r+t*i:Nat):Int)
theorem cF (t:Nat) (c:Nat->Nat):∀ b∈aE t c,(0:Int)<=b:=fun b hb=>by
 obtain ⟨r,_,hb⟩:=List.mem_flatMap.mp hb;obtain ⟨i,_,rfl⟩:=zD0.mp hb;lia
theorem iB (f:Nat->Int) (g:Nat->List Int):∀ l:List Nat,(l.flatMap fun r=>f r::g r).Perm (l.map f++l.flatMap g)
 | []=>List.Perm.refl _
 | r::l=>by
   rw [zE0,zE0,zB6,zK3,zK3];refine List.Perm.cons _ ?_;refine ((iB f g l).append_left (g r)).trans ?_;rw [← zB7,← zB7];exact zJ2 _ zH2
theorem lc (t:Nat) (c:Nat->Nat):pt (aE t fun r=>c r+1)=pt (aE t c):=by
 refine gu t (cF t c) ?_;unfold aE;have e:(fun (r:Nat)=>(List.range (c r+1)).map fun (i:Nat)=>((r+t*i:Nat):Int))=fun (r:Nat)=>(r:Int)::((List.range (c r)).map fun (i:Nat)=>((r+t*i:Nat):Int)+(t:Int)):=by
  funext r;rw [zJ1,zB6,zE6];congr 1;refine zA4 fun i _=>?_;show ((r+t*(i+1):Nat):Int)=((r+t*i:Nat):Int)+(t:Int)
  rw [Nat.mul_succ];lia
 rw [e];refine (iB _ _ _).trans ?_;rw [List.map_flatMap];refine zF0 _ (List.Perm.of_eq ?_);congr 1;funext r;rw [zE6];rfl
theorem jz {a b:List Int} (h:a.Perm b):a.sum=b.sum:=by
 induction h with
 | nil=>rfl
 | cons x _ ih=>rw [zB4,zB4,ih]
 | swap x y l=>simp only [zB4];lia
 | trans _ _ h1 h2=>rw [h1,h2]
theorem mz:∀ {l:List Int},(∀ x∈l,(0:Int)<=x)->(l.filter fun x=>decide (0<x)).sum=l.sum
 | [],_=>rfl
 | x::l,h=>by
   have ih:=mz fun y hy=>h y (zA9 _ hy);have:=h x zA7;by_cases hx:0<x
   · rw [zI9 (by simpa using hx),zB4,zB4,ih]
   · rw [zJ0 (by simpa using hx),zB4,ih];lia
theorem up_ge {as:List Int} (h:as.Pairwise (· < ·)) (h0:∀ b∈as,(0:Int)<=b):∀ (j:Nat) (hj:j<as.length),(j:Int)<=as[j]
 | 0,hj=>h0 _ (zC0 hj)
 | j+1,hj=>by
   have h1:=up_ge h h0 j (by lia);have h2:=zF2.mp h j (j+1) (by lia) hj (by lia);lia
theorem tR {bs:List Int} (h:bs.Nodup):(asc bs).Pairwise (· < ·):=by
 have h1:=asc_up bs;have h2:(asc bs).Nodup:=(bb bs).nodup_iff.mpr h;exact (List.pairwise_and_iff.mpr ⟨h1,h2⟩).imp fun ⟨a,b⟩=>by lia
theorem dl_nn {bs:List Int} (h:bs.Nodup) (h0:∀ b∈bs,(0:Int)<=b):∀ x∈dl (asc bs),(0:Int)<=x:=fun x hx=>by
 obtain ⟨j,hj,rfl⟩:=zD0.mp hx;have hj':=zA6.mp hj;rw [zA2,List.getElem?_eq_getElem hj'];have:=up_ge (tR h) (fun b hb=>h0 b ((bb bs).mem_iff.mp hb)) j hj';show (0:Int)<=(asc bs)[j] - j;lia
theorem dl_sum:∀ (as:List Int),2*(dl as).sum+(as.length:Int)*((as.length:Int) - 1)=2*as.sum:=by
 intro as;have go:∀ (m:Nat) (f:Nat->Int),2*(.(20).map fun (j:Nat)=>f j - j).sum+(m:Int)*((m:Int) - 1)=2*(.(20).map f).sum:=by
  intro m f;induction m with
  | zero=>rfl
  | succ m ih=>
    rw [zB2,zA3,zA3,zC2,zC2]
    sleep 23
    have e:((m+1:Nat):Int)*(((m+1:Nat):Int) - 1)=(m:Int)*((m:Int) - 1)+2*m:=by
     have:((m+1:Nat):Int)=(m:Int)+1:=by lia
     sleep 33;lia
    rw [e]
    lia
 have:=go as.length fun j=>as.getD j 0;unfold dl;rw [this];congr 2;refine zD2 (by simp) fun j h1 h2=>?_;rw [zG8,zG5,zA2,List.getElem?_eq_getElem h2];rfl
theorem ni {bs:List Int} (h:bs.Nodup) (h0:∀ b∈bs,(0:Int)<=b):2*(pt bs).sum+(bs.length:Int)*((bs.length:Int) - 1)=2*bs.sum:=by
 unfold pt;rw [mz (fun x hx=>dl_nn h h0 x (List.mem_reverse.mp hx)),jz (zH5 _)];have:=dl_sum (asc bs);rw [gH,jz (bb bs)] at this;exact this
theorem v0 {ns:List Int} (hw:ns.Pairwise (·>=·)) (hn:∀ n∈ns,(0:Int)<=n) {i j:Nat} (h:i<j):ns.getD j 0<=ns.getD i 0:=by
 rw [zA2,zA2];by_cases hj:j<ns.length
 · rw [List.getElem?_eq_getElem hj,List.getElem?_eq_getElem (show i<ns.length by lia)];exact zF2.mp hw i j (by lia) hj h
 · rw [List.getElem?_eq_none (by lia)]
   cases e:ns[i]? with
   | none=>exact zF1 _
   | some n=>exact hn n (zH7 e)
theorem pq {ns:List Int} {k:Nat} (hw:ns.Pairwise (·>=·)) (hn:∀ n∈ns,(0:Int)<=n):(bd ns k).Pairwise (· > ·):=by
 unfold bd;refine zG1.mpr (zJ5.imp fun {i j} h=>?_);have:=v0 hw hn h;show ns.getD j 0+(k:Int) - 1 - j<ns.getD i 0+(k:Int) - 1 - i;lia
theorem du {ns:List Int} {k:Nat} (hw:ns.Pairwise (·>=·)) (hn:∀ n∈ns,(0:Int)<=n):(bd ns k).Nodup:=(pq hw hn).imp fun h=>by lia
theorem gk {bs:List Int} {t r:Nat} (ht:0<t) (h:bs.Nodup):(rq bs t r).Nodup:=by
 unfold rq;refine zG1.mpr ((List.Pairwise.filter _ h).imp_of_mem fun {a b} ha hb hab e=>hab ?_);have h1:a % (t:Int)=(r:Int):=by simpa using (zH8.mp ha).2
 have h2:b % (t:Int)=(r:Int):=by simpa using (zH8.mp hb).2
 rw [← Int.emod_add_mul_ediv a t,← Int.emod_add_mul_ediv b t,h1,h2,e]
theorem mW:∀ m:Nat,2*(.(20).map fun (j:Nat)=>(j:Int)).sum=(m:Int)*((m:Int) - 1)
 | 0=>rfl
 | m+1=>by
   rw [zB2,zA3,zC2];sleep 23;have ih:=mW m;have e:((m+1:Nat):Int)*(((m+1:Nat):Int) - 1)=(m:Int)*((m:Int) - 1)+2*m:=by
    have:((m+1:Nat):Int)=(m:Int)+1:=by lia
    sleep 33;lia
   rw [e];lia
theorem j8:∀ (ns:List Int) (k:Nat),ns.length<=k->((List.range k).map fun (i:Nat)=>ns.getD i 0).sum=ns.sum
 | [],k,_=>by
   have:((List.range k).map fun (i:Nat)=>([]:List Int).getD i 0)=List.replicate k 0:=by
    refine zD2 (by simp) fun j h1 h2=>by simp
   rw [this];simp
 | n::r,0,h=>by cases h
 | n::r,k+1,h=>by
   rw [zJ1,zB6,zB4,zE6,zB4,← j8 r k (by simpa using h)];rfl
theorem bd_sum {ns:List Int} {k:Nat} (h:ns.length<=k):2*(bd ns k).sum=2*ns.sum+(k:Int)*((k:Int) - 1):=by
 unfold bd;have e:∀ m:Nat,2*(.(20).map fun (i:Nat)=>ns.getD i 0+(k:Int) - 1 - i).sum=2*(.(20).map fun (i:Nat)=>ns.getD i 0).sum+2*((m:Int)*((k:Int) - 1)) - 2*(.(20).map fun (j:Nat)=>(j:Int)).sum:=by
  intro m;induction m with
  | zero=>simp
  | succ m ih=>
    rw [zB2,zA3,zA3,zA3,zC2,zC2,zC2]
    sleep 23
    have e:((m+1:Nat):Int)*((k:Int) - 1)=(m:Int)*((k:Int) - 1)+((k:Int) - 1):=by
     rw [show ((m+1:Nat):Int)=(m:Int)+1 by lia,Int.add_mul,Int.one_mul]
    rw [e]
    lia
 rw [e k,j8 ns k h,mW];lia
theorem bh (c:Int) (f:Nat->Int):∀ l:List Nat,(l.map fun r=>c*f r).sum=c*(l.map f).sum
 | []=>by simp
 | r::l=>by rw [zB6,zB4,zB6,zB4,bh c f l,zK8]
def cnt (bs:List Int) (t r:Nat):Nat:=bs.countP fun b=>decide .(28)
theorem gX (bs:List Int) (t r:Nat):(rq bs t r).length=cnt bs t r:=by
 unfold rq cnt;rw [zA0,List.countP_eq_length_filter]
theorem jy:∀ l:List Nat,(l.map fun _=>(0:Int)).sum=0
 | []=>rfl
 | _::l=>by rw [zB6,zB4,jy l];rfl
theorem gY {t:Nat} (ht:0<t):∀ (bs:List Int),(∀ b∈bs,(0:Int)<=b)->(.(8).map fun (r:Nat)=>(r:Int)*(cnt bs t r:Int)+(t:Int)*(rq bs t r).sum).sum=bs.sum
 | [],_=>by
   have:(.(8).map fun (r:Nat)=>(r:Int)*(cnt [] t r:Int)+(t:Int)*(rq [] t r).sum)=.(8).map fun _=>(0:Int):=by
    refine zA4 fun r _=>?_;show (r:Int)*((0:Nat):Int)+(t:Int)*0=0;simp
   rw [this,jy];rfl
 | b::bs,h=>by
   have ih:=gY ht bs fun x hx=>h x (zA9 _ hx);rw [zB4,← ih];have h0:0<=b % (t:Int):=zE5 _ (by lia);have h1:b % (t:Int)<t:=zE3 _ (by lia);have one:=mB t (b % (t:Int)) h0 h1;have e:(.(8).map fun (r:Nat)=>(r:Int)*(cnt (b::bs) t r:Int)+(t:Int)*(rq (b::bs) t r).sum)=.(8).map fun (r:Nat)=>(if b % (t:Int)=(r:Int) then b else 0)+((r:Int)*(cnt bs t r:Int)+(t:Int)*(rq bs t r).sum):=by
    refine zA4 fun r _=>?_;unfold cnt rq;by_cases hr:b % (t:Int)=(r:Int)
    · rw [if_pos hr,List.countP_cons_of_pos (by simpa using hr),zI9 (by simpa using hr),zB6,zB4];have:=Int.emod_add_mul_ediv b t;rw [hr] at this;rw [show ((bs.countP (fun b=>decide .(28))+1:Nat):Int)=(bs.countP (fun b=>decide .(28)):Int)+1 by lia,zK8,zK8,zL5];lia
    · rw [if_neg hr,List.countP_cons_of_neg (by simpa using hr),zJ0 (by simpa using hr)];lia
   rw [e,bG];congr 1;have e2:(.(8).map fun (r:Nat)=>if b % (t:Int)=(r:Int) then b else 0)=.(8).map fun (r:Nat)=>b*(if b % (t:Int)=(r:Int) then (1:Int) else 0):=by
    refine zA4 fun r _=>?_;split <;> simp
   rw [e2,bh,one,zL5]
theorem gZ {t r r' i i':Nat} (hr:r<t) (hr':r' < t) (e:r+t*i=r' + t*i'):r=r'/\i=i':=by
 have h1:(r+t*i) % t=r:=by rw [Nat.add_mul_mod_self_left,zE9 hr]
 have h2:(r' + t*i') % t=r':=by rw [Nat.add_mul_mod_self_left,zE9 hr']
 have h3:r=r':=by rw [← h1,← h2,e]
 subst h3;have:t*i=t*i':=by lia
 exact ⟨rfl,Nat.eq_of_mul_eq_mul_left (by lia) this⟩
theorem bg {t:Nat} (ht:0<t) (c:Nat->Nat):(aE t c).Nodup:=by
 unfold aE List.Nodup;refine List.pairwise_flatMap.mpr ⟨fun r hr=>?_,List.pairwise_lt_range.imp_of_mem fun {r r'} hr hr' h x hx y hy e=>?_⟩
 · refine zG1.mpr (zJ5.imp fun {i j} h e=>?_);have:=(gZ (zA6.mp hr) (zA6.mp hr) (show r+t*i=r+t*j by lia)).2;lia
 · obtain ⟨i,_,rfl⟩:=zD0.mp hx;obtain ⟨j,_,e'⟩:=zD0.mp hy;have:=(gZ (zA6.mp hr) (zA6.mp hr') (show r+t*i=r' + t*j by lia)).1;lia
theorem jY (r t:Nat):∀ m:Nat,2*(.(20).map fun (i:Nat)=>((r+t*i:Nat):Int)).sum=2*((r:Int)*m)+(t:Int)*((m:Int)*((m:Int) - 1))
 | 0=>by simp
 | m+1=>by
   rw [zB2,zA3,zC2,zK8,jY r t m];sleep 23;have e:((m+1:Nat):Int)*(((m+1:Nat):Int) - 1)=(m:Int)*((m:Int) - 1)+2*m:=by
    have:((m+1:Nat):Int)=(m:Int)+1:=by lia
    sleep 33;lia
   rw [e,zK8,show ((m+1:Nat):Int)=(m:Int)+1 by lia,zK8,zL5];have e3:((r+t*m:Nat):Int)=(r:Int)+(t:Int)*(m:Int):=by rw [zK0,zI5]
   rw [e3,zK8 (t:Int),show (t:Int)*(2*(m:Int))=2*((t:Int)*(m:Int)) by rw [← Int.mul_assoc,zL4 (t:Int) 2,Int.mul_assoc]];lia
theorem ke (f:Nat->List Int):∀ l:List Nat,(l.flatMap f).sum=(l.map fun r=>(f r).sum).sum
 | []=>rfl
 | r::l=>by rw [zE0,zC2,zB6,zB4,ke f l]
theorem gB (f:Nat->List Int):∀ l:List Nat,((l.flatMap f).length:Int)=(l.map fun r=>((f r).length:Int)).sum
 | []=>rfl
 | r::l=>by
   rw [zE0,zA5,zB6,zB4,← gB f l];lia
theorem iq (t:Nat) (c:Nat->Nat):2*(aE t c).sum=(.(8).map fun (r:Nat)=>2*((r:Int)*(c r:Int))+(t:Int)*((c r:Int)*((c r:Int) - 1))).sum:=by
 unfold aE;rw [ke,← bh];congr 1;exact zA4 fun r _=>jY r t (c r)
theorem bW (t:Nat) (c:Nat->Nat):((aE t c).length:Int)=(.(8).map fun (r:Nat)=>(c r:Int)).sum:=by
 unfold aE;rw [gB];congr 1;refine zA4 fun r _=>?_;rw [zA0,zC1]
theorem uh {ns:List Int} {t k:Nat} (ht:0<t) (hn:∀ n∈ns,(0:Int)<=n) (hw:ns.Pairwise (·>=·)) (hk:ns.length<=k) :
 (pt (aE t fun r=>cnt (bd ns k) t r)).sum+(t:Int)*(.(8).map fun (r:Nat)=>(pt .(82)).sum).sum=ns.sum:=by
 have h1:=ni (bg ht fun r=>cnt (bd ns k) t r) (cF t _);have hl:((aE t fun r=>cnt (bd ns k) t r).length:Int)=k:=by
  rw [bW];have:=dC t ht (bd ns k);rw [bi] at this;exact this
 rw [hl,iq] at h1;have h2:=gY ht (bd ns k) (jo hn);have h3:=bd_sum hk;have h4:(.(8).map fun (r:Nat)=>2*((r:Int)*(cnt (bd ns k) t r:Int))+(t:Int)*((cnt (bd ns k) t r:Int)*((cnt (bd ns k) t r:Int) - 1))).sum+2*((t:Int)*(.(8).map fun (r:Nat)=>(pt .(82)).sum).sum)=2*(bd ns k).sum:=by
  rw [← h2,← bh 2 (fun (r:Nat)=>(r:Int)*(cnt (bd ns k) t r:Int)+(t:Int)*.(82).sum),← bh (t:Int),← bh 2,← bG];congr 1;refine zA4 fun r _=>?_;have g:=ni (gk (r:=r) ht (du hw hn)) (uU (t:=t) (r:=r) (jo (k:=k) hn));rw [gX] at g;have g2:(t:Int)*(2*(pt .(82)).sum+(cnt (bd ns k) t r:Int)*((cnt (bd ns k) t r:Int) - 1))=(t:Int)*(2*.(82).sum):=by rw [g]
  rw [zK8] at g2;have a1:(t:Int)*(2*(pt .(82)).sum)=2*((t:Int)*(pt .(82)).sum):=by rw [← Int.mul_assoc,zL4 (t:Int) 2,Int.mul_assoc]
  have a2:(t:Int)*(2*.(82).sum)=2*((t:Int)*.(82).sum):=by rw [← Int.mul_assoc,zL4 (t:Int) 2,Int.mul_assoc]
  rw [a1,a2] at g2;rw [zK8];lia
 lia
theorem iD:∀ {l:List Int},l.Pairwise (·>=·)->(∀ x∈l,(0:Int)<=x)->∀ i:Nat,(l.filter fun x=>decide (0<x)).getD i 0=l.getD i 0
 | [],_,_,_=>rfl
 | x::l,h,h0,i=>by
   by_cases hx:0<x
   · rw [zI9 (by simpa using hx)]
     cases i with
     | zero=>rfl
     | succ i=>exact iD (List.Pairwise.of_cons h) (fun y hy=>h0 y (zA9 _ hy)) i
   · have hz:∀ y∈x::l,y=0:=fun y hy=>by
      have:=h0 y hy;rcases zB0.mp hy with rfl | hy
      · lia
      · have:=List.rel_of_pairwise_cons h hy;lia
     have e:(x::l).filter (fun x=>decide (0<x))=[]:=List.filter_eq_nil_iff.mpr fun y hy=>by rw [hz y hy];decide
     rw [e,zA2,zA2]
     cases g:(x::l)[i]? with
     | none=>rfl
     | some y=>exact (hz y (zH7 g)).symm
theorem dl_up {bs:List Int} (h:bs.Nodup):(dl (asc bs)).Pairwise (·<=·):=by
 unfold dl;refine zG1.mpr (List.pairwise_lt_range.imp_of_mem fun {i j} hi hj hij=>?_);have hi':=zA6.mp hi;have hj':=zA6.mp hj;rw [zA2,zA2,List.getElem?_eq_getElem hi',List.getElem?_eq_getElem hj'];show (asc bs)[i] - (i:Int)<=(asc bs)[j] - (j:Int);have go:∀ (m:Nat) (hm:i+m<(asc bs).length),(asc bs)[i]+(m:Int)<=(asc bs)[i+m]:=by
  intro m;induction m with
  | zero=>intro _;exact Int.le_of_eq (by simp)
  | succ m ih=>
    intro hm
    have h1:=ih (by lia)
    have h2:=zF2.mp (tR h) (i+m) (i+(m+1)) (by lia) hm (by lia)
    lia
 have:=go (j - i) (by lia);have e:i+(j - i)=j:=by lia
 simp only [e] at this;lia
theorem lG {bs:List Int} (h:bs.Nodup) (h0:∀ b∈bs,(0:Int)<=b):bd (pt bs) bs.length=(asc bs).reverse:=by
 have hl:=gH bs;refine List.ext_getElem? fun i=>?_;by_cases hi:i<bs.length
 · have hk:bs.length - 1 - i<(asc bs).length:=by lia
   have hp:(dl (asc bs)).reverse.Pairwise (·>=·):=List.pairwise_reverse.mpr (dl_up h);have e1:(pt bs).getD i 0=(asc bs)[bs.length - 1 - i] - ((bs.length - 1 - i:Nat):Int):=by
    unfold pt;rw [iD hp (fun x hx=>dl_nn h h0 x (List.mem_reverse.mp hx)),zA2,List.getElem?_reverse (by rw [kh,hl];exact hi),kh,hl];unfold dl;rw [List.getElem?_map,List.getElem?_range hk];show (asc bs).getD (bs.length - 1 - i) 0 - ((bs.length - 1 - i:Nat):Int)=_;rw [zA2,List.getElem?_eq_getElem hk];rfl
   unfold bd;rw [List.getElem?_map,List.getElem?_range hi,List.getElem?_reverse (by lia),hl,List.getElem?_eq_getElem hk];show some ((pt bs).getD i 0+(bs.length:Int) - 1 - (i:Int))=_;rw [e1];congr 1;lia
 · rw [List.getElem?_eq_none (by rw [bi];lia),List.getElem?_eq_none (by rw [zJ9,hl];lia)]
theorem eV (bs:List Int):(pt bs).length<=bs.length:=by
 unfold pt;refine zD5 (List.length_filter_le _ _) ?_;rw [zJ9,kh,gH];exact zA1 _
theorem nj {bs:List Int} (h:bs.Nodup):(∀ n∈pt bs,(1:Int)<=n)/\(pt bs).Pairwise (·>=·):=by
 refine ⟨fun n hn=>?_,?_⟩
 · have:0<n:=by simpa using (zH8.mp hn).2
   lia
 · exact List.Pairwise.filter _ (List.pairwise_reverse.mpr (dl_up h))
theorem fw {t:Nat} (ht:0<t) (c:Nat->Nat) {r:Nat} (hr:r<t):cnt (aE t c) t r=c r:=by
 unfold cnt aE;rw [List.countP_flatMap];have e:(List.map (List.countP fun b=>decide .(28)) (.(8).map fun (r':Nat)=>(List.range (c r')).map fun (i:Nat)=>((r' + t*i:Nat):Int)))=.(8).map fun (r':Nat)=>if r'=r then c r' else 0:=by
  rw [zE6];refine zA4 fun r' hr'=>?_;have hr2:=zA6.mp hr';show ((List.range (c r')).map fun (i:Nat)=>((r' + t*i:Nat):Int)).countP (fun b=>decide .(28))=_;have hm:∀ i:Nat,((r' + t*i:Nat):Int) % (t:Int)=(r':Int):=fun i=>by
   rw [← Int.natCast_emod,Nat.add_mul_mod_self_left,zE9 hr2]
  by_cases hh:r'=r
  · subst hh;rw [if_pos rfl,List.countP_eq_length.mpr fun b hb=>?_]
    · simp
    · obtain ⟨i,_,rfl⟩:=zD0.mp hb;simpa using hm i
  · rw [if_neg hh,List.countP_eq_zero.mpr fun b hb=>?_];obtain ⟨i,_,rfl⟩:=zD0.mp hb;rw [decide_eq_true_iff,hm i];lia
 have go:∀ t:Nat,r<t->(.(8).map fun (r':Nat)=>if r'=r then c r' else 0).sum=c r:=by
  intro t;induction t with
  | zero=>intro h;lia
  | succ t ih=>
    intro h
    rw [zB2,zA3,zC2]
    sleep 23
    by_cases e:r=t
    · subst e;have z:((List.range r).map fun (r':Nat)=>if r'=r then c r' else 0)=(List.range r).map fun _=>0:=by
       sleep 38;have:=zA6.mp hj;rw [if_neg (by lia)]
      rw [z,if_pos rfl,List.map_const',List.sum_replicate_nat];lia
    · rw [ih (by lia),if_neg (by lia)];lia
 have e':=congrArg List.sum e;rw [go t hr,zE6] at e';exact e'
theorem kl {ns:List Int} {t k:Nat} (ht:0<t):(aE t fun r=>cnt (bd ns k) t r).length=k:=by
 have h:((aE t fun r=>cnt (bd ns k) t r).length:Int)=k:=by
  rw [bW];have:=dC t ht (bd ns k);rw [bi] at this;exact this
 lia
theorem ju {ns:List Int} {t:Nat} (ht:0<t):vec (pt (aE t fun r=>cnt .(23) t r)) t=vec ns t:=by
 generalize hL:(aE t fun r=>cnt .(23) t r)=L;have hlen:L.length=t*rd ns t:=by rw [← hL];exact kl ht
 have hnd:L.Nodup:=by rw [← hL];exact bg ht _
 have hnn:∀ b∈L,(0:Int)<=b:=by rw [← hL];exact cF t _
 have hb:=lG hnd hnn;rw [hlen] at hb;have hct:∀ r:Nat,r<t->ct (pt L) (t*rd ns t) t r=ct ns (t*rd ns t) t r:=fun r hr=>by
  unfold ct;rw [hb,(zH5 _).countP_eq,(bb L).countP_eq];have:=fw ht (fun r=>cnt .(23) t r) hr;rw [hL] at this;exact this
 have hle:rd (pt L) t<=rd ns t:=by
  have h1:=eV L;rw [hlen] at h1;unfold rd at *;have h2:((pt L).length+t - 1) / t<=(t*((ns.length+t - 1) / t)+(t - 1)) / t:=zK7 (by lia);have h3:(t*((ns.length+t - 1) / t)+(t - 1)) / t=(ns.length+t - 1) / t:=by
   sleep 28;rw [Nat.mul_add_div ht,h4,zI4]
  lia
 have hm:=jt (pt L) t (rd ns t - rd (pt L) t);have e:rd (pt L) t+(rd ns t - rd (pt L) t)=rd ns t:=by lia
 rw [e] at hm;rw [← hm];unfold vec;refine zA4 fun r hr=>?_;rw [hct r (zA6.mp hr)]
end M40
namespace M43
open M39 M40
theorem lY {t R:Nat} {c:Nat->Nat} (ht:0<t) (hs:(.(8).map fun (r:Nat)=>(c r:Int)).sum=((t*R:Nat):Int)):vec .(91) t=.(8).map fun (r:Nat)=>(c r:Int) - R:=by
 have hlen:(aE t c).length=t*R:=by
  have:=bW t c;rw [hs] at this;lia
 have hnd:=bg ht c;have hnn:=cF t c;have hb:=lG hnd hnn;rw [hlen] at hb;have hct:∀ r:Nat,r<t->ct .(91) (t*R) t r=c r:=fun r hr=>by
  unfold ct;rw [hb,(zH5 _).countP_eq,(bb _).countP_eq];exact fw ht c hr
 have hle:rd .(91) t<=R:=by
  have h1:=eV (aE t c);rw [hlen] at h1;unfold rd;have h2:(.(91).length+t - 1) / t<=(t*R+(t - 1)) / t:=zK7 (by lia);have h3:(t*R+(t - 1)) / t=R:=by
   sleep 28;rw [Nat.mul_add_div ht,h4,zI4]
  lia
 have hm:=jt .(91) t (R - rd .(91) t);have e:rd .(91) t+(R - rd .(91) t)=R:=by lia
 rw [e] at hm;rw [← hm];refine zA4 fun r hr=>?_;rw [hct r (zA6.mp hr)]
theorem bX (t:Nat) (c:Nat->Nat):∀ m:Nat,pt (aE t fun r=>c r+m)=pt (aE t c)
 | 0=>rfl
 | m+1=>(lc t fun r=>c r+m).trans (bX t c m)
theorem ck {t:Nat} {c d:Nat->Nat} (h:∀ r,r<t->c r=d r):aE t c=aE t d:=by
 unfold aE;rw [List.flatMap_def,List.flatMap_def];congr 1;refine zA4 fun r hr=>?_;rw [h r (zA6.mp hr)]
theorem rW {t R:Nat} {c:Nat->Nat} (ht:0<t) (hs:(.(8).map fun (r:Nat)=>(c r:Int)).sum=((t*R:Nat):Int)):pt (aE t fun r=>cnt (bd .(91) (t*rd .(91) t)) t r)=pt (aE t c):=by
 have hlen:(aE t c).length=t*R:=by
  have:=bW t c;rw [hs] at this;lia
 have hb:=lG (bg ht c) (cF t c);rw [hlen] at hb;have hle:rd .(91) t<=R:=by
  have h1:=eV (aE t c);rw [hlen] at h1;unfold rd;have h2:(.(91).length+t - 1) / t<=(t*R+(t - 1)) / t:=zK7 (by lia);have h3:(t*R+(t - 1)) / t=R:=by
   sleep 28;rw [Nat.mul_add_div ht,h4,zI4]
  lia
 obtain ⟨m,hm⟩:∃ m,R=rd (pt (aE t c)) t+m:=⟨R - rd .(91) t,by lia⟩
 have e:∀ r,r<t->cnt (bd .(91) (t*rd .(91) t)) t r+m=c r:=fun r hr=>by
  have h1:=cq (ns:=pt (aE t c)) hr m;rw [← hm] at h1;have h2:ct .(91) (t*R) t r=c r:=by
   unfold ct;rw [hb,(zH5 _).countP_eq,(bb _).countP_eq];exact fw ht c hr
  rw [h2] at h1;exact h1.symm
 rw [← bX t _ m,ck e]
def sq (t:Nat) (n:Nat->Int):Int:=(.(8).map fun (r:Nat)=>n r*n r).sum
def ro (t:Nat) (n:Nat->Int):Int:=(.(8).map fun (r:Nat)=>(r:Int)*n r).sum
theorem fJ {t R:Nat} {c:Nat->Nat} {n:Nat->Int} (ht:0<t) (hc:∀ r,r<t->(c r:Int)=R+n r) (hn:(.(8).map n).sum=0):2*.(91).sum=(t:Int)*sq t n+2*ro t n:=by
 have hs:(.(8).map fun (r:Nat)=>(c r:Int)).sum=(t:Int)*R:=by
  have:∀ m:Nat,(.(20).map fun (r:Nat)=>(R:Int)+n r).sum=(m:Int)*R+(.(20).map n).sum:=by
   intro m;induction m with
   | zero=>simp
   | succ m ih=>
     rw [zB2,zA3,zA3,zC2,zC2,ih]
     sleep 23
     rw [show ((m+1:Nat):Int)=(m:Int)+1 by lia,Int.add_mul,Int.one_mul]
     lia
  rw [zA4 (g:=fun (r:Nat)=>(R:Int)+n r) fun r hr=>hc r (zA6.mp hr),this t,hn,Int.add_zero]
 have h1:=ni (bg ht c) (cF t c);rw [bW,hs,iq] at h1;have h2:(.(8).map fun (r:Nat)=>2*((r:Int)*(c r:Int))+(t:Int)*((c r:Int)*((c r:Int) - 1))).sum=(R:Int)*((t:Int)*((t:Int) - 1))+2*ro t n+(t:Int)*((t:Int)*((R:Int)*((R:Int) - 1)))+(t:Int)*((2*(R:Int) - 1)*(.(8).map n).sum)+(t:Int)*sq t n:=by
  have e:(.(8).map fun (r:Nat)=>2*((r:Int)*(c r:Int))+(t:Int)*((c r:Int)*((c r:Int) - 1)))=.(8).map fun (r:Nat)=>2*((r:Int)*((R:Int)+n r))+(t:Int)*(((R:Int)+n r)*(((R:Int)+n r) - 1)):=by
   refine zA4 fun r hr=>?_;rw [hc r (zA6.mp hr)]
  rw [e];have go:∀ m:Nat,(.(20).map fun (r:Nat)=>2*((r:Int)*((R:Int)+n r))+(t:Int)*(((R:Int)+n r)*(((R:Int)+n r) - 1))).sum=(R:Int)*((m:Int)*((m:Int) - 1))+2*ro m n+(t:Int)*((m:Int)*((R:Int)*((R:Int) - 1)))+(t:Int)*((2*(R:Int) - 1)*(.(20).map n).sum)+(t:Int)*sq m n:=by
   intro m;induction m with
   | zero=>simp [ro,sq]
   | succ m ih=>
     unfold ro sq at ih ⊢
     rw [zB2,zA3,zA3,zA3,zA3,zC2,zC2,zC2,zC2,ih]
     simp only [zB6,zF8,zB4,zI6,Int.add_zero]
     have e1:((m+1:Nat):Int)=(m:Int)+1:=by lia
     rw [e1]
     generalize (m:Int)=M
     generalize (R:Int)=Q
     generalize (t:Int)=T
     generalize n m=N
     generalize (.(20).map fun (r:Nat)=>(r:Int)*n r).sum=A
     generalize (.(20).map n).sum=B
     generalize (.(20).map fun (r:Nat)=>n r*n r).sum=C
     grind
  exact go t
 rw [h2,hn,Int.mul_zero,Int.mul_zero] at h1;generalize .(91).sum=S at h1 ⊢;generalize sq t n=A at h1 ⊢;generalize ro t n=B at h1 ⊢;generalize (t:Int)=T at h1 ⊢;generalize (R:Int)=Q at h1;grind
end M43
namespace K79
open PySem L2 M39 M40 M43
theorem cp {H H':Hp} {p:Addr} (y:Same H H') (h:H' p=none):H p=none:=by
 cases e:H p with
 | none=>rfl
 | some o=>
   have:=y _ _ e
   rw [h] at this
   cases this
def Tu (K:PySem.W.Frag) (H:Hp) (a:Addr) (ns:List Int) (k:Nat):Prop:=(H a=some (.tup .(27))/\ns.length<=k)\/(KTu K a .(27)/\0<ns.length/\ns.length<k)
theorem Tu.sq {K:PySem.W.Frag} {H H':Hp} {a:Addr} {ns:List Int} {k:Nat} (h:Tu K H a ns k) (y:Same H H'):SqT K H' a .(27):=by
 rcases h with ⟨h,_⟩ | ⟨h,_⟩
 · exact SqT.of (y _ _ h)
 · exact h.sq _
theorem Tu.le {K:PySem.W.Frag} {H:Hp} {a:Addr} {ns:List Int} {k:Nat} (h:Tu K H a ns k):ns.length<=k:=by rcases h with h | h <;> lia
theorem Tu.same {K:PySem.W.Frag} {H H':Hp} {a:Addr} {ns:List Int} {k:Nat} (h:Tu K H a ns k) (y:Same H H'):Tu K H' a ns k:=by
 rcases h with ⟨h,l⟩ | h
 · exact .inl ⟨y _ _ h,l⟩
 · exact .inr h
def rAddE (K:PySem.W.Frag):R2:=fun x y H Q=>u5 K x y H Q\/u6 K x y H Q
theorem vF {X:Cx}:OpR X (binaryOp .Add) (rAddE X.K):=fun pins s σ H x y v u Q I rx ry h=>h.elim (aG pins s σ H x y v u Q I rx ry) (nJ pins s σ H x y v u Q I rx ry)
theorem wH {K:PySem.W.Frag} {H:Hp} {a b:Addr} {ns:List Int} {k:Nat} {Q:VK} (h:Tu K H a ns k) (hb:H b=some (.tup (.(60).map V.int))) (hl:.(27).length+(.(60).map V.int).length<=sizeLine) (q:∀ r H',Same H H'->H' r=some (.tup (ns.map V.int++.(60).map V.int))->Q (.ref r) H'):rAddE K (.ref a) (.ref b) H Q:=by
 rcases h with ⟨h,_⟩ | ⟨h,h1,h2⟩
 · exact .inl (.inr ⟨_,_,h,hb,hl,q⟩)
 · refine .inr ⟨_,_,h.sq _,SqT.of hb,fun z=>?_,fun z=>?_,hl,fun p hp=>q p _ (Same.new hp _) ae⟩
   · have:=congrArg List.length z;rw [zA0] at this;have:ns.length=0:=this;lia
   · have:=congrArg List.length z;rw [zA0,zH1] at this;have:k - ns.length=0:=this;lia
structure Lls (H:Hp) (rs:List Addr) (lss:List (List Int)):Prop where
 len:rs.length=lss.length
 at_:∀ (i:Nat) (h1:i<rs.length) (h2:i<lss.length),H rs[i]=some (.lst (lss[i].map V.int))
 nd:rs.Nodup
theorem Lls.same {H H':Hp} {rs:List Addr} {lss:List (List Int)} (x:Lls H rs lss) (y:Same H H'):Lls H' rs lss:=⟨x.len,fun i h1 h2=>y _ _ (x.at_ i h1 h2),x.nd⟩
theorem Lls.set {H:Hp} {rs:List Addr} {lss:List (List Int)} {i:Nat} {ls:List Int} (x:Lls H rs lss) (h1:i<rs.length):Lls (upd H rs[i] (.lst (ls.map V.int))) rs (lss.set i ls):=by
 refine ⟨by rw [List.length_set];exact x.len,fun j h2 h3=>?_,x.nd⟩;rw [List.length_set] at h3;by_cases e:i=j
 · subst e;rw [ae,List.getElem_set_self]
 · have ne:rs[j]≠rs[i]:=fun z=>e ((List.getElem_inj x.nd).mp z).symm;rw [au ne,List.getElem_set_ne e];exact x.at_ j h2 h3
theorem Lls.mem {H:Hp} {rs:List Addr} {lss:List (List Int)} (x:Lls H rs lss) {r:Addr} (h:r∈rs):∃ xs,H r=some (.lst xs):=by
 obtain ⟨i,hi,rfl⟩:=zE7.mp h;exact ⟨_,x.at_ i hi (by rw [← x.len];exact hi)⟩
def But (rs:List Addr) (H H':Hp):Prop:=∀ b o,b∉rs->H b=some o->H' b=some o
theorem But.upd {rs:List Addr} {H H1:Hp} {r:Addr} {o:HO} (x:But rs H H1) (h:r∈rs):But rs H (upd H1 r o):=fun b u nb e=>by
 rw [au (show b≠r from fun z=>nb (by rw [z];exact h))];exact x b u nb e
section
variable {P:Program} {w:World} {K:PySem.W.Frag} {mg:Str->Option Value} {base:Heap} {f:Addr} {fd:FuncData}
theorem sc_beads_of:FnScope ["parting","many","parts"] ["parting","many"] (ag (top 6)):=.(0)
def ca (K:PySem.W.Frag):Sp:=fun vs H Q _=>∃ (a:Addr) (ns:List Int) (k:Nat),vs=[.ref a,.int k]/\Tu K H a ns k/\k<=900/\∀ p H',H p=none->Same H H'->H' p=some (.lst ((bd ns k).map V.int))->Q (.ref p) H'
theorem vC {ns:List Int} {k i:Nat} (hk:ns.length<=k) (hi:i<k):(ns.map V.int++.(60).map V.int)[i]? = some (.int (ns.getD i 0)):=by
 rw [← zA3,List.getElem?_map];by_cases h:i<ns.length
 · rw [List.getElem?_append_left h,List.getElem?_eq_getElem h,zA2,List.getElem?_eq_getElem h];rfl
 · rw [List.getElem?_append_right (by lia),List.getElem?_replicate,if_pos (by lia),zA2,List.getElem?_eq_none (by lia)];rfl
def wS (ns:List Int) (k m:Nat):List Int:=.(20).map fun (i:Nat)=>ns.getD i 0+k - 1 - i
theorem pA (ns:List Int) (k m:Nat):wS ns k (m+1)=wS ns k m++[ns.getD m 0+k - 1 - m]:=by unfold wS;rw [zB2,zA3];rfl
theorem sk (ns:List Int) (k m:Nat):(wS ns k m).length=m:=by unfold wS;rw [zA0,zC1]
theorem i9 (F:Fun K "beads_of" "beads_of" (top 6) f fd) (m_enumerate:mg "enumerate" = none) (m_len:.(79)):FnOk P w K mg base CX0 1 f fd ["parting","many"] (ca K):=by
 refine F.okz sc_beads_of .(16) .(3)
 · obtain ⟨a,ns,k,rfl,_⟩:=h;rfl
 obtain ⟨a,ns,k,rfl,ha,hk9,q⟩:=h;have hk:=ha.le;have nd:=sc_beads_of.nd;have hu:=hr.units;refine ⟨_,(ah (ay (i:=2) nd rfl .(12) (ax vF (zn 0) (ax aI (bq (aa am af)) (ax ba (zn 1) (js rfl m_len .(50) rfl rfl)))))
  (ai (aH (aV ["at","part"] [("many",1)] rfl .(4) (cD rfl m_enumerate (aa (zn 2) af)) dH (fun _ _ _ _=>cr rfl (aB (aj (i:=0) (show List.Nodup (["at","part","many"]:List Str) by decide +kernel) rfl .(12)) (aB (aj (i:=1) (show List.Nodup (["at","part","many"]:List Str) by decide +kernel) rfl .(12)) bB))) .(37) (fun _ _ _ _=>(ax ba (ax ba (ax aG (zn 1) (zn 2)) am) (zn 0))))))),?_⟩
 sleep 9;have yd:=Same.new hd (.tup [V.int 0]);refine ⟨_,.inr (ha.sq yd),?_⟩;rw [zA0];have ek:((k:Int) - (ns.length:Int)).toNat=k - ns.length:=by lia
 refine ⟨.(40),.inr ⟨_,ae,cm (by rw [ek];show 1*(k - ns.length)<=1000;lia),fun r H1 y1 hr1=>?_⟩⟩;rw [cc,ek] at hr1;refine wH (ha.same (yd.trans y1)) hr1 (cm (by rw [zA0,zA0,zH1];lia)) fun r2 H2 y2 hr2=>?_;have hlen:(ns.map V.int++.(60).map V.int).length=k:=by rw [zA5,zA0,zA0,zH1];lia
 have yy:=(yd.trans y1).trans y2;refine ⟨true,_,SqK.tup hr2,dk (xs:=ns.map V.int++.(60).map V.int) (fun i zs H'=>Same H2 H'/\zs=(wS ns k i).map V.int) ⟨Same.refl _,rfl⟩ ?_ ?_ ?_ ?_⟩
 · rintro i zs H' _ ⟨y,_⟩;exact SqK.tup (y _ _ hr2)
 · rintro i zs H' hi ⟨_,rfl⟩;rw [zA0,sk];exact ao (by lia)
 · rintro i x zs H' p hx ⟨y,rfl⟩ hp;have hi:i<k:=by rw [← hlen];exact (List.getElem?_eq_some_iff.mp hx).1
   have ex:x=.int (ns.getD i 0):=by rw [vC hk hi] at hx;exact .(25).symm
   subst ex;sleep 22;refine ⟨y.trans (Same.new hp _),?_⟩;rw [pA,zA3];rfl
 · rintro zs H' ⟨y,rfl⟩ D hD;rw [hlen];refine q D _ ?_ ((yy.trans y).trans (Same.new hD _)) ae
   cases e:H D with
   | none=>rfl
   | some o=>have:=(yy.trans y) D o e;rw [hD] at this;cases this
theorem sc_rounds_of:FnScope ["parting","t"] ["parting","t"] (ag (top 8)):=.(0)
def bv (K:PySem.W.Frag):Sp:=fun vs H Q _=>∃ (a:Addr) (ns:List Int) (t:Nat),vs=[.ref a,.int t]/\SqT K H a .(27)/\0<t/\t<=100/\Q (.int (rd ns t)) H
theorem rd_int (ns:List Int) {t:Nat} (ht:0<t):((ns.length:Int)+(t:Int) - 1) / (t:Int)=(rd ns t:Int):=by
 unfold rd;rw [Int.natCast_ediv];congr 1;lia
theorem ij (F:Fun K "rounds_of" "rounds_of" (top 8) f fd) (m_len:.(79)):FnOk P w K mg base CX0 1 f fd ["parting","t"] (bv K):=by
 refine F.okz sc_rounds_of .(16) .(3)
 · sleep 17
 obtain ⟨a,ns,t,rfl,ha,ht,ht1,q⟩:=h;have nd:=sc_rounds_of.nd;refine ⟨_,(ai (aH (ax bf (ax ba (ax nJ (js rfl m_len .(50) rfl rfl) (zn 1)) am) (zn 1)))),?_⟩;refine ⟨_,.inr ha,.(40),?_⟩;rw [zA0];show Q (.int (((ns.length:Int)+(t:Int) - 1) / (t:Int))) H;rw [rd_int ns ht];exact q
def rn (bs:List Int) (t r:Nat):List Int:=(bs.filter fun b=>decide .(28)).map fun b=>b / (t:Int)
def rns (bs:List Int) (t:Nat):List (List Int):=.(8).map fun r=>rn bs t r
theorem cx (bs:List Int) (t:Nat):(rns bs t).length=t:=by unfold rns;rw [zA0,zC1]
theorem eQ (bs:List Int) {t i:Nat} (h:i<(rns bs t).length):(rns bs t)[i]=rn bs t i:=by simp [rns]
theorem qr (bs:List Int) (b:Int) {t:Nat} (ht:0<t):rns (bs++[b]) t=(rns bs t).set (b % (t:Int)).toNat (rn bs t (b % (t:Int)).toNat++[b / (t:Int)]):=by
 have h0:0<=b % (t:Int):=zE5 _ (by lia);have h1:b % (t:Int)<t:=zE3 _ (by lia);refine zD2 (by rw [List.length_set,cx,cx]) fun i hi1 hi2=>?_;rw [eQ,List.getElem_set];have e:rn (bs++[b]) t i=if (b % (t:Int)).toNat=i then rn bs t i++[b / (t:Int)] else rn bs t i:=by
  unfold rn;rw [zG4,zA3,List.filter_cons];by_cases h:(b % (t:Int)).toNat=i
  · rw [if_pos h,if_pos (decide_eq_true (by lia))];rfl
  · rw [if_neg h,if_neg (by simp;lia)];simp
 rw [e];by_cases h:(b % (t:Int)).toNat=i
 · rw [if_pos h,if_pos h,h]
 · rw [if_neg h,if_neg h,eQ]
theorem sc_runs_of:FnScope ["parting","t","rounds","runs","bead"] ["parting","t","rounds"] (ag (top 9)):=.(0)
def bS (K:PySem.W.Frag):Sp:=fun vs H Q _=>∃ (a:Addr) (ns:List Int) (t k:Nat),vs=[.ref a,.int t,.int k]/\Tu K H a ns (t*k)/\0<t/\t<=100/\t*k<=900/\∀ p rs H',H p=none->(∀ r∈rs,H r=none)->Same H H'->H' p=some (.lst (rs.map V.ref))->Lls H' rs (rns (bd ns (t*k)) t)->Q (.ref p) H'
theorem kT (F:Fun K "runs_of" "runs_of" (top 9) f fd) (m_range:.(81)) (F_beads_of:FnA P w K mg base "beads_of" 1 ["parting","many"] (ca K)):FnOk P w K mg base CX0 2 f fd ["parting","t","rounds"] (bS K):=by
 refine F.okz sc_runs_of .(16) .(3)
 · obtain ⟨a,ns,t,k,rfl,_⟩:=h;rfl
 obtain ⟨a,ns,t,k,rfl,ha,ht,ht1,hk9,q⟩:=h;have hk:=ha.le;have nd:=sc_runs_of.nd;have hu:=hr.units;refine ⟨_,(ah (cC (i:=3) ["rest"] [] rfl nd rfl .(12) .(4) (bO rfl m_range (aa (zn 1) af)) aQ (fun _ _ _ _=>aj (i:=0) (show List.Nodup (["rest"]:List Str) by decide +kernel) rfl .(12)) .(37) (fun _ _ _ _=>(bP af)))
  (ah (bE PassesOwn.never rfl (bF (az F_beads_of hr (by decide) rfl (aa (zn 0) (aa (ax aI (zn 1) (zn 2)) af)))) (aj (i:=4) nd rfl .(12)) (ai (dA (bN (cJ dz (zn 3) (ax bn (zn 4) (zn 1)) .(33)) (aa (ax bf (zn 4) (zn 1)) af)))))
  (ai (aH (zn 3))))),?_⟩
 refine ⟨t,rfl,by lia,by lia,iG (fun i zs H'=>Same H H'/\∃ rs:List Addr,zs=rs.map V.ref/\rs.length=i/\rs.Nodup/\∀ r∈rs,H r=none/\H' r=some (.lst [])) ⟨Same.refl H,[],rfl,rfl,List.nodup_nil,by simp⟩ ?_ ?_⟩
 · rintro i zs H' hi ⟨y,rs,rfl,hl,hnd,hrs⟩;refine ⟨by rw [zA0];exact ao (by lia),?_⟩;refine ⟨zC5 _,fun d hd=>?_⟩;have dr:d∉rs:=fun z=>by have:=(hrs d z).2;rw [hd] at this;cases this
   refine ⟨y.trans (Same.new hd _),rs++[d],by rw [zA3];rfl,by rw [zA5,hl];rfl,?_,fun r hr'=>?_⟩
   · rw [List.nodup_append];refine ⟨hnd,by simp,fun x hx z hz=>?_⟩;have:z=d:=by simpa using hz
     subst this;exact fun e=>dr (e▸hx)
   · rcases zD4.mp hr' with hr' | hr'
     · refine ⟨(hrs r hr').1,?_⟩;rw [au (show r≠d from fun z=>dr (by rw [← z];exact hr'))];exact (hrs r hr').2
     · have:r=d:=by simpa using hr'
       subst this;refine ⟨?_,ae⟩
       cases e:H r with
       | none=>rfl
       | some o=>have:=y r o e;rw [hd] at this;cases this
 · rintro zs H' ⟨y,rs,rfl,hl,hnd,hrs⟩ L hL;have eT:((t:Int)).toNat=t:=by lia
   rw [eT] at hl;have yL:=Same.new hL (.lst (rs.map V.ref));have hLn:L∉rs:=fun z=>by have:=(hrs L z).2;rw [hL] at this;cases this
   have lls0:Lls (upd H' L (.lst (rs.map V.ref))) rs (rns [] t):=by
    refine ⟨by rw [hl,cx],fun i h1 h2=>?_,hnd⟩;rw [eQ];exact yL _ _ (hrs _ (zC0 h1)).2
   have hLL:upd H' L (.lst (rs.map V.ref)) L=some (.lst (rs.map V.ref)):=ae;have y0:=y.trans yL;generalize upd H' L (.lst (rs.map V.ref))=H1 at lls0 hLL y0;refine ⟨IntMulOk.of_right (intBits_le_64 (by lia) ?_),?_⟩
   · have:k<=t*k:=Nat.le_mul_of_pos_left k ht;lia
   refine ⟨a,ns,t*k,by rw [zI5],ha.same y0,hk9,fun B H2 hB y2 hBl=>?_⟩;have lls2:=lls0.same y2;have hL2:=y2 _ _ hLL;have BL:B≠L:=fun z=>by rw [z,hLL] at hB;cases hB
   have Brs:B∉rs:=fun z=>by obtain ⟨xs,e⟩:=lls0.mem z;rw [hB] at e;cases e
   have bl:(bd ns (t*k)).length<=900:=by rw [bi];exact hk9
   generalize bd ns (t*k)=bs at hBl q bl;have key:∀ r∈rs,H r=none:=fun r hr'=>(hrs r hr').1;refine ⟨B,rfl,⟨_,SqL.of hBl⟩,cG (xs:=bs.map V.int) (fun i σ H'=>But rs H2 H'/\Lls H' rs (rns (bs.take i) t)/\∃ x4,σ=[some (.ref a),some (.int t),some (.int k),some (.ref L),x4]) ⟨fun _ _ _ e=>e,lls2,_,rfl⟩ ?_ ?_ ?_⟩
   · rintro i σ H' _ ⟨bt,_⟩;exact SqL.of (bt _ _ Brs hBl)
   · rintro i x σ H' hx ⟨bt,ll,x4,rfl⟩;have hi:i<bs.length:=by
      sleep 0;rw [zA0] at this;exact this
     have ex:x=.int bs[i]:=by rw [fP hi] at hx;exact .(25).symm
     subst ex;have h0:0<=bs[i] % (t:Int):=zE5 _ (by lia);have h1:bs[i] % (t:Int)<t:=zE3 _ (by lia);have hj:(bs[i] % (t:Int)).toNat<rs.length:=by lia
     have hj2:(bs[i] % (t:Int)).toNat<(rns (bs.take i) t).length:=by rw [cx];lia
     refine ⟨(show (0:Int)<t by lia),?_⟩;refine ⟨_,.inl (SqL.of (bt _ _ hLn hL2)),.ref rs[(bs[i] % (t:Int)).toNat],bx (j:=(bs[i] % (t:Int)).toNat) (by lia) (by rw [List.getElem?_map,List.getElem?_eq_getElem hj];rfl),?_⟩;have hcell:=ll.at_ _ hj hj2;rw [eQ] at hcell;refine ⟨tyL hcell,.(40),?_⟩;refine ⟨_,hcell,?_,?_⟩
     · rw [zA0];unfold rn;rw [zA0];have:=List.length_filter_le (fun b=>decide (b % (t:Int)=((bs[i] % (t:Int)).toNat:Int))) (bs.take i);rw [zB9] at this;exact ao (by lia)
     · refine ⟨bt.upd (zC0 hj),?_,_,rfl⟩;have:=ll.set (ls:=rn (bs.take i) t (bs[i] % (t:Int)).toNat++[bs[i] / (t:Int)]) hj;rw [zD3,List.getElem?_eq_getElem hi];show Lls _ rs (rns (bs.take i++[bs[i]]) t);rw [qr _ _ ht];rw [zA3] at this;exact this
   · rintro σ H' ⟨bt,ll,x4,rfl⟩;rw [zA0,zB8 (zA1 _)] at ll;refine q L rs H' (cp y hL) key (fun b o e=>?_) (bt _ _ hLn hL2) ll;refine bt b o (fun z=>?_) (y2 _ _ (y0 _ _ e));have:=key b z;rw [e] at this
     cases this
end
theorem sS (ns:List Int) (k t r:Nat):(rn (bd ns k) t r).length=ct ns k t r:=by
 unfold rn ct;rw [zA0,List.countP_eq_length_filter]
section
variable {P:Program} {w:World} {K:PySem.W.Frag} {mg:Str->Option Value} {base:Heap} {f:Addr} {fd:FuncData}
theorem sc_vector:FnScope ["parting","t","rounds"] ["parting","t"] (ag (top 11)):=.(0)
def cY (K:PySem.W.Frag):Sp:=fun vs H Q _=>∃ (a:Addr) (ns:List Int) (t:Nat),vs=[.ref a,.int t]/\Tu K H a ns (t*rd ns t)/\ns.length<=400/\0<t/\t<=100/\∀ r H',Same H H'->H' r=some (.tup ((vec ns t).map V.int))->Q (.ref r) H'
def kF (ns:List Int) (t m:Nat):List Int:=.(20).map fun (r:Nat)=>(ct ns (t*rd ns t) t r:Int) - rd ns t
theorem kE (ns:List Int) (t m:Nat):kF ns t (m+1)=kF ns t m++[(ct ns (t*rd ns t) t m:Int) - rd ns t]:=by unfold kF;rw [zB2,zA3];rfl
theorem lZ (ns:List Int) (t m:Nat):(kF ns t m).length=m:=by unfold kF;rw [zA0,zC1]
theorem nL (F:Fun K "vector" "vector" (top 11) f fd) (m_len:.(79)) (m_tuple:.(99)) (F_rounds_of:FnA P w K mg base "rounds_of" 1 ["parting","t"] (bv K)) (F_runs_of:FnA P w K mg base "runs_of" 2 ["parting","t","rounds"] (bS K)):FnOk P w K mg base CX0 3 f fd ["parting","t"] (cY K):=by
 refine F.okz sc_vector .(16) .(3)
 · sleep 17
 obtain ⟨a,ns,t,rfl,ha,hl,ht,ht1,q⟩:=h;have nd:=sc_vector.nd;have hu:=hr.units;have r1:=g9 ns ht;have r2:=uY ns ht;refine ⟨_,(ah (ay (i:=2) nd rfl (Or.inr rfl) (az F_rounds_of hr (by decide) rfl .(31)))
  (ai (aH (be rfl m_tuple (aa (aV ["run"] [("rounds",2)] rfl .(4) (bF (az F_runs_of hr (by decide) rfl (aa (zn 0) (aa (zn 1) (aa (zn 2) af))))) aQ (fun _ _ _ _=>aj (i:=0) (show List.Nodup (["run","rounds"]:List Str) by decide +kernel) rfl .(12)) .(37) (fun _ _ _ _=>(ax ba (fV rfl m_len .(50) rfl rfl rfl) (zn 1)))) af) rfl rfl)))),?_⟩
 refine ⟨a,ns,t,rfl,ha.sq (Same.refl _),ht,ht1,?_⟩;refine ⟨a,ns,t,rd ns t,rfl,ha,ht,ht1,by lia,fun p rs H1 _ _ y1 hp ll=>?_⟩;have hl':rs.length=t:=by rw [ll.len,cx]
 refine ⟨p,rfl,⟨_,SqL.of hp⟩,cH (xs:=rs.map V.ref) (fun i zs H'=>H'=H1/\zs=(kF ns t i).map V.int) ⟨rfl,rfl⟩ ?_ ?_ ?_⟩
 · rintro i zs H' _ ⟨rfl,_⟩;exact SqL.of hp
 · rintro i x zs H' hx ⟨rfl,rfl⟩;have hi:i<rs.length:=by
    sleep 0;rw [zA0] at this;exact this
   sleep 27;subst ex;have hc:=ll.at_ i hi (by rw [cx];lia);rw [eQ] at hc;refine ⟨by rw [zA0,lZ];exact ao (by lia),?_⟩;refine ⟨_,.inl (SqL.of hc),?_⟩;refine ⟨rfl,?_⟩;rw [zA0,sS,kE,zA3];rfl
 · rintro zs H' ⟨rfl,rfl⟩ D hD;rw [zA0,hl'];refine ⟨_,.inl (SqL.of ae),fun r H2 y2 hr2=>?_⟩;exact q r H2 ((y1.trans (Same.new hD _)).trans y2) hr2
end
def Bt (n:Int):Prop:=Builtin.Int.intBits n<=2 ^ 10
theorem bt_of {n:Int} (h1:-(10 ^ 61)<n) (h2:n<10 ^ 61):Bt n:=by
 refine zD5 (intBits_le_iff (m:=250).mpr ?_) (by decide);have h3:(10:Int) ^ 61<=((2 ^ 250:Nat):Int):=by decide
 lia
theorem Bt.m {a b:Int} (h1:Bt a) (h2:Bt b):IntMulOk a b:=IntMulOk.of_bits (zD5 h1 (by decide)) (zD5 h2 (by decide))
def nf (ns:List Int) (r:Nat):Int:=ns.getD r 0
theorem cj {ns:List Int} {i:Nat} (h:i<ns.length):nf ns i=ns[i]:=by unfold nf;rw [zA2,List.getElem?_eq_getElem h];rfl
theorem ci (ns:List Int):(List.range ns.length).map (nf ns)=ns:=by
 refine zD2 (by simp) fun i h1 h2=>?_;rw [zG8,zG5,cj h2]
def sz (ns:List Int):Int:=((ns.length:Int)*sq ns.length (nf ns)) / 2+ro ns.length (nf ns)
section
variable {P:Program} {w:World} {K:PySem.W.Frag} {mg:Str->Option Value} {base:Heap} {f:Addr} {fd:FuncData}
theorem sc_sz:FnScope ["numbers","squares"] ["numbers"] (ag (top 15)):=.(0)
def uB:Sp:=fun vs H Q _=>∃ (a:Addr) (ns:List Int),vs=[.ref a]/\H a=some (.tup .(27))/\ns.length<=100/\(∀ n∈ns,Bt n)/\∀ H',Same H H'->Q (.int (sz ns)) H'
def sqTo (ns:List Int) (m:Nat):List Int:=.(20).map fun (r:Nat)=>nf ns r*nf ns r
def wR (ns:List Int) (m:Nat):List Int:=.(20).map fun (r:Nat)=>(r:Int)*nf ns r
theorem ok_sz (F:Fun K "size_of" "size_of" (top 15) f fd) (m_enumerate:mg "enumerate" = none) (m_len:.(79)) (m_sum:mg "sum" = none):FnOk P w K mg base CX0 1 f fd ["numbers"] uB:=by
 refine F.okz sc_sz .(16) .(3)
 · obtain ⟨a,ns,rfl,_⟩:=h;rfl
 obtain ⟨a,ns,rfl,ha,hl,hb,q⟩:=h;have nd:=sc_sz.nd;have hu:=hr.units;refine ⟨_,(ah (ay (i:=1) nd rfl .(12) (dB rfl rfl m_sum (aa (aV ["number"] [] rfl .(4) (dM (zn 0)) aQ (fun _ _ _ _=>aj (i:=0) (show List.Nodup (["number"]:List Str) by decide +kernel) rfl .(12)) .(37) (fun _ _ _ _=>(ax aI (zn 0) (zn 0)))) af) rfl rfl))
  (ai (aH (ax aG (ax bf (ax aI (bK rfl m_len .(50) rfl rfl) (zn 1)) am) (dB rfl rfl m_sum (aa (aV ["rest","number"] [] rfl .(4) (cD rfl m_enumerate .(50)) dH (fun _ _ _ _=>cr rfl (aB (aj (i:=0) (show List.Nodup (["rest","number"]:List Str) by decide +kernel) rfl .(12)) (aB (aj (i:=1) (show List.Nodup (["rest","number"]:List Str) by decide +kernel) rfl .(12)) bB))) .(37) (fun _ _ _ _=>(ax aI (zn 0) (zn 1)))) af) rfl rfl))))),?_⟩
 refine ⟨a,rfl,⟨_,SqT.of ha⟩,cR (xs:=ns.map V.int) (fun i zs H'=>H'=H/\zs=(sqTo ns i).map V.int) ⟨rfl,rfl⟩ ?_ ?_ ?_⟩
 · rintro i zs H' _ ⟨rfl,_⟩;exact SqT.of ha
 · rintro i x zs H' hx ⟨rfl,rfl⟩;have hi:i<ns.length:=by
    sleep 0;rw [zA0] at this;exact this
   sleep 35;subst ex;refine ⟨by rw [zA0];unfold sqTo;rw [zA0,zC1];exact ao (by lia),?_⟩;refine ⟨(hb _ (zC0 hi)).m (hb _ (zC0 hi)),?_⟩;refine ⟨rfl,?_⟩;unfold sqTo;rw [zB2,zA3,zA3];show _++[V.int (ns[i]*ns[i])]=_++[V.int (nf ns i*nf ns i)]
   rw [cj hi]
 · rintro zs H' ⟨rfl,rfl⟩ D hD;rw [zA0];have yD:=Same.new hD (.lst ((sqTo ns ns.length).map V.int));refine ⟨_,.inl (SqL.of ae),?_⟩;have ha1:=yD _ _ ha;generalize upd H' D (.lst ((sqTo ns ns.length).map V.int))=H1 at ha1 yD;refine ⟨_,.inr ha1,?_⟩;rw [zA0];refine ⟨nR (by lia) (by lia),⟨by decide,by decide⟩,?_⟩;refine ⟨true,_,SqK.tup ha1,dk (xs:=ns.map V.int) (fun i zs H'=>Same H1 H'/\zs=(wR ns i).map V.int) ⟨Same.refl _,rfl⟩ ?_ ?_ ?_ ?_⟩
   · rintro i zs H' _ ⟨y,_⟩;exact SqK.tup (y _ _ ha1)
   · rintro i zs H' hi ⟨_,rfl⟩;rw [zA0] at hi ⊢;unfold wR;rw [zA0,zC1];exact ao (by lia)
   · rintro i x zs H' p hx ⟨y,rfl⟩ hp;have hi:i<ns.length:=by
      sleep 0;rw [zA0] at this;exact this
     sleep 35;subst ex;sleep 22;refine ⟨nR (by lia) (by lia),?_⟩;refine ⟨y.trans (Same.new hp _),?_⟩;unfold wR;rw [zB2,zA3,zA3];show _++[V.int ((i:Int)*ns[i])]=_++[V.int ((i:Int)*nf ns i)]
     rw [cj hi]
   · rintro zs H2 ⟨y,rfl⟩ D2 hD2;rw [zA0];refine ⟨_,.inl (SqL.of ae),?_⟩;exact q _ ((yD.trans y).trans (Same.new hD2 _))
end
end K79
namespace M48
open M39 M43
def r5:List (List Int):=[[4],[2,2],[1,1,1,1],[2,1,1],[3,1]]
def r7:List (List Int):=[[5],[3,1,1],[1,1,1,1,1],[3,2],[2,1,1,1],[4,1],[2,2,1]]
def r11:List (List Int):=[[6],[2,2,2],[3,1,1,1],[4,2],[2,1,1,1,1],[3,2,1],[5,1],[2,2,1,1],[4,1,1],[3,3],[1,1,1,1,1,1]]
def RD:List (Int×List (List Int)):=[(5,r5),(7,r7),(11,r11)]
def rnd (t:Nat):List (List Int):=if t=5 then r5 else if t=7 then r7 else r11
def cw (t:Nat):Int:=if t=5 then 4 else if t=7 then 5 else 6
def T3 (t:Nat):Prop:=t=5\/t=7\/t=11
theorem m9 {t:Nat} (h:T3 t):RD.lookup (t:Int)=some (rnd t):=by rcases h with rfl | rfl | rfl <;> rfl
def vks (t:Nat):List (List Int):=(rnd t).map fun ns=>vec ns t
def vk (t k r:Nat):Int:=((vks t).getD k []).getD r 0
def dt (t:Nat) (f:Nat->Int) (i r:Nat):Int:=((List.range i).map fun (k:Nat)=>f k*vk t k r).sum
def vby (t:Nat) (f:Nat->Int):List Int:=.(8).map fun (r:Nat)=>dt t f t r
theorem wj (t:Nat) (f:Nat->Int) (i r:Nat):dt t f (i+1) r=dt t f i r+f i*vk t i r:=by unfold dt;rw [zB2,zA3,zC2];simp
theorem wg (t:Nat) (f:Nat->Int) (r:Nat):dt t f 0 r=0:=rfl
theorem gb (t:Nat) (f:Nat->Int):(vby t f).length=t:=by unfold vby;simp
theorem mY {t:Nat} (h:T3 t):(rnd t).length=t:=by rcases h with rfl | rfl | rfl <;> rfl
theorem fY {t:Nat} (h:T3 t):(vks t).length=t:=by unfold vks;rw [zA0,mY h]
theorem rnd_ok {t:Nat} (h:T3 t):∀ ns∈rnd t,0<ns.length/\ns.length<t:=by rcases h with rfl | rfl | rfl <;> decide
theorem sF {t:Nat} (h:T3 t):∀ vs∈vks t,∀ x∈vs,-20<=x/\x<=20:=by rcases h with rfl | rfl | rfl <;> decide +kernel
def nb (t:Nat) (f:Nat->Int):Int:=(.(8).map fun (k:Nat)=>f k*(f k - f ((k+t - 1) % t))).sum
def qs (t:Nat) (f:Nat->Int):Int:=(t:Int)*nb t f - t+cw t
theorem e5:vks 5=[[0,0,0,1,-1],[1,1,0,-1,-1],[1,-1,0,0,0],[0,1,-1,0,0],[0,0,1,-1,0]]:=by decide +kernel
theorem d5_0 (f:Nat->Int):dt 5 f 5 0=f 1+f 2:=by
 show f 0*vk 5 0 0+(f 1*vk 5 1 0+(f 2*vk 5 2 0+(f 3*vk 5 3 0+(f 4*vk 5 4 0+0))))=_;rw [show vk 5 0 0=0 by unfold vk;rw [e5];rfl,show vk 5 1 0=1 by unfold vk;rw [e5];rfl,show vk 5 2 0=1 by unfold vk;rw [e5];rfl,show vk 5 3 0=0 by unfold vk;rw [e5];rfl,show vk 5 4 0=0 by unfold vk;rw [e5];rfl];lia
theorem d5_1 (f:Nat->Int):dt 5 f 5 1=f 1 + -(f 2)+f 3:=by
 show f 0*vk 5 0 1+(f 1*vk 5 1 1+(f 2*vk 5 2 1+(f 3*vk 5 3 1+(f 4*vk 5 4 1+0))))=_;rw [show vk 5 0 1=0 by unfold vk;rw [e5];rfl,show vk 5 1 1=1 by unfold vk;rw [e5];rfl,show vk 5 2 1=-1 by unfold vk;rw [e5];rfl,show vk 5 3 1=1 by unfold vk;rw [e5];rfl,show vk 5 4 1=0 by unfold vk;rw [e5];rfl];lia
theorem d5_2 (f:Nat->Int):dt 5 f 5 2=-(f 3)+f 4:=by
 show f 0*vk 5 0 2+(f 1*vk 5 1 2+(f 2*vk 5 2 2+(f 3*vk 5 3 2+(f 4*vk 5 4 2+0))))=_;rw [show vk 5 0 2=0 by unfold vk;rw [e5];rfl,show vk 5 1 2=0 by unfold vk;rw [e5];rfl,show vk 5 2 2=0 by unfold vk;rw [e5];rfl,show vk 5 3 2=-1 by unfold vk;rw [e5];rfl,show vk 5 4 2=1 by unfold vk;rw [e5];rfl];lia
theorem d5_3 (f:Nat->Int):dt 5 f 5 3=f 0 + -(f 1) + -(f 4):=by
 show f 0*vk 5 0 3+(f 1*vk 5 1 3+(f 2*vk 5 2 3+(f 3*vk 5 3 3+(f 4*vk 5 4 3+0))))=_;rw [show vk 5 0 3=1 by unfold vk;rw [e5];rfl,show vk 5 1 3=-1 by unfold vk;rw [e5];rfl,show vk 5 2 3=0 by unfold vk;rw [e5];rfl,show vk 5 3 3=0 by unfold vk;rw [e5];rfl,show vk 5 4 3=-1 by unfold vk;rw [e5];rfl];lia
theorem d5_4 (f:Nat->Int):dt 5 f 5 4=-(f 0) + -(f 1):=by
 show f 0*vk 5 0 4+(f 1*vk 5 1 4+(f 2*vk 5 2 4+(f 3*vk 5 3 4+(f 4*vk 5 4 4+0))))=_;rw [show vk 5 0 4=-1 by unfold vk;rw [e5];rfl,show vk 5 1 4=-1 by unfold vk;rw [e5];rfl,show vk 5 2 4=0 by unfold vk;rw [e5];rfl,show vk 5 3 4=0 by unfold vk;rw [e5];rfl,show vk 5 4 4=0 by unfold vk;rw [e5];rfl];lia
theorem size5 (f:Nat->Int) (h:f 0+f 1+f 2+f 3+f 4=1):(5:Int)*sq 5 (dt 5 f 5)+2*ro 5 (dt 5 f 5)=2*qs 5 f:=by
 have hl:f 4=1 - (f 0+f 1+f 2+f 3):=by lia
 have h1:sq 5 (dt 5 f 5)=dt 5 f 5 0*dt 5 f 5 0+(dt 5 f 5 1*dt 5 f 5 1+(dt 5 f 5 2*dt 5 f 5 2+(dt 5 f 5 3*dt 5 f 5 3+(dt 5 f 5 4*dt 5 f 5 4+0)))):=rfl;have h2:ro 5 (dt 5 f 5)=0*dt 5 f 5 0+(1*dt 5 f 5 1+(2*dt 5 f 5 2+(3*dt 5 f 5 3+(4*dt 5 f 5 4+0)))):=rfl;have h3:qs 5 f=5*(f 0*(f 0 - f 4)+(f 1*(f 1 - f 0)+(f 2*(f 2 - f 1)+(f 3*(f 3 - f 2)+(f 4*(f 4 - f 3)+0))))) - 5+4:=rfl;rw [h1,h2,h3,d5_0,d5_1,d5_2,d5_3,d5_4,hl];generalize f 0=x0;generalize f 1=x1;generalize f 2=x2;generalize f 3=x3;grind
theorem e7:vks 7=[[0,0,0,0,1,0,-1],[0,0,1,0,-1,0,0],[1,0,-1,0,0,0,0],[1,0,1,0,0,-1,-1],[0,1,0,-1,0,0,0],[0,0,0,1,0,-1,0],[1,1,0,0,-1,0,-1]]:=by decide +kernel
theorem d7_0 (f:Nat->Int):dt 7 f 7 0=f 2+f 3+f 6:=by
 show f 0*vk 7 0 0+(f 1*vk 7 1 0+(f 2*vk 7 2 0+(f 3*vk 7 3 0+(f 4*vk 7 4 0+(f 5*vk 7 5 0+(f 6*vk 7 6 0+0))))))=_;rw [show vk 7 0 0=0 by unfold vk;rw [e7];rfl,show vk 7 1 0=0 by unfold vk;rw [e7];rfl,show vk 7 2 0=1 by unfold vk;rw [e7];rfl,show vk 7 3 0=1 by unfold vk;rw [e7];rfl,show vk 7 4 0=0 by unfold vk;rw [e7];rfl,show vk 7 5 0=0 by unfold vk;rw [e7];rfl,show vk 7 6 0=1 by unfold vk;rw [e7];rfl];lia
theorem d7_1 (f:Nat->Int):dt 7 f 7 1=f 4+f 6:=by
 show f 0*vk 7 0 1+(f 1*vk 7 1 1+(f 2*vk 7 2 1+(f 3*vk 7 3 1+(f 4*vk 7 4 1+(f 5*vk 7 5 1+(f 6*vk 7 6 1+0))))))=_;rw [show vk 7 0 1=0 by unfold vk;rw [e7];rfl,show vk 7 1 1=0 by unfold vk;rw [e7];rfl,show vk 7 2 1=0 by unfold vk;rw [e7];rfl,show vk 7 3 1=0 by unfold vk;rw [e7];rfl,show vk 7 4 1=1 by unfold vk;rw [e7];rfl,show vk 7 5 1=0 by unfold vk;rw [e7];rfl,show vk 7 6 1=1 by unfold vk;rw [e7];rfl];lia
theorem d7_2 (f:Nat->Int):dt 7 f 7 2=f 1 + -(f 2)+f 3:=by
 show f 0*vk 7 0 2+(f 1*vk 7 1 2+(f 2*vk 7 2 2+(f 3*vk 7 3 2+(f 4*vk 7 4 2+(f 5*vk 7 5 2+(f 6*vk 7 6 2+0))))))=_;rw [show vk 7 0 2=0 by unfold vk;rw [e7];rfl,show vk 7 1 2=1 by unfold vk;rw [e7];rfl,show vk 7 2 2=-1 by unfold vk;rw [e7];rfl,show vk 7 3 2=1 by unfold vk;rw [e7];rfl,show vk 7 4 2=0 by unfold vk;rw [e7];rfl,show vk 7 5 2=0 by unfold vk;rw [e7];rfl,show vk 7 6 2=0 by unfold vk;rw [e7];rfl];lia
theorem d7_3 (f:Nat->Int):dt 7 f 7 3=-(f 4)+f 5:=by
 show f 0*vk 7 0 3+(f 1*vk 7 1 3+(f 2*vk 7 2 3+(f 3*vk 7 3 3+(f 4*vk 7 4 3+(f 5*vk 7 5 3+(f 6*vk 7 6 3+0))))))=_;rw [show vk 7 0 3=0 by unfold vk;rw [e7];rfl,show vk 7 1 3=0 by unfold vk;rw [e7];rfl,show vk 7 2 3=0 by unfold vk;rw [e7];rfl,show vk 7 3 3=0 by unfold vk;rw [e7];rfl,show vk 7 4 3=-1 by unfold vk;rw [e7];rfl,show vk 7 5 3=1 by unfold vk;rw [e7];rfl,show vk 7 6 3=0 by unfold vk;rw [e7];rfl];lia
theorem d7_4 (f:Nat->Int):dt 7 f 7 4=f 0 + -(f 1) + -(f 6):=by
 show f 0*vk 7 0 4+(f 1*vk 7 1 4+(f 2*vk 7 2 4+(f 3*vk 7 3 4+(f 4*vk 7 4 4+(f 5*vk 7 5 4+(f 6*vk 7 6 4+0))))))=_;rw [show vk 7 0 4=1 by unfold vk;rw [e7];rfl,show vk 7 1 4=-1 by unfold vk;rw [e7];rfl,show vk 7 2 4=0 by unfold vk;rw [e7];rfl,show vk 7 3 4=0 by unfold vk;rw [e7];rfl,show vk 7 4 4=0 by unfold vk;rw [e7];rfl,show vk 7 5 4=0 by unfold vk;rw [e7];rfl,show vk 7 6 4=-1 by unfold vk;rw [e7];rfl];lia
theorem d7_5 (f:Nat->Int):dt 7 f 7 5=-(f 3) + -(f 5):=by
 show f 0*vk 7 0 5+(f 1*vk 7 1 5+(f 2*vk 7 2 5+(f 3*vk 7 3 5+(f 4*vk 7 4 5+(f 5*vk 7 5 5+(f 6*vk 7 6 5+0))))))=_;rw [show vk 7 0 5=0 by unfold vk;rw [e7];rfl,show vk 7 1 5=0 by unfold vk;rw [e7];rfl,show vk 7 2 5=0 by unfold vk;rw [e7];rfl,show vk 7 3 5=-1 by unfold vk;rw [e7];rfl,show vk 7 4 5=0 by unfold vk;rw [e7];rfl,show vk 7 5 5=-1 by unfold vk;rw [e7];rfl,show vk 7 6 5=0 by unfold vk;rw [e7];rfl];lia
theorem d7_6 (f:Nat->Int):dt 7 f 7 6=-(f 0) + -(f 3) + -(f 6):=by
 show f 0*vk 7 0 6+(f 1*vk 7 1 6+(f 2*vk 7 2 6+(f 3*vk 7 3 6+(f 4*vk 7 4 6+(f 5*vk 7 5 6+(f 6*vk 7 6 6+0))))))=_;rw [show vk 7 0 6=-1 by unfold vk;rw [e7];rfl,show vk 7 1 6=0 by unfold vk;rw [e7];rfl,show vk 7 2 6=0 by unfold vk;rw [e7];rfl,show vk 7 3 6=-1 by unfold vk;rw [e7];rfl,show vk 7 4 6=0 by unfold vk;rw [e7];rfl,show vk 7 5 6=0 by unfold vk;rw [e7];rfl,show vk 7 6 6=-1 by unfold vk;rw [e7];rfl];lia
theorem size7 (f:Nat->Int) (h:f 0+f 1+f 2+f 3+f 4+f 5+f 6=1):(7:Int)*sq 7 (dt 7 f 7)+2*ro 7 (dt 7 f 7)=2*qs 7 f:=by
 have hl:f 6=1 - (f 0+f 1+f 2+f 3+f 4+f 5):=by lia
 have h1:sq 7 (dt 7 f 7)=dt 7 f 7 0*dt 7 f 7 0+(dt 7 f 7 1*dt 7 f 7 1+(dt 7 f 7 2*dt 7 f 7 2+(dt 7 f 7 3*dt 7 f 7 3+(dt 7 f 7 4*dt 7 f 7 4+(dt 7 f 7 5*dt 7 f 7 5+(dt 7 f 7 6*dt 7 f 7 6+0)))))):=rfl;have h2:ro 7 (dt 7 f 7)=0*dt 7 f 7 0+(1*dt 7 f 7 1+(2*dt 7 f 7 2+(3*dt 7 f 7 3+(4*dt 7 f 7 4+(5*dt 7 f 7 5+(6*dt 7 f 7 6+0)))))):=rfl;have h3:qs 7 f=7*(f 0*(f 0 - f 6)+(f 1*(f 1 - f 0)+(f 2*(f 2 - f 1)+(f 3*(f 3 - f 2)+(f 4*(f 4 - f 3)+(f 5*(f 5 - f 4)+(f 6*(f 6 - f 5)+0))))))) - 7+5:=rfl;rw [h1,h2,h3,d7_0,d7_1,d7_2,d7_3,d7_4,d7_5,d7_6,hl];generalize f 0=x0;generalize f 1=x1;generalize f 2=x2;generalize f 3=x3;generalize f 4=x4;generalize f 5=x5;grind
theorem e11:vks 11=[[0,0,0,0,0,1,0,0,0,0,-1],[1,1,0,0,0,0,0,0,-1,-1,0],[0,0,1,0,0,0,0,-1,0,0,0],[1,0,0,1,0,0,0,0,0,-1,-1],[0,1,0,0,0,0,-1,0,0,0,0],[1,0,1,0,0,0,0,0,-1,0,-1],[0,0,0,0,1,0,0,0,0,-1,0],[1,1,0,0,0,0,0,-1,0,0,-1],[0,0,0,1,0,0,0,0,-1,0,0],[0,1,1,0,0,0,0,0,0,-1,-1],[1,0,0,0,0,-1,0,0,0,0,0]]:=by decide +kernel
theorem d11_0 (f:Nat->Int):dt 11 f 11 0=f 1+f 3+f 5+f 7+f 10:=by
 show f 0*vk 11 0 0+(f 1*vk 11 1 0+(f 2*vk 11 2 0+(f 3*vk 11 3 0+(f 4*vk 11 4 0+(f 5*vk 11 5 0+(f 6*vk 11 6 0+(f 7*vk 11 7 0+(f 8*vk 11 8 0+(f 9*vk 11 9 0+(f 10*vk 11 10 0+0))))))))))=_;rw [show vk 11 0 0=0 by unfold vk;rw [e11];rfl,show vk 11 1 0=1 by unfold vk;rw [e11];rfl,show vk 11 2 0=0 by unfold vk;rw [e11];rfl,show vk 11 3 0=1 by unfold vk;rw [e11];rfl,show vk 11 4 0=0 by unfold vk;rw [e11];rfl,show vk 11 5 0=1 by unfold vk;rw [e11];rfl,show vk 11 6 0=0 by unfold vk;rw [e11];rfl,show vk 11 7 0=1 by unfold vk;rw [e11];rfl,show vk 11 8 0=0 by unfold vk;rw [e11];rfl,show vk 11 9 0=0 by unfold vk;rw [e11];rfl,show vk 11 10 0=1 by unfold vk;rw [e11];rfl];lia
theorem d11_1 (f:Nat->Int):dt 11 f 11 1=f 1+f 4+f 7+f 9:=by
 show f 0*vk 11 0 1+(f 1*vk 11 1 1+(f 2*vk 11 2 1+(f 3*vk 11 3 1+(f 4*vk 11 4 1+(f 5*vk 11 5 1+(f 6*vk 11 6 1+(f 7*vk 11 7 1+(f 8*vk 11 8 1+(f 9*vk 11 9 1+(f 10*vk 11 10 1+0))))))))))=_;rw [show vk 11 0 1=0 by unfold vk;rw [e11];rfl,show vk 11 1 1=1 by unfold vk;rw [e11];rfl,show vk 11 2 1=0 by unfold vk;rw [e11];rfl,show vk 11 3 1=0 by unfold vk;rw [e11];rfl,show vk 11 4 1=1 by unfold vk;rw [e11];rfl,show vk 11 5 1=0 by unfold vk;rw [e11];rfl,show vk 11 6 1=0 by unfold vk;rw [e11];rfl,show vk 11 7 1=1 by unfold vk;rw [e11];rfl,show vk 11 8 1=0 by unfold vk;rw [e11];rfl,show vk 11 9 1=1 by unfold vk;rw [e11];rfl,show vk 11 10 1=0 by unfold vk;rw [e11];rfl];lia
theorem d11_2 (f:Nat->Int):dt 11 f 11 2=f 2+f 5+f 9:=by
 show f 0*vk 11 0 2+(f 1*vk 11 1 2+(f 2*vk 11 2 2+(f 3*vk 11 3 2+(f 4*vk 11 4 2+(f 5*vk 11 5 2+(f 6*vk 11 6 2+(f 7*vk 11 7 2+(f 8*vk 11 8 2+(f 9*vk 11 9 2+(f 10*vk 11 10 2+0))))))))))=_;rw [show vk 11 0 2=0 by unfold vk;rw [e11];rfl,show vk 11 1 2=0 by unfold vk;rw [e11];rfl,show vk 11 2 2=1 by unfold vk;rw [e11];rfl,show vk 11 3 2=0 by unfold vk;rw [e11];rfl,show vk 11 4 2=0 by unfold vk;rw [e11];rfl,show vk 11 5 2=1 by unfold vk;rw [e11];rfl,show vk 11 6 2=0 by unfold vk;rw [e11];rfl,show vk 11 7 2=0 by unfold vk;rw [e11];rfl,show vk 11 8 2=0 by unfold vk;rw [e11];rfl,show vk 11 9 2=1 by unfold vk;rw [e11];rfl,show vk 11 10 2=0 by unfold vk;rw [e11];rfl];lia
theorem d11_3 (f:Nat->Int):dt 11 f 11 3=f 3+f 8:=by
 show f 0*vk 11 0 3+(f 1*vk 11 1 3+(f 2*vk 11 2 3+(f 3*vk 11 3 3+(f 4*vk 11 4 3+(f 5*vk 11 5 3+(f 6*vk 11 6 3+(f 7*vk 11 7 3+(f 8*vk 11 8 3+(f 9*vk 11 9 3+(f 10*vk 11 10 3+0))))))))))=_;rw [show vk 11 0 3=0 by unfold vk;rw [e11];rfl,show vk 11 1 3=0 by unfold vk;rw [e11];rfl,show vk 11 2 3=0 by unfold vk;rw [e11];rfl,show vk 11 3 3=1 by unfold vk;rw [e11];rfl,show vk 11 4 3=0 by unfold vk;rw [e11];rfl,show vk 11 5 3=0 by unfold vk;rw [e11];rfl,show vk 11 6 3=0 by unfold vk;rw [e11];rfl,show vk 11 7 3=0 by unfold vk;rw [e11];rfl,show vk 11 8 3=1 by unfold vk;rw [e11];rfl,show vk 11 9 3=0 by unfold vk;rw [e11];rfl,show vk 11 10 3=0 by unfold vk;rw [e11];rfl];lia
theorem d11_4 (f:Nat->Int):dt 11 f 11 4=f 6:=by
 show f 0*vk 11 0 4+(f 1*vk 11 1 4+(f 2*vk 11 2 4+(f 3*vk 11 3 4+(f 4*vk 11 4 4+(f 5*vk 11 5 4+(f 6*vk 11 6 4+(f 7*vk 11 7 4+(f 8*vk 11 8 4+(f 9*vk 11 9 4+(f 10*vk 11 10 4+0))))))))))=_;rw [show vk 11 0 4=0 by unfold vk;rw [e11];rfl,show vk 11 1 4=0 by unfold vk;rw [e11];rfl,show vk 11 2 4=0 by unfold vk;rw [e11];rfl,show vk 11 3 4=0 by unfold vk;rw [e11];rfl,show vk 11 4 4=0 by unfold vk;rw [e11];rfl,show vk 11 5 4=0 by unfold vk;rw [e11];rfl,show vk 11 6 4=1 by unfold vk;rw [e11];rfl,show vk 11 7 4=0 by unfold vk;rw [e11];rfl,show vk 11 8 4=0 by unfold vk;rw [e11];rfl,show vk 11 9 4=0 by unfold vk;rw [e11];rfl,show vk 11 10 4=0 by unfold vk;rw [e11];rfl];lia
theorem d11_5 (f:Nat->Int):dt 11 f 11 5=f 0 + -(f 10):=by
 show f 0*vk 11 0 5+(f 1*vk 11 1 5+(f 2*vk 11 2 5+(f 3*vk 11 3 5+(f 4*vk 11 4 5+(f 5*vk 11 5 5+(f 6*vk 11 6 5+(f 7*vk 11 7 5+(f 8*vk 11 8 5+(f 9*vk 11 9 5+(f 10*vk 11 10 5+0))))))))))=_;rw [show vk 11 0 5=1 by unfold vk;rw [e11];rfl,show vk 11 1 5=0 by unfold vk;rw [e11];rfl,show vk 11 2 5=0 by unfold vk;rw [e11];rfl,show vk 11 3 5=0 by unfold vk;rw [e11];rfl,show vk 11 4 5=0 by unfold vk;rw [e11];rfl,show vk 11 5 5=0 by unfold vk;rw [e11];rfl,show vk 11 6 5=0 by unfold vk;rw [e11];rfl,show vk 11 7 5=0 by unfold vk;rw [e11];rfl,show vk 11 8 5=0 by unfold vk;rw [e11];rfl,show vk 11 9 5=0 by unfold vk;rw [e11];rfl,show vk 11 10 5=-1 by unfold vk;rw [e11];rfl];lia
theorem d11_6 (f:Nat->Int):dt 11 f 11 6=-(f 4):=by
 show f 0*vk 11 0 6+(f 1*vk 11 1 6+(f 2*vk 11 2 6+(f 3*vk 11 3 6+(f 4*vk 11 4 6+(f 5*vk 11 5 6+(f 6*vk 11 6 6+(f 7*vk 11 7 6+(f 8*vk 11 8 6+(f 9*vk 11 9 6+(f 10*vk 11 10 6+0))))))))))=_;rw [show vk 11 0 6=0 by unfold vk;rw [e11];rfl,show vk 11 1 6=0 by unfold vk;rw [e11];rfl,show vk 11 2 6=0 by unfold vk;rw [e11];rfl,show vk 11 3 6=0 by unfold vk;rw [e11];rfl,show vk 11 4 6=-1 by unfold vk;rw [e11];rfl,show vk 11 5 6=0 by unfold vk;rw [e11];rfl,show vk 11 6 6=0 by unfold vk;rw [e11];rfl,show vk 11 7 6=0 by unfold vk;rw [e11];rfl,show vk 11 8 6=0 by unfold vk;rw [e11];rfl,show vk 11 9 6=0 by unfold vk;rw [e11];rfl,show vk 11 10 6=0 by unfold vk;rw [e11];rfl];lia
theorem d11_7 (f:Nat->Int):dt 11 f 11 7=-(f 2) + -(f 7):=by
 show f 0*vk 11 0 7+(f 1*vk 11 1 7+(f 2*vk 11 2 7+(f 3*vk 11 3 7+(f 4*vk 11 4 7+(f 5*vk 11 5 7+(f 6*vk 11 6 7+(f 7*vk 11 7 7+(f 8*vk 11 8 7+(f 9*vk 11 9 7+(f 10*vk 11 10 7+0))))))))))=_;rw [show vk 11 0 7=0 by unfold vk;rw [e11];rfl,show vk 11 1 7=0 by unfold vk;rw [e11];rfl,show vk 11 2 7=-1 by unfold vk;rw [e11];rfl,show vk 11 3 7=0 by unfold vk;rw [e11];rfl,show vk 11 4 7=0 by unfold vk;rw [e11];rfl,show vk 11 5 7=0 by unfold vk;rw [e11];rfl,show vk 11 6 7=0 by unfold vk;rw [e11];rfl,show vk 11 7 7=-1 by unfold vk;rw [e11];rfl,show vk 11 8 7=0 by unfold vk;rw [e11];rfl,show vk 11 9 7=0 by unfold vk;rw [e11];rfl,show vk 11 10 7=0 by unfold vk;rw [e11];rfl];lia
theorem d11_8 (f:Nat->Int):dt 11 f 11 8=-(f 1) + -(f 5) + -(f 8):=by
 show f 0*vk 11 0 8+(f 1*vk 11 1 8+(f 2*vk 11 2 8+(f 3*vk 11 3 8+(f 4*vk 11 4 8+(f 5*vk 11 5 8+(f 6*vk 11 6 8+(f 7*vk 11 7 8+(f 8*vk 11 8 8+(f 9*vk 11 9 8+(f 10*vk 11 10 8+0))))))))))=_;rw [show vk 11 0 8=0 by unfold vk;rw [e11];rfl,show vk 11 1 8=-1 by unfold vk;rw [e11];rfl,show vk 11 2 8=0 by unfold vk;rw [e11];rfl,show vk 11 3 8=0 by unfold vk;rw [e11];rfl,show vk 11 4 8=0 by unfold vk;rw [e11];rfl,show vk 11 5 8=-1 by unfold vk;rw [e11];rfl,show vk 11 6 8=0 by unfold vk;rw [e11];rfl,show vk 11 7 8=0 by unfold vk;rw [e11];rfl,show vk 11 8 8=-1 by unfold vk;rw [e11];rfl,show vk 11 9 8=0 by unfold vk;rw [e11];rfl,show vk 11 10 8=0 by unfold vk;rw [e11];rfl];lia
theorem d11_9 (f:Nat->Int):dt 11 f 11 9=-(f 1) + -(f 3) + -(f 6) + -(f 9):=by
 show f 0*vk 11 0 9+(f 1*vk 11 1 9+(f 2*vk 11 2 9+(f 3*vk 11 3 9+(f 4*vk 11 4 9+(f 5*vk 11 5 9+(f 6*vk 11 6 9+(f 7*vk 11 7 9+(f 8*vk 11 8 9+(f 9*vk 11 9 9+(f 10*vk 11 10 9+0))))))))))=_;rw [show vk 11 0 9=0 by unfold vk;rw [e11];rfl,show vk 11 1 9=-1 by unfold vk;rw [e11];rfl,show vk 11 2 9=0 by unfold vk;rw [e11];rfl,show vk 11 3 9=-1 by unfold vk;rw [e11];rfl,show vk 11 4 9=0 by unfold vk;rw [e11];rfl,show vk 11 5 9=0 by unfold vk;rw [e11];rfl,show vk 11 6 9=-1 by unfold vk;rw [e11];rfl,show vk 11 7 9=0 by unfold vk;rw [e11];rfl,show vk 11 8 9=0 by unfold vk;rw [e11];rfl,show vk 11 9 9=-1 by unfold vk;rw [e11];rfl,show vk 11 10 9=0 by unfold vk;rw [e11];rfl];lia
theorem tI (f:Nat->Int):dt 11 f 11 10=-(f 0) + -(f 3) + -(f 5) + -(f 7) + -(f 9):=by
 show f 0*vk 11 0 10+(f 1*vk 11 1 10+(f 2*vk 11 2 10+(f 3*vk 11 3 10+(f 4*vk 11 4 10+(f 5*vk 11 5 10+(f 6*vk 11 6 10+(f 7*vk 11 7 10+(f 8*vk 11 8 10+(f 9*vk 11 9 10+(f 10*vk 11 10 10+0))))))))))=_;rw [show vk 11 0 10=-1 by unfold vk;rw [e11];rfl,show vk 11 1 10=0 by unfold vk;rw [e11];rfl,show vk 11 2 10=0 by unfold vk;rw [e11];rfl,show vk 11 3 10=-1 by unfold vk;rw [e11];rfl,show vk 11 4 10=0 by unfold vk;rw [e11];rfl,show vk 11 5 10=-1 by unfold vk;rw [e11];rfl,show vk 11 6 10=0 by unfold vk;rw [e11];rfl,show vk 11 7 10=-1 by unfold vk;rw [e11];rfl,show vk 11 8 10=0 by unfold vk;rw [e11];rfl,show vk 11 9 10=-1 by unfold vk;rw [e11];rfl,show vk 11 10 10=0 by unfold vk;rw [e11];rfl];lia
theorem size11 (f:Nat->Int) (h:f 0+f 1+f 2+f 3+f 4+f 5+f 6+f 7+f 8+f 9+f 10=1):(11:Int)*sq 11 (dt 11 f 11)+2*ro 11 (dt 11 f 11)=2*qs 11 f:=by
 have hl:f 10=1 - (f 0+f 1+f 2+f 3+f 4+f 5+f 6+f 7+f 8+f 9):=by lia
 have h1:sq 11 (dt 11 f 11)=dt 11 f 11 0*dt 11 f 11 0+(dt 11 f 11 1*dt 11 f 11 1+(dt 11 f 11 2*dt 11 f 11 2+(dt 11 f 11 3*dt 11 f 11 3+(dt 11 f 11 4*dt 11 f 11 4+(dt 11 f 11 5*dt 11 f 11 5+(dt 11 f 11 6*dt 11 f 11 6+(dt 11 f 11 7*dt 11 f 11 7+(dt 11 f 11 8*dt 11 f 11 8+(dt 11 f 11 9*dt 11 f 11 9+(dt 11 f 11 10*dt 11 f 11 10+0)))))))))):=rfl;have h2:ro 11 (dt 11 f 11)=0*dt 11 f 11 0+(1*dt 11 f 11 1+(2*dt 11 f 11 2+(3*dt 11 f 11 3+(4*dt 11 f 11 4+(5*dt 11 f 11 5+(6*dt 11 f 11 6+(7*dt 11 f 11 7+(8*dt 11 f 11 8+(9*dt 11 f 11 9+(10*dt 11 f 11 10+0)))))))))):=rfl;have h3:qs 11 f=11*(f 0*(f 0 - f 10)+(f 1*(f 1 - f 0)+(f 2*(f 2 - f 1)+(f 3*(f 3 - f 2)+(f 4*(f 4 - f 3)+(f 5*(f 5 - f 4)+(f 6*(f 6 - f 5)+(f 7*(f 7 - f 6)+(f 8*(f 8 - f 7)+(f 9*(f 9 - f 8)+(f 10*(f 10 - f 9)+0))))))))))) - 11+6:=rfl;rw [h1,h2,h3,d11_0,d11_1,d11_2,d11_3,d11_4,d11_5,d11_6,d11_7,d11_8,d11_9,tI,hl];generalize f 0=x0;generalize f 1=x1;generalize f 2=x2;generalize f 3=x3;generalize f 4=x4;generalize f 5=x5;generalize f 6=x6;generalize f 7=x7;generalize f 8=x8;generalize f 9=x9;grind
theorem vsum5 (f:Nat->Int):(vby 5 f).sum=0:=by
 show dt 5 f 5 0+(dt 5 f 5 1+(dt 5 f 5 2+(dt 5 f 5 3+(dt 5 f 5 4+0))))=0;rw [d5_0,d5_1,d5_2,d5_3,d5_4];lia
theorem vsum7 (f:Nat->Int):(vby 7 f).sum=0:=by
 show dt 7 f 7 0+(dt 7 f 7 1+(dt 7 f 7 2+(dt 7 f 7 3+(dt 7 f 7 4+(dt 7 f 7 5+(dt 7 f 7 6+0))))))=0;rw [d7_0,d7_1,d7_2,d7_3,d7_4,d7_5,d7_6];lia
theorem vsum11 (f:Nat->Int):(vby 11 f).sum=0:=by
 show dt 11 f 11 0+(dt 11 f 11 1+(dt 11 f 11 2+(dt 11 f 11 3+(dt 11 f 11 4+(dt 11 f 11 5+(dt 11 f 11 6+(dt 11 f 11 7+(dt 11 f 11 8+(dt 11 f 11 9+(dt 11 f 11 10+0))))))))))=0;rw [d11_0,d11_1,d11_2,d11_3,d11_4,d11_5,d11_6,d11_7,d11_8,d11_9,tI];lia
theorem mK {t:Nat} (h3:T3 t) {f:Nat->Int} (h:(.(8).map f).sum=1):(t:Int)*sq t (dt t f t)+2*ro t (dt t f t)=2*qs t f:=by
 rcases h3 with rfl | rfl | rfl
 · refine size5 f ?_;have h2:f 0+(f 1+(f 2+(f 3+(f 4+0))))=1:=h;lia
 · refine size7 f ?_;have h2:f 0+(f 1+(f 2+(f 3+(f 4+(f 5+(f 6+0))))))=1:=h;lia
 · refine size11 f ?_;have h2:f 0+(f 1+(f 2+(f 3+(f 4+(f 5+(f 6+(f 7+(f 8+(f 9+(f 10+0))))))))))=1:=h;lia
theorem uj {t:Nat} (h3:T3 t) (f:Nat->Int):(vby t f).sum=0:=by
 rcases h3 with rfl | rfl | rfl
 · exact vsum5 f
 · exact vsum7 f
 · exact vsum11 f
end M48
namespace K79
open PySem L2 M39 M40 M43 M48
structure Tl (H:Hp) (qs:List Addr) (lss:List (List Int)):Prop where
 len:qs.length=lss.length
 at_:∀ (i:Nat) (h1:i<qs.length) (h2:i<lss.length),H qs[i]=some (.tup (lss[i].map V.int))
theorem Tl.same {H H':Hp} {qs:List Addr} {lss:List (List Int)} (x:Tl H qs lss) (y:Same H H'):Tl H' qs lss:=⟨x.len,fun i h1 h2=>y _ _ (x.at_ i h1 h2)⟩
theorem Tl.snoc {H:Hp} {qs:List Addr} {lss:List (List Int)} {q:Addr} {ls:List Int} (x:Tl H qs lss) (e:H q=some (.tup (ls.map V.int))):Tl H (qs++[q]) (lss++[ls]):=by
 have hl:=x.len;refine ⟨by rw [zA5,zA5,hl];rfl,fun i h1 h2=>?_⟩;by_cases hi:i<qs.length
 · rw [zF4 hi,zF4 (by lia)];exact x.at_ i hi (by lia)
 · have h1':i<qs.length+1:=by simpa using h1
   have e':i=qs.length:=by lia
   subst e';rw [zF3 (zA1 _),zF3 (by lia)];simpa [hl] using e
theorem tb_set {n i:Nat} (f:Nat->Int) (x:Int) (h:i<n):(((List.range n).map f).map V.int).set i (.int x)=((List.range n).map fun r=>if r=i then x else f r).map V.int:=by
 rw [← List.map_set];congr 1;refine zD2 (by simp) fun j h1 h2=>?_;rw [List.getElem_set];simp only [zG8,zG5];by_cases e:i=j
 · rw [if_pos e,if_pos e.symm]
 · rw [if_neg e,if_neg (Ne.symm e)]
theorem tb_get {n i:Nat} (f:Nat->Int) (h:i<n):(((List.range n).map f).map V.int)[i]? = some (.int (f i)):=by
 rw [List.getElem?_map,List.getElem?_map,List.getElem?_range h];rfl
theorem ui {t k r:Nat} (h:k<(vks t).length) (h2:r<(vks t)[k].length):(vks t)[k][r]=vk t k r:=by
 unfold vk;rw [zA2,zA2,List.getElem?_eq_getElem h,Option.getD_some,List.getElem?_eq_getElem h2,Option.getD_some]
theorem lW {t k:Nat} (h:k<(vks t).length) (h2:k<(rnd t).length):(vks t)[k]=vec (rnd t)[k] t:=by simp [vks]
theorem fX {t k:Nat} (h:k<(vks t).length):(vks t)[k].length=t:=by
 rw [lW h (by unfold vks at h;rwa [zA0] at h),fZ]
section
variable {P:Program} {w:World} {K:PySem.W.Frag} {mg:Str->Option Value} {base:Heap} {f:Addr} {fd:FuncData}
theorem sc_vr:FnScope ["t"] ["t"] (ag (top 20)):=.(0)
def qf:Sp:=fun vs H Q _=>∃ t:Nat,vs=[.int t]/\T3 t/\∀ p rs H',H p=none->Same H H'->H' p=some (.lst (rs.map V.ref))->Tl H' rs (vks t)->Q (.ref p) H'
theorem ok_vr (F:Fun K "vectors_of_round" "vectors_of_round" (top 20) f fd)  (g_ROUNDS:TabG K mg "ROUNDS" RD) (F_vector:FnA P w K mg base "vector" 3 ["parting","t"] (cY K)):FnOk P w K mg base CX0 4 f fd ["t"] qf:=by
 refine F.okz sc_vr .(16) .(3)
 · obtain ⟨t,rfl,_⟩:=h;rfl
 obtain ⟨t,rfl,h3,q⟩:=h;have nd:=sc_vr.nd;have hu:=hr.units;sleep 3;refine ⟨_,(ai (aH (aV ["parting"] [("t",0)] rfl .(4) (dM (sA rfl g_ROUNDS (zn 0) .(33))) aQ (fun _ _ _ _=>aj (i:=0) (show List.Nodup (["parting","t"]:List Str) by decide +kernel) rfl .(12)) .(37) (fun _ _ _ _=>(az F_vector hr (by decide) rfl .(31)))))),?_⟩;refine ⟨(t:Int),rnd t,rfl,m9 h3,fun a hT=>?_⟩;obtain ⟨as,ha,hlen,hrw⟩:=hT;have rl:=mY h3;refine ⟨a,rfl,⟨_,ha.sq _⟩,cR (xs:=as.map V.ref) (fun i zs H'=>Same H H'/\i<=t/\∃ rs:List Addr,zs=rs.map V.ref/\Tl H' rs ((vks t).take i)) ⟨Same.refl _,zC5 _,[],rfl,rfl,fun i h1=>absurd h1 (zG6 _)⟩ ?_ ?_ ?_⟩
 · rintro i zs H' _ _;exact ha.sq _
 · rintro i x zs H' hx ⟨y,_,rs,rfl,tls⟩;have hi:i<as.length:=by
    sleep 0;rw [zA0] at this;exact this
   have ex:x=.ref as[i]:=by rw [List.getElem?_map,List.getElem?_eq_getElem hi] at hx;exact .(25).symm
   subst ex;have hi2:i<(rnd t).length:=by lia
   have ln:=rnd_ok h3 _ (zC0 hi2);have l1:=tls.len;rw [zB9] at l1;refine ⟨by rw [zA0];exact ao (by lia),?_⟩;have r3:(rnd t)[i].length<t*rd (rnd t)[i] t:=by
    have:rd (rnd t)[i] t=1:=by unfold rd;exact Nat.div_eq_of_lt_le (by lia) (by lia)
    rw [this];lia
   refine ⟨as[i],(rnd t)[i],t,rfl,.inr ⟨hrw i hi hi2,ln.1,r3⟩,by lia,by lia,by lia,fun r H2 y2 hr2=>?_⟩;refine ⟨y.trans y2,by lia,rs++[r],by rw [zA3];rfl,?_⟩;have hi3:i<(vks t).length:=by rw [fY h3];lia
   have e:(vks t).take (i+1)=(vks t).take i++[vec (rnd t)[i] t]:=by
    rw [zD3,List.getElem?_eq_getElem hi3,lW hi3 hi2];rfl
   rw [e];exact (tls.same y2).snoc hr2
 · rintro zs H' ⟨y,_,rs,rfl,tls⟩ D hD;rw [zA0,hlen,rl,zB8 (by rw [fY h3];exact zA1 _)] at tls;have yD:=Same.new hD (.lst (rs.map V.ref));refine q D rs _ ?_ (y.trans yD) ae (tls.same yD)
   cases e:H D with
   | none=>rfl
   | some o=>have:=y D o e;rw [hD] at this;cases this
theorem sc_vb:FnScope ["t","frame","told","often","numbers","rest"] ["t","frame"] (ag (top 21)):=.(0)
def uz:Sp:=fun vs H Q _=>∃ (a:Addr) (ns:List Int) (t:Nat),vs=[.int t,.ref a]/\H a=some (.tup .(27))/\T3 t/\ns.length=t/\∀ r H',Same H H'->H' r=some (.tup ((vby t (nf ns)).map V.int))->Q (.ref r) H'
theorem ok_vb (F:Fun K "vector_by" "vector_by" (top 21) f fd) (m_range:.(81)) (m_tuple:.(99)) (m_zip:mg "zip" = none) (F_vectors_of_round:FnA P w K mg base "vectors_of_round" 4 ["t"] qf):FnOk P w K mg base CX0 5 f fd ["t","frame"] uz:=by
 refine F.okz sc_vb .(16) .(3)
 · sleep 17
 obtain ⟨a,ns,t,rfl,ha,h3,hl,q⟩:=h;have nd:=sc_vb.nd;have hu:=hr.units;sleep 3;have vl:=fY h3;refine ⟨_,(ah (ay (i:=2) nd rfl .(12) (ax aI (bP (aa am af)) (zn 0)))
  (ah (bE PassesOwn.never rfl (sy rfl m_zip (aa (zn 1) (aa (az F_vectors_of_round hr (by decide) rfl .(50)) af))) (cr rfl (aB (aj (i:=3) nd rfl .(12)) (aB (aj (i:=4) nd rfl .(12)) bB))) (ai (bE PassesOwn.never rfl (bO rfl m_range .(50)) (aj (i:=5) nd rfl .(12)) (ai (lM (zn 2) (zn 5) gA (ax aI (zn 3) (cJ dz (zn 4) (zn 5) .(33))) gz eP)))))
  (ai (aH (be rfl m_tuple (aa (zn 2) af) rfl rfl))))),?_⟩
 sleep 9;have yd:=Same.new hd .(96);refine ⟨.(40),.inl ⟨_,ae,cm (by show 1*(t:Int).toNat<=1000;lia),fun L hL=>?_⟩⟩;have e0:(List.replicate (t:Int).toNat [V.int 0]).flatten=(.(8).map (dt t (nf ns) 0)).map V.int:=by
  rw [cc,zD9];congr 1;refine zD2 (by simp) fun j h1 h2=>?_;rw [List.getElem_replicate,zG8,wg]
 rw [e0];have yL:=Same.new hL (.lst ((.(8).map (dt t (nf ns) 0)).map V.int));have y0:=yd.trans yL;have hHL:H L=none:=by
  cases e:H L with
  | none=>rfl
  | some o=>have:=yd L o e;rw [hL] at this;cases this
 have hLL:upd (upd H d .(96)) L (.lst ((.(8).map (dt t (nf ns) 0)).map V.int)) L=some (.lst ((.(8).map (dt t (nf ns) 0)).map V.int)):=ae;generalize upd (upd H d .(96)) L (.lst ((.(8).map (dt t (nf ns) 0)).map V.int))=H1 at y0 hLL;refine ⟨t,rfl,h3,fun p rs H2 hp y2 hp2 tls=>?_⟩;have pL:p≠L:=fun z=>by rw [z,hLL] at hp;cases hp
 have hL2:=y2 _ _ hLL;have yy:=y0.trans y2;have ha2:=yy _ _ ha;have aL:a≠L:=fun z=>by rw [z,hHL] at ha;cases ha
 have rl:rs.length=t:=by rw [tls.len,vl]
 refine ⟨true,false,_,_,SqK.tup ha2,SqK.lst hp2,wc (xs:=ns.map V.int) (ys:=rs.map V.ref) (fun i σ H'=>(∀ b o,b≠L->H2 b=some o->H' b=some o)/\H' L=some (.lst ((.(8).map (dt t (nf ns) i)).map V.int))/\∃ x3 x4 x5,σ=[some (.int t),some (.ref a),some (.ref L),x3,x4,x5]) ⟨fun b o _ e=>e,hL2,_,_,_,rfl⟩ ?_ ?_ ?_⟩
 · rintro i σ H' _ ⟨kp,_⟩;exact ⟨SqK.tup (kp _ _ aL ha2),SqK.lst (kp _ _ pL hp2)⟩
 · rintro i x y σ H' pr hx hy ⟨kp,hL',x3,x4,x5,rfl⟩ hpr;have hi:i<ns.length:=by
    sleep 0;rwa [zA0] at this
   sleep 35;subst ex;have hi2:i<rs.length:=by lia
   have ey:y=.ref rs[i]:=by rw [List.getElem?_map,List.getElem?_eq_getElem hi2] at hy;exact (Option.some.inj hy).symm
   subst ey;have hi3:i<(vks t).length:=by lia
   have hrow:=tls.at_ i hi2 hi3;have rowL:rs[i]≠L:=fun z=>by rw [z,hL2] at hrow;cases hrow
   have rlen:=fX hi3;have yr:=Same.new hpr (.tup [.int ns[i],.ref rs[i]]);have prL:L≠pr:=fun z=>by rw [z,hpr] at hL';cases hL'
   refine ⟨pr,_,rfl,SqT.of ae,rfl,_,_,rfl,_,_,rfl,rfl,?_⟩;refine ⟨(t:Int),rfl,by lia,by lia,bI (fun j σ H''=>(∀ b o,b≠L->H2 b=some o->H'' b=some o)/\H'' L=some (.lst ((.(8).map fun r=>if r<j then dt t (nf ns) (i+1) r else dt t (nf ns) i r).map V.int))/\∃ x5,σ=[some (.int t),some (.ref a),some (.ref L),some (.int ns[i]),some (.ref rs[i]),x5]) ⟨fun b o nb e=>yr _ _ (kp b o nb e),?_,_,rfl⟩ ?_ ?_⟩
   · rw [yr _ _ hL'];congr 4
   · rintro j σ H'' hj ⟨kp2,hL'',x5',rfl⟩;have hj':j<t:=by rwa [zD9] at hj
     have e1:((0:Int)+(j:Int)).toNat=j:=by lia
     refine ⟨_,_,SqL.of hL'',by lia,by rw [e1];exact tb_get _ hj',?_⟩;have hj2:j<(vks t)[i].length:=by lia
     refine ⟨_,.inr (kp2 _ _ rowL hrow),.int (vks t)[i][j],bx (j:=j) (by lia) (fP hj2),?_⟩;have lim:=sF h3 _ (zC0 hi3) _ (zC0 hj2);refine ⟨vP (by lia) (by lia),?_⟩;refine ⟨_,hL'',by lia,by rw [e1];simpa using hj',fun b o nb e=>by rw [au nb];exact kp2 b o nb e,?_,_,rfl⟩;rw [ae,e1,tb_set _ _ hj'];congr 3;refine zA4 fun r hr'=>?_;rw [if_neg (zG7 _)];by_cases er:r=j
     · rw [if_pos er,if_pos (by lia),er,wj,ui hi3 hj2,cj hi]
     · rw [if_neg er];by_cases rj:r<j
       · rw [if_pos rj,if_pos (by lia)]
       · rw [if_neg rj,if_neg (by lia)]
   · rintro σ H'' ⟨kp2,hL'',x5',rfl⟩;refine ⟨kp2,?_,_,_,_,rfl⟩;rw [hL''];congr 3;refine zA4 fun r hr'=>?_;rw [if_pos (by have:=zA6.mp hr';lia)]
 · rintro σ H' ⟨kp,hL',x3,x4,x5,rfl⟩;have em:min .(27).length (rs.map V.ref).length=t:=by rw [zA0,zA0];lia
   rw [em] at hL';refine ⟨_,.inl (SqL.of hL'),fun r H3 y3 hr3=>q r H3 (fun b o e=>?_) hr3⟩;have bL:b≠L:=fun z=>by rw [z,hHL] at e;cases e
   exact y3 _ _ (kp b o bL (yy _ _ e))
end
end K79
namespace HT
open PySem PyProof.Rows PySem.SeqAt
variable {prog:Program} {w:World} {A:Around} {E:Value->Shared->Prop} {s:Shared}
theorem jq (a m:Int) (n:Nat) (ha:0<=a) (hm:1<=m):Builtin.Slice.sliceAdjust (some a) none m (n:Int)=(min a (n:Int),(n:Int)):=by
 have h1:¬ (m<0):=by lia
 have h2:¬ (a<0):=by lia
 unfold Builtin.Slice.sliceAdjust;simp only [h1,if_false,h2]
theorem dF {sl:Addr} {vl vk:Value} {a m:Int} {n:Nat} {Q:Int×Int×Nat->Shared->Prop} (hs:s.heap.IsSliceOf sl vl .none vk) (pl:IsPart vl (some a)) (pk:IsPart vk (some m)) (ha:0<=a) (hm:1<=m)
 (h:Q (min a (n:Int),m,Builtin.Slice.slicePlaces (min a (n:Int)) (n:Int) m) s):wpAny .(9) A (Builtin.Slice.sliceApplied (.ref sl) (pure (n:Int))) Q E s:=by
 obtain ⟨os,hos,hcs,hds⟩:=id hs;unfold Builtin.Slice.sliceApplied Builtin.Slice.sliceFields;refine wpAny_bind (wpAny_bind (wpAny_field hos hds (x:=vl) rfl (wpAny_bind (wpAny_field hos hds (x:=.none) rfl (wpAny_bind (wpAny_field hos hds (x:=vk) rfl (wpAny_pure ?_)))))));refine wpAny_bind (bT pk ?_);show wpAny _ _ (if (m == 0)=true then _ else _) _ _ s;rw [if_neg (by simpa using (show m≠0 by lia))];refine wpAny_bind (bT pl (wpAny_bind (bT .none (wpAny_bind (wpAny_pure ?_)))));show wpAny _ _ (match Builtin.Slice.sliceAdjust (some a) none m (n:Int) with | (lo,hi)=>pure (lo,m,Builtin.Slice.slicePlaces lo hi m)) _ _ s;rw [jq a m n ha hm];exact wpAny_pure h
def strd {α:Type} (xs:List α) (a m:Nat):List α:=(List.range xs.length).filterMap fun k=>xs[a+k*m]?
theorem hJ {α:Type} (f:Nat->Option α) (K:Nat):∀ j,(∀ k,K<=k->f k=none)->(List.range (K+j)).filterMap f=(List.range K).filterMap f
 | 0,_=>rfl
 | j+1,h=>by
   rw [← zI3,zB2,List.filterMap_append,hJ f K j h];simp [h (K+j) (by lia)]
theorem nr {lo n m:Nat} (hl:lo<=n) (hm:1<=m):Builtin.Slice.slicePlaces (lo:Int) (n:Int) (m:Int)<=n/\(lo<n->n<=lo+Builtin.Slice.slicePlaces (lo:Int) (n:Int) (m:Int)*m)/\(lo=n->Builtin.Slice.slicePlaces (lo:Int) (n:Int) (m:Int)=0):=by
 unfold Builtin.Slice.slicePlaces;rw [if_pos (show (m:Int) > 0 by lia)];by_cases h:(lo:Int)<(n:Int)
 · rw [if_pos h];have e1:((n:Int) - (lo:Int) - 1)=((n - lo - 1:Nat):Int):=by lia
   rw [e1,← Int.natCast_ediv];have e2:((((n - lo - 1) / m:Nat):Int)+1).toNat=(n - lo - 1) / m+1:=by
    show (((((n - lo - 1) / m:Nat):Int))+((1:Nat):Int)).toNat=_;rw [← zK0,zD9]
   rw [e2];have h1:(n - lo - 1) / m<=n - lo - 1:=Nat.div_le_self _ _;have h2:=Nat.div_add_mod (n - lo - 1) m;have h3:=Nat.mod_lt (n - lo - 1) (show m > 0 by lia);refine ⟨by lia,fun _=>?_,fun e=>by lia⟩;rw [Nat.add_mul,Nat.one_mul,zG2];lia
 · rw [if_neg h];refine ⟨zC5 _,fun e=>by lia,fun _=>rfl⟩
theorem nu {α:Type} (xs:Array α) (a m:Nat) (hm:1<=m):(List.range (Builtin.Slice.slicePlaces (min (a:Int) (xs.size:Int)) (xs.size:Int) (m:Int))).filterMap (fun (k:Nat)=>xs[((min (a:Int) (xs.size:Int))+(k:Int)*(m:Int)).toNat]?)=strd xs.toList a m:=by
 have e0:min (a:Int) (xs.size:Int)=((min a xs.size:Nat):Int):=by lia
 rw [e0];have e1:(fun (k:Nat)=>xs[(((min a xs.size:Nat):Int)+(k:Int)*(m:Int)).toNat]?)=fun k=>xs[min a xs.size+k*m]?:=by
  funext k;have:(((min a xs.size:Nat):Int)+(k:Int)*(m:Int)).toNat=min a xs.size+k*m:=by rw [← zI5,← zK0,zD9]
  rw [this]
 rw [e1];obtain ⟨p1,p2,p3⟩:=nr (lo:=min a xs.size) (n:=xs.size) (m:=m) (by lia) hm;generalize Builtin.Slice.slicePlaces ((min a xs.size:Nat):Int) (xs.size:Int) (m:Int)=K at p1 p2 p3;unfold strd;rw [zB1];have e2:(fun k=>xs[min a xs.size+k*m]?)=fun k=>xs.toList[a+k*m]?:=by
  funext k;rw [Array.getElem?_toList];by_cases h:a<=xs.size
  · rw [Nat.min_eq_left h]
  · rw [Nat.min_eq_right (by lia),Array.getElem?_eq_none (by lia),Array.getElem?_eq_none (by lia)]
 rw [e2];have:=hJ (fun k=>xs.toList[a+k*m]?) K (xs.size - K) fun k hk=>by
  rw [Array.getElem?_toList];refine Array.getElem?_eq_none ?_;by_cases h:a<xs.size
  · have h1:=p2 (by lia);have h2:K*m<=k*m:=Nat.mul_le_mul_right _ hk;lia
  · lia
 rw [show K+(xs.size - K)=xs.size by lia] at this;exact this.symm
theorem fm_congr' {α β:Type} {l:List α} {f g:α->Option β} (h:∀ a,f a=g a):l.filterMap f=l.filterMap g:=by rw [funext h]
theorem strd_one {α:Type}:∀ (xs:List α),(List.range xs.length).filterMap (fun k=>xs[0+k*1]?)=xs
 | []=>rfl
 | x::xs=>by
   have ih:=strd_one xs;rw [zC4,zJ1,zE4];show x::List.filterMap _ (List.map Nat.succ (List.range xs.length))=x::xs;congr 1;rw [List.filterMap_map];refine Eq.trans ?_ ih;refine fm_congr' fun k=>?_;show (x::xs)[0+(k+1)*1]? = xs[0+k*1]?;rw [show 0+(k+1)*1=(0+k*1)+1 by lia,List.getElem?_cons_succ]
theorem getItem_tuple_step {t sl:Addr} {items:Array Value} {vl vk:Value} {a m:Nat} {Q:.(14)} (ht:IsTup s.heap t items) (hs:s.heap.IsSliceOf sl vl .none vk) (pl:IsPart vl (some (a:Int))) (pk:IsPart vk (some (m:Int))) (hm:1<=m)
 (h1:items.size=0\/(a=0/\m=1)->Q (.ref t) s)
 (h:Q .(21) { s with heap:=s.heap.push { cls:=.type "tuple",data:=.seq (strd items.toList a m).toArray } })
 (hsz:items.size<=sizeLine):wpAny .(9) A (getItem (.ref t) (.ref sl)) Q E s:=by
 have htake:sizeOk (.seq (strd items.toList a m).toArray):=by
  show (strd items.toList a m).toArray.size<=sizeLine;rw [zA8];unfold strd;refine zD5 (List.length_filterMap_le _ _) ?_;rw [zC1,zB1];exact hsz
 obtain ⟨os,hos,hcs,hds⟩:=id hs;have hTs:s.TypeIs (.ref sl) "slice":=⟨os,hos,hcs⟩
 unfold getItem;try with_reducible refine wpAny_holding ?_
 first | refine wpAny_bind (wpAny_pure ?_) | skip
 refine wpAny_bind (wpAny_sequenceKey ht.typeIs (by decide) ?_);refine wpAny_bind (wpAny_callSpecial?_slot (name:=Str.ofString "__getitem__") ht.typeIs PyProof.Rows.slot_tuple_getitem
  (wpAny_call_entry PyProof.Rows.slot_tuple_getitem ht.typeIs entry_tuple_getitem ?_ (args_tuple_getitem _ _)))
 show wpAny _ _ (Builtin.Tuple.tupleItemsOf (.ref t) >>= _) _ _ s;refine wpAny_bind (tupleItemsOf_ ht ?_);refine wpAny_bind (wpAny_typeOf hTs ?_);rw [if_pos (by decide)];refine wpAny_bind (dF hs pl pk (by lia) (by lia) ?_);have pick:=nu items a m hm;generalize hK:Builtin.Slice.slicePlaces (min (a:Int) (items.size:Int)) (items.size:Int) (m:Int)=K at pick ⊢;by_cases hw:.(85)=true
 · show wpAny _ _ (if .(85)=true then _ else _) _ _ s;rw [if_pos hw];have e:items.size=0\/(a=0/\m=1):=by
    rw [zC8,zC8] at hw;have q1:min (a:Int) (items.size:Int)=0:=eq_of_beq hw.1.1;have q2:(m:Int)=1:=eq_of_beq hw.1.2;lia
   refine wpAny_bind (m:=Builtin.Tuple.tupleIsExact _) ?_;unfold Builtin.Tuple.tupleIsExact;refine wpAny_bind (wpAny_typeOf ht.typeIs (wpAny_pure ?_));rw [if_pos (by decide)]
   first
    | exact wpAny_bind (wpAny_rule (wpAny_pure ⟨_,rfl,wpAny_pure (h1 e)⟩))
    | exact wpAny_bind (wpAny_rule (wpAny_bind (wpAny_pure ⟨_,rfl,wpAny_pure (h1 e)⟩)))
 · show wpAny _ _ (if .(85)=true then _ else _) _ _ s;rw [if_neg hw,pick]
   first
    | exact wpAny_bind (m:=Builtin.Tuple.tupleExact _) (wpAny_newObj_type (wpAny_pure ⟨_,rfl,wpAny_pure h⟩) htake)
    | exact wpAny_bind (m:=Builtin.Tuple.tupleExact _) (wpAny_newObj_type (wpAny_bind (wpAny_pure (wpAny_pure ⟨_,rfl,wpAny_pure h⟩))) htake)
    | exact wpAny_bind (wpAny_bind (m:=Builtin.Tuple.tupleExact _) (wpAny_newObj_type (wpAny_pure (wpAny_pure ⟨_,rfl,wpAny_pure h⟩)) htake))
    | exact wpAny_bind (wpAny_bind (m:=Builtin.Tuple.tupleExact _) (wpAny_newObj_type (wpAny_pure ⟨_,rfl,wpAny_pure h⟩) htake))
end HT
namespace L2
open PySem PySem.Spec PyProof.Rows
theorem Vals.pick {xs:List V} {us:List Value} (r:Vals xs us) (g:Nat->Nat):∀ l:List Nat,Vals (l.filterMap fun k=>xs[g k]?) (l.filterMap fun k=>us[g k]?)
 | []=>.nil
 | k::l=>by
   rw [zE4,zE4];have ih:=Vals.pick r g l
   cases hx:xs[g k]? with
   | none=>
     have:us[g k]? = none:=by
      rw [List.getElem?_eq_none_iff] at hx ⊢;rw [← r.length];exact hx
     rw [this]
     exact ih
   | some x=>
     obtain ⟨u,hu,ru⟩:=r.get hx
     rw [hu]
     exact .cons ru ih
section
variable {X:Cx} {e lo hi:Expr} {te tl tk:TE} {pos p2:Pos}
def tStp (te tl tk:TE):TE:=fun σ H Q=>te σ H fun x H1=>tl σ H1 fun l H2=>tk σ H2 fun m H3=>∃ (p:Addr) (xs:List V) (a c:Nat),x=.ref p/\l=.int a/\m=.int c/\1<=c/\H3 p=some (.tup xs)/\∀ r H',Same H3 H'->H' r=some (.tup (HT.strd xs a c))->Q (.ref r) H'
theorem pe_stp (he:PE X e te) (hl:PE X lo tl) (hk:PE X hi tk):PE X (.Subscript e (.Slice (some lo) none (some hi) p2) pos) (tStp te tl tk):=by
 sleep 11;refine Subscript_ (thn (he pins s σ H _ I h) fun v s1 ⟨x,H1,I1,r1,q1⟩=>?_);refine wpAny_Slice ?_;rw [evalPart_some];refine thn (hl pins s1 σ H1 _ I1 q1) fun vl s2 ⟨l,H2,I2,r2,q2⟩=>?_;rw [evalPart_none];refine wpAny_pure ?_;rw [evalPart_some];refine thn (hk pins s2 σ H2 _ I2 q2) fun vk s3 ⟨m,H3,I3,r3,q3⟩=>?_;obtain ⟨p,xs,a,c,rfl,rfl,rfl,hc,hp,q⟩:=q3
 cases r1
 obtain ⟨t2,rfl⟩:=r2;obtain ⟨t3,rfl⟩:=r3;have I4:Inv X pins σ H3 { s3 with heap:=s3.heap.push { cls:=.type "slice",data:=.fields #[.int a t2,.none,.int c t3] } }:=I3.kept (t':=s3.toks) fun b ob q=>Heap.get?_push_of_some _ q;obtain ⟨its,rv,ht,hz⟩:=I4.tuple (SqT.of hp);have hlen:its.toArray.size=xs.length:=by rw [zA8];exact rv.length.symm
 have rs:Vals (HT.strd xs a c) (HT.strd its a c):=by
  unfold HT.strd;rw [← rv.length];exact rv.pick (fun k=>a+k*c) _
 refine tail_any (ops:=[.ref p,.ref s3.heap.objs.size]) ht.typeIs PyProof.Rows.slot_tuple_getitem.lookup (HT.getItem_tuple_step ht (Heap.IsSliceOf.new ..) (.int a t2) (.int c t3) hc (fun ew=>?_) ?_ (by rw [hlen];exact hz)) (by with_unfolding_all rfl)
 · refine ⟨.ref p,H3,I4,rfl,q p H3 (Same.refl _) ?_⟩;rw [hp];congr 2;rcases ew with h0 | ⟨rfl,rfl⟩
   · have:xs=[]:=by rw [← zL2,← hlen];exact h0
     rw [this];rfl
   · exact (HT.strd_one xs).symm
 · refine ⟨.ref _,_,I4.laid (t':=s3.toks) (o:=.tup (HT.strd xs a c)) (fun b ob q=>Heap.get?_push_of_some _ q) (zA1 _) ?_,rfl,q _ _ (Same.new (I4.hok.fresh (zA1 _)) _) ae⟩;refine ⟨?_,_,rs,TupD.new _ _⟩;unfold HT.strd;refine zD5 (List.length_filterMap_le _ _) ?_;rw [zC1];exact hz
theorem sC (he:ZE X e te) (hl:ZE X lo tl) (hk:ZE X hi tk):ZE X (.Subscript e (.Slice (some lo) none (some hi) p2) pos) (tStp te tl tk):=by with_unfolding_all exact pe_stp he hl hk
end
end L2
namespace M47
open M39 M43 M48
def S (t:Nat) (g:Nat->Int):Int:=(.(8).map g).sum
theorem kz (g:Nat->Int):S 0 g=0:=rfl
theorem cB (t:Nat) (g:Nat->Int):S (t+1) g=S t g+g t:=by unfold S;rw [zB2,zA3,zC2];simp
theorem aW {t:Nat} {g k:Nat->Int} (h:∀ i,i<t->g i=k i):S t g=S t k:=by
 unfold S;congr 1;exact zA4 fun i hi=>h i (zA6.mp hi)
theorem dX (g k:Nat->Int):∀ t,S t (fun i=>g i+k i)=S t g+S t k
 | 0=>rfl
 | t+1=>by rw [cB,cB,cB,dX g k t];lia
theorem cS (c:Int) (g:Nat->Int):∀ t,S t (fun i=>c*g i)=c*S t g
 | 0=>by rw [kz,kz,Int.mul_zero]
 | t+1=>by rw [cB,cB,cS c g t,zK8]
theorem S_nil:∀ t,S t (fun _=>0)=0
 | 0=>rfl
 | t+1=>by rw [cB,S_nil t];rfl
theorem kA (F:Nat->Nat->Int) (m:Nat):∀ t,S t (fun i=>S m fun j=>F i j)=S m fun j=>S t fun i=>F i j
 | 0=>by rw [kz,aW (g:=fun j=>S 0 fun i=>F i j) (k:=fun _=>0) (fun _ _=>rfl),S_nil]
 | t+1=>by
   rw [cB,kA F m t,← dX];exact aW fun j _=>(cB t fun i=>F i j).symm
def del (a k:Nat):Int:=if k=a then 1 else 0
theorem iP (f:Nat->Int) (a:Nat):∀ t,S t (fun k=>f k*del a k)=if a<t then f a else 0
 | 0=>rfl
 | t+1=>by
   rw [cB,iP f a t];unfold del;by_cases h:t=a
   · subst h;rw [if_pos rfl,if_neg (zG7 _),if_pos (zF6 _)];lia
   · rw [if_neg h,Int.mul_zero,Int.add_zero];by_cases h2:a<t
     · rw [if_pos h2,if_pos (by lia)]
     · rw [if_neg h2,if_neg (by lia)]
theorem dt_S (t:Nat) (f:Nat->Int) (r:Nat):dt t f t r=S t fun k=>f k*vk t k r:=rfl
theorem tW (t:Nat) (f:Nat->Int) (c:Nat->Int):S t (fun r=>c r*dt t f t r)=S t fun k=>f k*S t fun r=>c r*vk t k r:=by
 have e:∀ r,r<t->c r*dt t f t r=S t fun k=>f k*(c r*vk t k r):=fun r _=>by
  rw [dt_S,← cS];exact aW fun k _=>by rw [Int.mul_left_comm]
 rw [aW e,kA];exact aW fun k _=>cS (f k) (fun r=>c r*vk t k r) t
def pv (t:Nat) (n:Nat->Int) (i m:Nat):Int:=(.(20).map fun (j:Nat)=>n j*vk t i j).sum
def pl (n:Nat->Int) (m:Nat):Int:=(.(20).map fun (j:Nat)=>(j:Int)*n j).sum
def pO (t:Nat) (n:Nat->Int) (i:Nat):Int:=pv t n i t+(pl n t+pl (vk t i) t+2*((t:Int) - cw t)) / (t:Int)
def gq (t k i:Nat):Int:=(pl (vk t k) t+pl (vk t i) t+2*((t:Int) - cw t)) / (t:Int)
theorem tab_q {t:Nat} (h3:T3 t):∀ k,k<t->∀ i,i<t->pl (vk t k) t+pl (vk t i) t+2*((t:Int) - cw t)=(t:Int)*gq t k i:=by rcases h3 with rfl | rfl | rfl <;> decide +kernel
theorem tab_g {t:Nat} (h3:T3 t):∀ k,k<t->∀ i,i<t->(S t fun r=>vk t i r*vk t k r)+gq t k i=2*del i k - del ((i+t - 1) % t) k - del ((i+1) % t) k:=by rcases h3 with rfl | rfl | rfl <;> decide +kernel
theorem vb (t:Nat) (f:Nat->Int) (i:Nat):pv t (dt t f t) i t=S t fun k=>f k*S t fun r=>vk t i r*vk t k r:=by
 rw [← tW];exact aW fun r _=>zL4 _ _
theorem vm (t:Nat) (f:Nat->Int):pl (dt t f t) t=S t fun k=>f k*pl (vk t k) t:=tW t f fun r=>(r:Int)
theorem wD {t:Nat} (h3:T3 t) {f:Nat->Int} (h:(.(8).map f).sum=1):∀ i,i<t->pO t (dt t f t) i=2*f i - f ((i+t - 1) % t) - f ((i+1) % t):=by
 intro i hi;have h:S t f=1:=h;have t0:0<t:=by lia
 have e1:pl (dt t f t) t+pl (vk t i) t+2*((t:Int) - cw t)=(t:Int)*S t fun k=>f k*gq t k i:=by
  have a:pl (vk t i) t+2*((t:Int) - cw t)=S t fun k=>(pl (vk t i) t+2*((t:Int) - cw t))*f k:=by rw [cS,h,zL5]
  rw [Int.add_assoc,a,vm,← dX,← cS];refine aW fun k hk=>?_;have q:=tab_q h3 k hk i hi;rw [Int.mul_left_comm,← q];grind
 unfold pO;rw [e1,Int.mul_ediv_cancel_left _ (by lia),vb,← dX];have e2:∀ k,k<t->f k*(S t fun r=>vk t i r*vk t k r)+f k*gq t k i=2*(f k*del i k)+(-1*(f k*del ((i+t - 1) % t) k) + -1*(f k*del ((i+1) % t) k)):=fun k hk=>by
  rw [← zK8,tab_g h3 k hk i hi];grind
 rw [aW e2,dX,dX,cS,cS,cS,iP,iP,iP,if_pos hi,if_pos (Nat.mod_lt _ t0),if_pos (Nat.mod_lt _ t0)];lia
def tK (t k j:Nat):Int:=((if t=5 then ([[1,1,0,0,-1],[-1,-1,0,0,0],[-3,-4,1,2,3],[2,2,-1,-1,-1],[2,2,0,-1,-1]]:List (List Int)) else if t=7 then [[1,1,0,0,0,0,-1],[-1,-2,1,1,1,2,2],[-4,-6,1,2,3,4,5],[-3,-4,1,1,2,2,3],[3,4,-1,-2,-2,-3,-3],[3,4,-1,-1,-2,-3,-3],[2,3,-1,-1,-2,-2,-3]] else [[0,-1,0,0,0,1,1,1,1,1,1],[-1,-2,0,0,0,1,1,1,1,1,2],[-2,-4,1,1,1,2,2,2,3,3,4],[-4,-7,1,2,2,3,3,4,5,5,6],[0,0,0,0,0,0,-1,0,0,0,0],[-3,-5,1,1,2,2,2,3,3,4,4],[0,0,0,0,1,0,0,0,0,0,0],[2,4,-1,-1,-1,-2,-2,-3,-3,-3,-4],[4,7,-1,-1,-2,-3,-3,-4,-5,-5,-6],[5,9,-1,-2,-3,-4,-4,-5,-6,-7,-8],[0,-1,0,0,0,0,1,1,1,1,1]]).getD k []).getD j 0
def dm (t r j:Nat):Int:=if r=0 then (if j=0 then -cw t else if j=1 then -(t:Int) else (j:Int) - 1) else if r=1 then (if j=0 then cw t else if j=1 then (t:Int) else -(j:Int)) else del r j
theorem tab_s {t:Nat} (h3:T3 t):∀ j,j<t->(S t fun k=>tK t k j)=del 0 j:=by rcases h3 with rfl | rfl | rfl <;> decide +kernel
theorem tab_d {t:Nat} (h3:T3 t):∀ r,r<t->∀ j,j<t->(S t fun k=>vk t k r*tK t k j)=dm t r j:=by rcases h3 with rfl | rfl | rfl <;> decide +kernel
def par (n:Nat->Int) (k:Int) (j:Nat):Int:=if j=0 then 1 else if j=1 then k else n j
theorem rN {t:Nat} (h3:T3 t) {n:Nat->Int} (h0:(.(8).map n).sum=0) (h1:ro t n % (t:Int)=cw t):∃ f:Nat->Int,(.(8).map f).sum=1/\∀ r,r<t->dt t f t r=n r:=by
 have h0:S t n=0:=h0;have t5:5<=t:=by rcases h3 with rfl | rfl | rfl <;> decide
 have hr:ro t n=S t fun j=>(j:Int)*n j:=rfl;generalize hk:ro t n / (t:Int)=k;have hro:ro t n=cw t+(t:Int)*k:=by
  have:=Int.mul_ediv_add_emod (ro t n) (t:Int);rw [hk,h1] at this;lia
 refine ⟨fun i=>S t fun j=>tK t i j*par n k j,?_,fun r hrt=>?_⟩
 · show S t (fun i=>S t fun j=>tK t i j*par n k j)=1;rw [kA];have e:∀ j,j<t->(S t fun i=>tK t i j*par n k j)=par n k j*del 0 j:=fun j hj=>by
    rw [← tab_s h3 j hj,← cS];exact aW fun i _=>zL4 _ _
   rw [aW e,iP,if_pos (by lia)];rfl
 · have e:dt t (fun i=>S t fun j=>tK t i j*par n k j) t r=S t fun j=>par n k j*dm t r j:=by
    rw [dt_S];have a:∀ i,i<t->(S t fun j=>tK t i j*par n k j)*vk t i r=S t fun j=>par n k j*(vk t i r*tK t i j):=fun i _=>by
     rw [zL4,← cS];exact aW fun j _=>by grind
    rw [aW a,kA];refine aW fun j hj=>?_;rw [cS,tab_d h3 r hrt j hj]
   rw [e];have d1:∀ g:Nat->Int,S t (fun j=>g j*del 1 j)=g 1:=fun g=>by rw [iP,if_pos (by lia)]
   have d0:∀ g:Nat->Int,S t (fun j=>g j*del 0 j)=g 0:=fun g=>by rw [iP,if_pos (by lia)]
   by_cases r0:r=0
   · subst r0;have a:∀ j,j<t->par n k j*dm t 0 j=((j:Int)*n j + -1*n j)+(((-cw t+n 0)*del 0 j)+((-(t:Int)*k)*del 1 j)):=fun j _=>by
      unfold par dm del;by_cases j0:j=0
      · subst j0;simp;lia
      · by_cases j1:j=1
        · subst j1;simp;grind
        · simp [j0,j1];grind
     rw [aW a,dX,dX,dX,cS,d0 fun _=>-cw t+n 0,d1 fun _=>-(t:Int)*k,← hr,h0,hro];grind
   · by_cases r1:r=1
     · subst r1;have a:∀ j,j<t->par n k j*dm t 1 j=-1*((j:Int)*n j)+((cw t*del 0 j)+(((t:Int)*k+n 1)*del 1 j)):=fun j _=>by
        unfold par dm del;by_cases j0:j=0
        · subst j0;simp
        · by_cases j1:j=1
          · subst j1;simp;grind
          · simp [j0,j1];grind
       rw [aW a,dX,dX,cS,d0 fun _=>cw t,d1 fun _=>(t:Int)*k+n 1,← hr,hro];lia
     · have a:∀ j,j<t->par n k j*dm t r j=n j*del r j:=fun j _=>by
        unfold dm;rw [if_neg r0,if_neg r1];unfold par del;by_cases jr:j=r
        · subst jr;simp [r0,r1]
        · simp [jr]
       rw [aW a,iP,if_pos hrt]
def ups (rs:List Int) (m:Nat):List Int:=.(20).map fun (j:Nat)=>(rs.take j).sum
def br (rs:List Int) (total:Int):List Int:=(ups rs (rs.length+1)).map fun x=>(total - (ups rs (rs.length+1)).sum) / ((rs.length+1:Nat):Int)+x
theorem cK (rs:List Int) (m:Nat):(ups rs m).length=m:=by unfold ups;simp
theorem ups_succ (rs:List Int) (m:Nat):ups rs (m+1)=ups rs m++[(rs.take m).sum]:=by unfold ups;rw [zB2,zA3];rfl
theorem uv {rs:List Int} {i:Nat} (h:i<rs.length):(rs.take (i+1)).sum=(rs.take i).sum+rs[i]:=by
 rw [zD3,List.getElem?_eq_getElem h,zC2];simp
theorem gE (d:Nat->Int):∀ m,(.(20).map fun (j:Nat)=>d (j+1) - d j).sum=d m - d 0
 | 0=>by simp
 | m+1=>by
   rw [zB2,zA3,zC2,gE d m];sleep 23;lia
theorem pY (d:Nat->Int) (m:Nat):ups (.(20).map fun (j:Nat)=>d (j+1) - d j) (m+1)=(List.range (m+1)).map fun (j:Nat)=>d j - d 0:=by
 unfold ups;sleep 38;have hj:j<=m:=by have:=zA6.mp hj;lia
 rw [← List.map_take,List.take_range,Nat.min_eq_left hj,gE]
theorem jZ (d:Nat->Int) (c:Int):∀ m:Nat,(.(20).map fun (j:Nat)=>d j - c).sum=(.(20).map d).sum - (m:Int)*c
 | 0=>by simp
 | m+1=>by
   rw [zB2,zA3,zC2,jZ d c m,zA3,zC2];sleep 23;rw [zK0,Int.add_mul];lia
theorem br_of (d:Nat->Int) (m:Nat) (total:Int) (h:total=((List.range (m+1)).map d).sum):br (.(20).map fun (j:Nat)=>d (j+1) - d j) total=(List.range (m+1)).map d:=by
 have hl:(.(20).map fun (j:Nat)=>d (j+1) - d j).length=m:=by simp
 unfold br;rw [hl,pY,jZ,h,zE6];have e:((List.range (m+1)).map d).sum - (((List.range (m+1)).map d).sum - ((m+1:Nat):Int)*d 0)=((m+1:Nat):Int)*d 0:=by lia
 rw [e,Int.mul_ediv_cancel_left _ (by lia)];refine zA4 fun j _=>?_;show d 0+(d j - d 0)=d j;lia
def bds (t:Nat) (n:Nat->Int):List Int:=.(8).map (pO t n)
def rss (t:Nat) (n:Nat->Int):List Int:=br (((bds t n).drop 1).map fun b=>-b) 0
def frm (t:Nat) (n:Nat->Int):List Int:=br ((rss t n).take (t - 1)) 1
theorem lu (t:Nat) (g:Nat->Int):((List.range (t+1)).map g).drop 1=.(8).map fun (j:Nat)=>g (j+1):=by
 rw [zJ1,zB6,List.drop_one,List.tail_cons,zE6];rfl
theorem wm (f:Nat->Int) (m:Nat):((List.range (m+1)).map fun (j:Nat)=>f ((j+1) % (m+1)) - f j).sum=0:=by
 have e:((List.range (m+1)).map fun (j:Nat)=>f ((j+1) % (m+1)) - f j)=(.(20).map fun (j:Nat)=>f (j+1) - f j)++[f 0 - f m]:=by
  rw [zB2,zA3];congr 1
  · sleep 38;have:=zA6.mp hj;rw [zE9 (by lia)]
  · simp
 rw [e,zC2,gE];simp only [zB4,zI6];lia
theorem rss_is {t:Nat} (h3:T3 t) {f:Nat->Int} (h:(.(8).map f).sum=1):rss t (dt t f t)=.(8).map fun (j:Nat)=>f ((j+1) % t) - f j:=by
 have t1:1<t:=by rcases h3 with rfl | rfl | rfl <;> decide
 obtain ⟨m,rfl⟩:∃ m,t=m+1:=⟨t - 1,by lia⟩
 unfold rss bds;rw [lu,zE6];have e:(.(20).map ((fun b=>-b) ∘ fun (j:Nat)=>pO (m+1) (dt (m+1) f (m+1)) (j+1)))=.(20).map fun (j:Nat)=>(fun (j:Nat)=>f ((j+1) % (m+1)) - f j) (j+1) - (fun (j:Nat)=>f ((j+1) % (m+1)) - f j) j:=by
  sleep 38;have hj:=zA6.mp hj;show -(pO (m+1) (dt (m+1) f (m+1)) (j+1))=f ((j+1+1) % (m+1)) - f (j+1) - (f ((j+1) % (m+1)) - f j);rw [wD h3 h (j+1) (by lia)];have e1:(j+1+(m+1) - 1) % (m+1)=j:=by
   rw [show j+1+(m+1) - 1=j+(m+1) by lia,Nat.add_mod_right];exact zE9 (by lia)
  have e2:(j+1) % (m+1)=j+1:=zE9 (by lia);rw [e1,e2];lia
 rw [e];exact br_of (fun (j:Nat)=>f ((j+1) % (m+1)) - f j) m 0 (wm f m).symm
theorem tD {t:Nat} (h3:T3 t) {f:Nat->Int} (h:(.(8).map f).sum=1):frm t (dt t f t)=.(8).map f:=by
 have t1:1<t:=by rcases h3 with rfl | rfl | rfl <;> decide
 obtain ⟨m,rfl⟩:∃ m,t=m+1:=⟨t - 1,by lia⟩
 unfold frm;rw [rss_is h3 h,← List.map_take,List.take_range,Nat.add_sub_cancel,Nat.min_eq_left (by lia)];have e:(.(20).map fun (j:Nat)=>f ((j+1) % (m+1)) - f j)=.(20).map fun (j:Nat)=>f (j+1) - f j:=by
  sleep 38;have:=zA6.mp hj;rw [zE9 (by lia)]
 rw [e];exact br_of f m 1 h.symm
theorem mE (n:Nat->Int):∀ t:Nat,(sq t n - (.(8).map n).sum) % 2=0
 | 0=>rfl
 | t+1=>by
   have ih:=mE n t;have e:sq (t+1) n=sq t n+n t*n t:=by unfold sq;rw [zB2,zA3,zC2];simp
   rw [e,zB2,zA3,zC2];sleep 23;have h2:(n t*n t - n t) % 2=0:=by
    have:n t*n t - n t=n t*(n t - 1):=by rw [Int.mul_sub,zL5]
    rw [this,Int.mul_emod];have hc:n t % 2=0\/n t % 2=1:=by lia
    rcases hc with hc | hc
    · rw [hc];simp
    · have:(n t - 1) % 2=0:=by lia
      rw [this];simp
   lia
theorem uM {t:Nat} {n:Nat->Int} (h0:(.(8).map n).sum=0):((t:Int)*sq t n / 2+ro t n) % (t:Int)=ro t n % (t:Int):=by
 have h:=mE n t;rw [h0] at h;obtain ⟨k,hk⟩:∃ k,sq t n=2*k:=⟨sq t n / 2,by lia⟩
 rw [hk];have e:(t:Int)*(2*k) / 2=(t:Int)*k:=by
  rw [show (t:Int)*(2*k)=2*((t:Int)*k) by grind];exact Int.mul_ediv_cancel_left _ (by decide)
 rw [e,Int.add_comm,zJ6]
end M47
namespace K79
open PySem L2 M39 M40 M43 M48 M47
def cI (as bs:List Int) (m:Nat):List Int:=.(20).map fun (j:Nat)=>nf as j*nf bs j
theorem lv (as bs:List Int) (m:Nat):cI as bs (m+1)=cI as bs m++[nf as m*nf bs m]:=by unfold cI;rw [zB2,zA3];rfl
theorem oA (as bs:List Int) (m:Nat):(cI as bs m).length=m:=by unfold cI;simp
def plc (t:Nat):List Int:=.(8).map fun (j:Nat)=>(j:Int)
theorem nP {t j:Nat} (h:j<t):nf (plc t) j=(j:Int):=by unfold nf plc;simp [h]
theorem cw_is {t:Nat} (h3:T3 t):((rnd t).getD 0 []).sum=cw t/\0<(rnd t).length:=by rcases h3 with rfl | rfl | rfl <;> exact ⟨by decide,by decide⟩
theorem cw_lim {t:Nat} (h3:T3 t):0<=cw t/\cw t<t:=by rcases h3 with rfl | rfl | rfl <;> decide
theorem pX (rs:List Int) (m:Nat):atI ((ups rs (m+1)).map V.int) (-1)=some (.int (rs.take m).sum):=by
 rw [ups_succ,zA3];exact sn _ _
section
variable {P:Program} {w:World} {K:PySem.W.Frag} {mg:Str->Option Value} {base:Heap} {f:Addr} {fd:FuncData}
theorem sc_wr:FnScope ["t"] ["t"] (ag (top 19)):=.(0)
def qe:Sp:=fun vs H Q _=>∃ t:Nat,vs=[.int t]/\T3 t/\Q (.int (cw t)) H
theorem ok_wr (F:Fun K "weight_of_round" "weight_of_round" (top 19) f fd) (m_sum:mg "sum" = none) (g_ROUNDS:TabG K mg "ROUNDS" RD):FnOk P w K mg base CX0 1 f fd ["t"] qe:=by
 refine F.okz sc_wr .(16) .(3)
 · obtain ⟨t,rfl,_⟩:=h;rfl
 obtain ⟨t,rfl,h3,q⟩:=h;have nd:=sc_wr.nd;have hu:=hr.units;refine ⟨_,(ai (aH (pR rfl rfl m_sum (aa (cJ ix_K (sA rfl g_ROUNDS (zn 0) .(33)) am .(33)) af) rfl rfl))),?_⟩;refine ⟨(t:Int),rnd t,rfl,m9 h3,fun a hT=>?_⟩;obtain ⟨as,ha,hlen,hrw⟩:=hT;obtain ⟨e1,e2⟩:=cw_is h3;have h0:0<as.length:=by lia
 refine ⟨_,ha.sq _,.ref as[0],bx (j:=0) rfl (by rw [List.getElem?_map,List.getElem?_eq_getElem h0];rfl),?_⟩;refine ⟨_,(hrw 0 h0 e2).sq _,?_⟩;have:(rnd t)[0].sum=cw t:=by
  rw [← e1,zA2,List.getElem?_eq_getElem e2];rfl
 rw [this];exact q
theorem sc_sp:FnScope ["one","other"] ["one","other"] (ag (top 22)):=.(0)
def uC:Sp:=fun vs H Q _=>∃ (c d:Bool) (a b:Addr) (as bs:List Int) (m:Nat),vs=[.ref a,.ref b]/\SqK H c a (as.map V.int)/\SqK H d b (bs.map V.int)/\as.length=m/\bs.length=m/\m<=100/\(∀ i,i<m->IntMulOk (nf as i) (nf bs i))/\∀ H',Same H H'->Q (.int (cI as bs m).sum) H'
theorem ok_sp (F:Fun K "sum_of_products" "sum_of_products" (top 22) f fd) (m_sum:mg "sum" = none) (m_zip:mg "zip" = none):FnOk P w K mg base CX0 1 f fd ["one","other"] uC:=by
 refine F.okz sc_sp .(16) .(3)
 · obtain ⟨c,d,a,b,as,bs,m,rfl,_⟩:=h;rfl
 obtain ⟨c,d,a,b,as,bs,m,rfl,ha,hb,la,lb,hm,ok,q⟩:=h;have nd:=sc_sp.nd;have hu:=hr.units;have em:min (as.map V.int).length (bs.map V.int).length=m:=by rw [zA0,zA0];lia
 refine ⟨_,(ai (aH (dB rfl rfl m_sum (aa (aV ["left","right"] [] rfl .(4) (sy rfl m_zip .(31)) dH (fun _ _ _ _=>cr rfl (aB (aj (i:=0) (show List.Nodup (["left","right"]:List Str) by decide +kernel) rfl .(12)) (aB (aj (i:=1) (show List.Nodup (["left","right"]:List Str) by decide +kernel) rfl .(12)) bB))) .(37) (fun _ _ _ _=>(ax aI (zn 0) (zn 1)))) af) rfl rfl))),?_⟩;refine ⟨c,d,_,_,ha,hb,wv (xs:=as.map V.int) (ys:=bs.map V.int) (fun i zs H'=>Same H H'/\zs=(cI as bs i).map V.int) ⟨Same.refl _,rfl⟩ ?_ ?_ ?_ ?_⟩
 · rintro i zs H' _ ⟨y,_⟩;exact ⟨ha.same y,hb.same y⟩
 · rintro i zs H' hi ⟨_,rfl⟩;rw [em] at hi;rw [zA0,oA];exact ao (by lia)
 · rintro i x y zs H' p' hx hy ⟨yy,rfl⟩ hp';have hi:i<as.length:=by
    sleep 0;rwa [zA0] at this
   have hi2:i<bs.length:=by lia
   have ex:x=.int as[i]:=by rw [fP hi] at hx;exact .(25).symm
   subst ex;have ey:y=.int bs[i]:=by rw [fP hi2] at hy;exact (Option.some.inj hy).symm
   subst ey;refine ⟨p',_,rfl,SqT.of ae,rfl,_,_,rfl,_,_,rfl,rfl,?_⟩;have o:=ok i (by lia);rw [cj hi,cj hi2] at o;refine ⟨o,?_⟩;refine ⟨yy.trans (Same.new hp' _),?_⟩;rw [lv,zA3,cj hi,cj hi2];rfl
 · rintro zs H' ⟨yy,rfl⟩ D2 hD2;rw [em];refine ⟨_,.inl (SqL.of ae),?_⟩;exact q _ (yy.trans (Same.new hD2 _))
end
def SmX (L:Addr) (H H':Hp):Prop:=∀ b o,b≠L->H b=some o->H' b=some o
theorem SmX.refl (L:Addr) (H:Hp):SmX L H H:=fun _ _ _ e=>e
theorem SmX.put {L:Addr} {H H':Hp} {o:HO} (x:SmX L H H'):SmX L H (upd H' L o):=fun b u nb e=>by rw [au nb];exact x b u nb e
theorem SmX.then {L:Addr} {H H1 H2:Hp} (x:SmX L H H1) (y:Same H1 H2):SmX L H H2:=fun b u nb e=>y _ _ (x b u nb e)
theorem mX {t:Nat} (h:t<=1000):Builtin.Range.small 0 (t:Int) 1=true:=M27.small_up (by decide) (by decide) (by decide) (by decide) (by lia) (by lia)
theorem qN {t:Nat}:(((List.range (Builtin.Range.rangeSize 0 (t:Int) 1).toNat).map fun (k:Nat)=>(0:Int)+k*1).map V.int)=(plc t).map V.int:=by
 have es:(Builtin.Range.rangeSize 0 (t:Int) 1).toNat=t:=by
  rw [M27.size_up (by decide)];by_cases h:(0:Int)<(t:Int)
  · rw [if_pos h,Int.ediv_one];lia
  · rw [if_neg h];lia
 rw [es];congr 1;unfold plc;refine zA4 fun j _=>?_;lia
theorem dot_pl {t:Nat} {ns:List Int}:(cI (plc t) ns t).sum=pl (nf ns) t:=by
 unfold cI pl;congr 1;sleep 38;rw [nP (zA6.mp hj)]
theorem dot_pv {t i:Nat} {ns:List Int} (h:i<(vks t).length):(cI ns (vks t)[i] t).sum=M47.pv t (nf ns) i t:=by
 unfold cI M47.pv;congr 1;sleep 38;have hj:=zA6.mp hj;have hr:j<(vks t)[i].length:=by rw [fX h];exact hj
 rw [← ui h hr,cj hr]
theorem wk {t i:Nat} (h:i<(vks t).length):(cI (plc t) (vks t)[i] t).sum=pl (vk t i) t:=by
 unfold cI pl;congr 1;sleep 38;have hj:=zA6.mp hj;have hr:j<(vks t)[i].length:=by rw [fX h];exact hj
 rw [nP hj,← ui h hr,cj hr]
theorem sj {t i:Nat} (n:Nat->Int) (h:i<t):(bds t n).take (i+1)=(bds t n).take i++[pO t n i]:=by
 have hl:i<(bds t n).length:=by unfold bds;simpa using h
 rw [zD3,List.getElem?_eq_getElem hl];congr 1;simp [bds]
section
variable {P:Program} {w:World} {K:PySem.W.Frag} {mg:Str->Option Value} {base:Heap} {f:Addr} {fd:FuncData}
theorem sc_bo:FnScope ["t","numbers","places","beyond","told","beside","sums"] ["t","numbers"] (ag (top 23)):=.(0)
def uJ:Sp:=fun vs H Q _=>∃ (a:Addr) (ns:List Int) (t:Nat),vs=[.int t,.ref a]/\H a=some (.tup .(27))/\T3 t/\ns.length=t/\∀ p H',Same H H'->H' p=some (.lst ((bds t (nf ns)).map V.int))->Q (.ref p) H'
theorem ok_bo (F:Fun K "bends_of" "bends_of" (top 23) f fd) (m_list:mg "list" = none) (m_range:.(81)) (F_sum_of_products:FnA P w K mg base "sum_of_products" 1 ["one","other"] uC) (F_vectors_of_round:FnA P w K mg base "vectors_of_round" 4 ["t"] qf) (F_weight_of_round:FnA P w K mg base "weight_of_round" 1 ["t"] qe):FnOk P w K mg base CX0 5 f fd ["t","numbers"] uJ:=by
 refine F.okz sc_bo .(16) .(3)
 · sleep 17
 obtain ⟨a,ns,t,rfl,ha,h3,hl,q⟩:=h;have nd:=sc_bo.nd;have hu:=hr.units;sleep 3;have vl:=fY h3;have cl:=cw_lim h3;refine ⟨_,(ah (ay (i:=2) nd rfl .(12) (kC rfl rfl m_list (aa (kB rfl m_range .(50) rfl rfl) af) rfl rfl))
  (ah (ay (i:=3) nd rfl .(12) (ax aI am (ax ba (zn 0) (az F_weight_of_round hr (by decide) rfl .(50)))))
  (ah (ay (i:=4) nd rfl .(12) (bP af))
  (ah (bE PassesOwn.never rfl (bF (az F_vectors_of_round hr (by decide) rfl .(50))) (aj (i:=5) nd rfl .(12)) (ah (ay (i:=6) nd rfl .(12) (ax aG (az F_sum_of_products hr (by decide) rfl (aa (zn 2) (aa (zn 1) af))) (az F_sum_of_products hr (by decide) rfl (aa (zn 2) (aa (zn 5) af)))))
  (ai (dA (bN (zn 4) (aa (ax aG (az F_sum_of_products hr (by decide) rfl (aa (zn 1) (aa (zn 5) af))) (ax bf (ax aG (zn 6) (zn 3)) (zn 0))) af))))))
  (ai (aH (zn 4))))))),?_⟩
 refine fun r0 hr0=>?_;have g0:=Same.new hr0 (qt r0 0 (t:Int) 1);refine ⟨0,(t:Int),1,ae,mX (by lia),by decide,by rw [M27.size_up (by decide)];split <;> lia,fun l hl0=>?_⟩;rw [qN];have g1:=g0.trans (Same.new hl0 (.lst ((plc t).map V.int)));have hll:upd (upd H r0 (qt r0 0 (t:Int) 1)) l (.lst ((plc t).map V.int)) l=some (.lst ((plc t).map V.int)):=ae;generalize upd (upd H r0 (qt r0 0 (t:Int) 1)) l (.lst ((plc t).map V.int))=H1 at g1 hll;refine ⟨t,rfl,h3,?_⟩;refine ⟨nR (by decide) (by decide),?_⟩;refine ⟨by show 0<=sizeLine;decide,fun D hD=>?_⟩;have g2:=Same.new hD (.lst []);have hDD:upd H1 D (.lst []) D=some (.lst []):=ae;have ll:=g2 _ _ hll;have g12:=g1.trans g2;have hHD:H D=none:=cp g1 hD;generalize upd H1 D (.lst [])=H2 at g2 hDD ll g12;refine ⟨t,rfl,h3,fun p rs H3 hp y3 hp3 tls=>?_⟩;have pD:p≠D:=fun z=>by rw [z,hDD] at hp;cases hp
 have lD:l≠D:=fun z=>by rw [z] at hll;rw [hD] at hll;cases hll
 have aD:a≠D:=aM ha hHD;have tl1:=tls.len;have pl_len:(plc t).length=t:=by unfold plc;simp
 refine ⟨p,rfl,⟨_,SqL.of hp3⟩,cG (xs:=rs.map V.ref) (fun i σ H'=>SmX D H3 H'/\i<=t/\H' D=some (.lst (((bds t (nf ns)).take i).map V.int))/\∃ x5 x6,σ=[some (.int t),some (.ref a),some (.ref l),some (.int (2*((t:Int) - cw t))),some (.ref D),x5,x6]) ⟨SmX.refl _ _,zC5 _,y3 _ _ hDD,_,_,rfl⟩ ?_ ?_ ?_⟩
 · rintro i σ H' _ ⟨y,_⟩;exact SqL.of (y _ _ pD hp3)
 · rintro i x σ H' hx ⟨y,_,hDi,x5,x6,rfl⟩;have hi:i<rs.length:=by
    sleep 0;rwa [zA0] at this
   sleep 27;subst ex;have hi2:i<(vks t).length:=by lia
   have hr3:=tls.at_ i hi hi2;have rD:rs[i]≠D:=fun z=>by
    rw [z,y3 _ _ hDD] at hr3;cases hr3
   have hv:=y _ _ rD hr3;have hl4:=y _ _ lD (y3 _ _ ll);have ha4:=y _ _ aD (y3 _ _ (g12 _ _ ha));have rw1:=fX hi2;have lim:=sF h3 _ (zC0 hi2);have nfl:∀ j,j<t->-(2 ^ 64)<nf (plc t) j/\nf (plc t) j<2 ^ 64:=fun j hj=>by rw [nP hj];lia
   have nfv:∀ j,j<t->-(2 ^ 64)<nf (vks t)[i] j/\nf (vks t)[i] j<2 ^ 64:=fun j hj=>by
    have hj2:j<(vks t)[i].length:=by lia
    rw [cj hj2];have:=lim _ (zC0 hj2);lia
   refine ⟨false,true,l,a,plc t,ns,t,rfl,SqK.lst hl4,SqK.tup ha4,pl_len,hl,by lia,fun j hj=>nR (nfl j hj).1 (nfl j hj).2,fun H5 y5=>?_⟩;refine ⟨false,true,l,rs[i],plc t,(vks t)[i],t,rfl,SqK.lst (y5 _ _ hl4),SqK.tup (y5 _ _ hv),pl_len,rw1,by lia,fun j hj=>nR (nfl j hj).1 (nfl j hj).2,fun H6 y6=>?_⟩;have z6:=y5.trans y6;refine ⟨.inl ⟨rfl,_,SqL.of (z6 _ _ hDi)⟩,?_⟩;refine ⟨true,true,a,rs[i],ns,(vks t)[i],t,rfl,SqK.tup (z6 _ _ ha4),SqK.tup (z6 _ _ hv),hl,rw1,by lia,fun j hj=>vP (nfv j hj).1 (nfv j hj).2,fun H7 y7=>?_⟩;have z7:=z6.trans y7;refine ⟨.(40),?_⟩;refine ⟨_,z7 _ _ hDi,by rw [zA0,zB9];exact ao (by lia),?_⟩;refine ⟨(y.then z7).put,by lia,?_,_,_,rfl⟩;rw [ae,sj _ (by lia),zA3];have e:(cI ns (vks t)[i] t).sum+((cI (plc t) ns t).sum+(cI (plc t) (vks t)[i] t).sum+2*((t:Int) - cw t)) / (t:Int)=pO t (nf ns) i:=by rw [dot_pl,dot_pv hi2,wk hi2];rfl
   rw [← e];rfl
 · rintro σ H' ⟨y,_,hDi,x5,x6,rfl⟩;rw [zA0,tl1,vl,zB8 (by unfold bds;simp)] at hDi;refine q D H' (fun b o e=>?_) hDi;exact y b o (aM e hHD) (y3 _ _ (g12 _ _ e))
theorem sc_br:FnScope ["rises","total","told","rise","first"] ["rises","total"] (ag (top 24)):=.(0)
def uI:Sp:=fun vs H Q _=>∃ (a:Addr) (rs:List Int) (c:Int),vs=[.ref a,.int c]/\H a=some (.lst (rs.map V.int))/\rs.length<=100/\∀ p H',H p=none->Same H H'->H' p=some (.lst ((br rs c).map V.int))->Q (.ref p) H'
theorem ok_br (F:Fun K "by_rises" "by_rises" (top 24) f fd) (m_len:.(79)) (m_sum:mg "sum" = none):FnOk P w K mg base CX0 1 f fd ["rises","total"] uI:=by
 refine F.okz sc_br .(16) .(3)
 · obtain ⟨a,rs,c,rfl,_⟩:=h;rfl
 obtain ⟨a,rs,c,rfl,ha,hl,q⟩:=h;have nd:=sc_br.nd;have hu:=hr.units;refine ⟨_,(ah (ay (i:=2) nd rfl .(12) (bP (aa am af)))
  (ah (bE PassesOwn.never rfl (bF (zn 0)) (aj (i:=3) nd rfl .(12)) (ai (dA (bN (zn 2) (aa (ax aG (cJ dz (zn 2) (fU cV am) .(33)) (zn 3)) af)))))
  (ah (ay (i:=4) nd rfl (Or.inr rfl) (ax bf (ax ba (zn 1) (dB rfl rfl m_sum (aa (zn 2) af) rfl rfl)) (bK rfl m_len (aa (zn 2) af) rfl rfl)))
  (ai (aH (aV ["number"] [("first",4)] rfl .(4) (bF (zn 2)) aQ (fun _ _ _ _=>aj (i:=0) (show List.Nodup (["number","first"]:List Str) by decide +kernel) rfl .(12)) .(37) (fun _ _ _ _=>(ax aG (zn 1) (zn 0))))))))),?_⟩
 refine ⟨by show 1<=sizeLine;decide,fun D hD=>?_⟩;have g0:=Same.new hD .(96);have hDD:upd H D .(96) D=some .(96):=ae;have ha1:=g0 _ _ ha;have aD:a≠D:=aM ha hD;generalize upd H D .(96)=H1 at g0 hDD ha1;refine ⟨a,rfl,⟨_,SqL.of ha1⟩,cG (xs:=rs.map V.int) (fun i σ H'=>SmX D H1 H'/\i<=rs.length/\H' D=some (.lst ((ups rs (i+1)).map V.int))/\∃ x3,σ=[some (.ref a),some (.int c),some (.ref D),x3,none]) ⟨SmX.refl _ _,zC5 _,hDD,_,rfl⟩ ?_ ?_ ?_⟩
 · rintro i σ H' _ ⟨y,_⟩;exact SqL.of (y _ _ aD ha1)
 · rintro i x σ H' hx ⟨y,_,hDi,x3,rfl⟩;have hi:i<rs.length:=by
    sleep 0;rwa [zA0] at this
   have ex:x=.int rs[i]:=by rw [fP hi] at hx;exact .(25).symm
   subst ex;refine ⟨.inl ⟨rfl,_,SqL.of hDi⟩,?_⟩;refine ⟨1,rfl,_,.inl (SqL.of hDi),.int (rs.take i).sum,pX rs i,?_⟩;refine ⟨_,hDi,by rw [zA0,cK];exact ao (by lia),?_⟩;refine ⟨y.put,by lia,?_,_,rfl⟩;rw [ae,ups_succ rs (i+1),zA3,uv hi];rfl
 · rintro σ H' ⟨y,_,hDi,x3,rfl⟩;rw [zA0] at hDi;refine ⟨_,.inl (SqL.of hDi),?_⟩;refine ⟨_,.inl (SqL.of hDi),?_⟩;rw [zA0,cK];refine ⟨.(40),?_⟩;refine ⟨D,rfl,⟨_,SqL.of hDi⟩,cH (xs:=(ups rs (rs.length+1)).map V.int) (fun i zs H2=>H2=H'/\zs=((br rs c).take i).map V.int) ⟨rfl,rfl⟩ ?_ ?_ ?_⟩
   · rintro i zs H2 _ ⟨rfl,_⟩;exact SqL.of hDi
   · rintro i x zs H2 hx ⟨rfl,rfl⟩;have hi:i<(ups rs (rs.length+1)).length:=by
      sleep 0;rwa [zA0] at this
     have ex:x=.int (ups rs (rs.length+1))[i]:=by rw [fP hi] at hx;exact .(25).symm
     subst ex;have hi2:=hi;rw [cK] at hi2;refine ⟨by rw [zA0,zB9];exact ao (by lia),?_⟩;refine ⟨rfl,?_⟩;have hb:i<(br rs c).length:=by unfold br;rw [zA0,cK];exact hi2
     rw [zD3,List.getElem?_eq_getElem hb,zA3];congr 1;simp [br]
   · rintro zs H2 ⟨rfl,rfl⟩ L hL;rw [zA0,cK,zB8 (by unfold br;rw [zA0,cK];exact zA1 _)];refine q L _ ?_ (fun b o e=>?_) ae
     · refine cp (H':=H2) (fun b o e=>?_) hL;exact y b o (aM e hD) (g0 _ _ e)
     · rw [au (fun z=>by rw [z] at e;have:=y L o (aM e hD) (g0 _ _ e);rw [hL] at this;cases this)];exact y b o (aM e hD) (g0 _ _ e)
end
theorem rV (ws:List Int) (k:Nat):fG (ws.map V.int) (some (k:Int)) none=(ws.drop k).map V.int:=by
 unfold fG;rw [HT.sIx_none,HT.sIx_nat,List.map_drop];by_cases h:k<=(ws.map V.int).length
 · rw [Nat.min_eq_left h,zB8 (by rw [zD1];exact zA1 _)]
 · rw [Nat.min_eq_right (by lia),List.drop_of_length_le (zA1 _),List.drop_of_length_le (by lia),List.take_nil]
theorem kj {ws:List Int} {m:Nat} (h:ws.length=m+1):fG (ws.map V.int) none (some (-1))=(ws.take m).map V.int:=by
 unfold fG;have e:HT.sIx (ws.map V.int).length (ws.map V.int).length (some (-1))=m:=by
  rw [zA0,h];unfold HT.sIx;dsimp only;rw [if_pos (by decide)];lia
 rw [HT.sIx_none,e,List.drop_zero,Nat.sub_zero,List.map_take]
theorem br_len (rs:List Int) (c:Int):(br rs c).length=rs.length+1:=by unfold br;rw [zA0,cK]
theorem pj (t:Nat) (n:Nat->Int):(bds t n).length=t:=by unfold bds;simp
theorem uR {t:Nat} (n:Nat->Int) (h:0<t):(rss t n).length=t:=by unfold rss;rw [br_len,zA0,zD1,pj];lia
section
variable {P:Program} {w:World} {K:PySem.W.Frag} {mg:Str->Option Value} {base:Heap} {f:Addr} {fd:FuncData}
theorem sc_fo:FnScope ["t","numbers","rises"] ["t","numbers"] (ag (top 25)):=.(0)
def uH:Sp:=fun vs H Q _=>∃ (a:Addr) (ns:List Int) (t:Nat),vs=[.int t,.ref a]/\H a=some (.tup .(27))/\T3 t/\ns.length=t/\(∀ n∈ns,Bt n)/\sz ns % (t:Int)=cw t/\∀ r H',Same H H'->H' r=some (.tup ((frm t (nf ns)).map V.int))->Q (.ref r) H'
theorem ok_fo (F:Fun K "frame_of" "frame_of" (top 25) f fd) (m_tuple:.(99)) (F_bends_of:FnA P w K mg base "bends_of" 5 ["t","numbers"] uJ) (F_by_rises:FnA P w K mg base "by_rises" 1 ["rises","total"] uI) (F_size_of:FnA P w K mg base "size_of" 1 ["numbers"] uB) (F_weight_of_round:FnA P w K mg base "weight_of_round" 1 ["t"] qe):FnOk P w K mg base CX0 6 f fd ["t","numbers"] uH:=by
 refine F.okz sc_fo .(16) .(3)
 · sleep 17
 obtain ⟨a,ns,t,rfl,ha,h3,hl,hb,hs,q⟩:=h;have nd:=sc_fo.nd;have hu:=hr.units;sleep 3;refine ⟨_,(ah (dR (aR (eZ hu) (ax bn (az F_size_of hr (by decide) rfl (aa (zn 1) af)) (zn 0)) (az F_weight_of_round hr (by decide) rfl .(50)) (aJ _)) (ai ub) bA)
  (ah (ay (i:=2) nd rfl .(12) (az F_by_rises hr (by decide) rfl (aa (aV ["bend"] [] rfl .(4) (bF (cT sl_P (az F_bends_of hr (by decide) rfl .(31)) (eD am) eE)) aQ (fun _ _ _ _=>aj (i:=0) (show List.Nodup (["bend"]:List Str) by decide +kernel) rfl .(12)) .(37) (fun _ _ _ _=>(fU cV (zn 0)))) (aa am af))))
  (ai (aH (be rfl m_tuple (aa (az F_by_rises hr (by decide) rfl (aa (cT sl_P (zn 2) eE (eD (fU cV am))) (aa am af))) af) rfl rfl))))),?_⟩
 refine ⟨a,ns,rfl,ha,by lia,hb,fun H1 y1=>?_⟩;refine ⟨by lia,?_⟩;refine ⟨t,rfl,h3,?_⟩;refine iteB (fun c=>by simp [hs] at c) (fun _=>?_);refine ⟨a,ns,t,rfl,y1 _ _ ha,h3,hl,fun p H2 y2 hp=>?_⟩;refine ⟨_,rfl,p,rfl,.inr ⟨_,SqL.of hp,fun c1 hc1=>?_⟩⟩;have e1:=rV (bds t (nf ns)) 1;have e1:fG ((bds t (nf ns)).map V.int) (some 1) none=.(35).map V.int:=e1;rw [e1];have z2:=(y1.trans y2).trans (Same.new hc1 (.lst (.(35).map V.int)));have hc:upd H2 c1 (.lst (.(35).map V.int)) c1=some (.lst (.(35).map V.int)):=ae;generalize upd H2 c1 (.lst (.(35).map V.int))=H3 at z2 hc;have dl:.(35).length=t - 1:=by rw [zD1,pj]
 refine ⟨c1,rfl,⟨_,SqL.of hc⟩,cH (xs:=.(35).map V.int) (fun i zs H'=>H'=H3/\zs=((.(35).map fun b=>-b).take i).map V.int) ⟨rfl,rfl⟩ ?_ ?_ ?_⟩
 · rintro i zs H' _ ⟨rfl,_⟩;exact SqL.of hc
 · rintro i x zs H' hx ⟨rfl,rfl⟩;have hi:i<.(35).length:=by
    sleep 0;rwa [zA0] at this
   have ex:x=.int .(35)[i]:=by rw [fP hi] at hx;exact .(25).symm
   subst ex;refine ⟨by rw [zA0,zB9,zA0];exact ao (by lia),?_⟩;refine ⟨_,rfl,?_⟩;refine ⟨rfl,?_⟩;rw [zD3,List.getElem?_map,List.getElem?_eq_getElem hi,zA3];rfl
 · rintro zs H' ⟨rfl,rfl⟩ D hD;rw [zA0,zB8 (by rw [zA0];exact zA1 _)];have z4:=z2.trans (Same.new hD (.lst ((.(35).map fun b=>-b).map V.int)));have hDD:upd H' D (.lst ((.(35).map fun b=>-b).map V.int)) D=some (.lst ((.(35).map fun b=>-b).map V.int)):=ae;generalize upd H' D (.lst ((.(35).map fun b=>-b).map V.int))=H4 at z4 hDD;refine ⟨D,_,0,rfl,hDD,by rw [zA0];lia,fun p5 H5 _ y5 hp5=>?_⟩;have hp5:H5 p5=some (.lst ((rss t (nf ns)).map V.int)):=hp5;refine ⟨1,rfl,_,rfl,p5,rfl,.inr ⟨_,SqL.of hp5,fun c6 hc6=>?_⟩⟩;rw [kj (m:=t - 1) (by rw [uR _ (by lia)];lia)];have z6:=(z4.trans y5).trans (Same.new hc6 (.lst (((rss t (nf ns)).take (t - 1)).map V.int)));refine ⟨c6,_,1,rfl,ae,by rw [zB9];lia,fun p7 H7 _ y7 hp7=>?_⟩;refine ⟨_,.inl (SqL.of hp7),fun r H8 y8 hr8=>?_⟩;exact q r H8 ((z6.trans y7).trans y8) hr8
end
theorem lF {t i:Nat} {n m:Nat->Int} (h:∀ r,r<t->n r=m r):pO t n i=pO t m i:=by
 have e1:M47.pv t n i t=M47.pv t m i t:=by
  unfold M47.pv;congr 1;sleep 38;rw [h j (zA6.mp hj)]
 have e2:pl n t=pl m t:=by
  unfold pl;congr 1;sleep 38;rw [h j (zA6.mp hj)]
 unfold pO;rw [e1,e2]
theorem iy {t:Nat} {n m:Nat->Int} (h:∀ r,r<t->n r=m r):frm t n=frm t m:=by
 have:bds t n=bds t m:=by
  unfold bds;exact zA4 fun j _=>lF h
 unfold frm rss;rw [this]
theorem eG {t:Nat} {g k:Nat->Int} (h:∀ r,r<t->g r=k r):vby t g=vby t k:=by
 unfold vby dt;refine zA4 fun r _=>?_;congr 1;sleep 38;rw [h j (zA6.mp hj)]
theorem jU {t r:Nat} (g:Nat->Int) (h:r<t):nf (.(8).map g) r=g r:=by unfold nf;simp [h]
theorem frm_ok {t:Nat} {ns:List Int} (h3:T3 t) (hl:ns.length=t) (h0:ns.sum=0) (hs:sz ns % (t:Int)=cw t):(frm t (nf ns)).length=t/\(frm t (nf ns)).sum=1/\vby t (nf (frm t (nf ns)))=ns:=by
 have hn:(.(8).map (nf ns)).sum=0:=by rw [← hl,ci];exact h0
 have hr:ro t (nf ns) % (t:Int)=cw t:=by
  rw [← hs];unfold sz;rw [hl];exact (uM hn).symm
 obtain ⟨g,g1,g2⟩:=rN h3 hn hr;have e:frm t (nf ns)=.(8).map g:=by
  rw [← tD h3 g1];exact iy fun r hr=>(g2 r hr).symm
 rw [e];refine ⟨by simp,g1,?_⟩;rw [eG (fun r hr=>jU g hr)];rw [← ci ns,hl];unfold vby;exact zA4 fun r hr=>g2 r (zA6.mp hr)
theorem rM {t:Nat} {fs:List Int} (h3:T3 t) (hl:fs.length=t) (h1:fs.sum=1):frm t (nf (vby t (nf fs)))=fs:=by
 have hs:(.(8).map (nf fs)).sum=1:=by rw [← hl,ci];exact h1
 have e:=tD h3 hs;have e2:.(8).map (nf fs)=fs:=by rw [← hl,ci]
 rw [e2] at e;rw [← e];have:frm t (dt t (nf fs) t)=fs:=e;rw [this];rw [← e];refine iy fun r hr=>?_;rw [e];rw [cj (show r<(vby t (nf fs)).length by rw [gb];exact hr)];simp [vby]
end K79
namespace K79H
open K79 PySem L2 M39 M40
theorem n0 {K:PySem.W.Frag} {x y z:Str}:KpG2 [x,y,z] (gTup K 2 (lh (dW 0) (lh (dW 1) gNil))) (dW 2):=fun fr v H Q h=>by
 obtain ⟨a,xs,e,hq,hl,v1,r1,e1,v2,r2,e2,e3,q⟩:=h;refine ⟨a,xs,e,hq,hl,v1,r1,e1,v2,r2,e2,e3,⟨⟨by simp,fun i w e=>?_⟩,fun v3 H3 Q3 h3=>⟨⟨by simp,fun i w e=>?_⟩,h3⟩⟩,q⟩
 · match i,e with
   | 0,e=>cases e
   | 1,e=>cases e
   | i+2,e=>exact e
 · match i,e with
   | 0,e=>exact e
   | 1,e=>exact e
   | 2,e=>cases e
   | i+3,e=>exact e
theorem lz {nv:List Str} {ix:List (Str×Nat)} {σ:L2.St} {H:Hp} {g1 g2:TG} {ti1 ti2:TT} {wi2:TI} {te:TE} {Fin:.(88)} {c:Bool} {a:Addr} {xs:List V} (Pv:.(94)) (h0:Pv 0 [] H) (hl:∀ i zs H,i<=xs.length->Pv i zs H->SqK H c a xs)
 (hs:∀ i x zs H p,xs[i]? = some x->Pv i zs H->H p=none->g1 (.ref p) .(98) (upd H p (.tup [.int i,x])) fun σ1 H2=>ti1 σ1 H2 fun b H3=>if b=true then wi2 σ1 H3 fun J2 H4=>CmpI g2 ti2 te σ1 J2 zs (Pv (i+1)) H4 else Pv (i+1) zs H3)
 (hd:∀ zs H,Pv xs.length zs H->Fin zs H):wM nv ix g1 ti1 wi2 g2 ti2 te σ (ItE c a) Fin H:=by
 refine ⟨fun i m zs H=>m=xs.length - i/\i<=xs.length/\Pv i zs H,⟨_,rfl,zC5 _,h0⟩,?_⟩;rintro i m zs H ⟨rfl,hi,p⟩;have q:=hl i zs H hi p;by_cases hlt:i<xs.length
 · refine .inr ⟨.(74),Pv (i+1),fun σ' H' p'=>⟨_,by lia,rfl,hlt,p'⟩,fun x H' y=>?_⟩;obtain ⟨pp,hn',rfl,hy⟩:=y;obtain ⟨z,hz,rfl⟩:=hy xs q;exact hs i z zs H pp hz p hn'
 · have e:i=xs.length:=by lia
   subst e;exact .inl ⟨⟨xs,q,rfl⟩,hd zs H p⟩
theorem lw {σ:L2.St} {H:Hp} {g:TG} {ti:TT} {te:TE} {ys:List V} {Fin:.(88)} {lo:Int} {n:Nat} (Pv:.(94)) (h0:Pv 0 ys H)
 (hs:∀ i zs H,i<n->Pv i zs H->zs.length<sizeLine/\g (.int (lo+i)) σ H fun σ2 H2=>ti σ2 H2 fun b H3=>if b=true then te σ2 H3 fun y H4=>Pv (i+1) (zs++[y]) H4 else Pv (i+1) zs H3)
 (hd:∀ zs H,Pv n zs H->Fin zs H):CmpI g ti te σ (Itr lo n) ys Fin H:=by
 refine ⟨fun i m zs H=>m=n - i/\i<=n/\Pv i zs H,⟨n,by simp,zC5 _,h0⟩,?_⟩;rintro i m zs H ⟨rfl,hi,p⟩;by_cases hlt:i<n
 · refine .inr ⟨hlt,(hs i zs H hlt p).1,Pv (i+1),fun σ' H' p'=>⟨n - (i+1),by lia,rfl,hlt,p'⟩,fun x H' y=>?_⟩;obtain ⟨e',y⟩:=y;subst e' y;exact (hs i zs _ hlt p).2
 · have e:i=n:=by lia
   subst e;exact .inl ⟨zA1 _,hd zs H p⟩
theorem ord_up {ns:List Int} (h:PyProof.Rows.Ordered false ns):ns.Pairwise (·<=·):=h
def rS (as:List Int) (m:Nat):List Int:=.(20).map fun (j:Nat)=>as.getD j 0 - j
theorem oB (as:List Int) (m:Nat):rS as (m+1)=rS as m++[as.getD m 0 - m]:=by unfold rS;rw [zB2,zA3];rfl
theorem rR (as:List Int) (m:Nat):(rS as m).length=m:=by unfold rS;simp
theorem lr (l:List Int) (x:Int):(l++[x]).filter (fun x=>decide (0<x))=if 0<x then l.filter (fun x=>decide (0<x))++[x] else l.filter (fun x=>decide (0<x)):=by
 rw [zG4];by_cases h:0<x
 · rw [if_pos h,zI9 (by simpa using h)];rfl
 · rw [if_neg h,zJ0 (by simpa using h)];simp
section
variable {P:Program} {w:World} {K:PySem.W.Frag} {mg:Str->Option Value} {base:Heap} {f:Addr} {fd:FuncData}
theorem sc_po:FnScope ["beads","parts"] ["beads"] (ag (top 7)):=.(0)
def sp_po:Sp:=fun vs H Q _=>∃ (a:Addr) (bs:List Int),vs=[.ref a]/\H a=some (.lst (bs.map V.int))/\bs.length<=900/\∀ r H',Same H H'->H' r=some (.tup ((pt bs).map V.int))->Q (.ref r) H'
theorem ok_po (F:Fun K "parting_of" "parting_of" (top 7) f fd) (m_enumerate:mg "enumerate" = none) (m_reversed:mg "reversed" = none) (m_sorted:mg "sorted" = none) (m_tuple:.(99)):FnOk P w K mg base CX0 1 f fd ["beads"] sp_po:=by
 refine F.okz sc_po .(16) .(3)
 · obtain ⟨a,bs,rfl,_⟩:=h;rfl
 obtain ⟨a,bs,rfl,ha,hl,q⟩:=h;have nd:=sc_po.nd;have hu:=hr.units;refine ⟨_,(ah (cC (i:=1) ["behind","bead"] [] rfl nd rfl .(12) .(4) (cD rfl m_enumerate (aa (lQ rfl m_sorted .(50) rfl rfl) af)) dH (fun _ _ _ _=>cr rfl (aB (aj (i:=0) (show List.Nodup (["behind","bead"]:List Str) by decide +kernel) rfl .(12)) (aB (aj (i:=1) (show List.Nodup (["behind","bead"]:List Str) by decide +kernel) rfl .(12)) bB))) .(37) (fun _ _ _ _=>(ax ba (zn 1) (zn 0))))
  (ai (aH (be rfl m_tuple (aa (aV ["part"] [] rfl .(4) (zi_rev rfl m_reversed (aa (zn 1) af)) aQ (fun _ _ _ _=>aj (i:=0) (show List.Nodup (["part"]:List Str) by decide +kernel) rfl .(12)) (fun _ _ _ _=>(lO (aR ii (zn 0) am (aJ _)))) (fun _ _ _ _=>(zn 0))) af) rfl rfl)))),?_⟩
 refine ⟨bs,.inl (SqL.of ha),fun l as hl0 perm ord=>?_⟩;have e:=asc_eq perm (ord_up ord);subst e;have yl:=Same.new hl0 (.lst ((asc bs).map V.int));have hlen:=gH bs;refine ⟨false,_,SqK.lst ae,dk (xs:=(asc bs).map V.int) (fun i zs H'=>Same (upd H l (.lst ((asc bs).map V.int))) H'/\zs=(rS (asc bs) i).map V.int) ⟨Same.refl _,rfl⟩ ?_ ?_ ?_ ?_⟩
 · rintro i zs H' _ ⟨y,_⟩;exact SqK.lst (y _ _ ae)
 · rintro i zs H' hi ⟨_,rfl⟩;rw [zA0,rR];rw [zA0] at hi;exact ao (by lia)
 · rintro i x zs H' p hx ⟨y,rfl⟩ hp;have hi:i<(asc bs).length:=by
    sleep 0;rw [zA0] at this;exact this
   have ex:x=.int ((asc bs).getD i 0):=by
    rw [List.getElem?_map,List.getElem?_eq_getElem hi] at hx;rw [zA2,List.getElem?_eq_getElem hi];exact .(25).symm
   subst ex;sleep 22;refine ⟨y.trans (Same.new hp _),?_⟩;rw [oB,zA3];rfl
 · rintro zs H1 ⟨y1,rfl⟩ D hD;rw [zA0];have yD:=Same.new hD (.lst ((rS (asc bs) (asc bs).length).map V.int));have z1:=(yl.trans y1).trans yD;have hD1:(upd H1 D (.lst ((rS (asc bs) (asc bs).length).map V.int))) D=some (.lst ((dl (asc bs)).map V.int)):=ae;generalize upd H1 D (.lst ((rS (asc bs) (asc bs).length).map V.int))=H2 at z1 hD1;have hn:(dl (asc bs)).length=(asc bs).length:=kh _;refine ⟨_,SqL.of hD1,ww (xs:=(dl (asc bs)).map V.int) (fun i zs H'=>H'=H2/\zs=(((dl (asc bs)).reverse.take i).filter fun x=>decide (0<x)).map V.int) ⟨rfl,by rw [zK5];rfl⟩ ?_ ?_ ?_⟩
   · rintro i zs H' _ ⟨rfl,_⟩;exact SqL.of hD1
   · rintro i x zs H' hi hx ⟨rfl,rfl⟩;rw [zA0] at hi hx;have hk:(dl (asc bs)).length - 1 - i<(dl (asc bs)).length:=by lia
     rw [List.getElem?_map,List.getElem?_eq_getElem hk] at hx;have ex:=.(25).symm;subst ex;have et:(dl (asc bs)).reverse.take (i+1)=(dl (asc bs)).reverse.take i++[(dl (asc bs))[(dl (asc bs)).length - 1 - i]]:=by
      rw [zD3,List.getElem?_reverse hi,List.getElem?_eq_getElem hk];rfl
     rw [et,lr];refine ⟨?_,?_⟩
     · rw [zA0];refine ao (zD5 (List.length_filter_le _ _) ?_);rw [zB9];lia
     refine jf (fun c=>?_) (fun c=>?_)
     · rw [if_pos c,zA3];exact ⟨rfl,rfl⟩
     · rw [if_neg c];exact ⟨rfl,rfl⟩
   · rintro zs H' ⟨rfl,rfl⟩ D2 hD2;rw [zA0,zB8 (by rw [zJ9];exact zA1 _)];refine ⟨_,.inl (SqL.of ae),fun r H3 y3 hr3=>?_⟩;exact q r H3 ((z1.trans (Same.new hD2 _)).trans y3) hr3
end
def tu (t:Nat) (c:Nat->Nat) (m:Nat):List Int:=.(20).flatMap fun (r:Nat)=>(List.range (c r)).map fun (i:Nat)=>((r+t*i:Nat):Int)
def tq (t r j:Nat):List Int:=(List.range j).map fun (i:Nat)=>((r+t*i:Nat):Int)
theorem iu (t:Nat) (c:Nat->Nat) (m:Nat):tu t c (m+1)=tu t c m++tq t m (c m):=by
 unfold tu tq;rw [zB2,List.flatMap_append];simp
theorem nX (t r j:Nat):tq t r (j+1)=tq t r j++[((r+t*j:Nat):Int)]:=by unfold tq;rw [zB2,zA3];rfl
theorem jX (t r j:Nat):(tq t r j).length=j:=by unfold tq;simp
theorem j3 {t:Nat} {c:Nat->Nat}:∀ m:Nat,(∀ r,r<m->c r<=900)->(tu t c m).length<=m*900
 | 0,_=>zA1 _
 | m+1,h=>by
   rw [iu,zA5,jX,Nat.add_mul,Nat.one_mul];have:=j3 (t:=t) m fun r hr=>h r (by lia);have:=h m (by lia);lia
theorem mulS {a b:Int} (h1:-(2 ^ 64)<a) (h2:a<2 ^ 64):IntMulOk a b:=IntMulOk.of_left (intBits_le_64 h1 h2)
section
variable {P:Program} {w:World} {K:PySem.W.Frag} {mg:Str->Option Value} {base:Heap} {f:Addr} {fd:FuncData}
theorem sc_wl:FnScope ["numbers","t"] ["numbers"] (ag (top 10)):=.(0)
def sp_wl:Sp:=fun vs H Q _=>∃ (a:Addr) (t:Nat) (c:Nat->Nat),vs=[.ref a]/\H a=some (.lst (.(8).map fun (r:Nat)=>V.int (c r)))/\t<=100/\(∀ r,r<t->c r<=900)/\(aE t c).length<=900/\∀ r H',Same H H'->H' r=some (.tup (.(91).map V.int))->Q (.ref r) H'
theorem ok_wl (F:Fun K "with_least_beads" "with_least_beads" (top 10) f fd) (m_enumerate:mg "enumerate" = none) (m_len:.(79)) (m_range:.(81)) (F_parting_of:FnA P w K mg base "parting_of" 1 ["beads"] sp_po):FnOk P w K mg base CX0 2 f fd ["numbers"] sp_wl:=by
 refine F.okz sc_wl .(16) .(3)
 · obtain ⟨a,t,c,rfl,_⟩:=h;rfl
 obtain ⟨a,t,c,rfl,ha,ht,hc,hlen,q⟩:=h;have nd:=sc_wl.nd;have hu:=hr.units;refine ⟨_,(ah (ay (i:=1) nd rfl (Or.inr rfl) (bK rfl m_len .(50) rfl rfl))
  (ai (aH (az F_parting_of hr (by decide) rfl (aa (ze_two ["rest","number","at"] [("t",1)] rfl .(4) (cD rfl m_enumerate .(50)) n0 (fun _ _ _ _=>cr rfl (aB (aj (i:=0) .(80) rfl .(12)) (aB (aj (i:=1) .(80) rfl .(12)) bB))) .(37) (fun _ _ _ _=>(bO rfl m_range (aa (zn 1) af))) (fun _ _ _ _=>aj (i:=2) .(80) rfl .(12)) .(37) (fun _ _ _ _=>(ax aG (zn 0) (ax aI (zn 3) (zn 2))))) af))))),?_⟩
 refine ⟨_,.inl (SqL.of ha),?_⟩;rw [zA0,zC1];refine ⟨false,_,SqK.lst ha,lz (xs:=.(8).map fun (r:Nat)=>V.int (c r)) (fun i zs H'=>Same H H'/\zs=(tu t c i).map V.int) ⟨Same.refl _,rfl⟩ ?_ ?_ ?_⟩
 · rintro i zs H' _ ⟨y,_⟩;exact SqK.lst (y _ _ ha)
 · rintro i x zs H' p hx ⟨y,rfl⟩ hp;have hi:i<t:=by
    sleep 0;rw [zA0,zC1] at this;exact this
   have ex:x=.int (c i):=by
    rw [List.getElem?_map,List.getElem?_range hi] at hx;exact .(25).symm
   subst ex;have yp:=Same.new hp (.tup [.int (i:Int),.int (c i)]);sleep 22;have hci:=hc i hi;refine ⟨(c i:Int),rfl,by lia,by lia,?_⟩;refine lw (fun j zs H''=>Same H H''/\zs=(tu t c i++tq t i j).map V.int) ⟨y.trans yp,by show _=(tu t c i++[]).map V.int;rw [zD6]⟩ ?_ ?_
   · rintro j zs H'' hj ⟨y',rfl⟩;have hj':j<c i:=by lia
     have hlt:=j3 (t:=t) (c:=c) i fun r hr'=>hc r (by lia);refine ⟨?_,?_⟩
     · rw [zA0,zA5,jX,sizeLine_eq];have:i*900<=100*900:=Nat.mul_le_mul_right _ (by lia);lia
     refine ⟨mulS (by lia) (by lia),?_⟩;refine ⟨y',?_⟩;rw [nX,← zB7,zA3];have e:(i:Int)+(t:Int)*(0+(j:Int))=((i+t*j:Nat):Int):=by rw [Int.zero_add,zK0,zI5]
     show _++[V.int ((i:Int)+(t:Int)*(0+(j:Int)))]=_;rw [e];simp only [zA3,zB6,zF8]
   · rintro zs H'' ⟨y',rfl⟩;refine ⟨y',?_⟩;rw [iu,zD9]
 · rintro zs H1 ⟨y1,rfl⟩ D hD;rw [zA0,zC1];have yD:=Same.new hD (.lst ((tu t c t).map V.int));refine ⟨D,aE t c,rfl,ae,hlen,fun r H2 y2 hr2=>?_⟩;exact q r H2 ((y1.trans yD).trans y2) hr2
structure Tl (H:Hp) (qs:List Addr) (lss:List (List Int)):Prop where
 len:qs.length=lss.length
 at_:∀ (i:Nat) (h1:i<qs.length) (h2:i<lss.length),H qs[i]=some (.tup (lss[i].map V.int))
theorem Tl.same {H H':Hp} {qs:List Addr} {lss:List (List Int)} (x:Tl H qs lss) (y:Same H H'):Tl H' qs lss:=⟨x.len,fun i h1 h2=>y _ _ (x.at_ i h1 h2)⟩
theorem Tl.snoc {H:Hp} {qs:List Addr} {lss:List (List Int)} {q:Addr} {ls:List Int} (x:Tl H qs lss) (e:H q=some (.tup (ls.map V.int))):Tl H (qs++[q]) (lss++[ls]):=by
 have hl:=x.len;refine ⟨by rw [zA5,zA5,hl];rfl,fun i h1 h2=>?_⟩;by_cases hi:i<qs.length
 · rw [zF4 hi,zF4 (by lia)];exact x.at_ i hi (by lia)
 · have h1':i<qs.length+1:=by simpa using h1
   have e':i=qs.length:=by lia
   subst e';rw [zF3 (zA1 _),zF3 (by lia)];simpa [hl] using e
def quos (ns:List Int) (t:Nat):List (List Int):=.(8).map fun (r:Nat)=>pt (rq .(23) t r)
def core (ns:List Int) (t:Nat):List Int:=pt (aE t fun r=>cnt .(23) t r)
def Apt (H:Hp) (p:Addr) (ns:List Int) (t:Nat):Prop:=∃ c d qs,H p=some (.tup [.ref c,.ref d])/\H c=some (.tup ((core ns t).map V.int))/\H d=some (.tup (qs.map V.ref))/\Tl H qs (quos ns t)
theorem sc_apart:FnScope ["parting","t","runs","core"] ["parting","t"] (ag (top 12)):=.(0)
def sp_apart:Sp:=fun vs H Q _=>∃ (a:Addr) (ns:List Int) (t:Nat),vs=[.ref a,.int t]/\H a=some (.tup .(27))/\ns.length<=400/\0<t/\t<=20/\∀ p H',Same H H'->Apt H' p ns t->Q (.ref p) H'
theorem sR (bs:List Int) (t:Nat) {i:Nat} (h:i<(rns bs t).length):(rns bs t)[i]=rq bs t i:=eQ bs h
theorem ok_apart (F:Fun K "apart" "apart" (top 12) f fd) (m_len:.(79)) (m_tuple:.(99)) (F_rounds_of:FnA P w K mg base "rounds_of" 1 ["parting","t"] (bv K)) (F_runs_of:FnA P w K mg base "runs_of" 2 ["parting","t","rounds"] (bS K)) (F_parting_of:FnA P w K mg base "parting_of" 1 ["beads"] sp_po) (F_with_least_beads:FnA P w K mg base "with_least_beads" 2 ["numbers"] sp_wl):FnOk P w K mg base CX0 3 f fd ["parting","t"] sp_apart:=by
 refine F.okz sc_apart .(16) .(3)
 · sleep 17
 obtain ⟨a,ns,t,rfl,ha,hl,t0,t1,q⟩:=h;have nd:=sc_apart.nd;have hu:=hr.units;have hge:=g9 ns t0;have hle:=uY ns t0;refine ⟨_,(ah (ay (i:=2) nd rfl .(12) (az F_runs_of hr (by decide) rfl (aa (zn 0) (aa (zn 1) (aa (az F_rounds_of hr (by decide) rfl .(31)) af)))))
  (ah (ay (i:=3) nd rfl .(12) (az F_with_least_beads hr (by decide) rfl (aa (aV ["run"] [] rfl .(4) (bF (zn 2)) aQ (fun _ _ _ _=>aj (i:=0) (show List.Nodup (["run"]:List Str) by decide +kernel) rfl .(12)) .(37) (fun _ _ _ _=>(fV rfl m_len .(50) rfl rfl rfl))) af)))
  (ai (aH (bq (aa (zn 3) (aa (be rfl m_tuple (aa (aV ["run"] [] rfl .(4) (bF (zn 2)) aQ (fun _ _ _ _=>aj (i:=0) (show List.Nodup (["run"]:List Str) by decide +kernel) rfl .(12)) .(37) (fun _ _ _ _=>(az F_parting_of hr (by decide) rfl .(50)))) af) rfl rfl) af))))))),?_⟩
 refine ⟨a,ns,t,rfl,SqT.of ha,t0,by lia,?_⟩;refine ⟨a,ns,t,rd ns t,rfl,.inl ⟨ha,hge⟩,t0,by lia,by lia,fun p rs H1 _ _ y1 hp ls=>?_⟩;have hrl:rs.length=t:=by rw [ls.len];unfold rns;simp
 have hlr:∀ r,r<t->cnt .(23) t r<=900:=fun r _=>by
  have:cnt .(23) t r<=.(23).length:=List.countP_le_length;rw [bi] at this;lia
 refine ⟨p,rfl,⟨_,SqL.of hp⟩,cH (xs:=rs.map V.ref) (fun i zs H'=>H'=H1/\zs=(List.range i).map fun (r:Nat)=>V.int (cnt .(23) t r)) ⟨rfl,rfl⟩ ?_ ?_ ?_⟩
 · rintro i zs H' _ ⟨rfl,_⟩;exact SqL.of hp
 · rintro i x zs H' hx ⟨rfl,rfl⟩;have hi:i<rs.length:=by
    sleep 0;rw [zA0] at this;exact this
   rw [List.getElem?_map,List.getElem?_eq_getElem hi] at hx;have ex:=.(25).symm;subst ex;have h2:i<(rns .(23) t).length:=by rw [← ls.len];exact hi
   refine ⟨by rw [zA0,zC1];exact ao (by lia),?_⟩;refine ⟨_,.inl (SqL.of (ls.at_ i hi h2)),?_⟩;refine ⟨rfl,?_⟩;rw [zB2,zA3,zA0,sR,gX];rfl
 · rintro zs H' ⟨rfl,rfl⟩ D hD;rw [zA0,hrl];have yD:=Same.new hD (.lst (.(8).map fun (r:Nat)=>V.int (cnt .(23) t r)));refine ⟨D,t,fun r=>cnt .(23) t r,rfl,ae,by lia,hlr,by rw [kl t0];lia,fun c H2 y2 hc=>?_⟩;have z2:=yD.trans y2;have hp2:=z2 _ _ hp;have ls2:=ls.same z2;refine ⟨p,rfl,⟨_,SqL.of hp2⟩,cH (xs:=rs.map V.ref) (fun i zs H'=>Same H2 H'/\∃ qs,zs=qs.map V.ref/\Tl H' qs ((List.range i).map fun (r:Nat)=>pt (rq .(23) t r))) ⟨Same.refl _,[],rfl,rfl,fun i h1 _=>by cases h1⟩ ?_ ?_ ?_⟩
   · rintro i zs H' _ ⟨y,_⟩;exact SqL.of (y _ _ hp2)
   · rintro i x zs H' hx ⟨y,qs,rfl,tl⟩;have hi:i<rs.length:=by
      sleep 0;rw [zA0] at this;exact this
     rw [List.getElem?_map,List.getElem?_eq_getElem hi] at hx;have ex:=.(25).symm;subst ex;have h2:i<(rns .(23) t).length:=by rw [← ls.len];exact hi
     have hq:=y _ _ (ls2.at_ i hi h2);rw [sR] at hq;have ql:=tl.len;rw [zA0,zC1] at ql;refine ⟨by rw [zA0];exact ao (by lia),?_⟩;refine ⟨rs[i],_,rfl,hq,by rw [gX];exact hlr i (by lia),fun r H3 y3 hr3=>?_⟩;refine ⟨y.trans y3,qs++[r],by rw [zA3];rfl,?_⟩;rw [zB2,zA3];exact (tl.same y3).snoc hr3
   · rintro zs H' ⟨y,qs,rfl,tl⟩ D2 hD2;rw [zA0,hrl] at tl;have yD2:=Same.new hD2 (.lst (qs.map V.ref));refine ⟨_,.inl (SqL.of ae),fun r H3 y3 hr3=>?_⟩;have z3:=yD2.trans y3;refine ⟨by show 2<=sizeLine;decide,fun g hg=>?_⟩;have yg:=Same.new hg (.tup [V.ref c,.ref r]);exact q g _ ((((y1.trans z2).trans y).trans z3).trans yg) ⟨c,r,qs,ae,yg _ _ (z3 _ _ (y _ _ hc)),yg _ _ hr3,(tl.same z3).same yg⟩
end
end K79H
set_option exponentiation.threshold 1000
namespace M14
open MRow
def aS:Nat->(Nat->Int)->Int
 | 0,_=>0
 | m+1,h=>aS m h+h m
theorem bu {f g:Nat->Int}:∀ {m:Nat},(∀ i,i<m->f i=g i)->aS m f=aS m g
 | 0,_=>rfl
 | m+1,h=>by
   show aS m f+f m=aS m g+g m;rw [bu fun i hi=>h i (by lia),h m (by lia)]
theorem gQ (f g:Nat->Int):∀ m,aS m (fun i=>f i+g i)=aS m f+aS m g
 | 0=>rfl
 | m+1=>by
   show aS m (fun i=>f i+g i)+(f m+g m)=(aS m f+f m)+(aS m g+g m)
   rw [gQ f g m];lia
theorem bR:∀ {m:Nat} {f:Nat->Int},(∀ i,i<m->f i=0)->aS m f=0
 | 0,_,_=>rfl
 | m+1,f,h=>by
   show aS m f+f m=0;rw [bR fun i hi=>h i (by lia),h m (by lia)];rfl
theorem bZ (f:Nat->Int) (s:Nat):∀ m,aS (s+m) f=aS s f+aS m (fun i=>f (s+i))
 | 0=>by show aS s f=aS s f+0;lia
 | m+1=>by
   show aS (s+m) f+f (s+m)=aS s f+(aS m (fun i=>f (s+i))+f (s+m))
   rw [bZ f s m];lia
theorem dD (f:Nat->Int) (m:Nat):aS (m+1) f=f 0+aS m (fun i=>f (i+1)):=by
 have h:=bZ f 1 m;have e1:aS 1 f=f 0:=by show (0:Int)+f 0=f 0;lia
 have e2:aS m (fun i=>f (1+i))=aS m (fun i=>f (i+1)):=bu fun i _=>by rw [Nat.add_comm]
 rw [e1,e2] at h;rw [← h,Nat.add_comm]
theorem gP (f:Nat->Int):∀ m,aS m f=aS m (fun i=>f (m - 1 - i))
 | 0=>rfl
 | m+1=>by
   rw [dD (fun i=>f (m+1 - 1 - i)) m];show aS m f+f m=f (m+1 - 1 - 0)+aS m (fun i=>f (m+1 - 1 - (i+1)));have e:aS m (fun i=>f (m+1 - 1 - (i+1)))=aS m (fun i=>f (m - 1 - i)):=bu fun i hi=>by congr 1;lia
   have e0:m+1 - 1 - 0=m:=by lia
   rw [e,← gP f m,e0];lia
def conv (f g:Nat->Int) (n:Nat):Int:=aS (n+1) fun i=>f i*g (n - i)
theorem iE (f g:Nat->Int):conv f g=conv g f:=by
 funext n;unfold conv;rw [gP];refine bu fun i hi=>?_;have e1:n+1 - 1 - i=n - i:=by lia
 have e2:n - (n - i)=i:=by lia
 rw [e1,e2,zL4]
theorem gF (f g:Nat->Int) {s:Nat} (hs:0<s) (n:Nat):conv (put f s) g n=conv f g n+(if s<=n then conv (put f s) g (n - s) else 0):=by
 unfold conv;have e:aS (n+1) (fun i=>put f s i*g (n - i))=aS (n+1) (fun i=>f i*g (n - i))+aS (n+1) (fun i=>(if s<=i then put f s (i - s) else 0)*g (n - i)):=by
  rw [← gQ];refine bu fun i _=>?_;rw [← Int.add_mul,← put_eq f hs i]
 rw [e];congr 1;by_cases h:s<=n
 · rw [if_pos h];have en:n+1=s+(n - s+1):=by lia
   rw [en,bZ,bR (m:=s) fun i hi=>by rw [if_neg (by lia),Int.zero_mul],Int.zero_add];refine bu fun i hi=>?_;have e1:s+i - s=i:=by lia
   have e2:n - (s+i)=n - s - i:=by lia
   rw [if_pos (by lia),e1,e2]
 · rw [if_neg h];exact bR fun i hi=>by rw [if_neg (by lia),Int.zero_mul]
theorem qK {F c:Nat->Int} {s:Nat} (hs:0<s) (h:∀ n,F n=c n+(if s<=n then F (n - s) else 0)):F=put c s:=by
 have:∀ N n,n<=N->F n=put c s n:=by
  intro N;induction N with
  | zero=>intro n hn;rw [h n,put_eq c hs n,if_neg (by lia),if_neg (by lia)]
  | succ N ih=>
    intro n hn
    rw [h n,put_eq c hs n]
    by_cases hsn:s<=n
    · rw [if_pos hsn,if_pos hsn,ih _ (by lia)]
    · rw [if_neg hsn,if_neg hsn]
 funext n;exact this n n (zA1 _)
theorem km (f g:Nat->Int) {s:Nat} (hs:0<s):conv (put f s) g=put (conv f g) s:=qK hs (gF f g hs)
theorem oJ (f g:Nat->Int) {s:Nat} (hs:0<s):conv f (put g s)=put (conv f g) s:=by rw [iE,km g f hs,iE g f]
theorem wt (g:Nat->Int):conv dl g=g:=by
 funext n;unfold conv;rw [dD,bR fun i _=>by show dl (i+1)*_=0;unfold dl;rw [if_neg (Nat.succ_ne_zero i),Int.zero_mul]];show dl 0*g (n - 0)+0=g n;unfold dl;rw [if_pos rfl,Int.one_mul,Int.add_zero,Nat.sub_zero]
def S:Nat->Nat->Int
 | 0=>dl
 | s+1=>put (put (S s) (s+1)) (s+1)
end M14
namespace M81
open M39 M40 MRow
theorem bd_at (ns:List Int) {k i:Nat} (h:i<k):(bd ns k)[i]? = some (ns.getD i 0+k - 1 - i):=by
 unfold bd;rw [List.getElem?_map,List.getElem?_range h];rfl
theorem j9:∀ {a b:List Int},(∀ x∈a,(1:Int)<=x)->(∀ x∈b,(1:Int)<=x)->(∀ i,a.getD i 0=b.getD i 0)->a=b
 | [],[],_,_,_=>rfl
 | [],y::b,_,hb,h=>by
   have:=h 0;have h1:=hb y zA7;have h2:(0:Int)=y:=this;lia
 | x::a,[],ha,_,h=>by
   have:=h 0;have h1:=ha x zA7;have h2:x=(0:Int):=this;lia
 | x::a,y::b,ha,hb,h=>by
   have h0:x=y:=h 0;rw [h0,j9 (fun z hz=>ha z (zA9 _ hz)) (fun z hz=>hb z (zA9 _ hz)) fun i=>h (i+1)]
def Prt (ns:List Int):Prop:=(∀ n∈ns,(1:Int)<=n)/\ns.Pairwise (·>=·)
theorem Prt.nn {ns:List Int} (h:Prt ns):∀ n∈ns,(0:Int)<=n:=fun n hn=>by have:=h.1 n hn;lia
theorem bd_inj {a b:List Int} {k:Nat} (ha:∀ x∈a,(1:Int)<=x) (hb:∀ x∈b,(1:Int)<=x) (la:a.length<=k) (lb:b.length<=k) (h:bd a k=bd b k):a=b:=by
 refine j9 ha hb fun i=>?_;by_cases hi:i<k
 · have:=congrArg (fun l=>l[i]?) h;simp only [bd_at _ hi] at this;have:=Option.some.inj this;lia
 · rw [zA2,zA2,List.getElem?_eq_none (by lia),List.getElem?_eq_none (by lia)]
theorem wF {l:List Int} (h:l.Pairwise (· > ·)):(asc l).reverse=l:=by
 have h2:l.reverse.Pairwise (·<=·):=List.pairwise_reverse.mpr (h.imp fun h=>by lia);have:=asc_eq (l:=l) (zH5 l) h2;rw [← this,List.reverse_reverse]
theorem pt_bd {ns:List Int} {k:Nat} (h:Prt ns) (hk:ns.length<=k):pt (bd ns k)=ns:=by
 have nd:=du (k:=k) h.2 h.nn;have e:=lG nd (jo h.nn);rw [bi,wF (pq h.2 h.nn)] at e;have pk:=nj nd;have pl:=eV (bd ns k);rw [bi] at pl;exact bd_inj pk.1 h.1 pl hk e
def jb (t:Nat) (c:Nat->Nat) (q:Nat->List Int):List Int:=.(8).flatMap fun (r:Nat)=>(bd (q r) (c r)).map fun (b:Int)=>(r:Int)+(t:Int)*b
theorem flat_congr {α β:Type} {f g:α->List β}:∀ {l:List α},(∀ a∈l,f a=g a)->l.flatMap f=l.flatMap g
 | [],_=>rfl
 | a::l,h=>by rw [zE0,zE0,h a zA7,flat_congr fun b hb=>h b (zA9 _ hb)]
theorem iA {α β:Type} {f g:α->List β}:∀ {l:List α},(∀ a∈l,(f a).Perm (g a))->(l.flatMap f).Perm (l.flatMap g)
 | [],_=>.nil
 | a::l,h=>by
   rw [zE0,zE0];exact (h a zA7).append (iA fun b hb=>h b (zA9 _ hb))
theorem eB {t:Nat} {c d:Nat->Nat} {p q:Nat->List Int} (h:∀ r,r<t->c r=d r) (h2:∀ r,r<t->p r=q r):jb t c p=jb t d q:=
 flat_congr fun r hr=>by rw [h r (zA6.mp hr),h2 r (zA6.mp hr)]
theorem jb_nn {t:Nat} {c:Nat->Nat} {q:Nat->List Int} (h:∀ r,r<t->Prt (q r)):∀ b∈jb t c q,(0:Int)<=b:=fun b hb=>by
 obtain ⟨r,hr,hb⟩:=List.mem_flatMap.mp hb;obtain ⟨x,hx,rfl⟩:=zD0.mp hb;have:=jo (h r (zA6.mp hr)).nn x hx;have h2:0<=(t:Int)*x:=zK4 (by lia) this;lia
theorem iz {α:Type} (f:Nat->α) (g:Nat->List α):∀ l:List Nat,(l.flatMap fun r=>g r++[f r]).Perm (l.map f++l.flatMap g)
 | []=>.nil
 | a::l=>by
   rw [zE0,zB6,zE0];have ih:=iz f g l;have e1:((g a++[f a])++l.flatMap fun r=>g r++[f r]).Perm ((g a++[f a])++(l.map f++l.flatMap g)):=zF0 _ ih;refine e1.trans ?_;have e2:(g a++[f a]).Perm (f a::g a):=zH2 (l₁:=g a) (l₂:=[f a]);refine (e2.append_right _).trans ?_;rw [zK3,zK3];refine .cons _ ?_;rw [← zB7,← zB7];exact List.perm_append_comm.append_right _
theorem vT {t:Nat} {c:Nat->Nat} {q:Nat->List Int} (h:∀ r,r<t->(q r).length<=c r):(jb t (fun r=>c r+1) q).Perm ((.(8).map fun (i:Nat)=>(i:Int))++(jb t c q).map fun (b:Int)=>b+(t:Int)):=by
 have e:jb t (fun r=>c r+1) q=.(8).flatMap fun (r:Nat)=>((bd (q r) (c r)).map fun (b:Int)=>((r:Int)+(t:Int)*b)+(t:Int))++[(r:Int)]:=by
  refine flat_congr fun r hr=>?_;rw [po 1 (h r (zA6.mp hr)),zA3,zE6];congr 1
  · refine zA4 fun b _=>?_;show (r:Int)+(t:Int)*(b+((1:Nat):Int))=_;rw [zK8];lia
 rw [e];have e2:(jb t c q).map (fun (b:Int)=>b+(t:Int))=.(8).flatMap fun (r:Nat)=>(bd (q r) (c r)).map fun (b:Int)=>((r:Int)+(t:Int)*b)+(t:Int):=by
  unfold jb;rw [List.map_flatMap];refine flat_congr fun r _=>?_;rw [zE6];rfl
 rw [e2];exact iz _ _ _
theorem n5 {t:Nat} {c:Nat->Nat} {q:Nat->List Int} (hq:∀ r,r<t->Prt (q r)) (h:∀ r,r<t->(q r).length<=c r):∀ m:Nat,pt (jb t (fun r=>c r+m) q)=pt (jb t c q)
 | 0=>rfl
 | m+1=>by
   rw [← n5 hq h m];exact gu t (jb_nn hq) (vT fun r hr=>zD5 (h r hr) (zK2 _ _))
theorem iU {t:Nat} (ht:0<t) (bs:List Int) (h0:∀ b∈bs,(0:Int)<=b):(.(8).flatMap fun (r:Nat)=>(rq bs t r).map fun (b:Int)=>(r:Int)+(t:Int)*b).Perm bs:=by
 induction bs with
 | nil=>
   have:(.(8).flatMap fun (r:Nat)=>(rq [] t r).map fun (b:Int)=>(r:Int)+(t:Int)*b)=[]:=by
    rw [List.flatMap_eq_nil_iff];intro r _;rfl
   rw [this]
 | cons b bs ih=>
   have hb:=h0 b zA7
   have ih:=ih fun x hx=>h0 x (zA9 _ hx)
   obtain ⟨r0,er0,hr0⟩:∃ r0:Nat,b % (t:Int)=(r0:Int)/\r0<t:=by
    have h1:=zE5 b (show (t:Int)≠0 by lia);have h2:=zE3 b (show (0:Int)<(t:Int) by lia);exact ⟨(b % (t:Int)).toNat,by lia,by lia⟩
   have eb:(r0:Int)+(t:Int)*(b / (t:Int))=b:=by rw [← er0];exact Int.emod_add_mul_ediv b t
   have key:∀ l:List Nat,l.Nodup->(l.flatMap fun (r:Nat)=>(rq (b::bs) t r).map fun (x:Int)=>(r:Int)+(t:Int)*x).Perm ((if r0∈l then [b] else [])++l.flatMap fun (r:Nat)=>(rq bs t r).map fun (x:Int)=>(r:Int)+(t:Int)*x):=by
    intro l;induction l with
    | nil=>intro _;exact .nil
    | cons r l ihl=>
      intro hn
      have hn2:=List.nodup_cons.mp hn
      rw [zE0,zE0]
      by_cases e:r0=r
      · subst e;have e1:(rq (b::bs) t r0)=(b / (t:Int))::rq bs t r0:=by
         unfold rq;rw [zI9 (by simpa using er0)];rfl
        rw [e1,zB6,eb,if_pos zA7];have:=ihl hn2.2;rw [if_neg hn2.1,List.nil_append] at this;exact .cons _ (zF0 _ this)
      · have e1:(rq (b::bs) t r)=rq bs t r:=by
         unfold rq;rw [zJ0 (by rw [er0];simp;lia)]
        rw [e1];have:=ihl hn2.2;refine (zF0 _ this).trans ?_;have e2:(r0∈r::l)↔r0∈l:=by simp [e]
        simp only [e2];rw [← zB7,← zB7];exact List.perm_append_comm.append_right _
   refine (key _ List.nodup_range).trans ?_
   rw [if_pos (zA6.mpr hr0)]
   exact .cons _ ih
theorem jb_all {ns:List Int} {t k:Nat} (ht:0<t) (h:Prt ns):(jb t (fun r=>cnt (bd ns k) t r) fun r=>pt .(82)).Perm (bd ns k):=by
 refine List.Perm.trans ?_ (iU ht (bd ns k) (jo h.nn));refine iA fun r hr=>?_;have nd:=gk (r:=r) ht (du (k:=k) h.2 h.nn);have e:=lG nd (uU (jo h.nn));rw [gX] at e;rw [e];exact ((zH5 _).trans (bb _)).map _
def quo (ns:List Int) (t r:Nat):List Int:=pt (rq .(23) t r)
def cor (ns:List Int) (t:Nat):List Int:=pt (aE t fun r=>cnt .(23) t r)
theorem eU {ns:List Int} {t r:Nat} (ht:0<t) (h:Prt ns):Prt (quo ns t r):=nj (gk ht (du h.2 h.nn))
theorem iw {ns:List Int} {t M:Nat} (ht:0<t) (h:Prt ns) (hM:∀ r,r<t->(quo ns t r).length<=M) :
 pt (jb t (fun r=>ct (cor ns t) (t*(rd (cor ns t) t+M)) t r) fun r=>quo ns t r)=ns:=by
 have c1:∀ r,r<t->ct (cor ns t) (t*(rd (cor ns t) t+M)) t r=ct (cor ns t) (t*rd (cor ns t) t) t r+M:=fun r hr=>cq hr M;have hv:vec (cor ns t) t=vec ns t:=ju ht;have c2:∀ r,r<t->(ct (cor ns t) (t*rd (cor ns t) t) t r:Int) - rd (cor ns t) t=(ct ns (t*rd ns t) t r:Int) - rd ns t:=fun r hr=>by
  have:=congrArg (fun l=>l[r]?) hv;unfold vec at this;simp only [List.getElem?_map,List.getElem?_range hr] at this;exact Option.some.inj this
 rw [eB (d:=fun r=>ct (cor ns t) (t*rd (cor ns t) t) t r+M) (q:=fun r=>quo ns t r) c1 fun _ _=>rfl];rw [← n5 (t:=t) (c:=fun r=>ct (cor ns t) (t*rd (cor ns t) t) t r+M) (fun r _=>eU ht h) (fun r hr=>zD5 (hM r hr) (Nat.le_add_left _ _)) (rd ns t)];have e:jb t (fun r=>ct (cor ns t) (t*rd (cor ns t) t) t r+M+rd ns t) (fun r=>quo ns t r)=jb t (fun r=>cnt (bd ns (t*(rd ns t+(rd (cor ns t) t+M)))) t r) fun r=>pt (rq (bd ns (t*(rd ns t+(rd (cor ns t) t+M)))) t r):=by
  refine eB (fun r hr=>?_) fun r hr=>(gt h.nn hr _).symm;have a:=c2 r hr;have b:ct ns (t*(rd ns t+(rd (cor ns t) t+M))) t r=ct ns (t*rd ns t) t r+(rd (cor ns t) t+M):=cq hr _;show _=ct ns (t*(rd ns t+(rd (cor ns t) t+M))) t r;rw [b];lia
 rw [e,vf (jb_all ht h)];refine pt_bd h ?_;have:=g9 ns ht;rw [Nat.mul_add];lia
theorem sub_len {α:Type} [DecidableEq α]:∀ {l m:List α},l.Nodup->(∀ x∈l,x∈m)->l.length<=m.length
 | [],_,_,_=>zC5 _
 | a::l,m,hn,h=>by
   have hn2:=List.nodup_cons.mp hn;have ha:=h a zA7;have ih:=sub_len (m:=m.erase a) hn2.2 fun x hx=>by
    have:x≠a:=fun e=>hn2.1 (by rw [← e];exact hx);exact (List.mem_erase_of_ne this).mpr (h x (zA9 _ hx))
   rw [List.length_erase_of_mem ha] at ih;have:=List.length_pos_of_mem ha;rw [zC4];lia
end M81
namespace M41
open M39 M40 M43 M81
theorem sQ (a b:List Int) (t r:Nat):rq (a++b) t r=rq a t r++rq b t r:=by unfold rq;rw [zG4,zA3]
theorem mN {t r r':Nat} (ht:0<t) (hr':r' < t):∀ l:List Int,rq (l.map fun (b:Int)=>(r':Int)+(t:Int)*b) t r=if r'=r then l else []
 | []=>by unfold rq;simp
 | b::l=>by
   have ih:=mN (r:=r) ht hr' l;have e1:((r':Int)+(t:Int)*b) % (t:Int)=(r':Int):=by
    rw [zJ6];exact zJ4 (by lia) (by lia)
   have e2:((r':Int)+(t:Int)*b) / (t:Int)=b:=by
    rw [Int.add_mul_ediv_left _ _ (by lia)];rw [Int.ediv_eq_zero_of_lt (by lia) (by lia)];lia
   have sp:rq ((b::l).map fun (b:Int)=>(r':Int)+(t:Int)*b) t r=rq [(r':Int)+(t:Int)*b] t r++rq (l.map fun (b:Int)=>(r':Int)+(t:Int)*b) t r:=by
    rw [← sQ];rfl
   rw [sp,ih];by_cases h:r'=r
   · subst h;rw [if_pos rfl,if_pos rfl];unfold rq;simp [e1,e2]
   · rw [if_neg h,if_neg h];unfold rq;have:¬ ((r':Int)=(r:Int)):=by lia
     simp [e1,this]
theorem mO {t r:Nat} (ht:0<t) (f:Nat->List Int):∀ m,m<=t->rq (.(20).flatMap fun (r':Nat)=>(f r').map fun (b:Int)=>(r':Int)+(t:Int)*b) t r=if r<m then f r else []
 | 0,_=>by simp [rq]
 | m+1,h=>by
   rw [zB2,List.flatMap_append,sQ,mO ht f m (by lia)];have e:rq ([m].flatMap fun (r':Nat)=>(f r').map fun (b:Int)=>(r':Int)+(t:Int)*b) t r=if m=r then f m else []:=by
    simp only [zE0,List.flatMap_nil,zD6];exact mN ht (by lia) (f m)
   rw [e];by_cases h1:r<m
   · rw [if_pos h1,if_neg (by lia),if_pos (by lia),zD6]
   · by_cases h2:m=r
     · subst h2;rw [if_neg h1,if_pos rfl,if_pos (by lia),List.nil_append]
     · rw [if_neg h1,if_neg h2,if_neg (by lia),zD6]
theorem rq_jb {t r:Nat} (ht:0<t) (c:Nat->Nat) (q:Nat->List Int) (hr:r<t):rq (jb t c q) t r=bd (q r) (c r):=by
 unfold jb;rw [mO ht (fun r=>bd (q r) (c r)) t (zA1 _),if_pos hr]
theorem cnt_jb {t r:Nat} (ht:0<t) (c:Nat->Nat) (q:Nat->List Int) (hr:r<t):cnt (jb t c q) t r=c r:=by
 rw [← gX,rq_jb ht c q hr,bi]
theorem jb_len (t:Nat) (c:Nat->Nat) (q:Nat->List Int):((jb t c q).length:Int)=(.(8).map fun (r:Nat)=>(c r:Int)).sum:=by
 unfold jb;rw [gB];congr 1;refine zA4 fun r _=>?_;rw [zA0,bi]
theorem rF {t:Nat} (ht:0<t) {c:Nat->Nat} {q:Nat->List Int} (hq:∀ r,r<t->Prt (q r)):(jb t c q).Nodup:=by
 unfold jb List.Nodup;rw [List.pairwise_flatMap];refine ⟨fun r hr=>?_,?_⟩
 · have p:=hq r (zA6.mp hr);rw [zG1];refine (du (k:=c r) p.2 p.nn).imp fun {x y} h z=>h ?_;have z2:(t:Int)*x=(t:Int)*y:=by lia
   exact Int.eq_of_mul_eq_mul_left (by lia) z2
 · refine List.Pairwise.imp_of_mem (R:=fun a b=>a<b) ?_ zJ5;intro a b ha hb hab x hx y hy z;have ha:=zA6.mp ha;have hb:=zA6.mp hb;obtain ⟨u,_,rfl⟩:=zD0.mp hx;obtain ⟨v,_,rfl⟩:=zD0.mp hy;have e1:((a:Int)+(t:Int)*u) % (t:Int)=(a:Int):=by
    rw [zJ6];exact zJ4 (by lia) (by lia)
   have e2:((b:Int)+(t:Int)*v) % (t:Int)=(b:Int):=by
    rw [zJ6];exact zJ4 (by lia) (by lia)
   rw [z,e2] at e1;lia
theorem rd_mul {ns:List Int} {t R:Nat} (ht:0<t) (h:ns.length<=t*R):rd ns t<=R:=by
 unfold rd;have h2:(ns.length+t - 1) / t<=(t*R+(t - 1)) / t:=zK7 (by lia);have h3:(t*R+(t - 1)) / t=R:=by
  sleep 28;rw [Nat.mul_add_div ht,h4,zI4]
 lia
theorem uT {a b:List Int} (h:a.Perm b) (t r:Nat):(rq a t r).Perm (rq b t r):=(h.filter _).map _
theorem rG {t R:Nat} {c:Nat->Nat} {q:Nat->List Int} (ht:0<t) (hq:∀ r,r<t->Prt (q r)) (hl:∀ r,r<t->(q r).length<=c r) (hs:(.(8).map fun (r:Nat)=>(c r:Int)).sum=((t*R:Nat):Int)) :
 Prt (pt (jb t c q))/\(pt (jb t c q)).length<=t*R/\cor (pt (jb t c q)) t=pt (aE t c)/\∀ r,r<t->quo (pt (jb t c q)) t r=q r:=by
 have nd:=rF ht (c:=c) hq;have nn:=jb_nn (c:=c) hq;have hlen:(jb t c q).length=t*R:=by
  have:=jb_len t c q;rw [hs] at this;lia
 have hb:=lG nd nn;rw [hlen] at hb;have hpm:(bd (pt (jb t c q)) (t*R)).Perm (jb t c q):=by
  rw [hb];exact (zH5 _).trans (bb _)
 have hP:=nj nd;have hle:(pt (jb t c q)).length<=t*R:=by
  have:=eV (jb t c q);lia
 have hrd:=rd_mul ht hle;obtain ⟨m,hm⟩:∃ m,R=rd (pt (jb t c q)) t+m:=⟨R - rd (pt (jb t c q)) t,by lia⟩
 refine ⟨hP,hle,?_,fun r hr=>?_⟩
 · unfold cor;rw [← bX t _ m];congr 1;refine ck fun r hr=>?_;have h1:=cq (ns:=pt (jb t c q)) hr m;rw [← hm] at h1;have h2:ct (pt (jb t c q)) (t*R) t r=c r:=by
    unfold ct;rw [hpm.countP_eq];exact cnt_jb ht c q hr
   rw [h2] at h1;exact h1.symm
 · unfold quo;rw [← gt (fun n hn=>by have:=hP.1 n hn;lia) hr m,← hm,vf (uT hpm t r),rq_jb ht c q hr];exact pt_bd (hq r hr) (hl r hr)
def jn (cs:List Int) (t M:Nat) (q:Nat->List Int):List Int:=pt (jb t (fun r=>ct cs .(47) t r) q)
theorem ct_all {ns:List Int} {t k:Nat} (ht:0<t):(.(8).map fun (r:Nat)=>(ct ns k t r:Int)).sum=(k:Int):=by
 have h:=dC t ht (bd ns k);rw [bi] at h;exact h
theorem rC {cs:List Int} {t M:Nat} (ht:0<t):pt (aE t fun r=>ct cs .(47) t r)=cor cs t:=by
 unfold cor;rw [← bX t (fun r=>cnt (bd cs (t*rd cs t)) t r) M];congr 1;exact ck fun r hr=>cq hr M
theorem j4 {cs:List Int} {t M:Nat} {q:Nat->List Int} (ht:0<t) (hq:∀ r,r<t->Prt (q r)) (hM:∀ r,r<t->(q r).length<=M) :
 Prt (jn cs t M q)/\(jn cs t M q).length<=t*(rd cs t+M)/\cor (jn cs t M q) t=cor cs t/\∀ r,r<t->quo (jn cs t M q) t r=q r:=by
 obtain ⟨a,b,c,d⟩:=rG (R:=rd cs t+M) (c:=fun r=>ct cs .(47) t r) ht hq (fun r hr=>by rw [cq hr M];exact zD5 (hM r hr) (Nat.le_add_left _ _)) (ct_all ht);exact ⟨a,b,c.trans (rC ht),d⟩
theorem dy {ns:List Int} {t:Nat} (ht:0<t) (h:Prt ns):(cor ns t).sum+(t:Int)*(.(8).map fun (r:Nat)=>(quo ns t r).sum).sum=ns.sum:=uh ht h.nn h.2 (g9 ns ht)
theorem jn_sum {cs:List Int} {t M:Nat} {q:Nat->List Int} (ht:0<t) (hq:∀ r,r<t->Prt (q r)) (hM:∀ r,r<t->(q r).length<=M):(jn cs t M q).sum=(cor cs t).sum+(t:Int)*(.(8).map fun (r:Nat)=>(q r).sum).sum:=by
 obtain ⟨a,b,c,d⟩:=j4 (cs:=cs) ht hq hM;rw [← dy ht a,c];congr 2;congr 1;refine zA4 fun r hr=>?_;rw [d r (zA6.mp hr)]
theorem cO:∀ {ns:List Int},(∀ n∈ns,(1:Int)<=n)->(ns.length:Int)<=ns.sum
 | [],_=>by simp
 | n::ns,h=>by
   have h1:=h n zA7;have h2:=cO (ns:=ns) fun m hm=>h m (zA9 _ hm);rw [zC4,zB4];lia
end M41
namespace K79H
open K79 PySem L2 M39 M40 M43 M81
theorem kf:∀ (as bs:List Int),PyData.eqvAll (as.map PyData.int) (bs.map PyData.int)=decide (as=bs)
 | [],[]=>by simp [PyData.eqvAll]
 | [],b::bs=>by simp [PyData.eqvAll]
 | a::as,[]=>by simp [PyData.eqvAll]
 | a::as,b::bs=>by
   have ih:=kf as bs;simp only [zB6,PyData.eqvAll,ih,PyData.eqv];by_cases h:a=b
   · subst h;simp
   · simp [h]
theorem wf (as bs:List Int):PyData.eqv (.tuple (as.map PyData.int)) (.tuple (bs.map PyData.int))=decide (as=bs):=by
 show PyData.eqvAll _ _=_;exact kf as bs
theorem eq_dec {H:Hp} {a b:Addr} {as bs:List Int} {Q:VK} (ha:H a=some (.tup (as.map V.int))) (hb:H b=some (.tup (bs.map V.int))) (q:Q (.bl (decide (as=bs))) H):rEqD false (.ref a) (.ref b) H Q:=
 ⟨_,_,.ints ha,.ints hb,aX _,aX _,by rw [if_neg (by decide),wf];exact q⟩
def tw (t:Nat) (c:Nat->Nat) (q:Nat->List Int) (m:Nat):List Int:=.(20).flatMap fun (r:Nat)=>(bd (q r) (c r)).map fun (b:Int)=>(r:Int)+(t:Int)*b
theorem di (t:Nat) (c:Nat->Nat) (q:Nat->List Int) (m:Nat):tw t c q (m+1)=tw t c q m++(bd (q m) (c m)).map fun (b:Int)=>(m:Int)+(t:Int)*b:=by
 unfold tw;rw [zB2,List.flatMap_append];simp
theorem j5 (t:Nat) (c:Nat->Nat) (q:Nat->List Int):∀ m,(tw t c q m).length=(.(20).map c).sum
 | 0=>rfl
 | m+1=>by
   rw [di,zA5,zA0,bi,j5 t c q m,zB2,zA3,zC2];simp
theorem jA (c:Nat->Nat):∀ (m d:Nat),(.(20).map c).sum<=((List.range (m+d)).map c).sum
 | m,0=>zA1 _
 | m,d+1=>by
   rw [← zI3,zB2,zA3,zC2];exact zD5 (jA c m d) (zK2 _ _)
theorem ct_sum {ns:List Int} {t k:Nat} (ht:0<t):(.(8).map fun r=>ct ns k t r).sum=k:=by
 have h:=dC t ht (bd ns k);rw [bi] at h;have:((.(8).map fun r=>ct ns k t r).sum:Int)=(.(8).map fun (r:Nat)=>((ct ns k t r:Nat):Int)).sum:=by
  generalize List.range t=l;induction l with
  | nil=>rfl
  | cons a l ih=>rw [zB6,zB4,zB6,zB4,zK0,ih]
 have h2:((.(8).map fun r=>ct ns k t r).sum:Int)=(k:Int):=this.trans h;lia
section
variable {P:Program} {w:World} {K:PySem.W.Frag} {mg:Str->Option Value} {base:Heap} {f:Addr} {fd:FuncData}
theorem sc_ic:FnScope ["parting","t"] ["parting","t"] (ag (top 13)):=.(0)
def sp_ic:Sp:=fun vs H Q _=>∃ (a:Addr) (ns:List Int) (t:Nat),vs=[.ref a,.int t]/\H a=some (.tup .(27))/\ns.length<=400/\0<t/\t<=20/\∀ H',Same H H'->Q (.bl (decide (cor ns t=ns))) H'
theorem ok_ic (F:Fun K "is_core" "is_core" (top 13) f fd)  (F_apart:FnA P w K mg base "apart" 3 ["parting","t"] sp_apart):FnOk P w K mg base CX0 4 f fd ["parting","t"] sp_ic:=by
 refine F.okz sc_ic .(16) .(3)
 · sleep 17
 obtain ⟨a,ns,t,rfl,ha,hl,t0,t1,q⟩:=h;have nd:=sc_ic.nd;have hu:=hr.units;refine ⟨_,(ai (aH (iQ (bo hu) (cJ dz (az F_apart hr (by decide) rfl .(31)) am .(33)) (zn 0) (aJ _)))),?_⟩;refine ⟨a,ns,t,rfl,ha,hl,t0,t1,fun p H1 y1 ap=>?_⟩;obtain ⟨c,d,qs,e1,e2,e3,e4⟩:=ap;refine ⟨_,.inr e1,.ref c,rfl,?_⟩;exact eq_dec e2 (y1 _ _ ha) (q H1 y1)
theorem sc_jn:FnScope ["core","quotients","t","rounds","beads","rest","run","bead"] ["core","quotients"] (ag (top 14)):=.(0)
def sp_jn:Sp:=fun vs H Q _=>∃ (c d:Addr) (cs:List Int) (qs:List Addr) (lss:List (List Int)) (t B:Nat),vs=[.ref c,.ref d]/\H c=some (.tup (cs.map V.int))/\H d=some (.tup (qs.map V.ref))/\Tl H qs lss/\lss.length=t/\0<t/\t<=20/\cs.length<=400/\cor cs t=cs/\(∀ ls∈lss,ls.length<=B)/\t*(rd cs t+B)<=900 /\
 ∀ r H' M,Same H H'->(∀ ls∈lss,ls.length<=M)->M<=B->H' r=some (.tup ((pt (jb t (fun r=>ct cs .(47) t r) fun r=>lss.getD r [])).map V.int))->Q (.ref r) H'
theorem ok_jn (F:Fun K "joined" "joined" (top 14) f fd) (m_enumerate:mg "enumerate" = none) (m_len:.(79)) (m_max:mg "max" = none) (F_beads_of:FnA P w K mg base "beads_of" 1 ["parting","many"] (ca K)) (F_is_core:FnA P w K mg base "is_core" 4 ["parting","t"] sp_ic) (F_parting_of:FnA P w K mg base "parting_of" 1 ["beads"] sp_po) (F_rounds_of:FnA P w K mg base "rounds_of" 1 ["parting","t"] (bv K)) (F_runs_of:FnA P w K mg base "runs_of" 2 ["parting","t","rounds"] (bS K)):FnOk P w K mg base CX0 5 f fd ["core","quotients"] sp_jn:=by
 refine F.okz sc_jn .(16) .(3)
 · obtain ⟨c,d,cs,qs,lss,t,B,rfl,_⟩:=h;rfl
 obtain ⟨c,d,cs,qs,lss,t,B,rfl,hc,hd,tl,et,t0,t1,cl,co,lB,room,q⟩:=h;have nd:=sc_jn.nd;have hu:=hr.units;have lq:=tl.len;refine ⟨_,(ah (ay (i:=2) nd rfl .(12) (bK rfl m_len (aa (zn 1) af) rfl rfl))
  (ah (dR (sv (lL (az F_is_core hr (by decide) rfl (aa (zn 0) (aa (zn 2) af))))) (ai ub) bA)
  (ah (ay (i:=3) nd rfl .(12) (ax aG (az F_rounds_of hr (by decide) rfl (aa (zn 0) (aa (zn 2) af))) (ue rfl rfl m_max (aa (aV ["quotient"] [] rfl .(4) (dM (zn 1)) aQ (fun _ _ _ _=>aj (i:=0) (show List.Nodup (["quotient"]:List Str) by decide +kernel) rfl .(12)) .(37) (fun _ _ _ _=>(fV rfl m_len .(50) rfl rfl rfl))) af) rfl rfl)))
  (ah (ay (i:=4) nd rfl .(12) (bP af))
  (ah (bE PassesOwn.never rfl (cD rfl m_enumerate (aa (az F_runs_of hr (by decide) rfl (aa (zn 0) (aa (zn 2) (aa (zn 3) af)))) af)) (cr rfl (aB (aj (i:=5) nd rfl .(12)) (aB (aj (i:=6) nd rfl .(12)) bB))) (ai (bE PassesOwn.never rfl (bF (az F_beads_of hr (by decide) rfl (aa (cJ dz (zn 1) (zn 5) .(33)) (aa (bK rfl m_len (aa (zn 6) af) rfl rfl) af)))) (aj (i:=7) nd rfl .(12)) (ai (dA (bN (zn 4) (aa (ax aG (zn 5) (ax aI (zn 2) (zn 7))) af)))))))
  (ai (aH (az F_parting_of hr (by decide) rfl (aa (zn 4) af))))))))),?_⟩
 refine ⟨_,.inr hd,?_⟩;have el:(((qs.map V.ref).length:Nat):Int)=(t:Int):=by rw [zA0,lq,et]
 refine ⟨c,cs,t,congrArg (fun z=>[V.ref c,V.int z]) el,hc,cl,t0,t1,fun H1 y1=>?_⟩;rw [decide_eq_true co];refine ⟨c,cs,t,congrArg (fun z=>[V.ref c,V.int z]) el,SqT.of (y1 _ _ hc),t0,by lia,?_⟩;have hd1:=y1 _ _ hd;have tl1:=tl.same y1;refine ⟨d,rfl,⟨_,SqT.of hd1⟩,cR (xs:=qs.map V.ref) (fun i zs H'=>H'=H1/\zs=((lss.take i).map fun ls=>(ls.length:Int)).map V.int) ⟨rfl,by rw [zK5];rfl⟩ ?_ ?_ ?_⟩
 · rintro i zs H' _ ⟨rfl,_⟩;exact SqT.of hd1
 · rintro i z zs H' hz ⟨rfl,rfl⟩;have hi:i<qs.length:=by have:=(List.getElem?_eq_some_iff.mp hz).1;rw [zA0] at this;exact this
   have hi2:i<lss.length:=by lia
   have ez:z=.ref qs[i]:=by rw [List.getElem?_map,List.getElem?_eq_getElem hi] at hz;exact (Option.some.inj hz).symm
   subst ez;refine ⟨by rw [zA0,zA0,zB9];exact ao (by lia),?_⟩;refine ⟨_,.inr (tl1.at_ i hi hi2),rfl,?_⟩;rw [zD3,List.getElem?_eq_getElem hi2,zA3,zA3,zA0];rfl
 · rintro zs H2 ⟨rfl,rfl⟩ D hD;have yD:=Same.new hD .(71);have eN:(lss.take (qs.map V.ref).length)=lss:=zB8 (by rw [zA0,lq];exact zA1 _);have gD:upd H2 D .(71) D=some (.lst ((lss.map fun ls=>(ls.length:Int)).map V.int)):=by rw [ae,eN]
   have hc2:=yD _ _ (y1 _ _ hc);have hd2:=yD _ _ hd1;have tl2:=tl1.same yD;have z2:=y1.trans yD;generalize upd H2 D .(71)=H3 at yD gD hc2 hd2 tl2 z2;refine ⟨_,.inl (SqL.of gD),(fun z=>by have:=congrArg List.length z;rw [zA0,et] at this;simp at this;lia),fun M0 hM0 allM=>?_⟩;obtain ⟨lm,hlm,rfl⟩:=zD0.mp hM0;have hMB:=lB lm hlm;have allM':∀ ls∈lss,ls.length<=lm.length:=fun ls hls=>by
    have:=allM (ls.length:Int) (zD0.mpr ⟨ls,hls,rfl⟩);lia
   generalize lm.length=M at hMB allM';have eR:(rd cs t:Int)+(M:Int)=((rd cs t+M:Nat):Int):=by lia
   have rg:=g9 cs t0;have hroom:t*(rd cs t+M)<=900:=zD5 (Nat.mul_le_mul_left _ (by lia)) room;refine ⟨by show 0<=sizeLine;decide,fun L hL=>?_⟩;have yL:=Same.new hL (.lst []);have LH:H L=none:=cp z2 hL;have gL:upd H3 L (.lst []) L=some (.lst ((tw t (fun r=>ct cs .(47) t r) (fun r=>lss.getD r []) 0).map V.int)):=ae;have hc3:=yL _ _ hc2;have hd3:=yL _ _ hd2;have tl3:=tl2.same yL;have z3:=z2.trans yL;generalize upd H3 L (.lst [])=H4 at yL gL hc3 hd3 tl3 z3;refine ⟨c,cs,t,rd cs t+M,by rw [← eR,← el],(.inl ⟨hc3,by rw [Nat.mul_add];lia⟩),t0,by lia,hroom,fun p rs H5 fp frs y5 hp5 ll5=>?_⟩;have lrs:=ll5.len;rw [cx] at lrs;have gL5:=y5 _ _ gL;have Lp:p≠L:=fun z=>by rw [z,gL] at fp;cases fp
   have Lrs:∀ r∈rs,r≠L:=fun r hr' z=>by have:=frs r hr';rw [z,gL] at this;cases this
   have z5:=z3.trans y5;have hd5:=y5 _ _ hd3;have tl5:=tl3.same y5;have csum:(.(8).map fun r=>ct cs .(47) t r).sum=t*(rd cs t+M):=ct_sum t0;have lim:∀ m,m<=t->(tw t (fun r=>ct cs .(47) t r) (fun r=>lss.getD r []) m).length<=900:=fun m hm=>by
    rw [j5];obtain ⟨e,rfl⟩:∃ e,t=m+e:=⟨t - m,by lia⟩
    have:=jA (fun r=>ct cs ((m+e)*(rd cs (m+e)+M)) (m+e) r) m e;lia
   -- the beads of all rests up to one,in the list
   refine ⟨false,_,SqK.lst hp5,oy (xs:=rs.map V.ref) (fun i σ H'=>i<=t/\Same H H'/\(∀ b o,b≠L->H5 b=some o->H' b=some o)/\H' L=some (.lst ((tw t (fun r=>ct cs .(47) t r) (fun r=>lss.getD r []) i).map V.int))/\∃ x5 x6 x7,σ=[some (.ref c),some (.ref d),some (.int (((qs.map V.ref).length:Nat):Int)),some (.int ((rd cs t:Int)+(M:Int))),some (.ref L),x5,x6,x7]) ⟨zC5 _,z5,fun _ _ _ e=>e,gL5,_,_,_,rfl⟩ ?_ ?_ ?_⟩
   · rintro i σ H' _ ⟨_,_,k,_⟩;exact SqK.lst (k _ _ Lp hp5)
   · rintro i x σ H6 pr hx ⟨_,y6,k6,hL6,x5,x6,x7,rfl⟩ hpr;have hi:i<rs.length:=by have:=(List.getElem?_eq_some_iff.mp hx).1;rw [zA0] at this;exact this
     have hit:i<t:=by lia
     sleep 27;subst ex;have yp:=Same.new hpr (.tup [.int i,.ref rs[i]]);refine ⟨pr,_,rfl,SqT.of ae,rfl,_,_,rfl,_,_,rfl,rfl,?_⟩;have y7:=y6.trans yp;have k7:∀ b o,b≠L->H5 b=some o->upd H6 pr (.tup [.int i,.ref rs[i]]) b=some o:=fun b o nb e=>yp _ _ (k6 b o nb e);have hL7:=yp _ _ hL6;generalize upd H6 pr (.tup [.int i,.ref rs[i]])=H7 at yp y7 k7 hL7;have hiq:i<qs.length:=by lia
     have hil:i<lss.length:=by lia
     have hd7:=k7 _ _ (kW hd5 gL5 (by intro z;cases z)) hd5;have hq5:=tl5.at_ i hiq hil;have hq7:=k7 _ _ (kW hq5 gL5 (by intro z;cases z)) hq5;refine ⟨_,.inr hd7,.ref qs[i],bx (j:=i) rfl (by rw [List.getElem?_map,List.getElem?_eq_getElem hiq];rfl),?_⟩;have hcell:=ll5.at_ i hi (by rw [cx];exact hit);rw [eQ] at hcell;have hcell7:=k7 _ _ (Lrs _ (zC0 hi)) hcell;refine ⟨_,.inl (SqL.of hcell7),?_⟩;have elen:(((rn (bd cs .(47)) t i).map V.int).length:Int)=((ct cs .(47) t i:Nat):Int):=by rw [zA0,sS]
     have hlm:=allM' lss[i] (zC0 hil);have hctM:M<=ct cs .(47) t i:=by rw [cq hit M];lia
     have hct9:ct cs .(47) t i<=900:=by
      have:=lim (i+1) (by lia);rw [di,zA5,zA0,bi] at this;lia
     have eg:lss.getD i []=lss[i]:=by rw [zA2,List.getElem?_eq_getElem hil];rfl
     refine ⟨qs[i],lss[i],ct cs .(47) t i,congrArg (fun z=>[V.ref qs[i],V.int z]) elen,(.inl ⟨hq7,by lia⟩),hct9,fun B8 H8 hB8 y8 gB8=>?_⟩;have hL8:=y8 _ _ hL7;have BL:B8≠L:=fun z=>by rw [z,hL7] at hB8;cases hB8
     refine ⟨B8,rfl,⟨_,SqL.of gB8⟩,cG (xs:=.(43).map V.int) (fun j σ H'=>Same H H'/\(∀ b o,b≠L->H8 b=some o->H' b=some o)/\H' L=some (.lst ((tw t (fun r=>ct cs .(47) t r) (fun r=>lss.getD r []) i++(.(43).take j).map fun (b:Int)=>(i:Int)+(t:Int)*b).map V.int))/\∃ x7,σ=[some (.ref c),some (.ref d),some (.int (((qs.map V.ref).length:Nat):Int)),some (.int ((rd cs t:Int)+(M:Int))),some (.ref L),some (.int i),some (.ref rs[i]),x7]) ⟨y7.trans y8,fun _ _ _ e=>e,by rw [hL8,zK5,zF8,zD6],_,rfl⟩ ?_ ?_ ?_⟩
     · rintro j σ H' _ ⟨_,k,_⟩;exact SqL.of (k _ _ BL gB8)
     · rintro j z σ H9 hz ⟨y9,k9,hL9,x7,rfl⟩;have hj:j<.(43).length:=by have:=(List.getElem?_eq_some_iff.mp hz).1;rw [zA0] at this;exact this
       have ez:z=.int .(43)[j]:=by rw [fP hj] at hz;exact (Option.some.inj hz).symm
       subst ez;refine ⟨tyL hL9,nR (by rw [zA0];lia) (by rw [zA0];lia),?_⟩;have lim2:=lim (i+1) (by lia);rw [di,zA5,zA0,bi] at lim2;rw [bi] at hj;refine ⟨_,hL9,?_,?_⟩
       · rw [zA0,zA5,zA0,zB9,bi];exact ao (by lia)
       · refine ⟨Same.updN y9 LH,fun b o nb e=>by rw [au nb];exact k9 b o nb e,?_,_,rfl⟩;have et2:.(43).take (j+1)=.(43).take j++[.(43)[j]'(by rw [bi];exact hj)]:=by rw [zD3,List.getElem?_eq_getElem (by rw [bi];exact hj)];rfl
         rw [ae,et2,el];simp only [zA3,zB6,zF8,zB7]
     · rintro σ H9 ⟨y9,k9,hL9,x7,rfl⟩;rw [zA0,zB8 (zA1 _)] at hL9;refine ⟨by lia,y9,fun b o nb e=>k9 b o nb (y8 _ _ (k7 b o nb e)),?_,_,_,_,rfl⟩;rw [di,eg];exact hL9
   · rintro σ H6 ⟨_,y6,k6,hL6,x5,x6,x7,rfl⟩;rw [zA0,lrs] at hL6;have lim3:=lim t (zA1 _);refine ⟨L,_,rfl,hL6,lim3,fun r H7 y7 hr7=>?_⟩;exact q r H7 M (y6.trans y7) allM' hMB hr7
end
section
variable {P:Program} {w:World} {K:PySem.W.Frag} {mg:Str->Option Value} {base:Heap} {f:Addr} {fd:FuncData}
theorem sc_co:FnScope ["numbers","rounds"] ["numbers"] (ag (top 16)):=.(0)
structure Cor (ns cs:List Int):Prop where
 prt:(∀ n∈cs,(1:Int)<=n)/\cs.Pairwise (·>=·)
 len:cs.length<=400
 vec_:vec cs ns.length=ns
 fix_:core cs ns.length=cs
 sum_:cs.sum=sz ns
def sp_co:Sp:=fun vs H Q _=>∃ (a:Addr) (ns:List Int),vs=[.ref a]/\H a=some (.tup .(27))/\0<ns.length/\ns.length<=12/\ns.sum=0/\(∀ n∈ns,-30<=n/\n<=30)/\∀ r H' cs,Same H H'->H' r=some (.tup (cs.map V.int))->Cor ns cs->Q (.ref r) H'
theorem cor_of {ns:List Int} {M:Int} (h0:0<ns.length) (h1:ns.length<=12) (hs:ns.sum=0) (hb:∀ n∈ns,-30<=n/\n<=30) (hM:M∈ns) (hle:∀ n∈ns,M<=n) :
 Cor ns (pt (aE ns.length fun r=>(-M+nf ns r).toNat))/\(∀ r,r<ns.length->((-M+nf ns r).toNat:Int)=-M+nf ns r/\(-M+nf ns r).toNat<=60)/\(aE ns.length fun r=>(-M+nf ns r).toNat).length<=900:=by
 have hM0:M<=0:=by
  by_cases h:M<=0
  · exact h
  · exfalso;have:∀ {l:List Int},(∀ n∈l,(1:Int)<=n)->(l.length:Int)<=l.sum:=by
     intro l;induction l with
     | nil=>intro _;exact zF1 _
     | cons x r ih=>
       intro hh
       have:=ih fun n hn=>hh n (zA9 _ hn)
       have:=hh x zA7
       rw [zC4,zB4]
       lia
    have:=this (l:=ns) fun n hn=>by have:=hle n hn;lia
    lia
 have hMb:=hb M hM;have hnf:∀ r,r<ns.length->M<=nf ns r/\nf ns r<=30:=fun r hr=>by
  rw [cj hr];exact ⟨hle _ (zC0 hr),(hb _ (zC0 hr)).2⟩
 have hc:∀ r,r<ns.length->((-M+nf ns r).toNat:Int)=((-M).toNat:Int)+nf ns r:=fun r hr=>by have:=hnf r hr;lia
 have hsum:((List.range ns.length).map (nf ns)).sum=0:=by rw [ci];exact hs
 have hct:((List.range ns.length).map fun (r:Nat)=>((-M+nf ns r).toNat:Int)).sum=((ns.length*(-M).toNat:Nat):Int):=by
  rw [zA4 (g:=fun (r:Nat)=>((-M).toNat:Int)+nf ns r) fun r hr=>hc r (zA6.mp hr)];have go:∀ m:Nat,(.(20).map fun (r:Nat)=>((-M).toNat:Int)+nf ns r).sum=(m:Int)*((-M).toNat:Int)+(.(20).map (nf ns)).sum:=by
   intro m;induction m with
   | zero=>simp
   | succ m ih=>
     rw [zB2,zA3,zA3,zC2,zC2,ih]
     sleep 23
     rw [show ((m+1:Nat):Int)=(m:Int)+1 by lia,Int.add_mul,Int.one_mul]
     lia
  rw [go,hsum,zI5];lia
 have hll:(aE ns.length fun r=>(-M+nf ns r).toNat).length=ns.length*(-M).toNat:=by
  have:=bW ns.length fun r=>(-M+nf ns r).toNat;rw [hct] at this;lia
 have hk:ns.length*(-M).toNat<=12*30:=Nat.mul_le_mul h1 (by lia);have hpo:=nj (bg h0 fun r=>(-M+nf ns r).toNat);refine ⟨⟨hpo,?_,?_,?_,?_⟩,fun r hr=>?_,by lia⟩
 · have:=eV (aE ns.length fun r=>(-M+nf ns r).toNat);lia
 · rw [lY h0 hct];refine Eq.trans (zA4 fun r hr=>?_) (ci ns);rw [hc r (zA6.mp hr)];lia
 · exact rW h0 hct
 · have h2:=fJ (n:=nf ns) h0 hc hsum;unfold sz;lia
 · have:=hnf r hr;lia
theorem ok_co (F:Fun K "core_of" "core_of" (top 16) f fd) (m_min:mg "min" = none) (F_with_least_beads:FnA P w K mg base "with_least_beads" 2 ["numbers"] sp_wl):FnOk P w K mg base CX0 3 f fd ["numbers"] sp_co:=by
 refine F.okz sc_co .(16) .(3)
 · obtain ⟨a,ns,rfl,_⟩:=h;rfl
 obtain ⟨a,ns,rfl,ha,h0,h1,hs,hb,q⟩:=h;have nd:=sc_co.nd;have hu:=hr.units;have hne:ns≠[]:=fun z=>by rw [z] at h0;cases h0
 refine ⟨_,(ah (ay (i:=1) nd rfl (Or.inr rfl) (fU cV (pT rfl rfl m_min .(50) rfl rfl)))
  (ai (aH (az F_with_least_beads hr (by decide) rfl (aa (aV ["number"] [("rounds",1)] rfl .(4) (dM (zn 0)) aQ (fun _ _ _ _=>aj (i:=0) (show List.Nodup (["number","rounds"]:List Str) by decide +kernel) rfl .(12)) .(37) (fun _ _ _ _=>(ax aG (zn 1) (zn 0)))) af))))),?_⟩
 refine ⟨ns,ha,hne,fun M hM hle=>?_⟩;obtain ⟨cor,hc,hl9⟩:=cor_of h0 h1 hs hb hM hle;refine ⟨M,rfl,?_⟩;refine ⟨a,rfl,⟨_,SqT.of ha⟩,cR (xs:=ns.map V.int) (fun i zs H'=>H'=H/\zs=(List.range i).map fun (r:Nat)=>V.int ((-M+nf ns r).toNat)) ⟨rfl,rfl⟩ ?_ ?_ ?_⟩
 · rintro i zs H' _ ⟨rfl,_⟩;exact SqT.of ha
 · rintro i x zs H' hx ⟨rfl,rfl⟩;have hi:i<ns.length:=by
    sleep 0;rw [zA0] at this;exact this
   sleep 35;subst ex;refine ⟨by rw [zA0,zC1];exact ao (by lia),?_⟩;refine ⟨rfl,?_⟩;rw [zB2,zA3];show _++[V.int (-M+ns[i])]=_++[V.int ((-M+nf ns i).toNat)]
   rw [(hc i hi).1,cj hi]
 · rintro zs H' ⟨rfl,rfl⟩ D hD;rw [zA0];have yD:=Same.new hD (.lst ((List.range ns.length).map fun (r:Nat)=>V.int ((-M+nf ns r).toNat)));refine ⟨D,ns.length,fun r=>(-M+nf ns r).toNat,rfl,ae,by lia,fun r hr'=>by have:=(hc r hr').2;show (-M+nf ns r).toNat<=900;lia,hl9,fun r H2 y2 hr2=>?_⟩;exact q r H2 _ (yD.trans y2) hr2 cor
end
end K79H
namespace K79
open PySem L2 M39 M40 M43 M48 M47 M81 M41
theorem cyc {t:Nat} (h3:T3 t) (h:Nat->Int):S t (fun i=>h ((i+t - 1) % t))=S t h:=by
 rcases h3 with rfl | rfl | rfl
 · show h 4+(h 0+(h 1+(h 2+(h 3+0))))=h 0+(h 1+(h 2+(h 3+(h 4+0))))
   lia
 · show h 6+(h 0+(h 1+(h 2+(h 3+(h 4+(h 5+0))))))=h 0+(h 1+(h 2+(h 3+(h 4+(h 5+(h 6+0))))))
   lia
 · show h 10+(h 0+(h 1+(h 2+(h 3+(h 4+(h 5+(h 6+(h 7+(h 8+(h 9+0))))))))))=h 0+(h 1+(h 2+(h 3+(h 4+(h 5+(h 6+(h 7+(h 8+(h 9+(h 10+0))))))))))
   lia
def mv (t:Nat) (f:Nat->Int) (i:Nat):Int:=f ((i+t - 1) % t)
theorem nb_mv {t:Nat} (h3:T3 t) (f:Nat->Int):nb t (mv t f)=nb t f:=cyc h3 fun k=>f k*(f k - f ((k+t - 1) % t))
theorem qs_mv {t:Nat} (h3:T3 t) (f:Nat->Int):qs t (mv t f)=qs t f:=by unfold qs;rw [nb_mv h3]
theorem sum_mv {t:Nat} (h3:T3 t) (f:Nat->Int):(.(8).map (mv t f)).sum=(.(8).map f).sum:=cyc h3 f
def shf (t:Nat) (f:Nat->Int):Int:=(S t fun i=>(i:Int)*f i) % (t:Int)
theorem shf_mv {t:Nat} (h3:T3 t) {f:Nat->Int} (h1:(.(8).map f).sum=1):shf t (mv t f)=(shf t f+1) % (t:Int):=by
 rcases h3 with rfl | rfl | rfl
 · have h1:f 0+(f 1+(f 2+(f 3+(f 4+0))))=1:=h1;show (0*f 4+(1*f 0+(2*f 1+(3*f 2+(4*f 3+0))))) % 5=((0*f 0+(1*f 1+(2*f 2+(3*f 3+(4*f 4+0))))) % 5+1) % 5;lia
 · have h1:f 0+(f 1+(f 2+(f 3+(f 4+(f 5+(f 6+0))))))=1:=h1;show (0*f 6+(1*f 0+(2*f 1+(3*f 2+(4*f 3+(5*f 4+(6*f 5+0))))))) % 7=((0*f 0+(1*f 1+(2*f 2+(3*f 3+(4*f 4+(5*f 5+(6*f 6+0))))))) % 7+1) % 7;lia
 · have h1:f 0+(f 1+(f 2+(f 3+(f 4+(f 5+(f 6+(f 7+(f 8+(f 9+(f 10+0))))))))))=1:=h1;show (0*f 10+(1*f 0+(2*f 1+(3*f 2+(4*f 3+(5*f 4+(6*f 5+(7*f 6+(8*f 7+(9*f 8+(10*f 9+0))))))))))) % 11=((0*f 0+(1*f 1+(2*f 2+(3*f 3+(4*f 4+(5*f 5+(6*f 6+(7*f 7+(8*f 8+(9*f 9+(10*f 10+0))))))))))) % 11+1) % 11;lia
theorem mL {t:Nat} {f g:Nat->Int} (h:∀ i,i<t->f i=g i):shf t f=shf t g:=by
 unfold shf;rw [aW fun i hi=>by rw [h i hi]]
theorem uO {t:Nat} (h3:T3 t) (f:Nat->Int):0<=shf t f/\shf t f<t:=by
 have:(0:Int)<t:=by rcases h3 with rfl | rfl | rfl <;> decide
 exact ⟨zE5 _ (by lia),zE3 _ this⟩
theorem gh (ns:List Int) {t:Nat} (ht:0<t):sz (vec ns t)=(cor ns t).sum:=by
 have hl:=fZ ns t;have h:=fJ (t:=t) (R:=rd ns t) (c:=fun r=>cnt .(23) t r) (n:=nf (vec ns t)) ht (fun r hr=>by
  rw [cj (show r<(vec ns t).length by rw [hl];exact hr)];simp only [vec,zG8,zG5];show (cnt .(23) t r:Int)=(rd ns t:Int)+((cnt .(23) t r:Int) - (rd ns t:Int))
  lia) (by
  have:=ci (vec ns t);rw [hl] at this;rw [this];exact lX ns ht)
 unfold sz;rw [hl];have h2:2*(cor ns t).sum=(t:Int)*sq t (nf (vec ns t))+2*ro t (nf (vec ns t)):=h;lia
theorem tm {t r:Nat} (f:Nat->Int) (hr:r<t):nf (vby t f) r=dt t f t r:=by
 rw [cj (show r<(vby t f).length by rw [gb];exact hr)];simp [vby]
theorem qd {t:Nat} {n m:Nat->Int} (h:∀ r,r<t->n r=m r):sq t n=sq t m:=by
 unfold sq;congr 1;refine zA4 fun r hr=>?_;rw [h r (zA6.mp hr)]
theorem qq {t:Nat} {n m:Nat->Int} (h:∀ r,r<t->n r=m r):ro t n=ro t m:=by
 unfold ro;congr 1;refine zA4 fun r hr=>?_;rw [h r (zA6.mp hr)]
theorem mw {t:Nat} {f:Nat->Int} (h3:T3 t) (h1:(.(8).map f).sum=1):sz (vby t f)=qs t f:=by
 have h:=mK h3 h1;unfold sz;have e1:sq t (nf (vby t f))=sq t (dt t f t):=qd fun r hr=>tm f hr;have e2:ro t (nf (vby t f))=ro t (dt t f t):=qq fun r hr=>tm f hr;rw [gb,e1,e2];lia
theorem S_low {e:Nat->Int}:∀ t:Nat,(∀ i,i<t->-9<=e i)->-(9*(t:Int))<=S t e
 | 0,_=>by rw [kz];lia
 | t+1,h=>by
   have:=S_low t fun i hi=>h i (by lia);have:=h t (by lia);rw [cB];lia
theorem S_one {e:Nat->Int}:∀ (t j:Nat),(∀ i,i<t->-9<=e i)->j<t->e j - 9*((t:Int) - 1)<=S t e
 | 0,j,_,hj=>by lia
 | t+1,j,h,hj=>by
   rw [cB];by_cases c:j=t
   · subst c;have:=S_low j fun i hi=>h i (by lia);lia
   · have:=S_one t j (fun i hi=>h i (by lia)) (by lia);have:=h t (by lia);lia
theorem term {t r:Nat} (h3:T3 t) (hr:r<t) (a:Int):-9<=(t:Int)*(a*a)+2*((r:Int)*a)/\((a < -30\/30<a)->4000<=(t:Int)*(a*a)+2*((r:Int)*a)):=by
 by_cases c:0<=a
 · have h1:0<=(r:Int)*a:=zK4 (by lia) c;have h2:0<=a*a:=zK4 c c;refine ⟨by rcases h3 with rfl | rfl | rfl <;> lia,fun h=>?_⟩;have h4:31*a<=a*a:=zI0 (by lia) c;sleep 36
 · obtain ⟨b,rfl⟩:∃ b:Int,a=-b:=⟨-a,by lia⟩
   have hb:1<=b:=by lia
   have e1:-b * -b=b*b:=by rw [Int.neg_mul_neg]
   have e2:(r:Int) * -b=-((r:Int)*b):=by rw [Int.mul_neg]
   rw [e1,e2];have h1:(r:Int)*b<=((t:Int) - 1)*b:=zI0 (by lia) (by lia);have h2:b=1\/2*b<=b*b:=by
    by_cases d:b=1
    · exact .inl d
    · exact .inr (zI0 (by lia) (by lia))
   refine ⟨?_,fun h=>?_⟩
   · rcases h2 with rfl | h2
     · sleep 36
     · sleep 36
   · have h4:31*b<=b*b:=zI0 (by lia) (by lia);sleep 36
theorem lim30 {t:Nat} {n:Nat->Int} (h3:T3 t) (h:(t:Int)*sq t n+2*ro t n<=600):∀ r,r<t->-30<=n r/\n r<=30:=by
 intro r hr;have e:(t:Int)*sq t n+2*ro t n=S t fun r=>(t:Int)*(n r*n r)+2*((r:Int)*n r):=by
  rw [dX,cS,cS];rfl
 rw [e] at h;have h1:=S_one (e:=fun r=>(t:Int)*(n r*n r)+2*((r:Int)*n r)) t r (fun i hi=>(term h3 hi (n i)).1) hr;have h2:=(term h3 hr (n r)).2;have ht:(t:Int)<=11:=by rcases h3 with rfl | rfl | rfl <;> decide
 have h1:(t:Int)*(n r*n r)+2*((r:Int)*n r) - 9*((t:Int) - 1)<=S t (fun r=>(t:Int)*(n r*n r)+2*((r:Int)*n r)):=h1;by_cases c:n r < -30\/30<n r
 · have:=h2 c;lia
 · lia
structure Fit (t:Nat) (ns:List Int):Prop where
 prt:M81.Prt ns
 w:ns.sum<=300
 c:ns.sum % (t:Int)=cw t
def fr (ns:List Int) (t:Nat):List Int:=frm t (nf (vec ns t))
theorem cu {t:Nat} (h3:T3 t):0<t:=by rcases h3 with rfl | rfl | rfl <;> decide
theorem ng {ns:List Int} {t:Nat} (ht:0<t) (h:M81.Prt ns):0<=(.(8).map fun (r:Nat)=>(quo ns t r).sum).sum:=by
 have:∀ l:List Nat,0<=(l.map fun (r:Nat)=>(quo ns t r).sum).sum:=by
  intro l;induction l with
  | nil=>exact zF1 _
  | cons r l ih=>
    have:=cO (eU (r:=r) ht h).1
    rw [zB6,zB4]
    lia
 exact this _
theorem Fit.size {t:Nat} {ns:List Int} (h3:T3 t) (h:Fit t ns):sz (vec ns t) % (t:Int)=cw t/\0<=(cor ns t).sum/\(cor ns t).sum<=300:=by
 have ht:=cu h3;have e:=dy ht h.prt;have q:=ng ht h.prt;have q2:0<=(t:Int)*(.(8).map fun (r:Nat)=>(quo ns t r).sum).sum:=zK4 (by lia) q;have hw:=h.w;refine ⟨?_,?_,by lia⟩
 · rw [gh ns ht,← h.c,← e,zJ6]
 · have:=nj (bg ht fun r=>cnt .(23) t r);have:=cO this.1;have e:cor ns t=pt (aE t fun r=>cnt .(23) t r):=rfl;rw [e];lia
theorem Fit.frame {t:Nat} {ns:List Int} (h3:T3 t) (h:Fit t ns):(fr ns t).length=t/\(fr ns t).sum=1/\vby t (nf (fr ns t))=vec ns t:=
 frm_ok h3 (fZ ns t) (lX ns (cu h3)) (h.size h3).1
theorem Fit.fsum {t:Nat} {ns:List Int} (h3:T3 t) (h:Fit t ns):(.(8).map (nf (fr ns t))).sum=1:=by
 obtain ⟨a,b,_⟩:=h.frame h3;have:=ci (fr ns t);rw [a] at this;rw [this,b]
def mvl (t:Nat) (fs:List Int):List Int:=.(8).map (mv t (nf fs))
theorem im {t i:Nat} (fs:List Int) (h:i<t):nf (mvl t fs) i=mv t (nf fs) i:=by unfold mvl;exact jU _ h
theorem fg (t:Nat) (fs:List Int):(mvl t fs).length=t:=by unfold mvl;simp
theorem qJ {t:Nat} (h3:T3 t) {f g:Nat->Int} (h:∀ i,i<t->f i=g i):qs t f=qs t g:=by
 have:nb t f=nb t g:=by
  unfold nb;congr 1;refine zA4 fun k hk=>?_;rw [h k (zA6.mp hk),h _ (Nat.mod_lt _ (cu h3))]
 unfold qs;rw [this]
theorem mD {t:Nat} {f g:Nat->Int} (h:∀ i,i<t->f i=g i):(.(8).map f).sum=(.(8).map g).sum:=aW h
theorem Fit.moved {t:Nat} {ns:List Int} (h3:T3 t) (h:Fit t ns):(vby t .(41)).length=t/\(vby t .(41)).sum=0/\sz (vby t .(41))=(cor ns t).sum/\(∀ n∈vby t .(41),-30<=n/\n<=30)/\(mvl t (fr ns t)).sum=1:=by
 have f1:=h.fsum h3;have g0:(.(8).map .(41)).sum=1:=by rw [mD fun i hi=>im _ hi,sum_mv h3,f1]
 have e1:qs t .(41)=qs t (nf (fr ns t)):=by rw [qJ h3 fun i hi=>im _ hi,qs_mv h3]
 have e2:sz (vec ns t)=qs t (nf (fr ns t)):=by rw [← (h.frame h3).2.2,mw h3 f1]
 have e3:qs t .(41)=(cor ns t).sum:=by rw [e1,← e2,gh ns (cu h3)]
 refine ⟨gb _ _,uj h3 _,by rw [mw h3 g0,e3],fun n hn=>?_,?_⟩
 · obtain ⟨r,hr,rfl⟩:=zD0.mp hn;have hr:=zA6.mp hr;refine lim30 h3 (n:=dt t .(41) t) ?_ r hr;have:=mK h3 g0;have:=(h.size h3).2.2;lia
 · have:=ci (mvl t (fr ns t));rw [fg] at this;rw [← this,g0]
structure Trn (t:Nat) (ns ms:List Int):Prop where
 fit:Fit t ms
 sum_:ms.sum=ns.sum
 quo_:∀ r,r<t->quo ms t r=quo ns t r
 frm_:fr ms t=mvl t (fr ns t)
theorem sH {t M:Nat} {ns cs:List Int} (h3:T3 t) (h:Fit t ns) (hv:vec cs t=vby t .(41)) (hf:cor cs t=cs) (hs:cs.sum=sz (vby t .(41))) (hM:∀ r,r<t->(quo ns t r).length<=M):Trn t ns (jn cs t M (quo ns t)):=by
 have ht:=cu h3;have hq:∀ r,r<t->M81.Prt (quo ns t r):=fun r _=>eU ht h.prt;obtain ⟨m1,m2,m3,m4,m5⟩:=h.moved h3;obtain ⟨p1,p2,p3,p4⟩:=j4 (cs:=cs) ht hq hM;have es:(jn cs t M (quo ns t)).sum=ns.sum:=by
  rw [jn_sum ht hq hM,hf,hs,m3,dy ht h.prt]
 refine ⟨⟨p1,by rw [es];exact h.w,by rw [es];exact h.c⟩,es,p4,?_⟩;have ev:vec (jn cs t M (quo ns t)) t=vby t .(41):=by
  have e0:vec (cor (jn cs t M (quo ns t)) t) t=vec (jn cs t M (quo ns t)) t:=ju ht;rw [← e0,p3,hf,hv]
 have e:fr (jn cs t M (quo ns t)) t=frm t (nf (vec (jn cs t M (quo ns t)) t)):=rfl;rw [e,ev];exact rM h3 (fg _ _) m5
def shr (ns:List Int) (t:Nat):Int:=shf t (nf (fr ns t))
theorem Trn.shr_ {t:Nat} {ns ms:List Int} (h3:T3 t) (h:Fit t ns) (x:Trn t ns ms):shr ms t=(shr ns t+1) % (t:Int):=by
 unfold shr;rw [x.frm_,mL fun i hi=>im _ hi];exact shf_mv h3 (h.fsum h3)
theorem wp {a b:List Int} {t:Nat} (h:vec a t=vec b t):cor a t=cor b t:=by
 have e:∀ r,r<t->cnt (bd a (t*rd a t)) t r+rd b t=cnt (bd b (t*rd b t)) t r+rd a t:=fun r hr=>by
  have:=congrArg (fun l=>nf l r) h;simp only [vec] at this;rw [jU _ hr,jU _ hr] at this;have h2:(cnt (bd a (t*rd a t)) t r:Int) - (rd a t:Int)=(cnt (bd b (t*rd b t)) t r:Int) - (rd b t:Int):=this;lia
 unfold cor;rw [← bX t (fun r=>cnt (bd a (t*rd a t)) t r) (rd b t),← bX t (fun r=>cnt (bd b (t*rd b t)) t r) (rd a t)];congr 1;exact ck e
theorem nh (ns:List Int) (t r:Nat):(quo ns t r).length<=t*rd ns t:=by
 unfold quo;refine zD5 (eV _) ?_;unfold rq;rw [zA0];exact zD5 (List.length_filter_le _ _) (by rw [bi];exact zA1 _)
theorem home {a b:List Int} {t:Nat} (ht:0<t) (ha:M81.Prt a) (hb:M81.Prt b) (hv:vec a t=vec b t) (hq:∀ r,r<t->quo a t r=quo b t r):a=b:=by
 have hM:∀ r,r<t->(quo b t r).length<=t*rd b t:=fun r _=>nh b t r;have hM2:∀ r,r<t->(quo a t r).length<=t*rd b t:=fun r hr=>by rw [hq r hr];exact hM r hr
 have ec:=wp hv;exact (iw ht ha hM2).symm.trans ((congrArg pt (eB (fun r _=>by rw [ec]) hq)).trans (iw ht hb hM))
structure Went (t k:Nat) (ns ms:List Int):Prop where
 fit:Fit t ms
 sum_:ms.sum=ns.sum
 quo_:∀ r,r<t->quo ms t r=quo ns t r
 frm_:∀ i,i<t->nf (fr ms t) i=nf (fr ns t) ((i+k*(t - 1)) % t)
 shr_:shr ms t=(shr ns t+k) % (t:Int)
theorem gi {t:Nat} (h3:T3 t) (ns:List Int):0<=shr ns t/\shr ns t<t:=uO h3 _
theorem Went.none_ {t:Nat} {ns:List Int} (h3:T3 t) (h:Fit t ns):Went t 0 ns ns:=
 ⟨h,rfl,fun _ _=>rfl,fun i hi=>by rw [Nat.zero_mul,zI4,zE9 hi],by
  have:=gi h3 ns;rw [zJ4 (by lia) (by lia)];lia⟩
theorem Went.step {t k:Nat} {ns ms os:List Int} (h3:T3 t) (x:Went t k ns ms) (y:Trn t ms os):Went t (k+1) ns os:=by
 have ht:=cu h3;refine ⟨y.fit,y.sum_.trans x.sum_,fun r hr=>(y.quo_ r hr).trans (x.quo_ r hr),fun i hi=>?_,?_⟩
 · rw [y.frm_,im _ hi];unfold mv;rw [x.frm_ _ (Nat.mod_lt _ ht),Nat.mod_add_mod];congr 2;rw [Nat.add_mul];lia
 · rw [y.shr_ h3 x.fit,x.shr_,Int.emod_add_emod];congr 1;lia
theorem Went.home {t:Nat} {ns ms:List Int} (h3:T3 t) (h:Fit t ns) (x:Went t t ns ms):ms=ns:=by
 have ht:=cu h3;refine K79.home ht x.fit.prt h.prt ?_ x.quo_;rw [← (x.fit.frame h3).2.2,← (h.frame h3).2.2];refine eG fun i hi=>?_;rw [x.frm_ i hi,Nat.add_mul_mod_self_left,zE9 hi]
theorem ug {t j k:Nat} {ns a b:List Int} (h3:T3 t) (x:Went t j ns a) (y:Went t k ns b) (h:j<k) (hk:k<t):a≠b:=by
 rintro rfl;have h1:=x.shr_;have h2:=y.shr_;rw [h1] at h2;sleep 36
theorem Fit.vlim {t:Nat} {ns:List Int} (h3:T3 t) (h:Fit t ns):∀ n∈vec ns t,-30<=n/\n<=30:=by
 have f1:=h.fsum h3;have f3:=(h.frame h3).2.2;intro n hn;rw [← f3] at hn;obtain ⟨r,hr,rfl⟩:=zD0.mp hn;refine lim30 h3 (n:=dt t (nf (fr ns t)) t) ?_ r (zA6.mp hr);have e1:=mK h3 f1;have e2:sz (vec ns t)=qs t (nf (fr ns t)):=by rw [← f3,mw h3 f1]
 rw [gh ns (cu h3)] at e2;have:=(h.size h3).2.2;lia
theorem Fit.len {t:Nat} {ns:List Int} (h:Fit t ns):ns.length<=300:=by
 have:=cO h.prt.1;have:=h.w;lia
theorem rT {ws:List Int} {m:Nat} (h:ws.length=m+1):fG (ws.map V.int) (some (-1)) none=(ws.drop m).map V.int:=by
 unfold fG;have e1:HT.sIx (ws.map V.int).length 0 (some (-1))=m:=by
  rw [zA0,h];simp only [HT.sIx];rw [if_pos (by decide)];lia
 rw [e1,HT.sIx_none,List.map_drop,zB8 (by rw [zD1];lia)]
theorem mvl_is {t m:Nat} {fs:List Int} (hl:fs.length=t) (ht:t=m+1):fs.drop m++fs.take m=mvl t fs:=by
 refine zD2 (by rw [fg,zA5,zD1,zB9];lia) fun i h1 h2=>?_;rw [fg] at h2;simp only [mvl,zG8,zG5,mv];by_cases c:i=0
 · subst c;rw [zF4 (by rw [zD1];lia),zL1,cj (by rw [hl];exact Nat.mod_lt _ (by lia))];congr 1;rw [zE9 (by lia)];lia
 · rw [zF3 (by rw [zD1];lia),zG0,cj (by rw [hl];exact Nat.mod_lt _ (by lia))];congr 1;rw [zD1,show i+t - 1=(i - 1)+t by lia,Nat.add_mod_right,zE9 (by lia)];lia
theorem u7 {ns:List Int} {t r:Nat} (h:r<t):(K79H.quos ns t).getD r []=quo ns t r:=by
 unfold K79H.quos quo;simp [h]
theorem u9 {t:Nat} {ns:List Int} (h3:T3 t) (h:Fit t ns):∃ B:Nat,(∀ r,r<t->(quo ns t r).length<=B)/\t*B<=300:=by
 have ht:=cu h3;have e:=dy ht h.prt;have hq:=ng ht h.prt;have hs:=(h.size h3).2;have hw:=h.w;refine ⟨(.(8).map fun (r:Nat)=>(quo ns t r).sum).sum.toNat,fun r hr=>?_,?_⟩
 · have h1:=cO (eU (r:=r) ht h.prt).1;have h2:∀ l:List Nat,0<=(l.map fun (r:Nat)=>(quo ns t r).sum).sum/\(r∈l->(quo ns t r).sum<=(l.map fun (r:Nat)=>(quo ns t r).sum).sum):=by
    intro l;induction l with
    | nil=>exact ⟨zF1 _,fun h=>by simp at h⟩
    | cons a l ih=>
      have h1:=cO (eU (r:=a) ht h.prt).1
      rw [zB6,zB4]
      refine ⟨by lia,fun hm=>?_⟩
      rcases zB0.mp hm with rfl | hm
      · lia
      · have:=ih.2 hm;lia
   have:=(h2 .(8)).2 (zA6.mpr hr);lia
 · have h1:((t*(.(8).map fun (r:Nat)=>(quo ns t r).sum).sum.toNat:Nat):Int)=(t:Int)*(.(8).map fun (r:Nat)=>(quo ns t r).sum).sum:=by
    rw [zI5,Int.toNat_of_nonneg hq]
   lia
section
variable {P:Program} {w:World} {K:PySem.W.Frag} {mg:Str->Option Value} {base:Heap} {f:Addr} {fd:FuncData}
theorem sc_cf:FnScope ["t","parting"] ["t","parting"] (ag (top 27)):=.(0)
def qh:Sp:=fun vs H Q _=>∃ (a:Addr) (ns:List Int) (t:Nat),vs=[.int t,.ref a]/\H a=some (.tup .(27))/\T3 t/\Fit t ns/\∀ r H',Same H H'->H' r=some (.tup ((fr ns t).map V.int))->Q (.ref r) H'
theorem ok_cf (F:Fun K "core_frame" "core_frame" (top 27) f fd)  (F_frame_of:FnA P w K mg base "frame_of" 6 ["t","numbers"] uH) (F_vector:FnA P w K mg base "vector" 3 ["parting","t"] (cY K)):FnOk P w K mg base CX0 7 f fd ["t","parting"] qh:=by
 refine F.okz sc_cf .(16) .(3)
 · sleep 17
 obtain ⟨a,ns,t,rfl,ha,h3,hf,q⟩:=h;have nd:=sc_cf.nd;have hu:=hr.units;sleep 3;have hl:=hf.len;refine ⟨_,(ai (aH (az F_frame_of hr (by decide) rfl (aa (zn 0) (aa (az F_vector hr (by decide) rfl (aa (zn 1) .(50))) af))))),?_⟩;refine ⟨a,ns,t,rfl,.inl ⟨ha,g9 ns (by lia)⟩,by lia,by lia,by lia,fun r1 H1 y1 hr1=>?_⟩;refine ⟨r1,vec ns t,t,rfl,hr1,h3,fZ ns t,fun n hn=>?_,(hf.size h3).1,fun r2 H2 y2 hr2=>?_⟩
 · have:=hf.vlim h3 n hn;exact bt_of (by lia) (by lia)
 · exact q r2 H2 (y1.trans y2) hr2
theorem sc_tu:FnScope ["t","parting","frame","moved","quotients"] ["t","parting"] (ag (top 28)):=.(0)
def uA:Sp:=fun vs H Q _=>∃ (a:Addr) (ns:List Int) (t:Nat),vs=[.int t,.ref a]/\H a=some (.tup .(27))/\T3 t/\Fit t ns/\∀ r H' ms,Same H H'->H' r=some (.tup (ms.map V.int))->Trn t ns ms->Q (.ref r) H'
theorem ok_tu (F:Fun K "turned_on" "turned_on" (top 28) f fd)  (F_apart:FnA P w K mg base "apart" 3 ["parting","t"] K79H.sp_apart) (F_core_frame:FnA P w K mg base "core_frame" 7 ["t","parting"] qh) (F_core_of:FnA P w K mg base "core_of" 3 ["numbers"] K79H.sp_co) (F_joined:FnA P w K mg base "joined" 5 ["core","quotients"] K79H.sp_jn) (F_vector_by:FnA P w K mg base "vector_by" 5 ["t","frame"] uz):FnOk P w K mg base CX0 8 f fd ["t","parting"] uA:=by
 refine F.okz sc_tu .(16) .(3)
 · sleep 17
 obtain ⟨a,ns,t,rfl,ha,h3,hf,q⟩:=h;have nd:=sc_tu.nd;have hu:=hr.units;sleep 3;have hl:=hf.len;obtain ⟨f1,f2,f3⟩:=hf.frame h3;obtain ⟨m,hm⟩:∃ m,t=m+1:=⟨t - 1,by lia⟩
 refine ⟨_,(ah (ay (i:=2) nd rfl .(12) (az F_core_frame hr (by decide) rfl .(31)))
  (ah (ay (i:=3) nd rfl .(12) (ax aG (cT sl_P (zn 2) (eD (fU cV am)) eE) (cT sl_P (zn 2) eE (eD (fU cV am)))))
  (ah (ay (i:=4) nd rfl .(12) (cJ dz (az F_apart hr (by decide) rfl (aa (zn 1) .(50))) am .(33)))
  (ai (aH (az F_joined hr (by decide) rfl (aa (az F_core_of hr (by decide) rfl (aa (az F_vector_by hr (by decide) rfl (aa (zn 0) (aa (zn 3) af))) af)) (aa (zn 4) af)))))))),?_⟩
 refine ⟨a,ns,t,rfl,ha,h3,hf,fun r1 H1 y1 hr1=>?_⟩;refine ⟨1,rfl,_,rfl,r1,rfl,.inl ⟨_,hr1,fun r2 H2 y2 hr2=>?_⟩⟩;have hr2:H2 r2=some (.tup (((fr ns t).drop m).map V.int)):=by rw [← rT (m:=m) (by lia)];exact hr2
 refine ⟨1,rfl,_,rfl,r1,rfl,.inl ⟨_,y2 _ _ hr1,fun r3 H3 y3 hr3=>?_⟩⟩;have hr3:H3 r3=some (.tup (((fr ns t).take m).map V.int)):=by rw [← kj (m:=m) (by lia)];exact hr3
 refine .inr ⟨_,_,y3 _ _ hr2,hr3,cm (by rw [zA0,zA0,zD1,zB9];lia),fun r4 H4 y4 hr4=>?_⟩;have e4:((fr ns t).drop m).map V.int++((fr ns t).take m).map V.int=(mvl t (fr ns t)).map V.int:=by rw [← zA3,mvl_is f1 hm]
 rw [e4] at hr4;have z4:=((y1.trans y2).trans y3).trans y4;refine ⟨a,ns,t,rfl,z4 _ _ ha,by lia,by lia,by lia,fun p H5 y5 ap=>?_⟩;obtain ⟨c,d,qs,e1,e2,e3,e4⟩:=ap;refine ⟨_,.inr e1,.ref d,rfl,?_⟩;refine ⟨r4,mvl t (fr ns t),t,rfl,y5 _ _ hr4,h3,fg _ _,fun r6 H6 y6 hr6=>?_⟩;obtain ⟨m1,m2,m3,m4,m5⟩:=hf.moved h3;refine ⟨r6,_,rfl,hr6,by rw [m1];lia,by rw [m1];lia,m2,m4,fun r7 H7 cs y7 hr7 hc=>?_⟩;obtain ⟨B,hB,tB⟩:=u9 h3 hf;have hv:vec cs t=vby t .(41):=by have:=hc.vec_;rw [m1] at this;exact this
 have hx:cor cs t=cs:=by have:=hc.fix_;rw [m1] at this;exact this
 have hs:=hc.sum_;have hc4:cs.length<=300:=by
  have:=cO hc.prt.1;have:=(hf.size h3).2.2;lia
 have ql:(K79H.quos ns t).length=t:=by unfold K79H.quos;simp
 have qb:∀ ls∈K79H.quos ns t,∃ r,r<t/\ls=quo ns t r:=fun ls h=>by
  obtain ⟨r,hr,rfl⟩:=zD0.mp h;exact ⟨r,zA6.mp hr,rfl⟩
 refine ⟨r7,d,cs,qs,K79H.quos ns t,t,B,rfl,hr7,(y6.trans y7) _ _ e3,(e4.same y6).same y7,ql,by lia,by lia,by lia,hx,fun ls h=>?_,?_,fun r8 H8 M y8 hM hMB hr8=>?_⟩
 · obtain ⟨r,hr,rfl⟩:=qb ls h;exact hB r hr
 · have:=uY cs (t:=t) (by lia);rw [Nat.mul_add];lia
 · have ej:(pt (jb t (fun r=>ct cs .(47) t r) fun r=>(K79H.quos ns t).getD r []))=jn cs t M (quo ns t):=by
    unfold jn;rw [eB .(33) fun r hr=>u7 hr]
   rw [ej] at hr8;refine q r8 H8 _ ((((z4.trans y5).trans y6).trans y7).trans y8) hr8 (sH h3 hf hv hx hs fun r hr=>?_);exact hM _ (zD0.mpr ⟨r,zA6.mpr hr,rfl⟩)
theorem sc_sh:FnScope ["t","parting"] ["t","parting"] (ag (top 29)):=.(0)
def qg:Sp:=fun vs H Q _=>∃ (a:Addr) (ns:List Int) (t:Nat),vs=[.int t,.ref a]/\H a=some (.tup .(27))/\T3 t/\Fit t ns/\∀ H',Same H H'->Q (.int (shr ns t)) H'
theorem ok_sh (F:Fun K "share" "share" (top 29) f fd) (m_enumerate:mg "enumerate" = none) (m_sum:mg "sum" = none) (F_core_frame:FnA P w K mg base "core_frame" 7 ["t","parting"] qh):FnOk P w K mg base CX0 8 f fd ["t","parting"] qg:=by
 refine F.okz sc_sh .(16) .(3)
 · sleep 17
 obtain ⟨a,ns,t,rfl,ha,h3,hf,q⟩:=h;have nd:=sc_sh.nd;have hu:=hr.units;sleep 3;obtain ⟨f1,f2,f3⟩:=hf.frame h3;refine ⟨_,(ai (aH (ax bn (dB rfl rfl m_sum (aa (aV ["place","number"] [] rfl .(4) (cD rfl m_enumerate (aa (az F_core_frame hr (by decide) rfl .(31)) af)) dH (fun _ _ _ _=>cr rfl (aB (aj (i:=0) (show List.Nodup (["place","number"]:List Str) by decide +kernel) rfl .(12)) (aB (aj (i:=1) (show List.Nodup (["place","number"]:List Str) by decide +kernel) rfl .(12)) bB))) .(37) (fun _ _ _ _=>(ax aI (zn 0) (zn 1)))) af) rfl rfl) (zn 0)))),?_⟩;refine ⟨a,ns,t,rfl,ha,h3,hf,fun r1 H1 y1 hr1=>?_⟩;refine ⟨true,_,SqK.tup hr1,dk (xs:=(fr ns t).map V.int) (fun i zs H'=>Same H1 H'/\zs=(wR (fr ns t) i).map V.int) ⟨Same.refl _,rfl⟩ ?_ ?_ ?_ ?_⟩
 · rintro i zs H' _ ⟨y,_⟩;exact SqK.tup (y _ _ hr1)
 · rintro i zs H' hi ⟨_,rfl⟩;rw [zA0] at hi ⊢;unfold wR;rw [zA0,zC1];exact ao (by lia)
 · rintro i x zs H' p hx ⟨y,rfl⟩ hp;have hi:i<(fr ns t).length:=by
    sleep 0;rw [zA0] at this;exact this
   have ex:x=.int (fr ns t)[i]:=by rw [fP hi] at hx;exact .(25).symm
   subst ex;sleep 22;refine ⟨nR (by lia) (by lia),?_⟩;refine ⟨y.trans (Same.new hp _),?_⟩;unfold wR;rw [zB2,zA3,zA3];show _++[V.int ((i:Int)*(fr ns t)[i])]=_++[V.int ((i:Int)*nf (fr ns t) i)]
   rw [cj hi]
 · rintro zs H2 ⟨y,rfl⟩ D2 hD2;rw [zA0,f1];refine ⟨_,.inl (SqL.of ae),?_⟩;refine ⟨by lia,?_⟩;exact q _ ((y1.trans y).trans (Same.new hD2 _))
end
end K79
namespace M15
open MRow
def near (k:Nat):Int:=(k:Int)*(3*(k:Int) - 1) / 2
def sgn (k:Nat):Int:=if (k:Int) % 2=0 then 1 else -1
def cpart (most:Int) (k:Nat):List (Int×Int):=(near k,sgn k)::(if (0:Int)<k/\near k+k<=most then [(near k+k,sgn k)] else [])
def cl:Nat->Int->Nat->List (Int×Int)->List (Int×Int)
 | 0,_,_,acc=>acc
 | f+1,most,k,acc=>if near k<=most then cl f most (k+1) (acc++cpart most k) else acc
def cor (most:Int):List (Int×Int):=cl 25 most 0 []
def sqf:Nat->Int->Int->Int
 | 0,s,_=>s
 | f+1,s,t=>if s*s<t then sqf f (s+1) t else s
def sgv (side:Int) (p:Nat):Int:=if sqf 130 side (24*(p:Int)+1)*sqf 130 side (24*(p:Int)+1)=24*(p:Int)+1 then 1 - 2*((sqf 130 side (24*(p:Int)+1)+1) / 6 % 2) else 0
def dst (st:List (Int×Int)×Int) (p:Nat):List (Int×Int)×Int:=
 (if sqf 130 st.2 (24*(p:Int)+1)*sqf 130 st.2 (24*(p:Int)+1)=24*(p:Int)+1 then st.1++[((p:Int),1 - 2*((sqf 130 st.2 (24*(p:Int)+1)+1) / 6 % 2))] else st.1,sqf 130 st.2 (24*(p:Int)+1))
def stp:Nat->List (Int×Int)×Int
 | 0=>([],1)
 | p+1=>dst (stp p) p
def chk:Nat->List (Int×Int)×Int->Nat->Bool
 | 0,_,_=>true
 | f+1,st,p=>decide (cor (p:Int)=(dst st p).1)&&chk f (dst st p) (p+1)
theorem oP:∀ {f p:Nat},chk f (stp p) p=true->∀ i,i<f->cor ((p+i:Nat):Int)=(stp (p+i+1)).1
 | 0,_,_,i,hi=>absurd hi (zG6 _)
 | f+1,p,h,i,hi=>by
   have h':(decide (cor (p:Int)=(dst (stp p) p).1)&&chk f (dst (stp p) p) (p+1))=true:=h;rw [zC8] at h'
   cases i with
   | zero=>exact of_decide_eq_true h'.1
   | succ i=>
     have:=oP (f:=f) (p:=p+1) h'.2 i (by lia)
     have e:p+1+i=p+(i+1):=by lia
     rw [e] at this
     exact this
theorem chk_ok:chk 601 ([],1) 0=true:=by decide +kernel
theorem cor_due {m:Nat} (h:m<=600):cor (m:Int)=(stp (m+1)).1:=by
 have:=oP (f:=601) (p:=0) chk_ok m (by lia);rw [zH9] at this;exact this
def L:Nat->Nat->Int
 | 0=>dl
 | s+1=>fun j=>L s j - (if s+1<=j then L s (j - (s+1)) else 0)
theorem L_low {s j:Nat} (h:j<=s):∀ d,L (s+d) j=L s j
 | 0=>rfl
 | d+1=>by
   show L (s+d) j - (if s+d+1<=j then _ else 0)=_;rw [if_neg (by lia),L_low h d];lia
def rA (s:Nat) (row:List Int):List Int:=List.zipWith (fun a b=>a - b) row (List.replicate s 0++row)
def lls (N:Nat):Nat->List Int
 | 0=>1::List.replicate N 0
 | s+1=>rA (s+1) (lls N s)
theorem nY (N:Nat):∀ s,lls N s=tb (L s) (N+1)
 | 0=>(tb_dl N).symm
 | s+1=>by
   show rA (s+1) (lls N s)=_;rw [nY N s];unfold rA;refine zD2 (by simp [bQ]) fun j h1 h2=>?_;have hj:j<N+1:=by rw [bQ] at h2;exact h2
   rw [List.getElem_zipWith,cW,cW h2];show L s j - _=L s j - _;congr 1;by_cases h:s+1<=j
   · rw [if_pos h,zF3 (by simpa using h),cW];simp
   · rw [if_neg h,zF4 (by simpa using h)];simp
def chk2:List Int->List (Int×Int)×Int->Nat->Bool
 | [],_,_=>true
 | x::r,st,p=>decide (x=sgv st.2 p)&&chk2 r (dst st p) (p+1)
theorem kq:∀ {l:List Int} {p:Nat},chk2 l (stp p) p=true->∀ (i:Nat) (h:i<l.length),l[i]=sgv (stp (p+i)).2 (p+i)
 | [],_,_,i,hi=>absurd hi (zG6 _)
 | x::r,p,h,i,hi=>by
   have h':(decide (x=sgv (stp p).2 p)&&chk2 r (dst (stp p) p) (p+1))=true:=h;rw [zC8] at h'
   cases i with
   | zero=>exact of_decide_eq_true h'.1
   | succ i=>
     have:=kq (l:=r) (p:=p+1) h'.2 i (by simpa using hi)
     have e:p+1+i=p+(i+1):=by lia
     rw [e] at this
     simpa using this
theorem wq:((List.range 601).all fun (m:Nat)=>((cor (m:Int)).all fun p=>decide (0<=p.1/\p.1<=(m:Int)/\-1<=p.2/\p.2<=1))&&decide ((cor (m:Int)).length<=100))=true:=by decide +kernel
theorem cor_in {m:Nat} (h:m<=600):(∀ p∈cor (m:Int),0<=p.1/\p.1<=(m:Int)/\-1<=p.2/\p.2<=1)/\(cor (m:Int)).length<=100:=by
 have:=zI8.mp wq m (zA6.mpr (by lia));rw [zC8] at this;exact ⟨fun p hp=>of_decide_eq_true (zI8.mp this.1 p hp),of_decide_eq_true this.2⟩
def run:Nat->Nat->List Int->List Int
 | 0,_,row=>row
 | k+1,s,row=>run k (s+1) (rA (s+1) row)
theorem cN (N:Nat):∀ k s,run k s (lls N s)=lls N (s+k)
 | 0,_=>rfl
 | k+1,s=>by
   show run k (s+1) (lls N (s+1))=_;rw [cN N k (s+1)];congr 1;lia
def mV:List Int:=[1,-1,-1,0,0,1,0,1,0,0,0,0,-1,0,0,-1,0,0,0,0,0,0,1,0,0,0,1,0,0,0,0,0,0,0,0,-1,0,0,0,0,-1,0,0,0,0,0,0,0,0,0,0,1,0,0,0,0,0,1,0,0,0,0,0,0,0,0,0,0,0,0,-1,0,0,0,0,0,0,-1,0,0,0,0,0,0,0,0,0,0,0,0,0,0,1,0,0,0,0,0,0,0,1,1,0,-1,-1,-1,0,0,1,1,1,1,1,0,0,0,-1,-2,-1,-1,-1,-1,-1,0,0,0,-1,1,1,1,1,1,1,1,1,1,0,0,0,0,0,-1,-1,-1,-1,0,-1,-1,-1,-1,-1,-1,0,0,0,1,0,0,1,1,1,1,1,1,1,1,1,1,1,1,1,0,0,0,0,0,-1,0,-1,-1,-1,-1,-1,-1,-1,-1,-1,-2,-1,-1,-1,-1,-1,0,0,0,0,0,0,0,0,1,2,1,1,0,0,0,0,1,2,2,2,3,2,3,2,2,0,0,-1,-1,-1,-2,-2,-2,-2,-3,-2,-2,-1,-1,0,0,1,1,2,1,2,1,2,1,1,0,0,-1,0,-2,-1,-2,-2,-3,-3,-3,-3,-3,-2,-2,-2,-1,-2,0,0,1,1,2,2,3,3,4,4,5,4,5,4,5,4,4,3,3,2,2,1,1,0,0,-1,0,-3,-3,-4,-4,-5,-5,-5,-5,-5,-5,-5,-5,-5,-4,-4,-3,-3,-3,-2,-3,-2,-2,-1,0,2,2,4,4,6,6,7,6,7,5,6,5,5,4,4,2,2,1,-1,0,0,-1,0,0,0,1,1,1,2,2,2,2,2,0,1,1,-1,-1,-2,-3,-4,-5,-6,-7,-8,-8,-9,-9,-9,-10,-10,-9,-9,-8,-7,-6,-5,-3,-2,0,2,3,5,7,9,10,11,12,12,14,13,14,14,14,13,14,13,12,11,9,8,6,3,2,0,-2,-4,-5,-8,-9,-10,-11,-12,-13,-15,-15,-16,-17,-18,-17,-17,-16,-15,-13,-12,-9,-8,-5,-4,-1,-1,2,3,4,6,8,8,9,10,9,9,10,10,10,11,11,12,12,13,13,14,14,15,15,15,13,15,12,13,10,10,6,7,2,1,-3,-3,-9,-9,-13,-15,-19,-20,-24,-24,-27,-28,-29,-28,-30,-28,-27,-26,-24,-21,-17,-14,-11,-8,-4,0,3,7,11,14,18,21,25,27,31,31,35,35,37,35,36,33,33,30,28,24,23,18,17,11,8,3,0,-6,-10,-15,-18,-23,-25,-29,-31,-33,-34,-35,-36,-36,-36,-35,-34,-34,-32,-29,-28,-25,-22,-21,-18,-15,-12,-9,-6,-3,1,5,8,12,16,20,23,28,31,35,38,40,42,46,46,47,48,48,46,45,43,40,37,33,28,24,17,11,6,-1,-9,-15,-21,-28,-34,-40,-46,-49,-54,-56,-57,-59,-60,-59,-58,-57,-54,-51,-47,-42,-37,-31,-24,-18,-11,-3,4,13,21,27,34,40]
theorem run100:run 100 0 (1::List.replicate 600 0)=mV:=by decide +kernel
def mU:List Int:=[1,-1,-1,0,0,1,0,1,0,0,0,0,-1,0,0,-1,0,0,0,0,0,0,1,0,0,0,1,0,0,0,0,0,0,0,0,-1,0,0,0,0,-1,0,0,0,0,0,0,0,0,0,0,1,0,0,0,0,0,1,0,0,0,0,0,0,0,0,0,0,0,0,-1,0,0,0,0,0,0,-1,0,0,0,0,0,0,0,0,0,0,0,0,0,0,1,0,0,0,0,0,0,0,1,0,0,0,0,0,0,0,0,0,0,0,0,0,0,0,0,-1,0,0,0,0,0,0,0,0,-1,0,0,0,0,0,0,0,0,0,0,0,0,0,0,0,0,0,0,1,0,0,0,0,0,0,0,0,0,1,0,0,0,0,0,0,0,0,0,0,0,0,0,0,0,0,0,0,0,0,-1,0,0,0,0,0,0,0,0,0,0,-1,0,0,0,0,0,0,0,0,0,0,0,0,0,1,0,-1,-1,-1,0,0,1,1,2,1,1,0,0,0,-1,-1,-1,-1,-1,-1,0,0,0,0,0,1,1,1,1,1,1,1,1,1,0,0,0,0,0,-1,-1,-1,-1,-1,-1,-2,-1,-1,-1,-1,0,0,0,0,0,0,1,1,0,1,1,1,1,1,1,1,1,1,1,0,0,0,0,0,0,0,-1,-1,-1,-1,-1,-1,-1,-1,-1,0,-1,-1,-1,-1,-1,0,0,0,0,0,0,0,0,2,1,1,1,1,1,1,1,1,1,1,1,1,1,1,1,1,0,0,0,0,0,0,0,0,0,-1,-1,-1,-2,-1,-1,-1,-1,-1,-1,-1,-1,-1,-1,-1,-1,-1,-1,-2,0,0,0,0,0,0,0,0,0,0,1,1,1,1,1,1,1,1,1,1,1,1,1,1,1,1,1,1,1,1,2,0,0,0,0,0,0,0,0,0,0,0,-1,-1,-1,-1,0,-1,-1,-1,-1,-1,-1,-1,-1,-1,0,-1,-1,-2,-2,-2,-2,-1,-1,1,1,2,1,2,1,1,0,0,-1,-1,-2,-1,-1,-2,-1,-1,0,0,1,1,2,2,3,3,4,3,4,3,4,3,2,2,2,1,1,0,-1,-2,-2,-3,-3,-3,-3,-3,-3,-3,-3,-2,-2,-2,-2,-1,-1,0,0,1,1,2,2,3,2,3,2,3,2,4,2,2,1,1,0,0,-1,-1,-2,-2,-2,-2,-3,-3,-4,-4,-4,-3,-4,-4,-4,-4,-4,-4,-2,-2,-1,-1,0,0,1,1,2,2,3,3,4,4,5,5,6,5,6,5,6,5,6,5,6,5,5,4,4,2,1,1,1,0,0,-1,-1,-2,-2,-3,-3,-4,-4,-5,-6,-6,-6,-6,-6,-7,-6,-6,-6,-6,-6,-5,-5,-4,-4,-3,-3,-2,-2,-1,-1,0,0,1,1,2,2,3,3,4,4,6,5,6,5,6,5,6,5,6,5,6,5,5,5,4,3,4,3,3,2,2,1,1,0]
theorem run200:run 100 100 mV=mU:=by decide +kernel
def mT:List Int:=[1,-1,-1,0,0,1,0,1,0,0,0,0,-1,0,0,-1,0,0,0,0,0,0,1,0,0,0,1,0,0,0,0,0,0,0,0,-1,0,0,0,0,-1,0,0,0,0,0,0,0,0,0,0,1,0,0,0,0,0,1,0,0,0,0,0,0,0,0,0,0,0,0,-1,0,0,0,0,0,0,-1,0,0,0,0,0,0,0,0,0,0,0,0,0,0,1,0,0,0,0,0,0,0,1,0,0,0,0,0,0,0,0,0,0,0,0,0,0,0,0,-1,0,0,0,0,0,0,0,0,-1,0,0,0,0,0,0,0,0,0,0,0,0,0,0,0,0,0,0,1,0,0,0,0,0,0,0,0,0,1,0,0,0,0,0,0,0,0,0,0,0,0,0,0,0,0,0,0,0,0,-1,0,0,0,0,0,0,0,0,0,0,-1,0,0,0,0,0,0,0,0,0,0,0,0,0,0,0,0,0,0,0,0,0,0,1,0,0,0,0,0,0,0,0,0,0,0,1,0,0,0,0,0,0,0,0,0,0,0,0,0,0,0,0,0,0,0,0,0,0,0,0,-1,0,0,0,0,0,0,0,0,0,0,0,0,-1,0,0,0,0,0,0,0,0,0,0,0,0,0,0,0,0,0,0,0,0,0,0,0,0,0,0,1,0,0,0,0,0,0,0,0,0,0,0,0,0,2,0,-1,-1,-1,0,0,1,1,1,1,1,0,0,0,-1,-1,-1,-1,-1,-1,-1,0,0,0,0,1,1,1,0,1,1,1,1,1,0,0,0,0,0,-1,-1,-1,-1,-2,-1,-1,-1,-1,-1,-1,0,0,0,0,0,0,1,1,1,1,1,1,1,1,1,1,1,1,1,0,0,0,0,0,1,0,-1,-1,-1,-1,-1,-1,-1,-1,-1,-1,-1,-1,-1,-1,0,0,0,0,0,0,0,0,0,1,1,1,1,1,1,1,1,1,1,1,1,1,1,1,1,1,0,0,0,0,0,0,0,-1,0,-1,-1,-1,-1,-1,-1,-1,-1,-1,-1,-1,-1,-1,-1,-1,-2,-1,-1,-1,0,0,0,0,0,0,0,0,0,0,1,1,1,1,1,1,1,1,1,1,1,1,1,1,1,1,1,1,1,1,1,1,0,0,0,0,0,0,0,0,0,0,-1,-1,-1,-1,-1,-1,-1,0,-1,-1,-1,-1,-1,-1,-1,-1,-1,-1,-1,-1,-1,-1,-1,0,0,0,0,0,0,0,0,0,0,0,0,1,1,1,1,1,1,1,1,1,0,1,1,1,1,1,1,1,1,1,1,1,1,1,1,1,0,0,0,-1,0,0,0,0,0,0,0,0,0,-1,-1,-1,-1,-1,-1,-1,-1,-1,-1,-1,-1,-1,-1,-1,-1,-1,-1,-1,-1,-1,-1,-1,-1,-1,-1,-1,0,0,1,0,0,0,0,0,0,0,0,0,0]
theorem run300:run 100 200 mU=mT:=by decide +kernel
def mS:List Int:=[1,-1,-1,0,0,1,0,1,0,0,0,0,-1,0,0,-1,0,0,0,0,0,0,1,0,0,0,1,0,0,0,0,0,0,0,0,-1,0,0,0,0,-1,0,0,0,0,0,0,0,0,0,0,1,0,0,0,0,0,1,0,0,0,0,0,0,0,0,0,0,0,0,-1,0,0,0,0,0,0,-1,0,0,0,0,0,0,0,0,0,0,0,0,0,0,1,0,0,0,0,0,0,0,1,0,0,0,0,0,0,0,0,0,0,0,0,0,0,0,0,-1,0,0,0,0,0,0,0,0,-1,0,0,0,0,0,0,0,0,0,0,0,0,0,0,0,0,0,0,1,0,0,0,0,0,0,0,0,0,1,0,0,0,0,0,0,0,0,0,0,0,0,0,0,0,0,0,0,0,0,-1,0,0,0,0,0,0,0,0,0,0,-1,0,0,0,0,0,0,0,0,0,0,0,0,0,0,0,0,0,0,0,0,0,0,1,0,0,0,0,0,0,0,0,0,0,0,1,0,0,0,0,0,0,0,0,0,0,0,0,0,0,0,0,0,0,0,0,0,0,0,0,-1,0,0,0,0,0,0,0,0,0,0,0,0,-1,0,0,0,0,0,0,0,0,0,0,0,0,0,0,0,0,0,0,0,0,0,0,0,0,0,0,1,0,0,0,0,0,0,0,0,0,0,0,0,0,1,0,0,0,0,0,0,0,0,0,0,0,0,0,0,0,0,0,0,0,0,0,0,0,0,0,0,0,0,-1,0,0,0,0,0,0,0,0,0,0,0,0,0,0,-1,0,0,0,0,0,0,0,0,0,0,0,0,0,0,0,0,0,0,0,0,0,0,0,0,0,0,0,0,0,0,1,0,0,0,0,0,0,0,0,0,0,0,0,0,0,0,1,0,0,0,0,0,0,0,0,1,0,-1,-1,-1,0,0,1,1,1,1,1,0,0,0,-1,-1,-1,-1,-1,-1,-1,0,0,-1,0,1,1,1,1,1,1,1,1,1,0,0,0,0,0,-1,-2,-1,-1,-1,-1,-1,-1,-1,-1,-1,0,0,0,0,0,0,1,1,1,1,1,1,1,1,1,1,1,1,1,0,0,0,0,0,0,1,-1,-1,-1,-1,-1,-1,-1,-1,-1,-1,-1,-1,-1,-1,-1,0,0,1,0,0,0,0,0,1,1,1,1,1,1,1,1,1,1,1,1,1,1,1,1,1,0,0,0,0,0,0,0,0,0,-1,-1,-1,-1,-1,-2,-1,-1,-1,-1,-1,-1,-1,-1,-1,-1,-1,-1,-1,0,0,0,0,0,-1,0,0,0,0,1,1,1,1,1,1,1,1,1,1,1,1,1,1,1,1,1,1,1,1,1,0,0,0,0,0,0,0,0,0,0,0,-1,-1,0,-1,-1,-1,-1,-1,-1,-1,-1,-1,-1]
theorem run400:run 100 300 mT=mS:=by decide +kernel
def mR:List Int:=[1,-1,-1,0,0,1,0,1,0,0,0,0,-1,0,0,-1,0,0,0,0,0,0,1,0,0,0,1,0,0,0,0,0,0,0,0,-1,0,0,0,0,-1,0,0,0,0,0,0,0,0,0,0,1,0,0,0,0,0,1,0,0,0,0,0,0,0,0,0,0,0,0,-1,0,0,0,0,0,0,-1,0,0,0,0,0,0,0,0,0,0,0,0,0,0,1,0,0,0,0,0,0,0,1,0,0,0,0,0,0,0,0,0,0,0,0,0,0,0,0,-1,0,0,0,0,0,0,0,0,-1,0,0,0,0,0,0,0,0,0,0,0,0,0,0,0,0,0,0,1,0,0,0,0,0,0,0,0,0,1,0,0,0,0,0,0,0,0,0,0,0,0,0,0,0,0,0,0,0,0,-1,0,0,0,0,0,0,0,0,0,0,-1,0,0,0,0,0,0,0,0,0,0,0,0,0,0,0,0,0,0,0,0,0,0,1,0,0,0,0,0,0,0,0,0,0,0,1,0,0,0,0,0,0,0,0,0,0,0,0,0,0,0,0,0,0,0,0,0,0,0,0,-1,0,0,0,0,0,0,0,0,0,0,0,0,-1,0,0,0,0,0,0,0,0,0,0,0,0,0,0,0,0,0,0,0,0,0,0,0,0,0,0,1,0,0,0,0,0,0,0,0,0,0,0,0,0,1,0,0,0,0,0,0,0,0,0,0,0,0,0,0,0,0,0,0,0,0,0,0,0,0,0,0,0,0,-1,0,0,0,0,0,0,0,0,0,0,0,0,0,0,-1,0,0,0,0,0,0,0,0,0,0,0,0,0,0,0,0,0,0,0,0,0,0,0,0,0,0,0,0,0,0,1,0,0,0,0,0,0,0,0,0,0,0,0,0,0,0,1,0,0,0,0,0,0,0,0,0,0,0,0,0,0,0,0,0,0,0,0,0,0,0,0,0,0,0,0,0,0,0,0,-1,0,0,0,0,0,0,0,0,0,0,0,0,0,0,0,0,-1,0,0,0,0,0,0,0,0,0,0,0,0,0,0,0,0,0,0,0,0,0,0,0,0,0,0,0,0,0,0,0,0,0,0,1,0,0,0,0,0,0,0,0,0,0,0,0,0,0,0,0,0,1,0,0,0,0,0,1,0,-1,-1,-1,0,0,1,1,1,1,1,0,0,0,-1,-1,-1,-1,-1,-1,-1,0,0,0,0,1,1,1,1,1,0,1,1,1,0,0,0,0,0,-1,-1,-1,-1,-1,-1,-1,-1,-1,-1,-2,0,0,0,0,0,0,1,1,1,1,1,1,1,1,1,1,1,1,1,0,0,0,0,0,0,0,-1,-1,-1,-1,-1,-1,-1,-1,-1,-1,-1,-1,0,-1,-1,0,0,0,0,0,0,0,0]
theorem run500:run 100 400 mS=mR:=by decide +kernel
def mQ:List Int:=[1,-1,-1,0,0,1,0,1,0,0,0,0,-1,0,0,-1,0,0,0,0,0,0,1,0,0,0,1,0,0,0,0,0,0,0,0,-1,0,0,0,0,-1,0,0,0,0,0,0,0,0,0,0,1,0,0,0,0,0,1,0,0,0,0,0,0,0,0,0,0,0,0,-1,0,0,0,0,0,0,-1,0,0,0,0,0,0,0,0,0,0,0,0,0,0,1,0,0,0,0,0,0,0,1,0,0,0,0,0,0,0,0,0,0,0,0,0,0,0,0,-1,0,0,0,0,0,0,0,0,-1,0,0,0,0,0,0,0,0,0,0,0,0,0,0,0,0,0,0,1,0,0,0,0,0,0,0,0,0,1,0,0,0,0,0,0,0,0,0,0,0,0,0,0,0,0,0,0,0,0,-1,0,0,0,0,0,0,0,0,0,0,-1,0,0,0,0,0,0,0,0,0,0,0,0,0,0,0,0,0,0,0,0,0,0,1,0,0,0,0,0,0,0,0,0,0,0,1,0,0,0,0,0,0,0,0,0,0,0,0,0,0,0,0,0,0,0,0,0,0,0,0,-1,0,0,0,0,0,0,0,0,0,0,0,0,-1,0,0,0,0,0,0,0,0,0,0,0,0,0,0,0,0,0,0,0,0,0,0,0,0,0,0,1,0,0,0,0,0,0,0,0,0,0,0,0,0,1,0,0,0,0,0,0,0,0,0,0,0,0,0,0,0,0,0,0,0,0,0,0,0,0,0,0,0,0,-1,0,0,0,0,0,0,0,0,0,0,0,0,0,0,-1,0,0,0,0,0,0,0,0,0,0,0,0,0,0,0,0,0,0,0,0,0,0,0,0,0,0,0,0,0,0,1,0,0,0,0,0,0,0,0,0,0,0,0,0,0,0,1,0,0,0,0,0,0,0,0,0,0,0,0,0,0,0,0,0,0,0,0,0,0,0,0,0,0,0,0,0,0,0,0,-1,0,0,0,0,0,0,0,0,0,0,0,0,0,0,0,0,-1,0,0,0,0,0,0,0,0,0,0,0,0,0,0,0,0,0,0,0,0,0,0,0,0,0,0,0,0,0,0,0,0,0,0,1,0,0,0,0,0,0,0,0,0,0,0,0,0,0,0,0,0,1,0,0,0,0,0,0,0,0,0,0,0,0,0,0,0,0,0,0,0,0,0,0,0,0,0,0,0,0,0,0,0,0,0,0,0,0,-1,0,0,0,0,0,0,0,0,0,0,0,0,0,0,0,0,0,0,-1,0,0,0,0,0,0,0,0,0,0,0,0,0,0,0,0,0,0,0,0,0,0,0,0,0,0,0,0,0,0,0,0,0,0,0,0,0,0,1,0,0,0,0,0,0,0,0,0,0]
theorem run600:run 100 500 mR=mQ:=by decide +kernel
theorem at100:lls 600 100=mV:=(cN 600 100 0).symm.trans run100
theorem at200:lls 600 200=mU:=by
 have:=cN 600 100 100;rw [at100,run200] at this;exact this.symm
theorem at300:lls 600 300=mT:=by
 have:=cN 600 100 200;rw [at200,run300] at this;exact this.symm
theorem at400:lls 600 400=mS:=by
 have:=cN 600 100 300;rw [at300,run400] at this;exact this.symm
theorem at500:lls 600 500=mR:=by
 have:=cN 600 100 400;rw [at400,run500] at this;exact this.symm
theorem at600:lls 600 600=mQ:=by
 have:=cN 600 100 500;rw [at500,run600] at this;exact this.symm
theorem wy:chk2 mQ ([],1) 0=true:=by decide +kernel
theorem L_sgn {n j:Nat} (hn:n<=600) (hj:j<=n):L n j=sgv (stp j).2 j:=by
 have h1:L 600 j=L n j:=by
  have:=L_low hj (600 - n);rw [Nat.add_sub_cancel' hn] at this;exact this
 have hlen:j<(lls 600 600).length:=by rw [nY,bQ];lia
 have h2:=kq (l:=lls 600 600) (p:=0) (by rw [at600];exact wy) j hlen;rw [zH9] at h2;rw [← h1,← h2];have:∀ (l:List Int) (e:l=tb (L 600) 601) (h:j<l.length),L 600 j=l[j]:=fun l e h=>by subst e;rw [cW]
 exact this _ (nY 600 600) hlen
end M15
namespace M16
open MRow M80 M17 M12 M14
theorem rX (f g:Nat->Int) {s:Nat} (hs:0<s):conv (off f s) g=off (conv f g) s:=by
 have h:=km (off f s) g hs;rw [vc f hs] at h;rw [h,nO _ hs]
theorem L_R:∀ s,conv (M15.L s) (R s)=dl
 | 0=>wt dl
 | s+1=>by
   show conv (off (M15.L s) (s+1)) (put (R s) (s+1))=dl;rw [rX _ _ (by lia),oJ _ _ (by lia),nO _ (by lia)];exact L_R s
def cs (ps:List (Int×Int)) (f:Int->Int):Int:=(ps.map fun p=>p.2*f p.1).sum
theorem wo (ps:List (Int×Int)) (p v:Int) (f:Int->Int):cs (ps++[(p,v)]) f=cs ps f+v*f p:=by
 unfold cs;rw [zA3,List.sum_append_int];show _+(v*f p+0)=_;lia
theorem tM (f:Int->Int):∀ k,cs (M15.stp k).1 f=aS k fun i=>M15.sgv (M15.stp i).2 i*f (i:Int)
 | 0=>rfl
 | k+1=>by
   show cs (M15.dst (M15.stp k) k).1 f=aS k (fun i=>M15.sgv (M15.stp i).2 i*f (i:Int))+M15.sgv (M15.stp k).2 k*f (k:Int);rw [← tM f k];unfold M15.dst M15.sgv;dsimp only;split
   · rw [wo]
   · lia
def W:Nat->Int:=R 600
def fW (D:Nat->Int) (m:Nat) (p:Int):Int:=if p<=(m:Int) then D (m - p.toNat) else 0
theorem jg (D:Nat->Int) {n m:Nat} (hn:n<=600) (hm:m<=n):cs (M15.cor (n:Int)) (fW D m)=conv (M15.L 600) D m:=by
 rw [M15.cor_due hn,tM,show n+1=(m+1)+(n - m) by lia,bZ];have z:aS (n - m) (fun i=>M15.sgv (M15.stp (m+1+i)).2 (m+1+i)*fW D m ((m+1+i:Nat):Int))=0:=bR fun i _=>by
  unfold fW;rw [if_neg (by lia),Int.mul_zero]
 rw [z,Int.add_zero];refine bu fun i hi=>?_;rw [← M15.L_sgn hn (by lia:i<=n)];have e:=M15.L_low (s:=n) (j:=i) (by lia) (600 - n);rw [show n+(600 - n)=600 by lia] at e;rw [e];unfold fW;rw [if_pos (by lia),zD9]
theorem wL:∀ s,M15.L s 0=1
 | 0=>rfl
 | s+1=>by
   show M15.L s 0 - (if s+1<=0 then _ else 0)=1;rw [if_neg (by lia),wL s];rfl
theorem only_W {D:Nat->Int} (h:∀ m,m<=600->conv (M15.L 600) D m=dl m):∀ m,m<=600->D m=W m:=by
 intro m;induction m using Nat.strongRecOn with
 | _ m ih=>
   intro hm
   have a:=h m hm
   have b:=congrFun (L_R 600) m
   unfold conv at a b
   rw [dD] at a b
   have e:aS m (fun i=>M15.L 600 (i+1)*D (m - (i+1)))=aS m (fun i=>M15.L 600 (i+1)*R 600 (m - (i+1))):=bu fun i hi=>by
    rw [ih (m - (i+1)) (by lia) (by lia)];rfl
   rw [e,wL] at a
   rw [wL] at b
   show D m=R 600 m
   rw [Nat.sub_zero] at a b
   lia
def dq:Nat->Nat->Int
 | 0=>fun _=>0
 | k+1=>fun j=>dq k j+if k*k<=j then S k (j - k*k) else 0
def dqL (L:Nat):Nat->Nat->List Int->List Int->List Int
 | 0,_,a,_=>a
 | t+1,k,a,r=>dqL L t (k+1) (shf (k*k) a r) (sW L (k+1) (sW L (k+1) r))
theorem tG (L:Nat):∀ t k,(∀ i,i<k+t->i*i<=L)->dqL L t k (tb (dq k) L) (tb (S k) L)=tb (dq (k+t)) L
 | 0,_,_=>rfl
 | t+1,k,h=>by
   show dqL L t (k+1) (shf (k*k) (tb (dq k) L) (tb (S k) L)) (sW L (k+1) (sW L (k+1) (tb (S k) L)))=_;rw [i6 _ (by lia),i6 _ (by lia),sN _ _ (h k (by lia))];have:=tG L t (k+1) fun i hi=>h i (by lia);rw [show k+1+t=k+(t+1) by lia] at this;exact this
def dRow:List Int:=[1,1,2,3,5,7,11,15,22,30,42,56,77,101,135,176,231,297,385,490,627,792,1002,1255,1575,1958,2436,3010,3718,4565,5604,6842,8349,10143,12310,14883,17977,21637,26015,31185,37338,44583,53174,63261,75175,89134,105558,124754,147273,173525,204226,239943,281589,329931,386155,451276,526823,614154,715220,831820,966467,1121505,1300156,1505499,1741630,2012558,2323520,2679689,3087735,3554345,4087968,4697205,5392783,6185689,7089500,8118264,9289091,10619863,12132164,13848650,15796476,18004327,20506255,23338469,26543660,30167357,34262962,38887673,44108109,49995925,56634173,64112359,72533807,82010177,92669720,104651419,118114304,133230930,150198136,169229875,190569292,214481126,241265379,271248950,304801365,342325709,384276336,431149389,483502844,541946240,607163746,679903203,761002156,851376628,952050665,1064144451,1188908248,1327710076,1482074143,1653668665,1844349560,2056148051,2291320912,2552338241,2841940500,3163127352,3519222692,3913864295,4351078600,4835271870,5371315400,5964539504,6620830889,7346629512,8149040695,9035836076,10015581680,11097645016,12292341831,13610949895,15065878135,16670689208,18440293320,20390982757,22540654445,24908858009,27517052599,30388671978,33549419497,37027355200,40853235313,45060624582,49686288421,54770336324,60356673280,66493182097,73232243759,80630964769,88751778802,97662728555,107438159466,118159068427,129913904637,142798995930,156919475295,172389800255,189334822579,207890420102,228204732751,250438925115,274768617130,301384802048,330495499613,362326859895,397125074750,435157697830,476715857290,522115831195,571701605655,625846753120,684957390936,749474411781,819876908323,896684817527,980462880430,1071823774337,1171432692373,1280011042268,1398341745571,1527273599625,1667727404093,1820701100652,1987276856363,2168627105469,2366022741845,2580840212973,2814570987591,3068829878530,3345365983698,3646072432125,3972999029388,4328363658647,4714566886083,5134205287973,5590088317495,6085253859260,6622987708040,7206841706490,7840656226137,8528581302375,9275102575355,10085065885767,10963707205259,11916681236278,12950095925895,14070545699287,15285151248481,16601598107914,18028182516671,19573856161145,21248279009367,23061871173849,25025873760111,27152408925615,29454549941750,31946390696157,34643126322519,37561133582570,40718063627362,44132934884255,47826239745920,51820051838712,56138148670947,60806135438329,65851585970275,71304185514919,77195892663512,83561103925871,90436839668817,97862933703585,105882246722733,114540884553038,123888443077259,133978259344888,144867692496445,156618412527946,169296722391554,182973889854026,197726516681672,213636919820625,230793554364681,249291451168559,269232701252579,290726957916112,313891991306665,338854264248680,365749566870782,394723676655357,425933084409356,459545750448675,495741934760846,534715062908609,576672674947168,621837416509615,670448123060170,722760953690372,779050629562167,839611730366814,904760108316360,974834369944625,1050197489931117,1131238503938606,1218374349844333,1312051800816215,1412749565173450,1520980492851175,1637293969337171,1762278433057269,1896564103591584,2040825852575075,2195786311682516,2362219145337711,2540952590045698,2732873183547535,2938929793929555,3160137867148997,3397584011986773,3652430836071053,3925922161489422,4219388528587095,4534253126900886,4872038056472084,5234371069753672,5622992691950605,6039763882095515,6486674127079088,6965850144195831,7479565078510584,8030248384943040,8620496275465025,9253082936723602,9930972392403501,10657331232548839,11435542077822104,12269218019229465,13162217895057704,14118662665280005,15142952738857194,16239786535829663,17414180133147295,18671488299600364,20017426762576945,21458096037352891,23000006655487337,24650106150830490,26415807633566326,28305020340996003,30326181989842964,32488293351466654,34800954869440830,37274405776748077,39919565526999991,42748078035954696,45772358543578028,49005643635237875,52462044228828641,56156602112874289,60105349839666544,64325374609114550,68834885946073850,73653287861850339,78801255302666615,84300815636225119,90175434980549623,96450110192202760,103151466321735325,110307860425292772,117949491546113972,126108517833796355,134819180623301520,144117936527873832,154043597379576030,164637479165761044,175943559810422753,188008647052292980,200882556287683159,214618299743286299,229272286871217150,244904537455382406,261578907351144125,279363328483702152,298330063062758076,318555973788329084,340122810048577428,363117512048110005,387632532919029223,413766180933342362,441622981929358437,471314064268398780,502957566506000020,536679070310691121,572612058898037559,610898403751884101,651688879997206959,695143713458946040,741433159884081684,790738119649411319,843250788562528427,899175348396088349,958728697912338045,1022141228367345362,1089657644424399782,1161537834849962850,1238057794119125085,1319510599727473500,1406207446561484054,1498478743590581081,1596675274490756791,1701169427975813525,1812356499739472950,1930656072350465812,2056513475336633805,2190401332423765131,2332821198543892336,2484305294265418180,2645418340688763701,2816759503217942792,2998964447736452194,3192707518433532826,3398704041358160275,3617712763867604423,3850538434667429186,4098034535626594791,4361106170762284114,4640713124699623515,4937873096788191655,5253665124416975163,5589233202595404488,5945790114707874597,6324621482504294325,6727090051741041926,7154640222653942321,7608802843339879269,8091200276484465581,8603551759348655060,9147679068859117602,9725512513742021729,10339097267123947241,10990600063775926994,11682316277192317780,12416677403151190382,13196258966925435702,14023788883518847344,14902156290309948968,15834420884488187770,16823822787139235544,17873792969689876004,18987964267331664557,20170183018805933659,21424521360255636320,22755290216580025259,24167053021441363961,25664640213837714846,27253164546230421739,28938037257084798150,30724985147095051099,32620068617410232189,34629700713903575934,36760667241831527309,39020148000237259665,41415739207102358378,43955477170518116534,46647863284229267991,49501890409405150715,52527070729108240605,55733465144636286656,59131714309169618645,62733071376043079215,66549436566966297367,70593393646562135510,74878248419470886233,79418069346443402240,84227730407729499781,89322956321353645667,94720370257893471820,100437544171752847604,106493051905239118581,112906525199196103354,119698712782720205954,126891542690981418000,134508188001572923840,142573136155347404229,151112262071917313678,160152905244553715585,169723951046458040965,179855916453958267598,190581040442651931034,201933379285114688629,213948907032733069132,226665621435831345565,240123655613925192081,254365395758574199975,269435605212954994471,285381555241961986287,302253162872576636605,320103136152993290544,338987127249525432549,358963893768162876613,380095468763120598477,402447339861711475160,426088638015652413417,451092336355096099864,477535459708164115593,505499305314204629558,535069675351607262125,566337121865805599675,599397204782301852926,634350763653787028583,671304203896731807232,710369798236628238005,751666004194993125591,795317798414758232180,841457028742823649455,890222784951928088294,941761789114997698055,996228806608573411012,1053787078862455346513,1114608778936426484248,1178875491155735802646,1246778716001272919665,1318520401612270233223,1394313503224447816939,1474382572040363953132,1558964374994977806173,1648308547066172438760,1742678277747760981187,1842351033503159891466,1947619317987658064007,2058791472042884901563,2176192515439287461625,2300165032574323995027,2431070104309287327876,2569288288377098289281,2715220650772245313220,2869289850802400662045,3031941282464413132742,3203644275096202070012,3384893356244349844341,3576209579998154653671,3778141924035171537110,3991268758958164118300,4216199393504640098482,4453575699570940947378,4704073821002175842062,4968405970488126319775,5247322318923878793976,5541612982013113936133,5852110108921301661040,6179690078238084808000,6525275806549652788115,6889839175409542385648,7274403582551733377346,7680046623716094332553,8107902911527474124146,8559167038437716736150,9035096690829005915201,9537015921990240021538,10066318591787500106586,10624471981512075020731,11213020592521695111580,11833590138006300416410,12487891737367521803652,13177726323474524612308,13904989273245567335012,14671675272840783232475,15479883428970761068959,16331822638729701493803,17229817230617210720599,18176312890390861435034,19173882885687454484110,20225234604409151266221,21333216422211708570598,22500824915577356165493,23731212437346370138355,25027695072821279146420,26393760995005382968154,27833079238879849385687,29349508915133986374841,30947108885217475101876,32630147920163234060900,34403115367205050943160,36270732348871285128752,38237963520943177237554,40310029416409244587122,42492419404397720872600,44790905293907018009131,47211555614160398040338,49760750604354432757376,52445197947746313627407,55271949286085137715955,58248417552751868050007,61382395164161775318496,64682073111542943380454,68156060996536236172174,71813408056839596203570,75663625229609055443637,79716708303343130521599,83983162210640880002321,88474026517495817981253,93200902166643654187580,98175979536033971312388,103412067875563710992446,108922626189067392956037,114721795630860408658491,120824433490320564237125,127246148840551966562301,134003339931725153597473,141113233412529912746558,148593925468119890197615,156464424966082817448060,164744698707340387584240,173455718882380096095248,182619512839056823919887,192259215272078129526277,202399122950629095580175,213064752104884207160129,224282898599046831034631,236081701023305130945921,248490706844586261413858,261540941761240642265710,275264982414934173206642,289697032618827122974972,304873003269975366031783,320830596120295386610807,337609391590065169560935,355250940815002702558187,373798862128436852709430,393298942187883251157044,413799241966727832978027,435350207840317348270000,458004788008144308553622]
theorem wl:dqL 601 25 0 (tb (fun _=>0) 601) (tb dl 601)=dRow:=by decide +kernel
theorem oG:tb (dq 25) 601=dRow:=by
 have:=tG 601 25 0 (fun i hi=>by have:i*i<=24*24:=Nat.mul_le_mul (by lia) (by lia);lia);rw [← wl];exact this.symm
def cmL (d:List Int) (ps:List (Int×Int)) (acc:List Int):List Int:=ps.foldl (fun acc p=>shf p.1.toNat acc (d.map (p.2 * ·))) acc
theorem cm_ok (D:Nat->Int) (L:Nat):∀ (ps:List (Int×Int)) (acc:Nat->Int),(∀ p∈ps,0<=p.1/\p.1.toNat<=L)->cmL (tb D L) ps (tb acc L)=tb (fun m=>acc m+cs ps (fW D m)) L
 | [],acc,_=>gN fun j _=>by show acc j=acc j+0;lia
 | p::ps,acc,h=>by
   show cmL (tb D L) ps (shf p.1.toNat (tb acc L) ((tb D L).map (p.2 * ·)))=_;have hp:=h p zA7;have e:(tb D L).map (p.2 * ·)=tb (fun j=>p.2*D j) L:=by unfold tb;rw [zE6];rfl
   rw [e,sN _ _ hp.2,cm_ok D L ps _ fun q hq=>h q (zA9 _ hq)];refine gN fun j _=>?_;show (acc j+if p.1.toNat<=j then p.2*D (j - p.1.toNat) else 0)+cs ps (fW D j)=acc j+(p.2*fW D j p.1+cs ps (fW D j))
   unfold fW;by_cases g:p.1.toNat<=j
   · rw [if_pos g,if_pos (by lia)];lia
   · rw [if_neg g,if_neg (by lia),Int.mul_zero];lia
theorem oF:cmL dRow (M15.cor 600) (tb (fun _=>0) 601)=tb dl 601:=by decide +kernel
theorem dq_W {m:Nat} (hm:m<=600):dq 25 m=W m:=by
 refine only_W (fun m hm=>?_) m hm;rw [← jg (dq 25) (zA1 600) hm];have a:=cm_ok (dq 25) 601 (M15.cor 600) (fun _=>0) fun p hp=>by have:=(M15.cor_in (zA1 600)).1 p hp;lia
 rw [oG,oF] at a;have c:=tb_one a (show m<601 by lia);rw [c];exact (Int.zero_add _).symm
end M16
namespace M31
open L2 MRow M27 M80 M17 M16
def Hold (ns:List Int) (m a q:Int):Prop:=∀ j,¬ Bad ns m a q j
def hchk (m a q:Nat):Nat->List Int->Bool
 | _,[]=>true
 | j,x::r=>(!decide (j % m=a)||decide (x % (q:Int)=0))&&hchk m a q (j+1) r
theorem oi {m a q:Nat}:∀ {l:List Int} {k:Nat},hchk m a q k l=true->∀ (i:Nat) x,l[i]? = some x->(k+i) % m=a->x % (q:Int)=0
 | [],_,_,i,x,h,_=>by cases h
 | y::r,k,h,i,x,hx,hk=>by
   unfold hchk at h;obtain ⟨h1,h2⟩:=Bool.and_eq_true_iff.mp h
   cases i with
   | zero=>
     cases hx
     rw [show k+0=k from rfl] at hk
     rw [decide_eq_true hk] at h1
     simpa using h1
   | succ j=>exact oi h2 j x hx (by rw [← hk];congr 1;lia)
def knl:List (Nat×Nat×Nat):=[(5,4,5),(7,5,7),(11,6,11),(25,24,25),(49,47,49),(121,116,121),(125,99,125),(343,243,49),(35,19,35),(55,39,55),(77,61,77),(385,369,385),(25,24,5)]
theorem n3:(knl.all fun c=>hchk c.1 c.2.1 c.2.2 0 dRow)=true:=by decide +kernel
theorem known {c:Nat×Nat×Nat} (h:c∈knl) (k:Nat):Hold (dRow.take k) c.1 c.2.1 c.2.2:=fun j ⟨x,hx,hj,hq⟩=>by
 have h1:=zI8.mp n3 c h;have hx2:dRow[j]? = some x:=by
  rw [List.getElem?_take] at hx;split at hx
  · exact hx
  · cases hx
 exact hq (oi h1 j x hx2 (by rw [zH9];exact_mod_cast hj))
theorem R_PL:∀ k,R k=PL dl (ups k)
 | 0=>rfl
 | k+1=>by rw [tX,← R_PL k];rfl
theorem rowA {n:Nat} (hn:n<=600):tb (PL dl (ups n)) (n+1)=dRow.take (n+1):=by
 rw [← oG];have e:(tb (dq 25) 601).take (n+1)=tb (dq 25) (n+1):=by
  unfold tb;rw [← List.map_take,List.take_range,Nat.min_eq_left (by lia)]
 rw [e];refine gN fun j hj=>?_;rw [dq_W (by lia)];show _=R 600 j;rw [R_PL,← R_far (n:=n) (by lia) (600 - n),show n+(600 - n)=600 by lia]
theorem dRow_len:dRow.length=601:=by decide +kernel
end M31
namespace M10
open M66 M63
theorem j7:∀ (m n:Nat) (x:List Nat),Fl x->(∀ a∈x,a<=m)->x.sum=n->x∈M11.Lst m n
 | 0,n,x,f,h,s=>by
   cases x with
   | nil=>rw [← s];exact zC6.mpr rfl
   | cons a r=>have:=h a zA7;have:=Fl.pos f a zA7;lia
 | m+1,n,[],f,h,s=>by
   rw [M11.ls_eq];exact zB3 _ (j7 m n [] f (fun a ha=>nomatch ha) s)
 | m+1,n,a::r,f,h,s=>by
   rw [M11.ls_eq];have ha:=h a zA7;rw [zB4] at s;by_cases e:a=m+1
   · subst e;refine zI7 _ ?_;rw [if_pos (by lia)];exact zD0.mpr ⟨r,j7 (m+1) (n - (m+1)) r f.tail (fun b hb=>h b (zA9 _ hb)) (by lia),rfl⟩
   · refine zB3 _ (j7 m n (a::r) f (fun b hb=>?_) (by rw [zB4];exact s));have:=Fl.head f b hb;lia
 termination_by m n x=>(m,x.length)
theorem tt:∀ {x:List Nat} {a:Nat},a∈x->a<=x.sum
 | [],_,h=>nomatch h
 | b::r,a,h=>by
   rw [zB4];rcases zB0.mp h with e | e
   · lia
   · have:=tt e;lia
theorem asc_iff {n:Nat} {x:List Nat}:x∈Asc n n↔Fl x/\x.sum=n:=by
 refine ⟨fun h=>⟨ls_fl _ _ _ h,(M11.ls_mem _ _ _ (asc_mem.mp h)).2⟩,fun ⟨f,s⟩=>asc_mem.mpr (j7 n n x f (fun a ha=>?_) s)⟩;have:=tt ha;lia
theorem Fl.of:∀ {x:List Nat},(∀ a∈x,1<=a)->x.Pairwise (·>=·)->Fl x
 | [],_,_=>trivial
 | [a],h,_=>h a zA7
 | a::b::r,h,p=>⟨(zG3.mp p).1 b zA7,Fl.of (fun c hc=>h c (zA9 _ hc)) (zG3.mp p).2⟩
theorem Fl.pwI:∀ {x:List Nat},Fl x->(toI x).Pairwise (·>=·)
 | [],_=>.nil
 | a::r,f=>.cons (fun b hb=>by
     obtain ⟨c,hc,rfl⟩:=zD0.mp hb;have:=Fl.head f c (zA9 _ hc);show (c:Int)<=(a:Int)
     lia) (Fl.pwI f.tail)
theorem Fl.oneI {x:List Nat} (f:Fl x):∀ n∈toI x,(1:Int)<=n:=fun n hn=>by
 obtain ⟨a,ha,rfl⟩:=zD0.mp hn;have:=Fl.pos f a ha;lia
theorem ur {x y:List Nat} (h:toI x=toI y):x=y:=by
 have:=congrArg (List.map Int.toNat) h;unfold toI at this;rw [zE6,zE6] at this;have id':∀ z:List Nat,z.map (Int.toNat ∘ fun (k:Nat)=>(k:Int))=z:=fun z=>by
  conv=>rhs;rw [← List.map_id z]
  exact zA4 fun a _=>zD9 a
 rwa [id',id'] at this
theorem my (x:List Nat):(toI x).sum=(x.sum:Int):=by
 unfold toI;induction x with
 | nil=>rfl
 | cons a r ih=>rw [zB6,zB4,zB4,ih];lia
end M10
namespace M55
open MRow M80 M12 M11 M66 M63 M10 MP
theorem pb_nd (n:Nat):(PB n n).Nodup:=by
 rw [M05.PB_asc n n n (zA1 n)];have nd:(Asc n n).Nodup:=(asc_up n n).imp fun {a b} h e=>by
  subst e;have irr:∀ l:List Int,SRV.lexb l l=false:=by
   intro l;induction l with
   | nil=>rfl
   | cons a r ih=>rw [SRV.lexb,if_pos rfl];exact ih
  rw [irr] at h
  cases h
 unfold List.Nodup;rw [zG1];exact nd.imp fun {a b} h e=>h (ur e)
theorem toI_of {p:List Int} (h:∀ x∈p,(1:Int)<=x):toI (p.map Int.toNat)=p:=by
 unfold toI;rw [zE6];conv=>rhs;rw [← List.map_id p]
 refine zA4 fun z hz=>?_;have:=h z hz;show ((z.toNat:Nat):Int)=z;lia
theorem pb_iff {n:Nat} {p:List Int}:p∈PB n n↔(∀ x∈p,(1:Int)<=x)/\p.Pairwise (·>=·)/\p.sum=(n:Int):=by
 rw [M05.PB_asc n n n (zA1 n),zD0];constructor
 · rintro ⟨x,hx,rfl⟩;obtain ⟨f,s⟩:=asc_iff.mp hx;exact ⟨Fl.oneI f,Fl.pwI f,by rw [my,s]⟩
 · rintro ⟨h1,h2,h3⟩;have e:=toI_of h1;refine ⟨p.map Int.toNat,asc_iff.mpr ⟨Fl.of (fun a ha=>?_) ?_,?_⟩,e⟩
   · obtain ⟨z,hz,rfl⟩:=zD0.mp ha;have:=h1 z hz;lia
   · rw [zG1];exact h2.imp fun {a b} h=>by show b.toNat<=a.toNat;have h':b<=a:=h;lia
   · have:=my (p.map Int.toNat);rw [e,h3] at this;lia
end M55
namespace M51
open MP M55
def al:Nat->Nat->Nat->List (List Int)
 | _,0,_=>[[]]
 | 0,_+1,_=>[]
 | f+1,n+1,m=>(List.range (min (n+1) m)).flatMap fun i=>(al f (n+1 - (min (n+1) m - i)) (min (n+1) m - i)).map fun b=>((min (n+1) m - i:Nat):Int)::b
theorem pG (f m:Nat):al f 0 m=[[]]:=by cases f <;> rfl
theorem jp:∀ (f n m:Nat),n<=f->al f n m=al n n m
 | f,0,m,_=>by rw [pG,pG]
 | 0,n+1,m,h=>by lia
 | f+1,n+1,m,h=>by
   show .(62).flatMap _=.(62).flatMap _;refine flat_congr fun i hi=>?_;have hi:=zA6.mp hi;have h1:n+1 - (min (n+1) m - i)<=n:=by lia
   rw [jp f _ _ (by lia),jp n _ _ h1]
def AL (n m:Nat):List (List Int):=al n n m
def ab (n p:Nat):List (List Int):=(AL (n - p) p).map fun b=>(p:Int)::b
def as (n k i:Nat):List (List Int):=(List.range i).flatMap fun j=>ab n (k - j)
theorem wO (m:Nat):AL 0 m=[[]]:=rfl
theorem AL_eq {n:Nat} (h:n≠0) (m:Nat):AL n m=as n (min n m) (min n m):=by
 cases n with
 | zero=>exact absurd rfl h
 | succ n=>
   show .(62).flatMap _=.(62).flatMap _
   refine flat_congr fun i hi=>?_
   have hi:=zA6.mp hi
   show (al n _ _).map _=(al _ _ _).map _
   rw [jp n _ _ (by lia)]
theorem fQ {α β:Type} {f g:α->List β}:∀ {l:List α},(∀ a∈l,(f a).Perm (g a))->(l.flatMap f).Perm (l.flatMap g)
 | [],_=>.nil
 | a::l,h=>by
   rw [zE0,zE0];exact (h a zA7).append (fQ fun b hb=>h b (zA9 _ hb))
theorem uV (k:Nat):(List.range k).map (fun j=>k - 1 - j)=(List.range k).reverse:=by
 refine zD2 (by simp) fun i h1 h2=>?_;simp
theorem al_perm:∀ (N n m:Nat),n<=N->(AL n m).Perm (PB n m)
 | N,0,m,_=>by rw [wO,gI]
 | 0,n+1,m,h=>by lia
 | N+1,n+1,m,h=>by
   rw [AL_eq (by lia),pM (by lia)];unfold as;have e:.(62).flatMap (fun j=>ab (n+1) (min (n+1) m - j))=(.(62).map fun j=>min (n+1) m - 1 - j).flatMap (fun i=>ab (n+1) (i+1)):=by
    rw [List.flatMap_map];refine flat_congr fun j hj=>?_;have hj:=zA6.mp hj;rw [show min (n+1) m - 1 - j+1=min (n+1) m - j by lia]
   rw [e,uV];refine ((zH5 _).flatMap_right _).trans (fQ fun i hi=>?_);have hi:=zA6.mp hi;unfold ab blk;exact (al_perm N _ _ (by lia)).map _
theorem al_iff {n:Nat} {p:List Int}:p∈AL n n↔(∀ x∈p,(1:Int)<=x)/\p.Pairwise (·>=·)/\p.sum=(n:Int):=(al_perm n n n (zA1 _)).mem_iff.trans pb_iff
theorem al_nd (n:Nat):(AL n n).Nodup:=(al_perm n n n (zA1 _)).nodup_iff.mpr (pb_nd n)
theorem al_len (n m:Nat):(AL n m).length=(PB n m).length:=(al_perm n n m (zA1 _)).length_eq
def cs {α:Type} (l:List α) (s:α->Nat) (j:Nat):Nat:=(l.filter fun x=>decide (s x=j)).length
theorem sub_len {α:Type} [DecidableEq α]:∀ {l m:List α},l.Nodup->(∀ x∈l,x∈m)->l.length<=m.length
 | [],m,_,_=>zC5 _
 | a::l,m,h,hs=>by
   have ha:=hs a zA7;have h2:=List.nodup_cons.mp h;have:=sub_len (l:=l) (m:=m.erase a) h2.2 fun x hx=>(List.mem_erase_of_ne fun z=>h2.1 (by rw [← z];exact hx)).mpr (hs x (zA9 _ hx));have hm:m.length=(m.erase a).length+1:=by
    have:=List.length_erase_of_mem ha;have:0<m.length:=List.length_pos_of_mem ha;lia
   rw [zC4];lia
theorem cs_up {α:Type} [DecidableEq α] {l:List α} {s:α->Nat} {f:α->α} {t:Nat} (nd:l.Nodup) (hf:∀ x∈l,f x∈l) (inj:∀ x∈l,∀ y∈l,f x=f y->x=y) (hs:∀ x∈l,s (f x)=(s x+1) % t) (j:Nat) (hj:j<t):cs l s j<=cs l s ((j+1) % t):=by
 unfold cs;have h1:((l.filter fun x=>decide (s x=j)).map f).length<=(l.filter fun x=>decide (s x=(j+1) % t)).length:=by
  refine sub_len ?_ fun y hy=>?_
  · refine List.Pairwise.map _ (R:=fun a b=>a∈l/\b∈l/\a≠b) (fun a b hab z=>hab.2.2 (inj a hab.1 b hab.2.1 z)) ?_;refine List.Pairwise.imp_of_mem (fun {a b} ha hb hab=>⟨(zH8.mp ha).1,(zH8.mp hb).1,hab⟩) (nd.filter _)
  · obtain ⟨x,hx,rfl⟩:=zD0.mp hy;obtain ⟨x1,x2⟩:=zH8.mp hx;have x2:=of_decide_eq_true x2;refine zH8.mpr ⟨hf x x1,decide_eq_true ?_⟩;rw [hs x x1,x2]
 rwa [zA0] at h1
theorem tL {α:Type} {s:α->Nat} {t:Nat}:∀ (l:List α),(∀ x∈l,s x<t)->(.(8).map (cs l s)).sum=l.length
 | [],_=>by
   have:.(8).map (cs ([]:List α) s)=List.replicate t 0:=by
    refine zD2 (by simp) fun i h1 h2=>?_;simp [cs]
   rw [this];simp
 | x::l,h=>by
   have ih:=tL l fun y hy=>h y (zA9 _ hy);have hx:=h x zA7;have e:∀ j,cs (x::l) s j=cs l s j+if s x=j then 1 else 0:=fun j=>by
    unfold cs;rw [List.filter_cons];by_cases c:s x=j
    · rw [if_pos (decide_eq_true c),if_pos c,zC4]
    · rw [if_neg (by simpa using c),if_neg c,zI4]
   have g:∀ r:List Nat,(r.map (cs (x::l) s)).sum=(r.map (cs l s)).sum+r.countP fun j=>decide (s x=j):=fun r=>by
    induction r with
    | nil=>rfl
    | cons a r ihr=>
      rw [zB6,zB4,zB6,zB4,List.countP_cons,ihr,e]
      by_cases c:s x=a
      · simp [c];lia
      · simp [c];lia
   rw [g,ih,zC4];have:.(8).countP (fun j=>decide (s x=j))=1:=by
    have hc:=M39.cnt_one t (s x);rw [if_pos hx] at hc;rw [← hc];refine List.countP_congr fun j _=>?_;simp [eq_comm]
   lia
theorem up_all {g:Nat->Nat} {t:Nat} (h:∀ j,j<t->g j<=g ((j+1) % t)):∀ j,j<t->g j=g 0:=by
 have a:∀ j,j<t->g 0<=g j:=by
  intro j;induction j with
  | zero=>intro _;exact zA1 _
  | succ j ih=>
    intro hj
    have:=h j (by lia)
    rw [zE9 hj] at this
    exact zD5 (ih (by lia)) this
 have b:∀ d j,j+d+1=t->g j<=g 0:=by
  intro d;induction d with
  | zero=>
    intro j hj
    have:=h j (by lia)
    rw [show j+1=t by lia,Nat.mod_self] at this
    exact this
  | succ d ih=>
    intro j hj
    have:=h j (by lia)
    rw [zE9 (by lia)] at this
    exact zD5 this (ih (j+1) (by lia))
 intro j hj;have:=a j hj;have:=b (t - 1 - j) j (by lia);lia
theorem even {α:Type} [DecidableEq α] {l:List α} {s:α->Nat} {f:α->α} {t:Nat} (ht:0<t) (nd:l.Nodup) (hf:∀ x∈l,f x∈l) (inj:∀ x∈l,∀ y∈l,f x=f y->x=y) (hs:∀ x∈l,s (f x)=(s x+1) % t) (hl:∀ x∈l,s x<t):(∀ j,j<t->cs l s j=l.length / t)/\l.length % t=0:=by
 have u:=up_all (g:=cs l s) fun j hj=>cs_up nd hf inj hs j hj;have e:=tL l hl;have c:.(8).map (cs l s)=List.replicate t (cs l s 0):=by
  refine zD2 (by simp) fun i h1 h2=>?_;rw [zG8,zG5,List.getElem_replicate];exact u i (by simpa using h1)
 rw [c,List.sum_replicate_nat] at e;refine ⟨fun j hj=>?_,by rw [← e];exact Nat.mul_mod_right _ _⟩;rw [u j hj,← e,Nat.mul_div_cancel_left _ ht]
end M51
namespace K79
open PySem L2 MRow M27
section
variable {P:Program} {w:World} {K:PySem.W.Frag} {mg:Str->Option Value} {base:Heap} {f:Addr} {fd:FuncData}
theorem sc_first_not:FnScope ["row","claim","m","a","q","place"] ["row","claim"] (ag (top 31)):=.(0)
def dZ:Sp:=fun vs H Q _=>∃ (r c:Addr) (ns:List Int) (m a q:Int),vs=[.ref r,.ref c]/\H r=some (.tup .(27))/\ns.length<=1000/\H c=some (.tup [.int m,.int a,.int q])/\CB m a q/\∀ v H',Same H H'->IsF ns m a q v->Q v H'
theorem ik (F:Fun K "first_not" "first_not" (top 31) f fd) (m_len:.(79)) (m_range:.(81)):FnOk P w K mg base CX0 1 f fd ["row","claim"] dZ:=by
 refine F.ok sc_first_not .(16) .(3)
 · obtain ⟨r,c,ns,m,a,q,rfl,_⟩:=h;rfl
 obtain ⟨r,c,ns,m,a,q,rfl,hrow,hlen,hc,⟨m1,m2,a0,a1,q1,q2⟩,fin⟩:=h;have nd:=sc_first_not.nd;have hu:=hr.units;refine ⟨_,(aC (hZ (pn 1) (sY rfl (eh (cy (i:=2) nd rfl .(12)) (eh (cy (i:=3) nd rfl .(12)) (eh (cy (i:=4) nd rfl .(12)) nA)))))
  (aC (jK PassesOwn.never rfl (ic rfl m_range (aA (pn 3) (aA .(65) (aA (pn 2) aZ)))) (cy (i:=5) nd rfl .(12)) (aT (dS (bm (eZ hu) (aY bn (cP dz (pn 0) (pn 5) .(33)) (pn 4)) av (aJ _)) (aT (bD (pn 5))) bC)))
  (aT (bD sZ)))),?_⟩
 refine ⟨c,_,rfl,SqT.of hc,rfl,_,_,rfl,_,_,rfl,_,_,rfl,rfl,?_⟩;refine ⟨_,.inr hrow,?_⟩;refine ⟨a,(ns.length:Int),m,by rw [zA0],⟨by lia,.(40),small_up (by lia) (by lia) (by lia) (by lia) (by lia) (by lia)⟩,?_⟩;refine li (fun i σ H'=>H'=H/\(∀ j:Nat,(j:Int)<a+(i:Int)*m->¬ Bad ns m a q j)/\∃ p5,σ=[some (.ref r),some (.ref c),some (.int m),some (.int a),some (.int q),p5]) ⟨rfl,?_,_,rfl⟩ ?_ ?_
 · rintro j hj ⟨x,_,e,_⟩;have:(j:Int)<a:=by simpa using hj
   rw [zJ4 (by lia) (by lia)] at e;lia
 · rintro i σ _ hi ⟨rfl,hj,p5,rfl⟩;have hlt:=uN m1 hi;have him:0<=(i:Int)*m:=zK4 (by lia) (by lia);obtain ⟨p,hp⟩:∃ p:Nat,a+(i:Int)*m=(p:Int):=⟨(a+(i:Int)*m).toNat,by lia⟩
   have hpl:p<ns.length:=by lia
   have hcl:(p:Int) % m=a:=by rw [← hp];exact oO a0 a1 _
   refine ⟨_,.inr hrow,.int ns[p],bx hp (fP hpl),(show (0:Int)<q by lia),?_⟩;refine iteB (fun c=>?_) (fun c=>?_)
   · have c':¬ ns[p] % q=0:=by simpa using c
     rw [hp];refine fin _ _ (Same.refl _) (.inr ⟨p,hpl,rfl,⟨ns[p],List.getElem?_eq_getElem hpl,hcl,c'⟩,fun j hjp=>hj j (by lia)⟩)
   · have c':ns[p] % q=0:=by simpa using c
     refine ⟨rfl,vN m1 hp.symm hj ?_,_,rfl⟩;rintro ⟨x,hx,_,h⟩;rw [List.getElem?_eq_getElem hpl] at hx
     cases hx
     exact h c'
 · rintro σ _ ⟨rfl,hj,p5,rfl⟩;refine fin _ _ (Same.refl _) (.inl ⟨rfl,fun j hB=>?_⟩);have hjl:j<ns.length:=by obtain ⟨x,hx,_⟩:=hB;exact (List.getElem?_eq_some_iff.mp hx).1
   exact hj j (qj m1 (by lia)) hB
end
end K79
namespace K79
open PySem L2 MRow M27
theorem jB (ns:List Int) (a m:Nat):HT.strd .(27) a m=(HT.strd ns a m).map V.int:=by
 unfold HT.strd;rw [zA0,List.map_filterMap];refine HT.fm_congr' fun k=>?_;rw [List.getElem?_map]
def Hold (ns:List Int) (m a q:Int):Prop:=∀ j,¬ Bad ns m a q j
theorem Hold.f {ns:List Int} {m a q:Int} {v:V} (h:Hold ns m a q) (hf:IsF ns m a q v):v=.non:=by
 rcases hf with ⟨rfl,_⟩ | ⟨p,_,_,hb,_⟩
 · rfl
 · exact absurd hb (h p)
def quo (ns:List Int) (a m:Nat) (q:Int):List Int:=(HT.strd ns a m).map fun x=>x / q
theorem jC (ns:List Int) (a m:Nat) (h:ns.length<=1000):(HT.strd ns a m).length<=1000:=by
 unfold HT.strd;refine zD5 (List.length_filterMap_le _ _) ?_;rw [zC1];exact h
section
variable {P:Program} {w:World} {K:PySem.W.Frag} {mg:Str->Option Value} {base:Heap} {f:Addr} {fd:FuncData}
theorem sc_qu:FnScope ["row","claim","place","m","a","q"] ["row","claim"] (ag (top 32)):=.(0)
def uE:Sp:=fun vs H Q _=>∃ (r c:Addr) (ns:List Int) (m a:Nat) (q:Int),vs=[.ref r,.ref c]/\H r=some (.tup .(27))/\ns.length<=1000/\H c=some (.tup [.int m,.int a,.int q])/\CB m a q/\Hold ns m a q/\∀ t H',Same H H'->H' t=some (.tup ((quo ns a m q).map V.int))->Q (.ref t) H'
theorem ok_qu (F:Fun K "quotients" "quotients" (top 32) f fd) (m_tuple:.(99)) (F_first_not:FnA P w K mg base "first_not" 1 ["row","claim"] dZ):FnOk P w K mg base CX0 2 f fd ["row","claim"] uE:=by
 refine F.okz sc_qu .(16) .(3)
 · obtain ⟨r,c,ns,m,a,q,rfl,_⟩:=h;rfl
 obtain ⟨r,c,ns,m,a,q,rfl,hrow,hlen,hc,cb,hold,fin⟩:=h;have nd:=sc_qu.nd;have hu:=hr.units;refine ⟨_,(ah (ay (i:=2) nd rfl .(12) (az F_first_not hr (by decide) rfl .(31)))
  (ah (dR (aR jQ (zn 2) sD (aJ _)) (ai ub) bA)
  (ah (lN (zn 1) (cr rfl (aB (aj (i:=3) nd rfl .(12)) (aB (aj (i:=4) nd rfl .(12)) (aB (aj (i:=5) nd rfl (Or.inr rfl)) bB)))))
  (ai (aH (be rfl m_tuple (aa (aV ["number"] [("q",5)] rfl .(4) (dM (sC (zn 0) (zn 4) (zn 3))) aQ (fun _ _ _ _=>aj (i:=0) (show List.Nodup (["number","q"]:List Str) by decide +kernel) rfl .(12)) .(37) (fun _ _ _ _=>(ax bf (zn 0) (zn 1)))) af) rfl rfl)))))),?_⟩
 refine ⟨r,c,ns,m,a,q,rfl,hrow,hlen,hc,cb,fun v H1 y1 hf=>?_⟩;obtain rfl:=hold.f hf;have hc1:=y1 _ _ hc;have hr1:=y1 _ _ hrow;refine ⟨c,_,rfl,SqT.of hc1,rfl,_,_,rfl,_,_,rfl,_,_,rfl,rfl,?_⟩;refine ⟨r,_,a,m,rfl,rfl,rfl,by have:=cb.1;lia,hr1,fun e H3 y3 he=>?_⟩;rw [jB] at he;have sl:=jC ns a m hlen;have eq:quo ns a m q=(HT.strd ns a m).map fun x=>x / q:=rfl;generalize HT.strd ns a m=ss at he sl eq;refine ⟨e,rfl,⟨_,SqT.of he⟩,cR (xs:=ss.map V.int) (fun k zs H'=>H'=H3/\zs=((ss.take k).map fun x=>x / q).map V.int) ⟨rfl,rfl⟩ ?_ ?_ ?_⟩
 · rintro k zs H' _ ⟨rfl,_⟩;exact SqT.of he
 · rintro k z zs H' hz ⟨rfl,rfl⟩;have hk:k<ss.length:=by
    have:=(List.getElem?_eq_some_iff.mp hz).1;rw [zA0] at this;exact this
   have ez:z=.int ss[k]:=by rw [fP hk] at hz;exact (Option.some.inj hz).symm
   subst ez;refine ⟨by rw [zA0,zA0,zB9];exact ao (by lia),?_⟩;refine ⟨⟨by have:=cb.2.2.2.2.1;lia,by have:=cb.2.2.2.2.2;lia⟩,rfl,?_⟩;rw [zD3,List.getElem?_eq_getElem hk,zA3,zA3];rfl
 · rintro zs H' ⟨rfl,rfl⟩ D hD;rw [zA0,zB8 (zA1 _),← eq];refine ⟨_,.inl (SqL.of ae),fun t H4 y4 ht=>?_⟩;exact fin t H4 (((y1.trans y3).trans (Same.new hD _)).trans y4) ht
end
end K79
namespace STB
open PySem
theorem jc {o:Nat} (ho:o % 2=1):∀ (j a:Nat),2 ^ j ∣ a*o->2 ^ j ∣ a
 | 0,a,_=>Nat.one_dvd a
 | j+1,a,h=>by
   have h2:2 ∣ a*o:=Nat.dvd_trans ⟨2 ^ j,by rw [zI1,zG2]⟩ h;have ha:a % 2=0:=by
    have:=Nat.mod_eq_zero_of_dvd h2;rw [Nat.mul_mod,ho] at this;lia
   obtain ⟨b,rfl⟩:∃ b,a=2*b:=⟨a / 2,by lia⟩
   rw [zI1,zG2,Nat.mul_assoc] at h;have:=jc ho j b (Nat.dvd_of_mul_dvd_mul_left (by decide) h);rw [zI1,zG2];exact Nat.mul_dvd_mul_left 2 this
theorem p5_4:∀ n,5 ^ n % 4=1
 | 0=>rfl
 | n+1=>by rw [zI1,Nat.mul_mod,p5_4 n]
theorem p25_8:∀ n,5 ^ (2*n) % 8=1
 | 0=>rfl
 | n+1=>by rw [Nat.mul_succ,Nat.pow_add,Nat.mul_mod,p25_8 n]
theorem s0:∀ (k n:Nat),2 ^ (k+2) ∣ 5 ^ n - 1->2 ^ k ∣ n
 | 0,n,_=>Nat.one_dvd n
 | k+1,n,h=>by
   by_cases e:n % 2=0
   · obtain ⟨m,rfl⟩:∃ m,n=2*m:=⟨n / 2,by lia⟩
     have m4:=p5_4 m;obtain ⟨o,ho⟩:∃ o,5 ^ m+1=2*o:=⟨(5 ^ m+1) / 2,by lia⟩
     have o2:o % 2=1:=by lia
     have fac:5 ^ (2*m) - 1=2*((5 ^ m - 1)*o):=by
      obtain ⟨t,ht⟩:∃ t,5 ^ m=t+1:=⟨5 ^ m - 1,by lia⟩
      have e1:5 ^ (2*m)=5 ^ m*5 ^ m:=by rw [Nat.two_mul,Nat.pow_add]
      have e2:2*((5 ^ m - 1)*o)=(5 ^ m - 1)*(2*o):=by rw [Nat.mul_left_comm]
      rw [e1,e2,← ho,ht,Nat.add_sub_cancel];rw [show (t+1)*(t+1)=t*(t+1+1)+1 by simp only [Nat.add_mul,Nat.mul_add,Nat.one_mul,Nat.mul_one];lia,Nat.add_sub_cancel]
     rw [fac,show k+1+2=(k+2)+1 from rfl,zI1,zG2 (2 ^ (k+2))] at h;have:=s0 k m (jc o2 _ _ (Nat.dvd_of_mul_dvd_mul_left (by decide) h));rw [zI1,zG2];exact Nat.mul_dvd_mul_left 2 this
   · exfalso;obtain ⟨m,rfl⟩:∃ m,n=2*m+1:=⟨n / 2,by lia⟩
     have m8:=p25_8 m;have d8:8 ∣ 5 ^ (2*m+1) - 1:=Nat.dvd_trans ⟨2 ^ k,by rw [show k+1+2=k+3 from rfl,Nat.pow_add,zG2]⟩ h;have:=Nat.mod_eq_zero_of_dvd d8;rw [zI1] at this;lia
def it (M:Nat):Nat->Nat->Nat
 | 0,i=>i
 | n+1,i=>(5*it M n i+1) % M
theorem vW {M i:Nat} (hM:0<M) (hi:i<M):∀ n,4*it M n i+1=5 ^ n*(4*i+1) % (4*M)
 | 0=>by rw [Nat.pow_zero,Nat.one_mul,zE9 (by lia)];rfl
 | n+1=>by
   have ih:=vW hM hi n;show 4*((5*it M n i+1) % M)+1=_;have e:4*((5*it M n i+1) % M)=(4*(5*it M n i+1)) % (4*M):=(Nat.mul_mod_mul_left 4 _ M).symm;have lt:(5*it M n i+1) % M<M:=Nat.mod_lt _ hM;rw [zI1,zG2 (5 ^ n) 5,Nat.mul_assoc,Nat.mul_mod,← ih];have e5:5 % (4*M)*(4*it M n i+1) % (4*M)=5*(4*it M n i+1) % (4*M):=by
    rw [Nat.mul_mod,Nat.mod_mod,← Nat.mul_mod]
   rw [e5];have e6:5*(4*it M n i+1)=4*(5*it M n i+1)+1:=by lia
   have e7:(4*(5*it M n i+1)+1) % (4*M)=4*((5*it M n i+1) % M)+1:=by
    have hx:5*it M n i+1=M*((5*it M n i+1) / M)+(5*it M n i+1) % M:=(Nat.div_add_mod _ _).symm;generalize (5*it M n i+1) % M=r at *;generalize (5*it M n i+1) / M=d at *;rw [hx,Nat.mul_add,← Nat.mul_assoc,zI3,Nat.mul_add_mod,zE9 (by lia)]
   rw [e6,e7]
theorem it_inj {k i:Nat} (hi:i<2 ^ k) {a b:Nat} (hab:a<b) (hb:b<2 ^ k):it (2 ^ k) a i≠it (2 ^ k) b i:=fun e=>by
 have hM:0<2 ^ k:=Nat.two_pow_pos k;have h1:=vW hM hi a;have h2:=vW hM hi b;rw [e,h2] at h1;have sub:4*2 ^ k ∣ 5 ^ b*(4*i+1) - 5 ^ a*(4*i+1):=Nat.dvd_of_mod_eq_zero (Nat.sub_mod_eq_zero_of_mod_eq h1);obtain ⟨c,rfl⟩:∃ c,b=a+c:=⟨b - a,by lia⟩
 have fac:5 ^ (a+c)*(4*i+1) - 5 ^ a*(4*i+1)=(5 ^ c - 1)*(5 ^ a*(4*i+1)):=by
  rw [Nat.pow_add,Nat.sub_mul,Nat.one_mul];congr 1;rw [zG2 (5 ^ a),Nat.mul_assoc]
 rw [fac] at sub;have o2:(5 ^ a*(4*i+1)) % 2=1:=by
  have:=p5_4 a;rw [Nat.mul_mod,show 5 ^ a % 2=1 by lia,show (4*i+1) % 2=1 by lia]
 rw [show 4*2 ^ k=2 ^ (k+2) by rw [Nat.pow_add,zG2]] at sub;have:=s0 k c (jc o2 _ _ sub);have:=Nat.le_of_dvd (by lia) this;lia
theorem oq {k i:Nat} (hi:i<2 ^ k) (L:List Nat) (hL:L.length<2 ^ k):∃ l,l<=L.length/\it (2 ^ k) l i∉L:=by
 refine Classical.byContradiction fun no=>?_;have all:∀ l,l<=L.length->it (2 ^ k) l i∈L:=fun l hl=>Classical.byContradiction fun z=>no ⟨l,hl,z⟩;have nd:((List.range (L.length+1)).map fun l=>it (2 ^ k) l i).Nodup:=by
  unfold List.Nodup;rw [zG1];refine List.Pairwise.imp_of_mem (fun {a b} ha hb hlt=>?_) (zJ5 (n:=L.length+1));have:=zA6.mp hb;exact it_inj hi hlt (by lia)
 have:=M81.sub_len nd fun y hy=>by
  obtain ⟨l,hl,rfl⟩:=zD0.mp hy;exact all l (by have:=zA6.mp hl;lia)
 rw [zA0,zC1] at this;lia
end STB
namespace STB
open PySem SetTable
def Wd (h:Int) (l:Nat):Nat:=bits h / 32 ^ l
def Lp (M:Nat) (h:Int):Nat->Nat
 | 0=>bits h % M
 | l+1=>(Lp M h l*5+1+Wd h l / 32) % M
theorem pI (h:Int) (l:Nat):Wd h (l+1)=Wd h l / 32:=by unfold Wd;rw [zI1,Nat.div_div_eq_div_mul]
theorem wB (h:Int):bits h<2 ^ 64:=by
 unfold bits;have h1:=zE5 h (show (2 ^ 64:Int)≠0 by decide);have h2:=zE3 h (show (0:Int)<2 ^ 64 by decide);lia
theorem Wd_end (h:Int) (l:Nat):Wd h (13+l)=0:=by
 have:=wB h;unfold Wd;rw [Nat.pow_add,← Nat.div_div_eq_div_mul,Nat.div_eq_of_lt (show bits h<32 ^ 13 by lia),Nat.zero_div]
theorem Lp_lt {M:Nat} (hM:0<M) (h:Int):∀ l,Lp M h l<M
 | 0=>Nat.mod_lt _ hM
 | _+1=>Nat.mod_lt _ hM
theorem Lp_it {M:Nat} (h:Int):∀ l,Lp M h (13+l)=it M l (Lp M h 13)
 | 0=>rfl
 | l+1=>by
   show (Lp M h (13+l)*5+1+Wd h (13+l) / 32) % M=(5*it M l (Lp M h 13)+1) % M;rw [Wd_end,Lp_it h l,Nat.zero_div,zI4,zG2]
theorem ir {k:Nat} (h:Int) (L:List Nat) (hL:L.length<2 ^ k):∃ l,l<=13+L.length/\Lp (2 ^ k) h l∉L:=by
 obtain ⟨l,h1,h2⟩:=oq (Lp_lt (Nat.two_pow_pos k) h 13) L hL;exact ⟨13+l,by lia,by rw [Lp_it];exact h2⟩
def adv (t:SetTable) (h:Int):Nat->Probe
 | 0=>t.probeStart h
 | n+1=>t.advance (adv t h n)
theorem iO (t:SetTable) (h:Int):∀ n,(adv t h n).dummy=none
 | 0=>rfl
 | n+1=>by
   have ih:=iO t h n;show (t.advance (adv t h n)).dummy=none;unfold advance;split
   · exact ih
   · exact ih
theorem pH (t:SetTable) (h:Int) {s i w m:Nat} (e:adv t h s={ j:=i,more:=m,i:=i,perturb:=w,dummy:=none }):∀ r,r<=m->adv t h (s+r)={ j:=i+r,more:=m - r,i:=i,perturb:=w,dummy:=none }
 | 0,_=>e
 | r+1,hr=>by
   show t.advance (adv t h (s+r))=_;rw [pH t h e r (by lia)];unfold advance;rw [if_pos (show m - r > 0 by lia)];show ({ j:=i+r+1,more:=m - r - 1,i:=i,perturb:=w,dummy:=none }:Probe)=_;rw [Nat.sub_sub];rfl
theorem uQ (mask i:Nat):runEnd mask i - i<=9:=by unfold runEnd;split <;> lia
theorem ku (t:SetTable) (h:Int):∀ l,∃ s,s<=10*l/\adv t h s={ j:=Lp (t.mask+1) h l,more:=runEnd t.mask (Lp (t.mask+1) h l) - Lp (t.mask+1) h l,i:=Lp (t.mask+1) h l,perturb:=Wd h l,dummy:=none }
 | 0=>⟨0,zA1 _,by
   show t.probeStart h=_;unfold probeStart Wd;rw [Nat.pow_zero,Nat.div_one];rfl⟩
 | l+1=>by
   obtain ⟨s,hs,e⟩:=ku t h l;have few:=uQ t.mask (Lp (t.mask+1) h l);refine ⟨s+(runEnd t.mask (Lp (t.mask+1) h l) - Lp (t.mask+1) h l)+1,by lia,?_⟩;show t.advance (adv t h (s+_))=_;rw [pH t h e _ (zA1 _)];unfold advance;rw [if_neg (by simp)];unfold leap;rw [pI];rfl
theorem gv (j:Nat):has #[] j=false:=by
 unfold has;rw [beq_eq_false_iff_ne];intro z;rw [Array.getElem?_eq_some_iff] at z;obtain ⟨hl,_⟩:=z;exact absurd hl (zG6 _)
theorem mJ {t:SetTable} (hd:t.dummies=#[]) {j:Nat} (hj:j∉t.place.toList):t.slot j=.empty:=by
 unfold slot;rw [hd,gv];rw [if_neg,if_neg (by decide)];intro z;rw [beq_iff_eq] at z;exact hj (by rw [Array.mem_toList_iff];exact Array.mem_of_getElem? z)
theorem kK {t:SetTable} (hd:t.dummies=#[]) (j:Nat):t.slot j=.empty\/∃ i,t.slot j=.live i/\t.place[i]? = some j:=by
 unfold slot;rw [hd,gv];by_cases z:(t.place[below t.place j]? == some j)=true
 · exact .inr ⟨below t.place j,by dsimp only;rw [if_pos z],by simpa using z⟩
 · exact .inl (by dsimp only;rw [if_neg z];rfl)
theorem reach {t:SetTable} {k:Nat} (hk:t.mask+1=2 ^ k) (hd:t.dummies=#[]) (hz:t.place.size<2 ^ k) (h:Int):∃ N,N<=10*(13+t.place.size)/\t.slot (adv t h N).j=.empty:=by
 obtain ⟨l,h1,h2⟩:=ir (k:=k) h t.place.toList (by rw [zB1];exact hz);obtain ⟨s,hs,e⟩:=ku t h l;rw [zB1] at h1;refine ⟨s,by lia,?_⟩;rw [e,hk];exact mJ hd h2
theorem oj {t:SetTable} (hd:t.dummies=#[]) {H:Nat->Int} {h:Int} {N:Nat} (hN:t.slot (adv t h N).j=.empty):∀ fuel n,n<=N->N - n<fuel ->
 (∃ j,t.slot j=.empty/\probe.go t H h fuel (adv t h n)=some (.empty j none))\/∃ m j i,n<=m/\m<N/\probe.go t H h fuel (adv t h n)=some (.candidate j i (adv t h (m+1)))/\t.slot j=.live i/\t.place[i]? = some j
 | 0,n,_,h0=>absurd h0 (zG6 _)
 | fuel+1,n,hn,hf=>by
   unfold probe.go;rcases kK hd (adv t h n).j with e | ⟨i,e,ep⟩
   · rw [e,iO];exact .inl ⟨_,e,rfl⟩
   · rw [e];have ne:n≠N:=fun z=>by rw [z,hN] at e;cases e
     dsimp only;split
     · exact .inr ⟨n,_,i,zA1 _,by lia,rfl,e,ep⟩
     · rcases oj hd (H:=H) hN fuel (n+1) (by lia) (by lia) with ⟨j,r0,r⟩ | ⟨m,j,i',a,b,c,d⟩
       · exact .inl ⟨j,r0,r⟩
       · exact .inr ⟨m,j,i',by lia,b,c,d⟩
theorem lj {p:Nat->Bool} {n:Nat} (hn:0<n) (h:p 0=true):(List.range n).find? p=some 0:=by
 obtain ⟨m,rfl⟩:∃ m,n=m+1:=⟨n - 1,by lia⟩
 rw [zJ1,List.find?_cons,h]
theorem oo {mask:Nat} {ow:Array (Option Nat)} (hs:ow.size=mask+1) {h:Int}:∀ (fuel l L:Nat),l<=L->L - l<fuel->ow.getD (Lp (mask+1) h L) (some 0)=none->∃ j,layClean.free mask ow fuel (Lp (mask+1) h l) (Wd h l)=some j/\ow.getD j (some 0)=none
 | 0,l,L,_,h0,_=>absurd h0 (zG6 _)
 | fuel+1,l,L,hl,hf,hL=>by
   unfold layClean.free;split
   · rename_i k e
     have:=List.find?_some e;exact ⟨_,rfl,by simpa using this⟩
   · rename_i e
     have ne:l≠L:=fun z=>by
      subst z;rw [lj (by unfold runEnd;split <;> lia) (by rw [zI4,hL];rfl)] at e
      cases e
     obtain ⟨j,r1,r2⟩:=oo hs (h:=h) fuel (l+1) L (by lia) (by lia) hL;refine ⟨j,?_,r2⟩;rw [← r1];unfold leap;rw [pI];rfl
theorem kd {f g:Nat->Option Nat}:∀ {l:List Nat},(∀ i∈l,f i=g i)->l.filterMap f=l.filterMap g
 | [],_=>rfl
 | a::l,h=>by rw [zE4,zE4,h a zA7,kd fun i hi=>h i (zA9 _ hi)]
theorem gT {f:Nat->Option Nat} {j v:Nat} (hj:f j=none):∀ N,j<N->List.Perm ((List.range N).filterMap fun i=>if i=j then some v else f i) (v::(List.range N).filterMap f)
 | 0,h=>absurd h (zG6 _)
 | N+1,h=>by
   rw [zB2,List.filterMap_append,List.filterMap_append];by_cases e:j=N
   · subst e;have same:(List.range j).filterMap (fun i=>if i=j then some v else f i)=(List.range j).filterMap f:=by
      refine kd fun i hi=>?_;have:=zA6.mp hi;rw [if_neg (by lia)]
     rw [same];have e1:[j].filterMap (fun i=>if i=j then some v else f i)=[v]:=by simp
     have e2:[j].filterMap f=[]:=by simp [hj]
     rw [e1,e2,zD6];exact List.perm_append_singleton _ _
   · have ih:=gT (v:=v) hj N (by lia);have e1:[N].filterMap (fun i=>if i=j then some v else f i)=[N].filterMap f:=by
      rw [zE4,zE4,if_neg (fun z=>e z.symm)];rfl
     rw [e1];exact (ih.append_right _)
theorem tv {k mask:Nat} (hk:mask+1=2 ^ k) (hs:List Int) (hl:hs.length<2 ^ k):∀ (rest done:List Int) (ow:Array (Option Nat)),hs=done++rest->ow.size=mask+1->List.Perm ((List.range (mask+1)).filterMap fun j=>ow.getD j none) (List.range done.length) ->
 ∃ ow':Array (Option Nat),(rest.foldl (fun (acc:Option (Array (Option Nat)×Nat)) h=>do
   let (owner,q) ← acc
   let j ← layClean.free mask owner (turns mask) (bits h % (mask+1)) (bits h)
   pure (owner.setIfInBounds j (some q),q+1)) (some (ow,done.length)))=some (ow',hs.length)/\List.Perm ((List.range (mask+1)).filterMap fun j=>ow'.getD j none) (List.range hs.length)
 | [],done,ow,e,z,pm=>by
   rw [zD6] at e;subst e;exact ⟨ow,rfl,pm⟩
 | h::rest,done,ow,e,z,pm=>by
   rw [List.foldl_cons];have ld:done.length<2 ^ k:=by have:=congrArg List.length e;rw [zA5,zC4] at this;lia
   have lpm:=pm.length_eq;rw [zC1] at lpm;-- the places that are taken
   obtain ⟨l,l1,l2⟩:=ir (k:=k) h ((List.range (mask+1)).filter fun j=>(ow.getD j none).isSome) (by
    have:((List.range (mask+1)).filterMap fun j=>ow.getD j none).length=((List.range (mask+1)).filter fun j=>(ow.getD j none).isSome).length:=by rw [List.length_filterMap_eq_countP,List.countP_eq_length_filter]
    lia)
   have lf:((List.range (mask+1)).filter fun j=>(ow.getD j none).isSome).length=done.length:=by
    rw [← List.countP_eq_length_filter,← List.length_filterMap_eq_countP,lpm]
   rw [lf] at l1;rw [← hk] at l2;have inr:Lp (mask+1) h l<mask+1:=Lp_lt (Nat.succ_pos _) h l;have none':ow.getD (Lp (mask+1) h l) none=none:=by
    cases c:ow.getD (Lp (mask+1) h l) none with
    | none=>rfl
    | some q=>exact absurd (zH8.mpr ⟨zA6.mpr inr,by rw [c];rfl⟩) l2
   have none0:ow.getD (Lp (mask+1) h l) (some 0)=none:=by
    rw [zH6,Array.getElem?_eq_getElem (by lia)] at none' ⊢;exact none'
   obtain ⟨j,f1,f2⟩:=oo z (h:=h) (turns mask) 0 l (zC5 _) (by unfold turns;lia) none0;have e0:Wd h 0=bits h:=by unfold Wd;rw [Nat.pow_zero,Nat.div_one]
   rw [e0] at f1;have f1:layClean.free mask ow (turns mask) (bits h % (mask+1)) (bits h)=some j:=f1;have jlt:j<ow.size:=by
    refine Classical.byContradiction fun no=>?_;rw [zH6,Array.getElem?_eq_none (by lia)] at f2
    cases f2
   have jn:ow.getD j none=none:=by
    rw [zH6,Array.getElem?_eq_getElem jlt] at f2 ⊢;exact f2
   show ∃ ow':Array (Option Nat),List.foldl _ (do
    let (owner,q) ← some (ow,done.length)
    let j ← layClean.free mask owner (turns mask) (bits h % (mask+1)) (bits h)
    pure (owner.setIfInBounds j (some q),q+1)) rest=some (ow',hs.length)/\_
   have step:(do
    let (owner,q) ← some (ow,done.length)
    let j ← layClean.free mask owner (turns mask) (bits h % (mask+1)) (bits h)
    pure (owner.setIfInBounds j (some q),q+1):Option (Array (Option Nat)×Nat))=some (ow.setIfInBounds j (some done.length),done.length+1):=by
    show (layClean.free mask ow (turns mask) (bits h % (mask+1)) (bits h) >>= fun j=>pure (ow.setIfInBounds j (some done.length),done.length+1))=_;rw [f1];rfl
   rw [step];have:=tv hk hs hl rest (done++[h]) (ow.setIfInBounds j (some done.length)) (by rw [e,zB7];rfl) (by rw [Array.size_setIfInBounds];exact z) (by
    have ef:(fun i=>(ow.setIfInBounds j (some done.length)).getD i none)=fun i=>if i=j then some done.length else ow.getD i none:=funext fun i=>by
     rw [zH6,zH6,Array.getElem?_setIfInBounds];by_cases c:j=i
     · subst c;rw [if_pos rfl,if_pos rfl,if_pos jlt];rfl
     · rw [if_neg c,if_neg (fun z=>c z.symm)]
    rw [ef,zA5,zK1];refine (gT (f:=fun i=>ow.getD i none) jn (mask+1) (by lia)).trans ?_;rw [zB2 (n:=done.length)];exact (List.Perm.cons _ pm).trans (List.perm_append_singleton _ _).symm)
   rw [zA5,zK1] at this;exact this
section
variable {prog:Program} {w:World} {A:Around} {E:Value->Shared->Prop} {s:Shared}
abbrev TK (prog:Program) (w:World) (h:Heap) (ks:List Int) (a:Addr):Prop:=IsTupleKey (intKind prog w) h ks a
abbrev hs (prog:Program) (w:World) (ks:List Int):Int:=tupleKeyHash (intKind prog w) ks
theorem items_int {ks:List Int} {vs:List Value} (h:ItemsAre (intKind prog w) ks vs):∀ v∈vs,∃ k t,v=.int k t:=by
 induction h with
 | nil=>intro v hv;cases hv
 | @cons k v' ks vs h1 _ ih=>
   intro v hv
   rcases zB0.mp hv with rfl | hv
   · cases v with
     | int k' t=>exact ⟨k',t,rfl⟩
     | _=>simp [intKind,Value.isInt] at h1
   · exact ih v hv
theorem rZ {ks:List Int} {a:Addr} {Q:Bool->Shared->Prop} (hk:TK prog w s.heap ks a) (h:Q true s):wpAny .(9) A (hashByValue 8 (.ref a)) Q E s:=by
 have hT:=hk.typeIs;obtain ⟨o,items,n,ho,_,hd,hi⟩:=hk;unfold hashByValue;refine wpAny_bind (wpAny_specialOf hT F.slot_tuple_hash.lookup ?_);dsimp only;refine wpAny_bind (wpAny_seqItems ho hd ?_);refine wpAny_bind ?_;show wpAny _ _ (forIn items _ _) _ _ s;rw [← Array.forIn_toList];refine wpAny_forIn_list _ (fun rest r s'=>r.1=none/\s'=s/\∀ v∈rest,∃ k t,v=.int k t) _ ?_ ?_ _ _ ⟨rfl,rfl,items_int hi⟩
 · rintro v rest r s' ⟨hr,rfl,hall⟩;obtain ⟨k,t,rfl⟩:=hall _ zA7;have e:hashByValue 7 (.int k t)=pure true:=by simp [hashByValue]
   rw [e];sleep 29;simp only [zL6,zB5,if_false];exact wpAny_pure ⟨rfl,rfl,fun u hu=>hall u (zA9 _ hu)⟩
 · rintro ⟨r1,r2⟩ s' ⟨hr,rfl,_⟩;simp only at hr;subst hr;exact wpAny_pure h
theorem jT {ks:List Int} {a:Addr} {Q:Bool->Shared->Prop} (hk:TK prog w s.heap ks a) (h:Q false s):wpAny .(9) A (ofAClassStatement 8 (.ref a)) Q E s:=by
 have hT:=hk.typeIs;obtain ⟨o,items,n,ho,_,hd,hi⟩:=hk;unfold ofAClassStatement;refine wpAny_bind (wpAny_typeOf hT ?_);dsimp only;rw [if_pos (by rfl)];sleep 29;simp only [zL6,zB5,if_false];refine wpAny_bind (wpAny_seqItems ho hd ?_);dsimp only;refine wpAny_bind ?_;show wpAny _ _ (forIn items _ _) _ _ s;rw [← Array.forIn_toList];refine wpAny_forIn_list _ (fun rest r s'=>r.1=none/\s'=s/\∀ v∈rest,∃ k t,v=.int k t) _ ?_ ?_ _ _ ⟨rfl,rfl,items_int hi⟩
 · rintro v rest r s' ⟨hr,rfl,hall⟩;obtain ⟨k,t,rfl⟩:=hall _ zA7;have e:ofAClassStatement 7 (.int k t)=pure false:=by simp [ofAClassStatement]
   rw [e];sleep 29;simp only [zB5,if_false];exact wpAny_pure ⟨rfl,rfl,fun u hu=>hall u (zA9 _ hu)⟩
 · rintro ⟨r1,r2⟩ s' ⟨hr,rfl,_⟩;simp only at hr;subst hr;exact wpAny_pure h
theorem unseen {ks:List Int} {a:Addr} {l:List Value} {Q:Bool->Shared->Prop} (hk:TK prog w s.heap ks a) (hl:∀ v∈l,∃ ks b,v=.ref b/\TK prog w s.heap ks b) (h:Q false s):wpAny .(9) A (searchCouldBeSeen (.ref a) l) Q E s:=by
 unfold searchCouldBeSeen;refine wpAny_bind ?_;refine wpAny_forIn_list _ (fun rest r s'=>r.1=none/\s'=s/\∀ v∈rest,∃ ks b,v=.ref b/\TK prog w s.heap ks b) _ ?_ ?_ _ _ ⟨rfl,rfl,hl⟩
 · rintro v rest r s' ⟨hr,rfl,hall⟩;obtain ⟨ks',b,rfl,hb⟩:=hall _ zA7;have nx:=fun u hu=>hall u (zA9 _ hu);dsimp only;by_cases c:(a == b||(carriedByValue (.ref a)&&carriedByValue (.ref b)))=true
   · rw [if_pos c];exact wpAny_pure ⟨rfl,rfl,nx⟩
   · rw [if_neg c];refine wpAny_bind (wpAny_eqIsQuiet_tuple hk ?_);simp only [zL6,zB5,if_false];refine wpAny_bind (wpAny_eqIsQuiet_tuple hb ?_);simp only [zL6,zB5,if_false];refine wpAny_bind (jT hk ?_);simp only [zB5,if_false];refine wpAny_bind (jT hb ?_);simp only [zB5,if_false];exact wpAny_pure ⟨rfl,rfl,nx⟩
 · rintro ⟨r1,r2⟩ s' ⟨hr,rfl,_⟩;simp only at hr;subst hr;exact wpAny_pure h
end
end STB
namespace STB
open PySem SetTable PyProof.Rows
theorem gG {xs:Array Nat} {j r:Nat} (h1:∀ m,m<r->m<xs.size->xs.getD m j<j) (h2:∀ m,r<=m->m<xs.size->¬ xs.getD m j<j):∀ fuel lo hi,lo<=r->r<=hi->hi<=xs.size->hi - lo<=fuel->below.go xs j fuel lo hi=r
 | 0,lo,hi,a,b,c,d=>by unfold below.go;lia
 | fuel+1,lo,hi,a,b,c,d=>by
   unfold below.go;split
   · rename_i lt
     dsimp only;split
     · rename_i g
       refine gG h1 h2 fuel _ hi ?_ b c (by lia);by_cases z:r<=(lo+hi) / 2
       · exact absurd g (h2 _ z (by lia))
       · lia
     · rename_i g
       refine gG h1 h2 fuel lo _ a ?_ (by lia) (by lia);by_cases z:(lo+hi) / 2<r
       · exact absurd (h1 _ z (by lia)) g
       · lia
   · lia
abbrev Up (xs:Array Nat):Prop:=xs.toList.Pairwise (· < ·)
theorem cut (j:Nat):∀ l:List Nat,l.Pairwise (· < ·)->∃ a b,l=a++b/\(∀ x∈a,x<j)/\∀ x∈b,j<=x
 | [],_=>⟨[],[],rfl,(fun _ z=>(zF9 z).elim),fun _ z=>(zF9 z).elim⟩
 | x::l,h=>by
   obtain ⟨h1,h2⟩:=zG3.mp h;by_cases c:x<j
   · obtain ⟨a,b,e,p,q⟩:=cut j l h2;refine ⟨x::a,b,by rw [e];rfl,fun y hy=>?_,q⟩;rcases zB0.mp hy with rfl | hy
     · exact c
     · exact p y hy
   · refine ⟨[],x::l,rfl,(fun _ z=>(zF9 z).elim),fun y hy=>?_⟩;rcases zB0.mp hy with rfl | hy
     · lia
     · have:=h1 y hy;lia
theorem sf {xs:Array Nat} {j:Nat} {a b:List Nat} (e:xs.toList=a++b) (p:∀ x∈a,x<j) (q:∀ x∈b,j<=x):below xs j=a.length:=by
 have sz:xs.size=a.length+b.length:=by rw [← zB1,e,zA5]
 have g:∀ m (h:m<xs.size),xs.getD m j=xs.toList[m]'(by simpa using h):=fun m h=>by simp [Array.getD,h]
 refine gG (fun m h hm=>?_) (fun m h hm z=>?_) _ _ _ (zC5 _) (by lia) (zA1 _) (by lia)
 · rw [g m hm];refine p _ ?_;have:xs.toList[m]'(by simpa using hm)=a[m]:=by simp only [e,zF4 h]
   rw [this];exact zC0 h
 · rw [g m hm] at z;have lt:m - a.length<b.length:=by lia
   have:xs.toList[m]'(by simpa using hm)=b[m - a.length]:=by simp only [e,zF3 h]
   rw [this] at z;have:=q _ (zC0 lt);lia
theorem put_up {t:SetTable} {j:Nat} (h:Up t.place) (hs:t.slot j=.empty):Up (t.put j).1.place:=by
 obtain ⟨a,b,e,p,q⟩:=cut j _ h;have eb:=sf e p q;have hp:Up (insertAt t.place (below t.place j) j):=by
  unfold Up insertAt;rw [eb];have e2:((t.place.extract 0 a.length).push j++t.place.extract a.length t.place.size).toList=a++j::b:=by
   have sz:t.place.size=a.length+b.length:=by rw [← zB1,e,zA5]
   simp only [zJ7,zH4,zK6,e,sz];simp [zI2,e]
  rw [e2];have h':=h;unfold Up at h';rw [e] at h';obtain ⟨u1,u2,u3⟩:=zC7.mp h';have ne:∀ x∈b,j<x:=fun x hx=>by
   have le:=q x hx;refine Nat.lt_of_le_of_ne le fun z=>?_;subst z;obtain ⟨y,b',rfl⟩:∃ y b',b=y::b':=by cases b with
    | nil=>cases hx
    | cons y b'=>exact ⟨y,b',rfl⟩
   have y1:=q y zA7;have:y=j:=by
    rcases zB0.mp hx with z | z
    · exact z.symm
    · have:=(zG3.mp u2).1 _ z;lia
   subst this;have gp:t.place[a.length]? = some y:=by
    rw [← Array.getElem?_toList,e];simp
   unfold slot at hs;dsimp only at hs;rw [eb,gp,if_pos (by simp)] at hs
   cases hs
  refine zC7.mpr ⟨u1,zG3.mpr ⟨ne,u2⟩,fun x hx y hy=>?_⟩;rcases zB0.mp hy with rfl | hy
  · exact p x hx
  · exact u3 x hx y hy
 exact hp
end STB
namespace STB
open PySem SetTable
abbrev bt (w:World):Bool:=w.params.followText "set-order"
structure Gd (w:World) (es:Array (Int×Value)) (t:SetTable) (vs:List Value):Prop where
 up:Up t.place
 plain:t.plain=true
 led:t.led=!bt w
 perm:(es.toList.map (·.2)).Perm vs
def SetAt (h:Heap) (a:Addr) (es:Array (Int×Value)) (ep:Nat) (t:SetTable):Prop:=∃ o,h.get? a=some o/\o.ExactSet/\o.data=.set es ep t
structure Tbl (prog:Program) (w:World) (z:Nat) (h:Heap) (D:List (List Int)) (es:Array (Int×Value)) (t:SetTable) (n:Nat):Prop where
 size:es.size=n
 place:t.place.size=n
 nodum:t.dummies=#[]
 two:∃ k,t.mask+1=2 ^ (k+1)
 room:n*5<t.mask*3
 of:∀ e∈es.toList,∃ ks∈D,∃ b,e=(hs prog w ks,.ref b)/\b<z/\TK prog w h ks b
theorem Tbl.fits {prog:Program} {w:World} {h:Heap} {z D es t n} (T:Tbl prog w z h D es t n):t.fits es.size=true:=by
 have h1:=T.place;have h2:=T.size;have h3:=T.room;unfold SetTable.fits fill;rw [T.nodum,h1,h2,zC8];exact ⟨by simp,decide_eq_true (by show n+0<=_;lia)⟩
section
variable {prog:Program} {w:World} {A:Around} {E:Value->Shared->Prop} {s:Shared}
theorem sO {a:Addr} {o:Obj} {es:Array (Int×Value)} {ep:Nat} {t:SetTable} {n z:Nat} {D:List (List Int)} {ks:List Int} {b:Addr} (hu:A.units<cLine) (ho:s.heap.get? a=some o) (hd:o.data=.set es ep t) (T:Tbl prog w z s.heap D es t n) (hk:TK prog w s.heap ks b) (nw:ks∉D)
 {N:Nat} (hN:N<=10*(13+n)) (hS:t.slot (adv t (hs prog w ks) N).j=.empty) {Q:SetFound->Shared->Prop} (h:∀ j,t.slot j=.empty->Q (.free j false) s) :
 ∀ (fuel m:Nat) (st:Option Probe),m<=N->N - m<fuel->st.getD (t.probeStart (hs prog w ks))=adv t (hs prog w ks) m->wpAny .(9) A (setSearchFrom a (.ref b) (hs prog w ks) true fuel st) Q E s
 | 0,m,st,_,h0,_=>absurd h0 (zG6 _)
 | fuel+1,m,st,hm,hf,est=>by
   unfold setSearchFrom;refine wpAny_bind (wpAny_setState_of ho hd T.fits ?_);dsimp only;have gw:t.gaveWay=false:=by
    obtain ⟨k,e⟩:=T.two;unfold gaveWay;rw [zI1] at e;rw [beq_eq_false_iff_ne];lia
   rw [gw];simp only [zB5,if_false];rw [est];have sz:=T.room;have big:N - m<10*turns t.mask:=by unfold turns;lia
   have pe:∀ H,t.probe H (hs prog w ks) (adv t (hs prog w ks) m)=probe.go t H (hs prog w ks) (10*turns t.mask) (adv t (hs prog w ks) m):=fun _=>rfl;rw [pe];rcases oj T.nodum hS (10*turns t.mask) m hm big with ⟨j,e0,e⟩ | ⟨m',j,i,m1,m2,e,sl,pl⟩
   · rw [e];exact wpAny_pure (h j e0)
   · rw [e];dsimp only;have il:i<es.size:=by
      have:=(Array.getElem?_eq_some_iff.mp pl).1;rw [T.place] at this;rw [T.size];exact this
     have mem:es[i]∈es.toList:=by rw [Array.mem_toList_iff];exact Array.getElem_mem il
     obtain ⟨ks',kD,b',ee,_,hb'⟩:=T.of _ mem;have eget:es[i]? = some (hs prog w ks',.ref b'):=by rw [Array.getElem?_eq_getElem il,ee]
     have ne:ks'≠ks:=fun z=>nw (z▸kD);have rest:wpAny .(9) A (do
      let some (_,v1):=es[i]? | unsupported "internal:set-entry"
      let q1 ← holding [v1] (eqBool v1 (.ref b))
      let (e1,_,t1) ← setState a
      if true&&q1 then return SetFound.there none
      let some m1:=t1.sameMemory t.moves t.mask | unsupported "set.changed-during-lookup:is-the-new-block-at-the-old-address"
      let l1 ← match (if m1 then t1.slot j else .empty) with
       | .live i1=>match e1[i1]? with
         | some (_,v2)=>do pure (if ← isSame v2 v1 then some i1 else none)
         | none=>pure none
       | _=>pure none
      match l1 with
      | none=>rule "set.search.anew";setSearchFrom a (.ref b) (hs prog w ks) true fuel none
      | some i1=>if q1 then return .there (some i1) else setSearchFrom a (.ref b) (hs prog w ks) true fuel (some (adv t (hs prog w ks) (m' + 1)))) Q E s:=by
      rw [eget];dsimp only;refine wpAny_bind (wpAny_holding (wpAny_eqBool_tuple hu hb' hk ?_));rw [decide_eq_false ne];refine wpAny_bind (wpAny_setState_of ho hd T.fits ?_);dsimp only;simp only [Bool.and_false,zB5,if_false];have sm:t.sameMemory t.moves t.mask=some true:=by unfold sameMemory;rw [if_pos (by simp)]
      rw [sm];dsimp only;rw [if_pos rfl,sl];dsimp only;rw [eget];dsimp only;refine wpAny_bind (wpAny_isSame_ref_self (wpAny_bind (wpAny_pure ?_)));rw [if_pos rfl];dsimp only;exact sO hu ho hd T hk nw hN hS h fuel (m' + 1) _ (by lia) (by lia) rfl
     by_cases c:t.led=true
     · rw [c];simp only [zL6,zB5,if_false];exact rest
     · rw [show t.led=false by simpa using c];simp only [Bool.not_false,if_true];refine wpAny_bind (unseen hk (fun v hv=>?_) ?_)
       · obtain ⟨e',he',rfl⟩:=zD0.mp hv;have:e'∈es.toList:=by
          rw [Array.mem_toList_iff] at he' ⊢;exact (Array.mem_filter.mp he').1
         obtain ⟨ks2,_,b2,e2,_,h2⟩:=T.of _ this;exact ⟨ks2,b2,by rw [e2],h2⟩
       · simp only [zB5,if_false];exact rest
end
theorem kx {n:Nat}:∀ (fuel k:Nat),n<2 ^ (k+1)*2 ^ fuel->∃ k',sizeAbove.go n fuel (2 ^ (k+1))=2 ^ (k' + 1)/\n<2 ^ (k' + 1)/\(2 ^ (k' + 1)<=2 ^ (k+1)\/2 ^ (k' + 1)<=2*n)
 | 0,k,h=>⟨k,rfl,by simpa using h,.inl (zA1 _)⟩
 | fuel+1,k,h=>by
   unfold sizeAbove.go;split
   · rename_i c
     obtain ⟨k',e,h1,h2⟩:=kx (n:=n) fuel (k+1) (by rw [zI1 2 (k+1),Nat.mul_assoc,zG2 2,← zI1];exact h);refine ⟨k',by rw [← e,zI1 2 (k+1)],h1,.inr ?_⟩;rcases h2 with h2 | h2
     · rw [zI1 2 (k+1)] at h2;lia
     · exact h2
   · rename_i c
     exact ⟨k,rfl,by lia,.inl (zA1 _)⟩
theorem kw {n:Nat} (hn:n<100000):∃ k,sizeAbove n=2 ^ (k+1)/\n<2 ^ (k+1)/\2 ^ (k+1)<=2*n+8:=by
 obtain ⟨k,e,h1,h2⟩:=kx (n:=n) 64 2 (zD7 hn (by decide));refine ⟨k,e,h1,?_⟩;have:(2:Nat) ^ (2+1)=8:=rfl;lia
theorem vR {α:Type} {xs:Array α} {p:Nat} {x e:α} (h:e∈(insertAt xs p x).toList):e∈xs.toList\/e=x:=by
 have:=(SetTable.insertAt_perm xs p x).mem_iff.mp h;rw [zH4] at this;rcases zD4.mp this with h | h
 · exact .inl h
 · exact .inr (zC6.mp h)
theorem jE {α:Type} (xs:Array α) (p:Nat) (x:α):(insertAt xs p x).size=xs.size+1:=by
 have:=(SetTable.insertAt_perm xs p x).length_eq;rw [zB1,zB1,Array.size_push] at this;exact this
theorem TK.keep {prog:Program} {w:World} {h h':Heap} {ks:List Int} {a b:Addr} {o:Obj} {es ep t} (x:TK prog w h ks b) (ho:h.get? a=some o) (hd:o.data=.set es ep t) (sb:Heap.SameBut a h h'):TK prog w h' ks b:=by
 obtain ⟨o',items,n,ho',hc,hd',hi⟩:=x;have hne:b≠a:=by
  rintro rfl;obtain rfl:o'=o:=Option.some.inj (ho'.symm.trans ho);rw [hd] at hd';exact nomatch hd'
 exact ⟨o',items,n,(sb.2 b hne).trans ho',hc,hd',hi⟩
theorem nW {f:Nat->Option Nat}:∀ l:List Nat,((l.filterMap fun j=>(f j).map (j,·)).map (·.2))=l.filterMap f
 | []=>rfl
 | a::l=>by
   rw [zE4,zE4]
   cases f a with
   | none=>exact nW l
   | some v=>show v::_=v::_;rw [nW l]
theorem up_fm (f:Nat->Option Nat):∀ l:List Nat,l.Pairwise (· < ·)->((l.filterMap fun j=>(f j).map (j,·)).map (·.1)).Pairwise (· < ·)
 | [],_=>.nil
 | a::l,h=>by
   obtain ⟨h1,h2⟩:=zG3.mp h;have r:=up_fm f l h2;rw [zE4]
   cases f a with
   | none=>exact r
   | some v=>
     refine zG3.mpr ⟨fun x hx=>?_,r⟩
     obtain ⟨y,hy,rfl⟩:=zD0.mp hx
     obtain ⟨j,hj,e⟩:=List.mem_filterMap.mp hy
     cases hv:f j with
     | none=>rw [hv] at e;cases e
     | some u=>rw [hv] at e;cases e;exact h1 j hj
theorem Gd.put {w:World} {es:Array (Int×Value)} {t:SetTable} {vs:List Value} (G:Gd w es t vs) {j:Nat} (hj:t.slot j=.empty) (h:Int) (x:Value):Gd w (insertAt es (t.put j).2 (h,x)) (t.put j).1 (x::vs):=
 ⟨put_up G.up hj,G.plain,G.led,by
  have:=(SetTable.insertAt_perm es (t.put j).2 (h,x)).map (·.2);rw [zH4,zA3] at this;exact (this.trans zH2).trans (.cons x G.perm)⟩
theorem mZ {t:SetTable} {es:Array (Int×Value)} {wanted:Nat} (h1:es.size<wanted) (h2:wanted<100000):∃ t' od,t.relaid (es.map (·.1)) wanted=some (t',od)/\List.Perm (od.filterMap (es[·]?)).toList es.toList/\t'.place.size=es.size/\t'.dummies=#[]/\(∃ k,t'.mask+1=2 ^ (k+1))/\wanted<=t'.mask/\od.toList.Perm (List.range es.size)/\Up t'.place/\t'.plain=t.plain/\t'.led=t.led:=by
 obtain ⟨k,e,a1,a2⟩:=kw h2;unfold relaid laid layClean;rw [e];have em:2 ^ (k+1) - 1+1=2 ^ (k+1):=by have:=Nat.two_pow_pos (k+1);lia
 have hlen:(es.map (·.1)).toList.length=es.size:=by rw [zB1,Array.size_map]
 obtain ⟨ow,f1,f2⟩:=tv (k:=k+1) em (es.map (·.1)).toList (by rw [hlen];lia) (es.map (·.1)).toList [] (Array.replicate (2 ^ (k+1) - 1+1) none) rfl (by rw [Array.size_replicate]) (by
  have:((List.range (2 ^ (k+1) - 1+1)).filterMap fun j=>(Array.replicate (2 ^ (k+1) - 1+1) (none:Option Nat)).getD j none)=[]:=by
   rw [List.filterMap_eq_nil_iff];intro j hj;rw [zH6,Array.getElem?_replicate];split <;> rfl
  rw [this];exact .nil)
 rw [← Array.foldl_toList,List.length_nil] at *;rw [f1,hlen] at *;refine ⟨_,_,rfl,?_,?_,rfl,⟨k,em⟩,by show wanted<=2 ^ (k+1) - 1;lia,?_,?_,rfl,rfl⟩
 · have e1:∀ l:List Nat,((l.toArray).filterMap (es[·]?)).toList=l.filterMap (fun i=>es[i]?):=fun l=>by rw [Array.toList_filterMap]
   rw [e1,nW (f:=fun j=>ow.getD j none)];refine (f2.filterMap _).trans ?_;rw [filterMap_getElem?_range]
 · show (List.map _ _).toArray.size=_;rw [zA8,zA0,← zA0 (f:=Prod.snd),nW (f:=fun j=>ow.getD j none),f2.length_eq,zC1]
 · show (List.map _ _).Perm _;rw [nW (f:=fun j=>ow.getD j none)];exact f2
 · show (List.map _ _).Pairwise (· < ·);exact up_fm _ _ zJ5
section
variable {prog:Program} {w:World} {A:Around} {E:Value->Shared->Prop} {s:Shared}
theorem add {a:Addr} {o:Obj} {es:Array (Int×Value)} {ep:Nat} {t:SetTable} {n z:Nat} {D:List (List Int)} {ks:List Int} {b:Addr} (bz:b<z) (hu:A.units<cLine) (ho:s.heap.get? a=some o) (hex:o.ExactSet) (hd:o.data=.set es ep t) (T:Tbl prog w z s.heap D es t n) (hk:TK prog w s.heap ks b) (nw:ks∉D) (hn:n<6000) {vs:List Value} (G:Gd w es t vs)
 {Q:Bool->Shared->Prop} (h:∀ h' o' es' ep' t',h'.get? a=some o'->o'.ExactSet->o'.data=.set es' ep' t'->Tbl prog w z h' (ks::D) es' t' (n+1)->Gd w es' t' (.ref b::vs)->Heap.SameBut a s.heap h'->Q true { s with heap:=h' }) :
 wpAny .(9) A (setAddHashed a (.ref b) (hs prog w ks)) Q E s:=by
 unfold setAddHashed setAddHashedIn;refine wpAny_holding (wpAny_bind (wpAny_setState_of ho hd T.fits ?_));dsimp only;have ns:byScan (.ref b) es=false:=rfl;rw [ns];simp only [zB5,if_false];obtain ⟨k,ek⟩:=T.two;have rm:=T.room;obtain ⟨N,hN,hS⟩:=reach ek T.nodum (by rw [T.place];lia) (hs prog w ks);rw [T.place] at hN;unfold setSearch;refine wpAny_bind (sO hu ho hd T hk nw hN hS (fun j hj=>?_) 100000 0 none (zC5 _) (by lia) rfl);dsimp only;refine wpAny_bind (wpAny_setState_of ho hd T.fits ?_);dsimp only;have tail:∀ t1:SetTable,t1=(t.put j).1->wpAny .(9) A (do
  storeSet a .(42) t1
  if (!false&&t1.tooFull)=true then do
   setRelay a (grown (es.size+1))
   pure true
  else pure true) Q E s:=by
  rintro t1 rfl;have sz:=jE es (t.put j).2 (hs prog w ks,Value.ref b);have p1:(t.put j).1.place.size=n+1:=by show (insertAt t.place _ j).size=_;rw [jE,T.place]
  have d1:(t.put j).1.dummies=#[]:=by show (if has t.dummies j=true then _ else t.dummies)=_;rw [T.nodum,gv];rfl
  have m1:(t.put j).1.mask=t.mask:=rfl;have G1:=G.put hj (hs prog w ks) (.ref b);refine wpAny_bind (wpAny_storeSet_of ho hd ?_ (by rw [sz,T.size,sizeLine_eq];lia));have hg:(s.heap.update a (Obj.putSet .(42) (t.put j).1)).get? a=some { o with data:=.set .(42) (ep+1) (t.put j).1 }:=by
   have:=Heap.get?_update_self (Obj.putSet .(42) (t.put j).1) ho (by rw [putSet_of _ _ hd];rfl);rw [putSet_of _ _ hd] at this;exact this
  have sb:=Heap.SameBut.update s.heap a (Obj.putSet .(42) (t.put j).1);generalize s.heap.update a (Obj.putSet .(42) (t.put j).1)=h1 at hg sb;have of1:∀ e∈(insertAt es (t.put j).2 (hs prog w ks,Value.ref b)).toList,∃ ks'∈ks::D,∃ b',e=(hs prog w ks',.ref b')/\b' < z/\TK prog w h1 ks' b':=fun e he=>by
   rcases vR he with he | rfl
   · obtain ⟨ks',k1,b',e1,lt,k2⟩:=T.of e he;exact ⟨ks',zA9 _ k1,b',e1,lt,TK.keep k2 ho hd sb⟩
   · exact ⟨ks,zA7,b,rfl,bz,TK.keep hk ho hd sb⟩
  generalize insertAt es (t.put j).2 (hs prog w ks,Value.ref b)=es1 at hg sz of1 G1;generalize (t.put j).1=t1 at hg p1 d1 m1 G1;rw [T.size] at sz;have fill1:t1.fill=n+1:=by unfold fill;rw [d1,p1];rfl
  have fits1:t1.fits es1.size=true:=by
   unfold SetTable.fits;rw [p1,sz,fill1,zC8];exact ⟨by simp,decide_eq_true (by rw [m1];lia)⟩
  split
  · rename_i c
    unfold setRelay;refine wpAny_bind (wpAny_bind (wpAny_setState_of hg rfl fits1 ?_));dsimp only;have gr:grown (es.size+1)=(n+1)*4:=by unfold grown;rw [T.size,if_neg (by lia)]
    rw [gr];obtain ⟨k2,e2,_,b2⟩:=kw (n:=(n+1)*4) (by lia);rw [if_neg (by rw [e2,sizeLine_eq];lia)];obtain ⟨t2,od,r1,r2,r3,r4,r5,r6,_,r8,r9,r10⟩:=mZ (t:=t1) (es:=es1) (wanted:=(n+1)*4) (by lia) (by lia);rw [r1];refine wpAny_bind ?_;show wpAny .(9) A (do
     let e2:=od.filterMap (es1[·]?)
     if e2.size != es1.size then unsupported "internal:set-table-lost-an-element"
     pure (e2,t2)) _ E _
    have z2:(od.filterMap (es1[·]?)).size=es1.size:=by rw [← zB1,r2.length_eq,zB1]
    generalize od.filterMap (es1[·]?)=es2 at r2 z2;dsimp only;rw [if_neg (by rw [z2];simp)];refine wpAny_pure ?_;dsimp only;refine wpAny_storeSet_of hg rfl ?_ (by rw [z2,sz,sizeLine_eq];lia);have hg2:(h1.update a (Obj.putSet es2 t2)).get? a=some { o with data:=.set es2 (ep+1+1) t2 }:=by
     have:=Heap.get?_update_self (Obj.putSet es2 t2) hg (by rw [putSet_of _ _ rfl];rfl);rw [putSet_of _ _ rfl] at this;exact this
    have sb2:=Heap.SameBut.update h1 a (Obj.putSet es2 t2);refine wpAny_pure (h _ _ es2 _ t2 hg2 hex rfl ⟨by rw [z2,sz],by rw [r3,sz],r4,r5,by lia,fun e he=>?_⟩ ⟨r8,r9.trans G1.plain,r10.trans G1.led,(r2.map _).trans G1.perm⟩ (sb.trans sb2));obtain ⟨ks',k1,b',e1,lt,k3⟩:=of1 e (r2.mem_iff.mp he);exact ⟨ks',k1,b',e1,lt,TK.keep k3 hg rfl sb2⟩
  · rename_i c
    have nf:¬ t1.tooFull=true:=by simpa using c
    unfold tooFull at nf;rw [fill1] at nf;have nf:(n+1)*5<t1.mask*3:=by simpa using nf
    exact wpAny_pure (h _ _ es1 _ t1 hg hex rfl ⟨sz,p1,d1,by rw [m1];exact T.two,by lia,of1⟩ G1 sb)
 by_cases c:(t.put j).1.plain=true
 · rw [if_pos c];refine wpAny_bind (rZ hk ?_);simp only [if_true];exact tail _ rfl
 · rw [if_neg c];sleep 29;simp only [if_true];exact tail _ rfl
end
end STB
namespace STB
open PySem SetTable PyProof.Rows
def Dk (key:Nat->List Int):Nat->List (List Int)
 | 0=>[]
 | i+1=>key i::Dk key i
theorem t8 {key:Nat->List Int} {x:List Int}:∀ {i},x∈Dk key i->∃ j,j<i/\x=key j
 | 0,h=>by cases h
 | i+1,h=>by
   rcases zB0.mp h with rfl | h
   · exact ⟨i,zF6 _,rfl⟩
   · obtain ⟨j,h1,h2⟩:=t8 h;exact ⟨j,by lia,h2⟩
def Vk (val:Nat->Value):Nat->List Value
 | 0=>[]
 | i+1=>val i::Vk val i
theorem tU (vs:List Value):∀ i,i<=vs.length->Vk (fun j=>vs.getD j .none) i=(vs.take i).reverse
 | 0,_=>rfl
 | i+1,h=>by
   have hl:i<vs.length:=h;rw [Vk,tU vs i (by lia),List.take_succ_eq_append_getElem hl,zL3,zA2,List.getElem?_eq_getElem hl];rfl
theorem wJ (vs:List Value):(Vk (fun j=>vs.getD j .none) vs.length).Perm vs:=by
 rw [tU vs _ (zA1 _),List.take_length];exact zH5 vs
def HasV (w:World) (h:Heap) (a:Addr) (vs:List Value):Prop:=∃ es ep t,SetAt h a es ep t/\t.fits es.size=true/\Gd w es t vs
theorem HasV.perm {w:World} {h:Heap} {a vs vs'} (x:HasV w h a vs) (p:vs.Perm vs'):HasV w h a vs':=let ⟨es,ep,t,S,f,G⟩:=x;⟨es,ep,t,S,f,G.up,G.plain,G.led,G.perm.trans p⟩
def Old (h0 h:Heap) (z:Nat):Prop:=∀ b o,b<z->h0.get? b=some o->h.get? b=some o
theorem TK.old {prog:Program} {w:World} {h0 h:Heap} {z:Nat} {ks:List Int} {b:Addr} (x:TK prog w h0 ks b) (hb:b<z) (g:Old h0 h z):TK prog w h ks b:=by
 obtain ⟨o,items,n,ho,r⟩:=x;exact ⟨o,items,n,g b o hb ho,r⟩
section
variable {prog:Program} {w:World} {A:Around} {R:Result->Shared->Prop} {I:Addr} {fp wr:List Addr} {G:Array GenState->Array GenState->Prop} {n:Nat} {P:Nat->Value->Prop} {St:Nat->Shared->Prop}
theorem qm (W:WalksS prog w A.in1 I fp wr G n P St) (S:Addr) (hSf:S∉fp) {h0:Heap} {z:Nat} (hz:z<=S) (hwr:∀ b∈wr,z<=b)
 (key:Nat->List Int) (val:Nat->Value) (hvv:∀ i v,P i v->v=val i) (hval:∀ i v,P i v->∃ b,v=.ref b/\b<z/\TK prog w h0 (key i) b) (inj:∀ i j,i<j->j<n->key i≠key j) (hn:n<=6000) (hu:A.in1.units<cLine) :
 ∀ (k i:Nat) (s:Shared),n - i=k->i<=n->St i s->Old h0 s.heap z->(∃ o es ep t,s.heap.get? S=some o/\o.ExactSet/\o.data=.set es ep t/\Tbl prog w z s.heap (Dk key i) es t i/\Gd w es t (Vk val i)) ->
   (∀ s',Moved (S::wr) G s s'->HasV w s'.heap S (Vk val n)->(∃ o es ep t,s'.heap.get? S=some o/\o.ExactSet/\o.data=.set es ep t/\t.fits es.size=true/\es.size=n)->R (.ok (.ret .none)) s') ->
   codeAny .(9) A (.builtin "set.update.loop" ⟨[.ref S,.ref I],[]⟩) R s:=by
 have hSw:S∉wr:=fun h=>hSf (W.sub _ h);have hsub:∀ b∈wr,b∈S::wr:=fun b hb=>zA9 _ hb;intro k;induction k with
 | zero=>
   intro i s hk hi hst hold hS hR
   obtain rfl:i=n:=by lia
   refine codeAny_builtin F.entry_set_update_loop ?_
   rw [Around.under_plainId F.plain_set_update_loop _]
   show wpAny _ A.in1 (pyNext (.ref I) >>= _) _ _ s
   refine wpAny_bind (W.done s _ _ hst fun s' hm=>?_)
   obtain ⟨o,es,ep,t,ho,hex,hd,T,Gg⟩:=hS
   exact wpAny_pure (hR s' (hm.mono hsub) ⟨es,ep,t,⟨o,hm.heap S _ hSw ho,hex,hd⟩,T.fits,Gg⟩ ⟨o,es,ep,t,hm.heap S _ hSw ho,hex,hd,T.fits,T.size⟩)
 | succ k ih=>
   intro i s hk hi hst hold hS hR
   have hlt:i<n:=by lia
   refine codeAny_builtin F.entry_set_update_loop ?_
   rw [Around.under_plainId F.plain_set_update_loop _]
   show wpAny _ A.in1 (pyNext (.ref I) >>= _) _ _ s
   refine wpAny_bind (W.item i s _ _ hlt hst fun v s' hP hst' hm=>?_)
   have ev:=hvv i v hP
   obtain ⟨b,rfl,bz,hb⟩:=hval i v hP
   obtain ⟨o,es,ep,t,ho,hex,hd,T,Gg⟩:=hS
   have old':Old h0 s'.heap z:=fun c o hc e=>hm.heap c o (fun z'=>by have:=hwr c z';lia) (hold c o hc e)
   have ho':=hm.heap S _ hSw ho
   have T':Tbl prog w z s'.heap (Dk key i) es t i:=⟨T.size,T.place,T.nodum,T.two,T.room,fun e he=>by
    obtain ⟨ks,k1,c,e1,lt,o2,items,m,ho2,r⟩:=T.of e he;exact ⟨ks,k1,c,e1,lt,o2,items,m,hm.heap c o2 (fun z'=>absurd lt (Nat.not_lt.mpr (hwr c z'))) ho2,r⟩⟩
   have hk':=TK.old hb bz old'
   have nw:key i∉Dk key i:=fun z'=>by
    obtain ⟨j,h1,h2⟩:=t8 z';exact inj j i h1 hlt h2.symm
   show wpAny _ A.in1 (holding [Value.ref b] (setAdd S (.ref b)) >>= _) _ _ s'
   refine wpAny_bind (wpAny_holding ?_)
   unfold setAdd
   refine wpAny_holding (wpAny_bind (wpAny_pyHash_tuple (knd:=intKind prog w) hu hk' ?_))
   refine add (s:={ s' with toks:=s'.toks+((key i).length+1) }) bz hu ho' hex hd T' hk' nw (by lia) Gg fun h' o' es' ep' t' g1 g2 g3 T2 G2 sb=>?_
   have same:∀ c,c≠S->h'.get? c=s'.heap.get? c:=fun c hc=>sb.2 c hc
   have oldn:Old h0 h' z:=fun c o hc e=>by
    rw [same c (fun z'=>by subst z';lia)];exact old' c o hc e
   refine wpAny_pure ⟨plainId_quiet F.plain_set_update_loop _,ih (i+1) _ (by lia) hlt (W.frame _ s' _ _ hst' (zK2 _ _) fun c hc o e=>?_) oldn ⟨o',es',ep',t',g1,g2,g3,T2,by rw [ev] at G2;exact G2⟩ fun s'' hm'' hV'' hS''=>?_⟩
   · rw [same c fun z'=>hSf (z'▸hc)];exact e
   · refine hR s'' (Moved.trans W.gtrans ((hm.mono hsub).then_heap (zK2 _ _) fun c o hc e=>?_) hm'') hV'' hS'';rw [same c fun z'=>hc (z'▸zA7)];exact e
end
end STB
namespace L2
open PySem PySem.Spec PyProof.Rows
section
variable {X:Cx}
variable {e:Expr} {es:List Expr} {t:TA} {p pos:Pos}
theorem sd:bootBuiltins "set" = some (.type "set"):=by decide +kernel
end
end L2
namespace STB
open PySem SetTable PyProof.Rows
abbrev nS (q:Bool):Obj:={ cls:=.type "set",dict:=none,data:=.set #[] 0 (.fresh 0 0 q) }
def HasN (h:Heap) (a:Addr) (n:Nat):Prop:=∃ o es ep t,h.get? a=some o/\o.ExactSet/\o.data=.set es ep t/\t.fits es.size=true/\es.size=n
theorem new_gd {w:World}:Gd w #[] (.fresh 0 0 (!bt w)) []:=⟨.nil,rfl,rfl,.nil⟩
theorem vO {prog:Program} {w:World} {z:Nat} {h:Heap} (q:Bool):Tbl prog w z h [] #[] (.fresh 0 0 q) 0:=
 ⟨rfl,rfl,rfl,⟨2,rfl⟩,by show 0*5<7*3;decide,fun e he=>by cases he⟩
theorem HasV.n {w:World} {h:Heap} {a vs n} (x:HasV w h a vs) (e:vs.length=n):HasN h a n:=by
 obtain ⟨es,ep,t,⟨o,ho,hx,hd⟩,hf,G⟩:=x;exact ⟨o,es,ep,t,ho,hx,hd,hf,by rw [← e,← G.perm.length_eq,zA0,zB1]⟩
section
variable {prog:Program} {w:World} {A:Around} {E:Value->Shared->Prop} {s:Shared}
theorem qk (a:Value) {Q:.(14)} (h:Q .(21) { s with heap:=s.heap.push (nS (!bt w)) }) :
 codeAny .(9) A (.call (.builtin "set.__new__") ⟨[.type "set",a],[]⟩) (wants Q E) s:=by
 refine codeAny_of_tree ?_;refine wpAny_bind (wpAny_of_eq (F.newCall_set_1 a) (wpAny_pure ⟨plainId_quiet F.plain_set_new _,codeAny_builtin F.entry_set_new ?_⟩));rw [Around.under_plainId F.plain_set_new _];unfold Builtin.«set.__new__» Builtin.Frozenset.newClass;have sb:=sub_set_self;obtain ⟨hp,g,d,tk,os⟩:=s;dsimp only;wp_walk;refine wpAny_askSetting (wpAny_pure ?_);dsimp only;simp only [newObj];refine wpAny_bind (wpAny_alloc (wpAny_pure ?_));exact wpAny_pure h
def LP (prog:Program) (w:World) (A:Around) (s:Shared) (l:Addr) (its:Array Value) (VS:Heap->Prop):Prop:=
 ∀ (B:Around) (I:Addr) (s1:Shared) (R:Result->Shared->Prop) (St:Nat->Shared->Prop),B.in1.units<A.units+8->s.heap.objs.size∉[I,l]->s.heap.objs.size<=I ->
   Old s.heap s1.heap s.heap.objs.size->s1.heap.get? s.heap.objs.size=some (nS (!bt w))->WalksS prog w B.in1 I [I,l] [I] (fun a b=>b=a) its.size (fun i v=>its[i]? = some v) St->St 0 s1 ->
   (∀ s',Moved [s.heap.objs.size,I] (fun a b=>b=a) s1 s'->VS s'.heap->R (.ok (.ret .none)) s')->codeAny .(9) B (.builtin "set.update.loop" ⟨[.ref s.heap.objs.size,.ref I],[]⟩) R s1
set_option maxHeartbeats 6400000 in
theorem gj {l:Addr} {its:Array Value} {VS:Heap->Prop} {Q:.(14)} (hh:A.handled=none) (hl:s.heap.IsList l its) (lp:LP prog w A s l its VS)
 (h:∀ (h2:Heap) (k2:Nat),VS h2->(∀ b o,b<s.heap.objs.size->s.heap.get? b=some o->h2.get? b=some o)->Q .(21) { s with heap:=h2,toks:=k2 }) :
 wpAny .(9) A (call (.type "set") [.ref l]) Q E s:=by
 obtain ⟨c,tl,mro⟩:=F.called_set.mro;have m1:=F.called_set.made;have m2:=F.called_set.sub;refine wpAny_call (codeAny_of_tree ?_);show wpAny _ _ (callAny (.type "set") _) _ _ _;refine wpAny_pure ⟨Code.quiet_builtin _ (by decide +kernel),codeAny_builtin F.entry_type_call ?_⟩;rw [Around.under_plain (weight_type_call_type "set" [.ref l] []) rfl];have m3:=F.called_set.notType;have m4:=F.called_set.canCreate;have m5:=F.typeCall_set_1 (.ref l);repeat (any_goals (first | assumption | wp_step))
 refine codeAny_mono (qk (.ref l) (E:=E) (Q:=fun ob s1=>ob=.ref s.heap.objs.size/\s1={ s with heap:=s.heap.push (nS (!bt w)) }) ⟨rfl,rfl⟩) fun r s1 hr=>?_;generalize hq:(!bt w)=q at hr
 cases r with
 | error e=>exact hr
 | ok fl=>
   cases fl with
   | ret ob=>
     obtain ⟨rfl,rfl⟩:=hr
     have gS:(s.heap.push (nS q)).get? s.heap.objs.size=some (nS q):=Heap.get?_push_size _ rfl
     have tS:Shared.TypeIs { s with heap:=s.heap.push (nS q) } .(21) "set":=⟨_,gS,rfl⟩
     have m6:=F.called_set.init.lookup
     have m7:=F.called_set.init.bind .(21)
     repeat (any_goals (first | assumption | wp_step))
     refine codeAny_mono (codeAny_call_builtin (R:=wants (fun r s2=>r=.none/\∃ h2 k2,s2={ s with heap:=h2,toks:=k2 }/\VS h2 /\
      (∀ b o,b<s.heap.objs.size->s.heap.get? b=some o->h2.get? b=some o)) E) F.called_set.init.plain F.entry_set_init (check_set_init_1 tS ?_)) fun r2 s2 hr2=>?_
     · obtain ⟨ol,g1,c1,nl,d1⟩:=hl;obtain ⟨oc,od,oda,osl⟩:=ol;simp only at c1 d1;subst c1;subst d1;have g2:(s.heap.push (nS q)).get? l=some { cls:=.type "list",dict:=od,data:=.seq its nl,slots:=osl }:=Heap.get?_push_of_some _ g1;have b1:=F.sub_list_set;have b2:=F.sub_list_frozenset;have b3:(Value.type "list" == Value.type "dict")=false:=by decide
       have l1:(s.heap.push (nS q)).IsList l its:=⟨_,g2,rfl,nl,rfl⟩
       unfold Builtin.«set.__init__» noKeywords Builtin.Frozenset.updateFrom;generalize hPI:pyIter=PI;wp_walk;subst hPI;refine wpAny_pyIter_list l1 ?_;refine wpAny_bind (wpAny_runValue ?_);have lS:l<s.heap.objs.size:=Heap.lt_size g1;have h3:A.in1.in1.in1.handled=none:=by simp [hh]
       have nI:l≠(s.heap.push (nS q)).objs.size:=by
        rw [Heap.size_push];exact zC3 (zH3 lS)
       have Sf:s.heap.objs.size∉[(s.heap.push (nS q)).objs.size,l]:=by
        rw [Heap.size_push];simp only [zB0,zC6,zF9,or_false,not_or];exact ⟨zC3 (zF6 _),Nat.ne_of_gt lS⟩
       have olds:Old s.heap ((s.heap.push (nS q)).push { cls:=.type "list_iterator",data:=.fields #[.ref l,.int 0 0] }) s.heap.objs.size:=fun b o _ e=>Heap.get?_push_of_some _ (Heap.get?_push_of_some _ e);refine lp _ _ _ _ _ ?un Sf ?wr olds (by rw [hq];exact Heap.get?_push_of_some _ gS) ((Walks.list h3 _ l nI its).toS) ⟨⟨_,Heap.get?_push_size _ rfl,rfl,rfl⟩,(l1.push _)⟩ ?fin
       case wr=>
        rw [Heap.size_push]
        exact Nat.le_succ _
       case un=>simp only [Around.in1_units];lia
       case fin=>
        intro s3 mv hS3
        obtain ⟨h2,ge,dr,k2,os⟩:=s3
        have eg:ge=s.gens:=mv.gens
        have ed:dr=s.drawn:=mv.drawn
        have eo:os=s.os:=mv.os
        subst eg;subst ed;subst eo
        show wpAny _ _ _ _ _ _
        refine wpAny_pure ?_
        show wpAny _ _ (ret Value.none) _ _ _
        refine wpAny_pure ⟨rfl,h2,k2,rfl,hS3,fun b o lt e=>?_⟩
        have n1:b≠s.heap.objs.size:=zC3 lt
        have n2:b≠(s.heap.push (nS q)).objs.size:=by
         rw [Heap.size_push];exact zC3 (zH3 lt)
        exact mv.heap b o (by simp only [zB0,zC6,zF9,or_false,not_or];exact ⟨n1,n2⟩) (Heap.get?_push_of_some _ (Heap.get?_push_of_some _ e))
     · cases r2 with
       | error e=>exact hr2
       | ok f2=>
         cases f2 with
         | ret r=>
           obtain ⟨rfl,h2,k2,rfl,hS2,hk2⟩:=hr2
           repeat (any_goals (first | assumption | wp_step))
           exact h _ _ hS2 hk2
         | next=>exact hr2.elim
         | brk=>exact hr2.elim
         | cont=>exact hr2.elim
   | next=>exact hr.elim
   | brk=>exact hr.elim
   | cont=>exact hr.elim
theorem lp_tup {l:Addr} {its:Array Value} (key:Nat->List Int) (hu:A.units+8<cLine) (hi:∀ (i:Nat) v,its[i]? = some v->∃ b,v=.ref b/\b<s.heap.objs.size/\TK prog w s.heap (key i) b) (inj:∀ i j,i<j->j<its.size->key i≠key j) (hb:its.size<=6000) :
 LP prog w A s l its (fun h=>HasV w h s.heap.objs.size its.toList):=by
 intro B I s1 R St un Sf le olds gS W st fin;refine qm W s.heap.objs.size Sf (h0:=s.heap) (z:=s.heap.objs.size) (zA1 _) (fun b hb'=>by rw [zC6.mp hb'];exact le) key (fun j=>its.toList.getD j .none) (fun i v hv=>?_) (fun i v hv=>hi i v hv) inj hb (by lia) (its.size - 0) 0 _ (by lia) (zC5 _)
  st olds ⟨nS (!bt w),#[],0,_,gS,⟨rfl,rfl,rfl⟩,rfl,vO _,new_gd⟩ fun s' mv hV _=>fin s' mv (hV.perm ?_)
 · rw [zA2,Array.getElem?_toList,hv];rfl
 · have:=wJ its.toList;rw [zB1] at this;exact this
theorem set_of_list {l:Addr} {its:Array Value} {Q:.(14)} (key:Nat->List Int) (hu:A.units+8<cLine)
 (hh:A.handled=none) (hl:s.heap.IsList l its) (hi:∀ (i:Nat) v,its[i]? = some v->∃ b,v=.ref b/\b<s.heap.objs.size/\TK prog w s.heap (key i) b) (inj:∀ i j,i<j->j<its.size->key i≠key j) (hb:its.size<=6000)
 (h:∀ (h2:Heap) (k2:Nat),HasN h2 s.heap.objs.size its.size->(∀ b o,b<s.heap.objs.size->s.heap.get? b=some o->h2.get? b=some o)->Q .(21) { s with heap:=h2,toks:=k2 }) :
 wpAny .(9) A (call (.type "set") [.ref l]) Q E s:=
 gj hh hl (lp_tup key hu hi inj hb) fun h2 k2 v o=>h h2 k2 (v.n (zB1)) o
end
end STB
namespace L2
open PySem PySem.Spec PyProof.Rows
theorem j6 {prog:Program} {w:World}:∀ {its:List Value} {ns:List Int},IntsAre its ns->ItemsAre (intKind prog w) ns its
 | _,_,.nil=>.nil
 | _,_,.cons n t h=>.cons (intKind_is _ _ _ _) (j6 h)
section
variable {X:Cx}
def qy:List V->Hp->VK->Prop:=fun vs H Q=>match vs with
 | [.ref l]=>∃ (us:List V) (lss:List (List Int)),H l=some (.lst us)/\Tps H us lss/\lss.Nodup/\lss.length<=6000/\∀ p,H p=none->Q (.ref p) (upd H p (.ext fun h=>STB.HasN h p lss.length))
 | _=>False
theorem oT (hu:X.A.units+64<cLine) (hc:X.calm=true):CallR X (.type "set") qy:=by
 sleep 5;unfold qy at h;split at h
 · rename_i l
   obtain ⟨vs,lss,hl,tp,nd,hn,q⟩:=h;sleep 25
   cases rx
   obtain ⟨its,n,r',ho,hz⟩:=I.lst hl;have e1:=tp.length;have e2:its.length=lss.length:=by rw [← r'.length];exact e1
   refine STB.set_of_list (its:=its.toArray) (fun i=>lss.getD i []) (by lia) (I.ok.hd hc) ⟨_,ho,rfl,n,rfl⟩ ?_ ?_ (by rw [zA8];lia) fun h2 k2 hS hk=>?_
   · intro i v hv;rw [List.getElem?_toArray] at hv;have il:i<vs.length:=by rw [r'.length];exact (List.getElem?_eq_some_iff.mp hv).1
     obtain ⟨ls,b,els,eb,hb⟩:=tp.get (List.getElem?_eq_getElem il);obtain ⟨u,eu,ru⟩:=Vals.get r' (List.getElem?_eq_getElem il);rw [eu] at hv
     cases hv
     rw [eb] at ru
     cases ru
     obtain ⟨ts,rv,pl,_⟩:=I.tuple (SqT.of (K:=X.K) hb);obtain ⟨o,g1,g2,m,g3⟩:=id pl;refine ⟨b,rfl,Heap.lt_size g1,o,ts.toArray,m,g1,g2,g3,?_⟩;have:lss.getD i []=ls:=by rw [zA2,els];rfl
     show ItemsAre _ (lss.getD i []) ts.toArray.toList;rw [this];exact j6 (dI rv)
   · intro i j hij hj;rw [zA8,e2] at hj;show lss.getD i []≠lss.getD j [];rw [zA2,zA2,List.getElem?_eq_getElem hj,List.getElem?_eq_getElem (Nat.lt_trans hij hj)];exact fun z=>by
      have:=(List.getElem?_inj (Nat.lt_trans hij hj) nd).mp (by rw [List.getElem?_eq_getElem hj,List.getElem?_eq_getElem (Nat.lt_trans hij hj)];exact congrArg some z);lia
   · have hS:STB.HasN h2 s.heap.objs.size lss.length:=by
      have e3:its.toArray.size=lss.length:=by rw [zA8];exact e2
      rw [e3] at hS;exact hS
     have I2:Inv X pins σ (upd H s.heap.objs.size (.ext fun h=>STB.HasN h s.heap.objs.size lss.length)) { s with heap:=h2,toks:=k2 }:=
      I.laid (t':=k2) (fun b o e=>hk b o .(44) e) (zA1 _) (show ObjOk X.prog X.w _ _ _ (.ext fun h=>STB.HasN h s.heap.objs.size lss.length) from ⟨hS,by obtain ⟨o,_,_,_,e,_⟩:=hS;exact ⟨o,e⟩,fun h1 h3 ⟨o,es,ep,t,e,r⟩ k=>⟨o,es,ep,t,k o e,r⟩⟩)
     exact ⟨.ref s.heap.objs.size,_,I2,rfl,q _ .(69)⟩
 · exact h.elim
def qE:List V->Hp->VK->Prop:=fun vs H Q=>match vs with
 | [.ref p]=>∃ n,H p=some (.ext fun h=>STB.HasN h p n)/\n<10000/\Q (.int n) H
 | _=>False
theorem o4:CallR X (.builtin "len") qE:=by
 sleep 5;unfold qE at h;split at h
 · rename_i p
   obtain ⟨n,hp,hn,q⟩:=h;sleep 25
   cases rx
   obtain ⟨⟨o,es,ep,t,ho,hex,hd,hf,hes⟩,_⟩:=I.hok p _ hp;subst hes;exact call_len_set ho hex hd hf (by lia) ⟨.int es.size,H,I.tok _,⟨_,rfl⟩,q⟩
 · exact h.elim
variable {e:Expr} {es:List Expr} {t:TA} {p pos:Pos}
theorem qS (hu:X.A.units+64<cLine) (hc:X.calm=true) (hg:Gl X "set") (hm:X.mg "set" = none) (ha:PA X (e::es) t) (he:.(1)) (hpl:.(2)) :
 PE X (.Call (.Name "set" p) (e::es) [] pos) (tCB qy t):=bH (oT hu hc) hg hm sd ha (by decide) (by decide) he hpl
theorem pS (hu:X.A.units+64<cLine) (hc:X.calm=true) (hg:Gl X "set") (hm:X.mg "set" = none) (ha:ZA X (e::es) t) (he:.(1)) (hpl:.(2)) :
 ZE X (.Call (.Name "set" p) (e::es) [] pos) (tCB qy t):=by with_unfolding_all exact qS hu hc hg hm ha he hpl
theorem qU (hg:Gl X "len") (hm:X.mg "len" = none) (ha:PA X (e::es) t) (he:.(1)) (hpl:.(2)) :
 PE X .(38) (tCB qE t):=bp o4 hg hm PySem.boot_len ha (by decide) (by decide) he hpl
theorem pV (hg:Gl X "len") (hm:X.mg "len" = none) (ha:ZA X (e::es) t) (he:.(1)) (hpl:.(2)) :
 ZE X .(38) (tCB qE t):=by with_unfolding_all exact qU hg hm ha he hpl
end
end L2
namespace K79
open PySem L2 M39 M40 M43 M48 M47 M81 M41
theorem tE:∀ {l:List Int},l≠[]->∃ M∈l,∀ n∈l,M<=n
 | [],h=>absurd rfl h
 | [a],_=>⟨a,zA7,fun n hn=>by rw [zC6.mp hn];exact zF1 _⟩
 | a::b::l,_=>by
   obtain ⟨M,hM,h⟩:=tE (l:=b::l) (by simp);by_cases c:a<=M
   · refine ⟨a,zA7,fun n hn=>?_⟩;rcases zB0.mp hn with rfl | hn
     · exact zF1 _
     · exact zE8 c (h n hn)
   · refine ⟨M,zA9 _ hM,fun n hn=>?_⟩;rcases zB0.mp hn with rfl | hn
     · lia
     · exact h n hn
theorem Fit.turn {t:Nat} {ns:List Int} (h3:T3 t) (h:Fit t ns):∃ ms,Trn t ns ms:=by
 sleep 3;obtain ⟨m1,m2,m3,m4,m5⟩:=h.moved h3;obtain ⟨M,hM,hle⟩:=tE (l:=vby t .(41)) (fun z=>by rw [z] at m1;simp at m1;lia);obtain ⟨hc,_,_⟩:=K79H.cor_of (by rw [m1];lia) (by rw [m1];lia) m2 m4 hM hle;have hv:=hc.vec_;have hx:=hc.fix_;rw [m1] at hv hx;exact ⟨_,sH h3 h (cs:=pt (aE t fun r=>(-M+nf (vby t .(41)) r).toNat)) hv hx (by have:=hc.sum_;rw [m1] at this;exact this) fun r _=>nh ns t r⟩
theorem Trn.inj {t:Nat} {x y z:List Int} (h3:T3 t) (hx:Fit t x) (hy:Fit t y) (a:Trn t x z) (b:Trn t y z):x=y:=by
 refine home (cu h3) hx.prt hy.prt ?_ fun r hr=>(a.quo_ r hr).symm.trans (b.quo_ r hr);rw [← (hx.frame h3).2.2,← (hy.frame h3).2.2];refine eG fun j hj=>?_;have e:=congrArg (fun l=>nf l ((j+1) % t)) (a.frm_.symm.trans b.frm_);have hm:(j+1) % t<t:=Nat.mod_lt _ (cu h3);simp only [im _ hm,mv] at e;have ej:((j+1) % t+t - 1) % t=j:=by rcases h3 with rfl | rfl | rfl <;> lia
 rwa [ej] at e
def tn (t:Nat) (ns:List Int):List Int:=open Classical in if h:∃ ms,Trn t ns ms then h.choose else ns
theorem p8 {t:Nat} {ns:List Int} (h3:T3 t) (h:Fit t ns):Trn t ns (tn t ns):=by
 unfold tn;rw [dif_pos (h.turn h3)];exact (h.turn h3).choose_spec
theorem dQ {t n:Nat} (hn:n<=300) (hc:(n:Int) % (t:Int)=cw t) {p:List Int} (h:p∈M51.AL n n):Fit t p:=by
 obtain ⟨h1,h2,e⟩:=M51.al_iff.mp h;exact ⟨⟨h1,h2⟩,by rw [e];lia,by rw [e];exact hc⟩
theorem al_of {n:Nat} {p:List Int} (h:M81.Prt p) (e:p.sum=(n:Int)):p∈M51.AL n n:=M51.al_iff.mpr ⟨h.1,h.2,e⟩
theorem tT {n:Nat} {p:List Int} (h:p∈M51.AL n n):p.sum=(n:Int):=(M51.al_iff.mp h).2.2
def shn (t:Nat) (x:List Int):Nat:=(shr x t).toNat
theorem sM {t:Nat} (h3:T3 t) (x:List Int):shn t x<t:=by
 have:=gi h3 x;unfold shn;lia
theorem evenly {t n:Nat} (h3:T3 t) (hn:n<=300) (hc:(n:Int) % (t:Int)=cw t):(∀ j,j<t->M51.cs (M51.AL n n) (shn t) j=(M51.AL n n).length / t)/\(M51.AL n n).length % t=0:=by
 refine M51.even (f:=tn t) (cu h3) (M51.al_nd n) (fun x hx=>?_) (fun x hx y hy e=>?_) (fun x hx=>?_) fun x _=>sM h3 x
 · have tr:=p8 h3 (dQ hn hc hx);exact al_of tr.fit.prt (tr.sum_.trans (tT hx))
 · have a:=p8 h3 (dQ hn hc hx);have b:=p8 h3 (dQ hn hc hy);rw [← e] at b;exact Trn.inj h3 (dQ hn hc hx) (dQ hn hc hy) a b
 · have tr:=p8 h3 (dQ hn hc hx);have e:=tr.shr_ h3 (dQ hn hc hx);have l1:=gi h3 x;unfold shn;rw [e];sleep 36
def oft (t:Nat) (l:List (List Int)):List Int:=.(8).map fun (j:Nat)=>(M51.cs l (shn t) j:Int)
theorem vK (t:Nat):oft t []=List.replicate t 0:=by
 refine zD2 (by simp [oft]) fun i h1 h2=>?_;simp [oft,M51.cs]
theorem ja (t:Nat) (l:List (List Int)):(oft t l).length=t:=by simp [oft]
theorem jR {t j:Nat} (l:List (List Int)) (h:j<(oft t l).length):(oft t l)[j]=(M51.cs l (shn t) j:Int):=by simp [oft]
theorem ra {t:Nat} (l:List (List Int)) (x:List Int) (h:shn t x<(oft t l).length):(oft t l).set (shn t x) ((oft t l)[shn t x]+1)=oft t (l++[x]):=by
 rw [jR l h];refine zD2 (by rw [List.length_set,ja,ja]) fun i h1 h2=>?_;have e:M51.cs (l++[x]) (shn t) i=M51.cs l (shn t) i+if shn t x=i then 1 else 0:=by
  unfold M51.cs;rw [zG4,zA5];by_cases c:shn t x=i
  · simp [c]
  · simp [c]
 rw [List.getElem_set,jR (l++[x]),e];by_cases c:shn t x=i
 · subst c;rw [if_pos rfl,if_pos rfl];lia
 · rw [if_neg c,if_neg c,jR];lia
theorem jH:∀ n:Nat,(List.replicate n (1:Int)).sum=n
 | 0=>rfl
 | n+1=>by rw [zG9,zB4,jH n];lia
theorem al_pos (n:Nat):0<(M51.AL n n).length:=List.length_pos_of_mem (a:=List.replicate n (1:Int)) (M51.al_iff.mpr ⟨fun x hx=>by rw [List.eq_of_mem_replicate hx];decide,List.pairwise_replicate.mpr (.inr (zF1 _)),jH n⟩)
theorem vL {t n:Nat} (h:∀ j,j<t->M51.cs (M51.AL n n) (shn t) j=(M51.AL n n).length / t):oft t (M51.AL n n)=List.replicate t (((M51.AL n n).length / t:Nat):Int):=by
 refine zD2 (by simp [oft]) fun i h1 h2=>?_;rw [jR,List.getElem_replicate,h i (by simpa [oft] using h1)]
section
variable {P:Program} {w:World} {K:PySem.W.Frag} {mg:Str->Option Value} {base:Heap} {f:Addr} {fd:FuncData}
theorem sc_weight:FnScope ["parting"] ["parting"] (ag (top 48)):=.(0)
def eL:Sp:=fun vs H Q _=>∃ (a:Addr) (ns:List Int),vs=[.ref a]/\H a=some (.tup .(27))/\Q (.int ns.sum) H
theorem nK (F:Fun K "weight" "weight" (top 48) f fd) (m_sum:mg "sum" = none):FnOk P w K mg base CX0 1 f fd ["parting"] eL:=by
 refine F.okz sc_weight .(16) .(3)
 · obtain ⟨a,ns,rfl,_⟩:=h;rfl
 obtain ⟨a,ns,rfl,ha,q⟩:=h;have nd:=sc_weight.nd;refine ⟨_,(ai (aH (dB rfl rfl m_sum .(50) rfl rfl))),?_⟩;exact ⟨ns,.inr ha,q⟩
theorem sc_rr:FnScope ["_law_t","_law_parting","_law_n","_law_met","_law_here","_law_first","_law_turn"] ["_law_t","_law_parting","_law_n"] (ag (top 60)):=.(0)
def uD:Sp:=fun vs H Q _=>∃ (a:Addr) (ns:List Int) (t n:Nat),vs=[.int t,.ref a,.int n]/\H a=some (.tup .(27))/\T3 t/\Fit t ns/\ns.sum=(n:Int)/\∀ H',Same H H'->Q (.bl true) H'
def Orb (t:Nat) (ns:List Int) (mss:List (List Int)):Prop:=∀ i (h:i<mss.length),Went t i ns mss[i]
theorem Orb.nd {t:Nat} {ns:List Int} {mss:List (List Int)} (h3:T3 t) (h:Orb t ns mss) (hl:mss.length=t):mss.Nodup:=by
 refine zF2.mpr fun i j hi hj hij=>?_;exact ug h3 (h i hi) (h j hj) hij (by lia)
theorem ok_rr (F:Fun K "_law_round_right" "_law_round_right" (top 60) f fd) (m_len:.(79)) (m_range:.(81)) (m_set:mg "set" = none) (F_share:FnA P w K mg base "share" 8 ["t","parting"] qg) (F_turned_on:FnA P w K mg base "turned_on" 8 ["t","parting"] uA) (F_weight:FnA P w K mg base "weight" 1 ["parting"] eL):FnOk P w K mg base CX0 9 f fd ["_law_t","_law_parting","_law_n"] uD:=by
 refine F.okz sc_rr .(16) .(3)
 · obtain ⟨a,ns,t,n,rfl,_⟩:=h;rfl
 obtain ⟨a,ns,t,n,rfl,ha,h3,hf,hs,q⟩:=h;have nd:=sc_rr.nd;have hu:=hr.units;have hu1:=hu_of hr;sleep 3;refine ⟨_,(ah (ua (i:=3) (j:=4) (k:=5) rfl nd rfl rfl rfl (by decide) (by decide) (by decide) rfl rfl rfl (aa (bP af) (aa (zn 1) (aa (az F_share hr (by decide) rfl .(31)) af))) rfl)
  (ah (bE PassesOwn.never rfl (bO rfl m_range .(50)) (aj (i:=6) nd rfl .(12)) (ah (dR (ZW.zt (t9 (aR (eZ hu) (az F_weight hr (by decide) rfl (aa (zn 4) af)) (zn 2) (aJ _)) (lK (aR (eZ hu) (az F_share hr (by decide) rfl (aa (zn 0) (aa (zn 4) af))) (ax bn (ax aG (zn 5) (zn 6)) (zn 0)) (aJ _))))) (ai (aH lP)) bA)
  (ah (dA (bN (zn 3) (aa (zn 4) af)))
  (ai (ay (i:=4) nd rfl .(12) (az F_turned_on hr (by decide) rfl (aa (zn 0) (aa (zn 4) af))))))))
  (ai (aH (ud (iQ (bo hu) (zn 4) (zn 1) (aJ _)) (ze_one (iQ (bo hu) (pV rfl m_len (aa (pS hu rfl rfl m_set (aa (zn 3) af) rfl rfl) af) rfl rfl) (zn 0) (aJ _)))))))),?_⟩
 refine ⟨by show 0<=sizeLine;decide,fun L hL=>?_⟩;have yL:=Same.new hL (.lst []);have gL:upd H L (.lst []) L=some (.lst []):=ae;have ha1:=yL _ _ ha;generalize upd H L (.lst [])=H1 at yL gL ha1;refine ⟨a,ns,t,rfl,ha1,h3,hf,fun H2 y2=>?_⟩;have yy:=yL.trans y2;refine ⟨(t:Int),rfl,by lia,by lia,bI (fun i σ H'=>i<=t/\Same H H'/\∃ (us:List V) (mss:List (List Int)) (hd:Addr) (ms:List Int) (x6:Option V),H' L=some (.lst us)/\Tps H' us mss/\mss.length=i/\Orb t ns mss/\H' hd=some (.tup (ms.map V.int))/\Went t i ns ms/\σ=[some (.int t),some (.ref a),some (.int n),some (.ref L),some (.ref hd),some (.int (shr ns t)),x6]) ⟨zC5 _,yy,[],[],a,ns,_,y2 _ _ gL,.nil,rfl,fun i h=>absurd h (zG6 _),y2 _ _ ha1,Went.none_ h3 hf,rfl⟩ ?_ ?_⟩
 · rintro i σ H3 hi ⟨_,y3,us,mss,hd,ms,x6,hL3,tp,ml,orb,hhd,we,rfl⟩;have hit:i<t:=by rwa [zD9] at hi
   refine ⟨hd,ms,rfl,hhd,?_⟩;have es:ms.sum=(n:Int):=by rw [we.sum_,hs]
   refine iteB (fun c=>absurd c (by rw [es];simp)) (fun _=>?_);refine ⟨hd,ms,t,rfl,hhd,h3,we.fit,fun H4 y4=>?_⟩;refine ⟨show (0:Int)<(t:Int) by lia,?_⟩;have esh:shr ms t=(shr ns t+(0+(i:Int))) % (t:Int):=by rw [we.shr_,Int.zero_add]
   refine iteB (fun c=>absurd c (by show ¬ (!decide (V.int (shr ms t)=V.int ((shr ns t+(0+(i:Int))) % (t:Int))))=true;rw [decide_eq_true (congrArg V.int esh)];decide)) (fun _=>?_);have hL4:=y4 _ _ hL3;refine ⟨tyL hL4,_,hL4,ao (by rw [tp.length];lia),?_⟩;have hh4:=y4 _ _ hhd;have hdL:hd≠L:=fun z=>by rw [z,hL4] at hh4;cases hh4
   have tp5:Tps (upd H4 L (.lst (us++[.ref hd]))) (us++[.ref hd]) (mss++[ms]):=(Tps.snoc hh4 (tp.same y4)).updL hL4;have hL5:upd H4 L (.lst (us++[.ref hd])) L=some (.lst (us++[.ref hd])):=ae;have hh5:upd H4 L (.lst (us++[.ref hd])) hd=some (.tup (ms.map V.int)):=by rw [au hdL];exact hh4
   have y5:Same H (upd H4 L (.lst (us++[.ref hd]))):=Same.updN (y3.trans y4) hL;generalize upd H4 L (.lst (us++[.ref hd]))=H5 at tp5 hL5 hh5 y5;refine ⟨hd,ms,t,rfl,hh5,h3,we.fit,fun r H6 os y6 hr6 tr=>?_⟩;refine ⟨hit,y5.trans y6,us++[.ref hd],mss++[ms],r,os,_,y6 _ _ hL5,tp5.same y6,by rw [zA5,ml];rfl,fun j hj=>?_,hr6,we.step h3 tr,rfl⟩;rw [zA5] at hj;by_cases c:j<mss.length
   · rw [zF4 c];exact orb j c
   · have ej:j=i:=by have:[ms].length=1:=rfl;lia
     subst ej;rw [zF3 (by lia)];simp only [ml,Nat.sub_self,List.getElem_cons_zero];exact we
 · rintro σ H3 ⟨_,y3,us,mss,hd,ms,x6,hL3,tp,ml,orb,hhd,we,rfl⟩;rw [zD9] at we ml;have e:=we.home h3 hf;subst e;refine ⟨_,_,.ints hhd,.ints (y3 _ _ ha),aX _,aX _,?_⟩;rw [if_neg (by decide),eC (aX _)];refine ⟨us,mss,hL3,tp,orb.nd h3 ml,by lia,fun p hp=>?_⟩;refine ⟨mss.length,ae,by lia,?_⟩;show Q (.bl (decide (V.int (mss.length:Int)=V.int (t:Int)))) _;rw [ml,decide_eq_true rfl];exact q _ (y3.trans (Same.new hp _))
end
end K79
namespace K79
open PySem L2 M34 M51 M48
theorem fR {nv:List Str} {ix:List (Str×Nat)} {σ:L2.St} {H:Hp} {g:TG} {ti:TT} {te:TE} {Fin:.(88)} {lo c:Int} {n:Nat} (Pv:.(94)) (h0:Pv 0 [] H)
 (hs:∀ i ys H,i<n->Pv i ys H->ys.length<sizeLine/\g (.int (lo+i*c)) .(98) H fun σ2 H2=>ti σ2 H2 fun b H3=>if b=true then te σ2 H3 fun y H4=>Pv (i+1) (ys++[y]) H4 else Pv (i+1) ys H3)
 (hd:∀ ys H,Pv n ys H->Fin ys H):su nv ix g ti te σ (wW lo c n) Fin H:=by
 refine ⟨fun i m ys H=>m=n - i/\i<=n/\Pv i ys H,⟨n,by simp,zC5 _,h0⟩,?_⟩;rintro i m ys H ⟨rfl,hi,p⟩;by_cases hlt:i<n
 · refine .inr ⟨hlt,(hs i ys H hlt p).1,Pv (i+1),fun σ' H' p'=>⟨n - (i+1),by lia,rfl,hlt,p'⟩,fun x H' y=>?_⟩;obtain ⟨e',y⟩:=y;subst e' y;exact (hs i ys _ hlt p).2
 · have e:i=n:=by lia
   subst e;exact .inl ⟨zA1 _,hd ys H p⟩
def mlt (l t i:Nat):List Int:=(List.range i).map fun (k:Nat)=>(l:Int)+(k:Int)*(t:Int)
theorem fj (l t i:Nat):(mlt l t i).length=i:=by unfold mlt;rw [zA0,zC1]
theorem jW (l t i:Nat):mlt l t (i+1)=mlt l t i++[(l:Int)+(i:Int)*(t:Int)]:=by unfold mlt;rw [zB2,zA3];rfl
theorem oI {ws:List Int} {m:Nat} (h:ws.length=m+1):fG (ws.map V.int) (some (-1)) none=(ws.drop m).map V.int:=by
 unfold fG;have e:HT.sIx (ws.map V.int).length 0 (some (-1))=m:=by
  rw [zA0,h];unfold HT.sIx;dsimp only;rw [if_pos (by decide)];lia
 rw [HT.sIx_none,e,zA0,h,List.map_drop,zB8 (by rw [zD1,zA0];lia)]
def Good (t l:Nat) (ws:List Int):Prop:=0<ws.length/\ws.length<=10/\∀ x∈ws,∃ n:Nat,x=(n:Int)/\n<=26/\n % t=l
theorem good_a {t l:Nat} (h:.(97)):Good t l (mlt l t (Builtin.Range.rangeSize (l:Int) 20 (t:Int)).toNat):=by
 have go:∀ (t l:Nat) (ws:List Int),(decide (0<ws.length)&&decide (ws.length<=10)&&ws.all fun x=>decide (0<=x)&&decide (x.toNat<=26)&&decide (x.toNat % t=l))=true->Good t l ws:=fun t l ws h=>by
  simp only [zC8,decide_eq_true_eq,zI8] at h;exact ⟨h.1.1,h.1.2,fun x hx=>⟨x.toNat,by have:=(h.2 x hx).1.1;lia,(h.2 x hx).1.2,(h.2 x hx).2⟩⟩
 rcases h with ⟨rfl,rfl⟩ | ⟨rfl,rfl⟩ | ⟨rfl,rfl⟩ <;> exact go _ _ _ (by decide +kernel)
theorem good_b {t l:Nat} (h:.(97)):∃ m x,.(19).length=m+1/\.(19).drop m=[x]/\Good t l [x]:=by
 sleep 32
 · exact ⟨4,24,by decide +kernel,by decide +kernel,by decide,by decide,fun x hx=>⟨24,zC6.mp hx,by decide,by decide⟩⟩
 · exact ⟨3,26,by decide +kernel,by decide +kernel,by decide,by decide,fun x hx=>⟨26,zC6.mp hx,by decide,by decide⟩⟩
 · exact ⟨1,17,by decide +kernel,by decide +kernel,by decide,by decide,fun x hx=>⟨17,zC6.mp hx,by decide,by decide⟩⟩
def sB (b n:Nat):List (Int×Int):=if n<2 then [(if b=3 then rk (List.replicate n 1) else mk (List.replicate n 1),1)] else ((vals n).map fun v=>(v,tot b n v.natAbs)).filter fun q=>decide (0<q.2)
theorem nV:¬ ("mark" : Str)="rank":=by decide
theorem mF (n:Nat):pN "mark" n=sB 1 n:=by
 unfold pN sB v01 wb;rw [if_neg nV,if_neg nV];rfl
def cg (t n:Nat):Bool:=decide (bks t (sB 1 n)=List.replicate t (M16.dRow.getD n 0 / (t:Int)))
theorem cg_ok:(cg 5 4&&cg 5 9&&cg 5 14&&cg 5 19&&cg 5 24&&cg 7 5&&cg 7 12&&cg 7 19&&cg 7 26&&cg 11 6&&cg 11 17)=true:=by decide +kernel
theorem iZ {t l n:Nat} (h:.(97)) (hn:n<=26) (hl:n % t=l):bks t (pN "mark" n)=List.replicate t (M16.dRow.getD n 0 / (t:Int)):=by
 have c:=cg_ok;simp only [zC8] at c;rw [mF];have key:cg t n=true:=by
  sleep 32
  · have:n=4\/n=9\/n=14\/n=19\/n=24:=by lia
    rcases this with rfl | rfl | rfl | rfl | rfl <;> simp only [c]
  · have:n=5\/n=12\/n=19\/n=26:=by lia
    rcases this with rfl | rfl | rfl | rfl <;> simp only [c]
  · have:n=6\/n=17:=by lia
    rcases this with rfl | rfl <;> simp only [c]
 exact of_decide_eq_true key
theorem row30d:((List.range 31).all fun n=>decide (([1,1,2,3,5,7,11,15,22,30,42,56,77,101,135,176,231,297,385,490,627,792,1002,1255,1575,1958,2436,3010,3718,4565,5604]:List Int).getD n 0=M16.dRow.getD n 0))=true:=by decide +kernel
theorem al_row {n:Nat} (h:n<=30):((AL n n).length:Int)=M16.dRow.getD n 0:=by
 rw [al_len,M05.PB_asc n n n (zA1 n),zA0];have e:M63.Asc n n=M63.Asc 30 n:=(M63.asc_low h).symm;rw [e];unfold M63.Asc;rw [zJ9,M05.len_row h];exact of_decide_eq_true (zI8.mp row30d n (zA6.mpr (by lia)))
theorem R_row {n:Nat} (h:n<=600):MRow.R n n=M16.dRow.getD n 0:=by
 have e:=M31.rowA h;rw [← M31.R_PL] at e;have e1:(MRow.tb (MRow.R n) (n+1))[n]? = some (MRow.R n n):=MRow.tb_get (by lia);rw [e,List.getElem?_take,if_pos (by lia)] at e1;rw [zA2,e1];rfl
theorem rb {t:Nat} {a b:List (List Int)} (h:a.Perm b):oft t a=oft t b:=by
 unfold oft;refine zA4 fun j _=>?_;unfold M51.cs;rw [(h.filter _).length_eq]
theorem vS {t l n:Nat} (h:.(97)) (hn:n<=26) (hl:n % t=l):oft t (MP.PB n n)=List.replicate t (M16.dRow.getD n 0 / (t:Int)):=by
 rw [← rb (al_perm n n n (zA1 n))];have h3:T3 t:=by rcases h with h | h | h;exact .inl h.1;exact .inr (.inl h.1);exact .inr (.inr h.1)
 have hc:(n:Int) % (t:Int)=cw t:=by
  sleep 32
  · show (n:Int) % 5=4;lia
  · show (n:Int) % 7=5;lia
  · show (n:Int) % 11=6;lia
 rw [vL (evenly h3 (by lia) hc).1];congr 1;rw [← al_row (by lia)];exact Int.natCast_ediv _ _
theorem vZ {t l:Nat} (h:.(97)) (k:Nat):Hold (M16.dRow.take k) t l t:=by
 sleep 32
 · exact M31.known (c:=(5,4,5)) (by decide) k
 · exact M31.known (c:=(7,5,7)) (by decide) k
 · exact M31.known (c:=(11,6,11)) (by decide) k
end K79
namespace K79
open PySem L2 M39 M40 M43 M48 M47 M81 M41
theorem pick3 {w:Int} (h0:0<=w) (h1:w<3) (d1 d2 d3:Addr):∃ (t l:Nat) (dw:Addr),atI [V.ref d1,.ref d2,.ref d3] w=some (.ref dw)/\((t=5/\l=4)\/(t=7/\l=5)\/(t=11/\l=6))/\((dw=d1/\t=5/\l=4)\/(dw=d2/\t=7/\l=5)\/(dw=d3/\t=11/\l=6)):=by
 have:w=0\/w=1\/w=2:=by lia
 rcases this with rfl | rfl | rfl
 · exact ⟨5,4,d1,rfl,.inl ⟨rfl,rfl⟩,.inl ⟨rfl,rfl,rfl⟩⟩
 · exact ⟨7,5,d2,rfl,.inr (.inl ⟨rfl,rfl⟩),.inr (.inl ⟨rfl,rfl,rfl⟩)⟩
 · exact ⟨11,6,d3,rfl,.inr (.inr ⟨rfl,rfl⟩),.inr (.inr ⟨rfl,rfl,rfl⟩)⟩
theorem Hand.ne {H:Hp} {a b:Addr} (h:Hand H a) (hb:H b=none):b≠a:=fun z=>by
 obtain ⟨g,s,c,e,_⟩:=h;rw [z,e] at hb
 cases hb
theorem Tps.keep' {H H':Hp} {p:Addr} {xs:List V} (hp:H p=some (.lst xs)) (k:∀ b o,b≠p->H b=some o->H' b=some o):∀ {us T},Tps H us T->Tps H' us T
 | _,_,.nil=>.nil
 | _,_,.cons h r=>.cons (k _ _ (kW h hp (by intro z;cases z)) h) (Tps.keep' hp k r)
theorem Tps.step {H H':Hp} {p:Addr} (h:Hand H p) (st:Step p H H') {us T} (r:Tps H us T):Tps H' us T:=by
 obtain ⟨g,s,c,e,_⟩:=h;exact Tps.keep' e st.1 r
section
variable {P:Program} {w:World} {K:PySem.W.Frag} {mg:Str->Option Value} {base:Heap} {f:Addr} {fd:FuncData}
theorem sc_law:FnScope ["_law_script","_law_k","_law_hand_here","_law_t","_law_least","_law_some","_law_n","_law_told","_law_many","_law_parting","_law_left","_law_turn","_law_far","_law_row","_law_due"] ["_law_script"] (ag (top 61)):=.(0)
def jD (K:PySem.W.Frag):Sp:=fun vs H Q _=>∃ (a:Addr) (ns:List Int),vs=[.ref a]/\SqL K H a .(27)/\ns.length<=63/\∀ H',Q (.bl true) H'
theorem tl3 {α β γ:Type} {G:Prop} (F K:α->β->γ->Prop) (k:(∀ a b c,F a b c->K a b c)->G) (t:∀ a b c,F a b c->K a b c):G:=k t
theorem ok_law (F:Fun K "law" "law" (top 61) f fd) (m_len:.(79)) (m_list:mg "list" = none) (m_min:mg "min" = none) (m_range:.(81)) (m_tuple:.(99)) (F_law_hand:FnA P w K mg base "_law_hand" 1 ["_law_script","_law_k"] (iY K)) (F_law_round_right:FnA P w K mg base "_law_round_right" 9 ["_law_t","_law_parting","_law_n"] uD) (F_law_take:FnA P w K mg base "_law_take" 1 ["_law_hand_here","_law_many"] iV) (F_counts:FnA P w K mg base "counts" 4 ["kind","most"] cZ) (F_first_not:FnA P w K mg base "first_not" 1 ["row","claim"] dZ) (F_partings:FnA P w K mg base "partings" 32 ["n"] uF) (F_quotients:FnA P w K mg base "quotients" 2 ["row","claim"] uE) (F_share:FnA P w K mg base "share" 8 ["t","parting"] qg) (F_shares:FnA P w K mg base "shares" 6 ["which","n","t"] mH):FnOk P w K mg base CX0 33 f fd ["_law_script"] (jD K):=by
 refine F.okz sc_law .(16) .(3)
 · obtain ⟨a,ns,rfl,_⟩:=h;rfl
 obtain ⟨a,ns,rfl,hS,hl,q⟩:=h;have nd:=sc_law.nd;have hu:=hr.units;have hu1:=hu_of hr;refine ⟨_,(ah (bE PassesOwn.never rfl (bO rfl m_range (aa (ax aG am (lT rfl rfl m_min (aa am (aa (bK rfl m_len .(50) rfl rfl) af)) rfl rfl)) af)) (aj (i:=1) nd rfl .(12)) (ah (ay (i:=2) nd rfl .(12) (az F_law_hand hr (by decide) rfl .(31)))
  (ah (lN (cJ dz (bP (aa (bq (aa am (aa am af))) (aa (bq (aa am (aa am af))) (aa (bq (aa am (aa am af))) af)))) (az F_law_take hr (by decide) rfl (aa (zn 2) (aa am af))) .(33)) (cr rfl (aB (aj (i:=3) nd rfl (Or.inr rfl)) (aB (aj (i:=4) nd rfl .(12)) bB))))
  (ah (cC (i:=5) ["_law_n"] [] rfl nd rfl .(12) .(4) (gJ rfl m_range (aa (zn 4) (aa am (aa (zn 3) af)))) aQ (fun _ _ _ _=>aj (i:=0) (show List.Nodup (["_law_n"]:List Str) by decide +kernel) rfl .(12)) .(37) (fun _ _ _ _=>(zn 0)))
  (ah (dR (aR (bo hu) (az F_law_take hr (by decide) rfl (aa (zn 2) (aa am af))) am (aJ _)) (ai (ay (i:=5) nd rfl .(12) (cT sl_P (aV ["_law_n"] [] rfl .(4) (gJ rfl m_range (aa (zn 4) (aa am (aa (zn 3) af)))) aQ (fun _ _ _ _=>aj (i:=0) (show List.Nodup (["_law_n"]:List Str) by decide +kernel) rfl .(12)) .(37) (fun _ _ _ _=>(zn 0))) (eD (fU cV am)) eE))) bA)
  (ah (ay (i:=6) nd rfl .(12) (cJ dz (zn 5) (az F_law_take hr (by decide) rfl (aa (zn 2) (aa (bK rfl m_len (aa (zn 5) af) rfl rfl) af))) .(33)))
  (ah (ay (i:=7) nd rfl .(12) (az F_partings hr (by decide) rfl (aa (zn 6) af)))
  (ah (ay (i:=8) nd rfl .(12) (ax aI (bP (aa am af)) (zn 3)))
  (ah (bE PassesOwn.never rfl (dM (zn 7)) (aj (i:=9) nd rfl .(12)) (ah (ay (i:=10) nd rfl .(12) (az F_share hr (by decide) rfl (aa (zn 3) (aa (zn 9) af))))
  (ai (lN (ax aG (cJ dz (zn 8) (zn 10) .(33)) am) (zg_sub (zn 8) (zn 10) da)))))
  (ah (dR (ZW.zt (t9 (aR (eZ hu) (zn 8) (ax aI (bP (aa (ax bf (cJ dz (az F_counts hr (by decide) rfl (aa (bq (aa dN af)) (aa (zn 6) af))) (zn 6) .(33)) (zn 3)) af)) (zn 3)) (aJ _)) (lK (aR (eZ hu) (pU rfl m_list (aa (az F_shares hr (by decide) rfl (aa dN (aa (zn 6) (aa (zn 3) af)))) af) rfl rfl) (zn 8) (aJ _))))) (ai (aH lP)) bA)
  (ah (bE PassesOwn.never rfl (bO rfl m_range (aa am af)) (aj (i:=11) nd rfl .(12)) (ai (dR (sv (lL (az F_law_round_right hr (by decide) rfl (aa (zn 3) (aa (cJ dz (zn 7) (az F_law_take hr (by decide) rfl (aa (zn 2) (aa (bK rfl m_len (aa (zn 7) af) rfl rfl) af))) .(33)) (aa (zn 6) af)))))) (ai (aH lP)) bA)))
  (ah (ay (i:=12) nd rfl .(12) (az F_law_take hr (by decide) rfl (aa (zn 2) (aa (cJ dz (bP (aa am (aa am (aa am af)))) (az F_law_take hr (by decide) rfl (aa (zn 2) (aa am af))) .(33)) af))))
  (ah (ay (i:=13) nd rfl .(12) (az F_counts hr (by decide) rfl (aa (bq (aa dN af)) (aa (zn 12) af))))
  (ah (ay (i:=14) nd rfl .(12) (be rfl m_tuple (aa (aV ["_law_number"] [("_law_t",3)] rfl .(4) (dM (sC (zn 13) (zn 4) (zn 3))) aQ (fun _ _ _ _=>aj (i:=0) (show List.Nodup (["_law_number","_law_t"]:List Str) by decide +kernel) rfl .(12)) .(37) (fun _ _ _ _=>(ax bf (zn 0) (zn 1)))) af) rfl rfl))
  (ai (dR (ZW.zt (t9 (aR jQ (az F_first_not hr (by decide) rfl (aa (zn 13) (aa (bq (aa (zn 3) (aa (zn 4) (aa (zn 3) af)))) af))) sD (aJ _)) (lK (aR (eZ hu) (az F_quotients hr (by decide) rfl (aa (zn 13) (aa (bq (aa (zn 3) (aa (zn 4) (aa (zn 3) af)))) af))) (zn 14) (aJ _))))) (ai (aH lP)) bA))))))))))))))))
  (ai (aH lP))),?_⟩
 refine ⟨_,.inl hS,?_⟩;rw [zA0];have hm:0<=.(83)/\.(83)<=2:=by split <;> lia
 refine ⟨1+.(83),rfl,by lia,by lia,?_⟩;generalize .(83)=mn at hm;refine bI (fun i σ H'=>i<=3/\Same H H'/\∃ x1 x2 x3 x4 x5 x6 x7 x8 x9 x10 x11 x12 x13 x14,σ=[some (.ref a),x1,x2,x3,x4,x5,x6,x7,x8,x9,x10,x11,x12,x13,x14]) ⟨by decide,Same.refl _,_,_,_,_,_,_,_,_,_,_,_,_,_,_,rfl⟩ ?_ ?_
 · rintro i σ H0 hi ⟨_,y0,x1,x2,x3,x4,x5,x6,x7,x8,x9,x10,x11,x12,x13,x14,rfl⟩;have hi3:i+1<=3:=by lia
   refine ⟨a,0+(i:Int),ns,rfl,SqL.same y0 hS,by lia,by lia,fun p H1 hp y1 hh1=>?_⟩;have hpH:H p=none:=bY y0 hp;have z1:=y0.trans y1;have done:∀ (H5:Hp) (v2 v3 v4 v5 v6 v7 v8 v9 v10 v11 v12 v13 v14:Option V),(∀ b o,b≠p->H b=some o->H5 b=some o)->i+1<=3/\Same H H5/\∃ x1 x2 x3 x4 x5 x6 x7 x8 x9 x10 x11 x12 x13 x14,[some (V.ref a),some (.int (0+(i:Int))),v2,v3,v4,v5,v6,v7,v8,v9,v10,v11,v12,v13,v14]=[some (.ref a),x1,x2,x3,x4,x5,x6,x7,x8,x9,x10,x11,x12,x13,x14]:=fun H5 _ _ _ _ _ _ _ _ _ _ _ _ _ kk=>⟨hi3,fun b o e=>kk b o (fun z=>by rw [z,hpH] at e;cases e) e,_,_,_,_,_,_,_,_,_,_,_,_,_,_,rfl⟩
   have kk1:∀ b o,b≠p->H b=some o->H1 b=some o:=fun b o nb e=>z1 _ _ e;clear z1 y1;refine ⟨by show 2<=sizeLine;decide,fun d1 hd1=>?_⟩;have e1:upd H1 d1 (.tup [V.int 5,.int 4]) d1=some (.tup [V.int 5,.int 4]):=ae;have s1:=Step.of_same hh1 (Same.new hd1 (.tup [V.int 5,.int 4]));generalize upd H1 d1 (.tup [V.int 5,.int 4])=H2 at e1 s1;refine ⟨by show 2<=sizeLine;decide,fun d2 hd2=>?_⟩;have e2:upd H2 d2 (.tup [V.int 7,.int 5]) d2=some (.tup [V.int 7,.int 5]):=ae;have y2:=Same.new hd2 (.tup [V.int 7,.int 5]);have s2:=s1.same y2;replace e1:=y2 _ _ e1;generalize upd H2 d2 (.tup [V.int 7,.int 5])=H3 at e1 e2 s2;refine ⟨by show 2<=sizeLine;decide,fun d3 hd3=>?_⟩;have e3:upd H3 d3 (.tup [V.int 11,.int 6]) d3=some (.tup [V.int 11,.int 6]):=ae;have y3:=Same.new hd3 (.tup [V.int 11,.int 6]);have s3:=s2.same y3;replace e1:=y3 _ _ e1;replace e2:=y3 _ _ e2;generalize upd H3 d3 (.tup [V.int 11,.int 6])=H4 at e1 e2 e3 s3;refine ⟨by show 3<=sizeLine;decide,fun d4 hd4=>?_⟩;have d4p:d4≠p:=s3.2.ne hd4;have e4:upd H4 d4 (.lst [V.ref d1,.ref d2,.ref d3]) d4=some (.lst [V.ref d1,.ref d2,.ref d3]):=ae;have y4:=Same.new hd4 (.lst [V.ref d1,.ref d2,.ref d3]);have s4:=s3.same y4;replace e1:=y4 _ _ e1;replace e2:=y4 _ _ e2;replace e3:=y4 _ _ e3;generalize upd H4 d4 (.lst [V.ref d1,.ref d2,.ref d3])=H5 at e1 e2 e3 e4 s4;refine ⟨p,3,rfl,s4.2,by decide,by decide,fun w3 H6 w0 w1 s5=>?_⟩;obtain ⟨t,l,dw,edw,tlc,hdw⟩:=pick3 w0 w1 d1 d2 d3;have hw5:H5 dw=some (.tup [V.int (t:Int),.int (l:Int)]):=by
    rcases hdw with ⟨rfl,rfl,rfl⟩ | ⟨rfl,rfl,rfl⟩ | ⟨rfl,rfl,rfl⟩
    · exact e1
    · exact e2
    · exact e3
   have hw6:H6 dw=some (.tup [V.int (t:Int),.int (l:Int)]):=s5.tup s4.2 (xs:=[V.int (t:Int),.int (l:Int)]) hw5;refine ⟨_,.inl (SqL.of (s5.1 _ _ d4p e4)),.ref dw,edw,?_⟩;refine ⟨dw,_,rfl,SqT.of hw6,rfl,_,_,rfl,_,_,rfl,rfl,?_⟩;have s6:=s4.trans s5;clear s1 s2 s3 s4 s5 e1 e2 e3 e4 hdw hw5 hw6;have h3:T3 t:=by rcases tlc with h | h | h;exact .inl h.1;exact .inr (.inl h.1);exact .inr (.inr h.1)
   have tl:5<=t/\t<=11/\4<=l/\l<t:=by lia
   have ga:=good_a tlc;obtain ⟨m27,x27,gb1,gb2,gb3⟩:=good_b tlc;refine ⟨l,20,t,rfl,⟨by lia,.(40),M27.small_up (by lia) (by lia) (by lia) (by lia) (by lia) (by lia)⟩,?_⟩;refine fR (fun k ys H'=>H'=H6/\ys=(mlt l t k).map V.int) ⟨rfl,rfl⟩ ?_ ?_
   · rintro k ys H' hk ⟨rfl,rfl⟩;refine ⟨by rw [zA0,fj];exact ao (by have:=ga.2.1;rw [fj] at this;lia),?_⟩;refine ⟨rfl,?_⟩;rw [jW,zA3];rfl
   rintro ys H' ⟨rfl,rfl⟩ W hW;have hWp:W≠p:=s6.2.ne hW;have gW:upd H' W .(39) W=some .(39):=ae;have s7:=s6.same (Same.new hW .(39));generalize upd H' W .(39)=H7 at gW s7;generalize mlt l t (Builtin.Range.rangeSize (l:Int) 20 (t:Int)).toNat=wa at gW ga;refine ⟨p,8,rfl,s7.2,by decide,by decide,fun f8 H8 f0 f1 k8=>?_⟩;have gW8:=k8.1 _ _ hWp gW;have s8:=s7.trans k8;refine' tl3 (fun (H10:Hp) (W9:Addr) (ws:List Int)=>W9≠p/\H10 W9=some (.lst (ws.map V.int))/\Step p H1 H10/\Good t l ws) _ (fun tail=>?_) ?_;rotate_left
   · refine jf (fun _=>?_) (fun _=>?_)
     · refine ⟨l,27,t,rfl,⟨by lia,.(40),M27.small_up (by lia) (by lia) (by lia) (by lia) (by lia) (by lia)⟩,?_⟩
       have gbl:(Builtin.Range.rangeSize (l:Int) 27 (t:Int)).toNat<=1000:=by
        have e:=gb1;have e2:=congrArg List.length gb2;rw [fj] at e;rw [zD1,fj] at e2;rcases tlc with ⟨rfl,rfl⟩ | ⟨rfl,rfl⟩ | ⟨rfl,rfl⟩ <;> decide
       refine fR (fun k ys H'=>H'=H8/\ys=(mlt l t k).map V.int) ⟨rfl,rfl⟩ ?_ ?_
       · rintro k ys H' hk ⟨rfl,rfl⟩;refine ⟨by rw [zA0,fj];exact ao (by lia),?_⟩;refine ⟨rfl,?_⟩;rw [jW,zA3];rfl
       rintro ys H' ⟨rfl,rfl⟩ W2 hW2
       have gW2:upd H' W2 (.lst (.(19).map V.int)) W2=some (.lst (.(19).map V.int)):=ae
       have s9:=s8.same (Same.new hW2 (.lst (.(19).map V.int)))
       generalize upd H' W2 (.lst (.(19).map V.int))=H9 at gW2 s9
       refine ⟨1,rfl,-1,rfl,W2,rfl,.inr ⟨_,SqL.of gW2,fun W9 hW9=>?_⟩⟩
       have hWp9:W9≠p:=s9.2.ne hW9
       have gW9:upd H9 W9 (.lst (fG (.(19).map V.int) (some (-1)) none)) W9=some (.lst (([x27]:List Int).map V.int)):=by rw [ae,oI gb1,gb2]
       have s10:=s9.same (Same.new hW9 (.lst (fG (.(19).map V.int) (some (-1)) none)))
       generalize upd H9 W9 (.lst (fG (.(19).map V.int) (some (-1)) none))=H10 at gW9 s10
       have gw:=gb3
       generalize ([x27]:List Int)=ws at gW9 gw
       exact tail _ _ _ ⟨hWp9,gW9,s10,gw⟩
     · exact tail _ _ _ ⟨hWp,gW8,s8,ga⟩
   rintro H10 W9 ws ⟨hWp9,gW9,s10,gw⟩
   refine ⟨_,.inl (SqL.of gW9),?_⟩
   obtain ⟨gw1,gw2,gw3⟩:=gw
   refine ⟨p,(((ws.map V.int).length:Nat):Int),rfl,s10.2,by rw [zA0];lia,by rw [zA0];lia,fun r H11 r0 r1 k11=>?_⟩
   rw [zA0] at r1
   have hr:r.toNat<ws.length:=by lia
   refine ⟨_,.inl (SqL.of (k11.1 _ _ hWp9 gW9)),.int ws[r.toNat],bx (j:=r.toNat) (by lia) (fP hr),?_⟩
   obtain ⟨n,en,hn,hnl⟩:=gw3 _ (zC0 hr)
   rw [en]
   have s11:=s10.trans k11
   have hc:(n:Int) % (t:Int)=cw t:=by
    rcases tlc with ⟨rfl,rfl⟩ | ⟨rfl,rfl⟩ | ⟨rfl,rfl⟩
    · show (n:Int) % 5=4;lia
    · show (n:Int) % 7=5;lia
    · show (n:Int) % 11=6;lia
   refine ⟨n,rfl,by lia,fun T us H12 y12 hT tp=>?_⟩
   have s12:=s11.same y12
   have pbl:=M05.PB_len30 (n:=n) (m:=n) (by lia)
   have lus:=tp.length
   have fit:∀ x∈MP.PB n n,Fit t x/\x.sum=(n:Int):=fun x hx=>by
    have hx:=(M51.al_perm n n n (zA1 n)).mem_iff.mpr hx;exact ⟨dQ (by lia) hc hx,tT hx⟩
   have mi:=vS tlc hn hnl
   have si:=iZ tlc hn hnl
   have pos:0<(MP.PB n n).length:=by
    have:=al_pos n;rwa [M51.al_len] at this
   generalize MP.PB n n=pb at tp pbl lus fit mi pos
   refine ⟨by show 1<=sizeLine;decide,fun d0 hd0=>?_⟩
   have yd0:=Same.new hd0 .(96)
   refine ⟨.(40),.inl ⟨_,ae,cm (by show 1*(t:Int).toNat<=1000;lia),fun O hO=>?_⟩⟩
   rw [cc,zD9,← vK]
   have yO:=yd0.trans (Same.new hO (.lst ((oft t []).map V.int)))
   have gO:upd (upd H12 d0 .(96)) O (.lst ((oft t []).map V.int)) O=some (.lst ((oft t []).map V.int)):=ae
   have O12:=bY yd0 hO
   have Op:O≠p:=(s12.same yd0).2.ne hO
   generalize upd (upd H12 d0 .(96)) O (.lst ((oft t []).map V.int))=H13 at yO gO
   refine ⟨T,rfl,⟨_,SqT.of (yO _ _ hT)⟩,ox (xs:=us) (fun k σ H'=>k<=us.length/\Same H12 H'/\H' O=some (.lst ((oft t (pb.take k)).map V.int))/\∃ x9 x10,σ=[some (.ref a),some (.int (0+(i:Int))),some (.ref p),some (.int (t:Int)),some (.int (l:Int)),some (.ref W9),some (.int (n:Int)),some (.ref T),some (.ref O),x9,x10,x11,x12,x13,x14]) ⟨zC5 _,yO,gO,_,_,rfl⟩ ?_ ?_ ?_⟩
   · rintro k σ H' _ ⟨_,y,_⟩;exact SqT.of (y _ _ hT)
   · rintro k v σ H14 hv ⟨_,y14,hO14,x9',x10',rfl⟩;have hk:=(List.getElem?_eq_some_iff.mp hv).1;obtain ⟨x,b,hx,rfl,hb⟩:=tp.get hv;have hxm:=zH7 hx;obtain ⟨fx,sx⟩:=fit x hxm;have hb14:=y14 _ _ hb;have et:pb.take (k+1)=pb.take k++[x]:=by rw [zD3,hx];rfl
     rw [et];have sl:=gi h3 x;have es:shr x t=((shn t x:Nat):Int):=by unfold shn;lia
     have so:=sM h3 x;have soL:shn t x<(oft t (pb.take k)).length:=by rw [ja];exact so
     refine ⟨b,x,t,rfl,hb14,h3,fx,fun H15 y15=>?_⟩;rw [es];have hO15:=y15 _ _ hO14;refine ⟨_,.inl (SqL.of hO15),.int (oft t (pb.take k))[shn t x],bx (j:=shn t x) rfl (fP soL),?_⟩;refine ⟨O,_,_,shn t x,rfl,rfl,hO15,vV (by rw [zA0];exact soL),?_⟩;refine ⟨hk,Same.updN (y14.trans y15) O12,by rw [ae,← ra _ x soL,List.map_set],_,_,rfl⟩
   rintro σ H14 ⟨_,y14,hO14,x9',x10',rfl⟩
   rw [zB8 (by lia),mi] at hO14
   have s14:=s12.same y14
   have hT14:=y14 _ _ hT
   have tp14:=tp.same y14
   refine ⟨by show 1<=sizeLine;decide,fun o1 ho1=>?_⟩
   have yo1:=Same.new ho1 (.tup [V.str "all"])
   refine ⟨o1,n,rfl,by lia,ae,fun C H15 y15 hC=>?_⟩
   have y15:=yo1.trans y15
   refine ⟨_,.inr hC,.int (MRow.R n n),bx (j:=n) rfl (by rw [List.getElem?_map,MRow.tb_get (by lia)];rfl),?_⟩
   rw [R_row (by lia)]
   generalize M16.dRow.getD n 0=pn at mi si hO14
   refine ⟨.(40),?_⟩
   refine ⟨by show 1<=sizeLine;decide,fun d9 hd9=>?_⟩
   have y16:=y15.trans (Same.new hd9 (.lst [V.int (pn / (t:Int))]))
   refine ⟨.(40),.inl ⟨_,ae,cm (by show 1*(t:Int).toNat<=1000;lia),fun O2 hO2=>?_⟩⟩
   rw [cc,zD9]
   have y17:=y16.trans (Same.new hO2 .(77))
   refine ⟨_,_,.lst (y17 _ _ hO14) (DatAll.ints _),.lst ae (DatAll.ints _),aP _,aP _,?_⟩
   rw [if_pos rfl,eC (aP _)]
   generalize upd (upd H15 d9 (.lst [V.int (pn / (t:Int))])) O2 .(77)=H17 at y17
   refine ⟨"mark",n,t,rfl,.inr rfl,by lia,by lia,by lia,fun S H18 y18 hS=>?_⟩
   rw [si] at hS
   refine ⟨_,.inr hS,fun q1 hq1=>?_⟩
   have y19:=(y17.trans y18).trans (Same.new hq1 .(77))
   refine ⟨_,_,.lst ae (DatAll.ints _),.lst (y19 _ _ hO14) (DatAll.ints _),aP _,aP _,?_⟩
   rw [if_pos rfl,eC (aP _)]
   have s19:=s14.same y19
   have hT19:=y19 _ _ hT14
   have tp19:=tp14.same y19
   generalize upd H18 q1 .(77)=H19 at y19 s19 hT19 tp19
   refine ⟨6,rfl,by decide,by decide,bI (fun k σ H'=>Step p H19 H'/\∃ x11,σ=[some (.ref a),some (.int (0+(i:Int))),some (.ref p),some (.int (t:Int)),some (.int (l:Int)),some (.ref W9),some (.int (n:Int)),some (.ref T),some (.ref O),x9',x10',x11,x12,x13,x14]) ⟨Step.refl s19.2,_,rfl⟩ ?_ ?_⟩
   · rintro k σ H20 hk ⟨k20,x11',rfl⟩;have hT20:=k20.tup s19.2 hT19;have tp20:=K79.Tps.step s19.2 k20 tp19;refine ⟨_,.inr hT20,?_⟩;refine ⟨p,((us.length:Nat):Int),rfl,k20.2,by lia,by lia,fun r2 H21 r20 r21 k21=>?_⟩;have hr2:r2.toNat<us.length:=by lia
     refine ⟨_,.inr (k21.tup k20.2 hT20),us[r2.toNat],bx (j:=r2.toNat) (by lia) (List.getElem?_eq_getElem hr2),?_⟩;obtain ⟨x,b,hx,eb,hb⟩:=(K79.Tps.step k20.2 k21 tp20).get (List.getElem?_eq_getElem hr2);obtain ⟨fx,sx⟩:=fit x (zH7 hx);rw [eb];refine ⟨b,x,t,n,rfl,hb,h3,fx,sx,fun H22 y22=>?_⟩;exact ⟨(k20.trans k21).same y22,_,rfl⟩
   rintro σ H20 ⟨k20,x11',rfl⟩
   have s20:=s19.trans k20
   refine ⟨by show 3<=sizeLine;decide,fun d5 hd5=>?_⟩
   have d5p:=s20.2.ne hd5
   have g5:upd H20 d5 (.lst [V.int 60,.int 200,.int 601]) d5=some (.lst [V.int 60,.int 200,.int 601]):=ae
   have s21:=s20.same (Same.new hd5 (.lst [V.int 60,.int 200,.int 601]))
   generalize upd H20 d5 (.lst [V.int 60,.int 200,.int 601])=H21 at g5 s21
   refine ⟨p,3,rfl,s21.2,by decide,by decide,fun w5 H22 w50 w51 k22=>?_⟩
   obtain ⟨fm,efm,fm0,fm1⟩:∃ fm:Int,atI [V.int 60,.int 200,.int 601] w5=some (.int fm)/\1<=fm/\fm<=601:=by
    have:w5=0\/w5=1\/w5=2:=by lia
    rcases this with rfl | rfl | rfl
    · exact ⟨60,rfl,by decide,by decide⟩
    · exact ⟨200,rfl,by decide,by decide⟩
    · exact ⟨601,rfl,by decide,by decide⟩
   refine ⟨_,.inl (SqL.of (k22.1 _ _ d5p g5)),.int fm,efm,?_⟩
   have s22:=s21.trans k22
   refine ⟨p,fm,rfl,s22.2,by lia,by lia,fun fr H23 fr0 fr1 k23=>?_⟩
   obtain ⟨far,rfl⟩:∃ far:Nat,fr=(far:Int):=⟨fr.toNat,by lia⟩
   have hfar:far<=600:=by lia
   have s23:=s22.trans k23
   refine ⟨by show 1<=sizeLine;decide,fun o2 ho2=>?_⟩
   have yo2:=Same.new ho2 (.tup [V.str "all"])
   refine ⟨o2,far,rfl,by lia,ae,fun C2 H24 y24 hC2=>?_⟩
   have s24:=s23.same (yo2.trans y24)
   have hC2:H24 C2=some (.tup ((M16.dRow.take (far+1)).map V.int)):=by
    rw [← M31.rowA hfar,← M31.R_PL];exact hC2
   have hold:=vZ tlc (far+1)
   have hlen:(M16.dRow.take (far+1)).length<=1000:=by rw [zB9,M31.dRow_len];lia
   generalize M16.dRow.take (far+1)=rw_ at hC2 hold hlen
   refine ⟨C2,_,l,t,rfl,rfl,rfl,by lia,hC2,fun e H25 y25 he=>?_⟩
   rw [jB] at he
   have sl:=jC rw_ l t hlen
   have eq:quo rw_ l t (t:Int)=(HT.strd rw_ l t).map fun x=>x / (t:Int):=rfl
   generalize HT.strd rw_ l t=ss at he sl eq
   refine ⟨e,rfl,⟨_,SqT.of he⟩,cR (xs:=ss.map V.int) (fun k zs H'=>H'=H25/\zs=((ss.take k).map fun x=>x / (t:Int)).map V.int) ⟨rfl,rfl⟩ ?_ ?_ ?_⟩
   · rintro k zs H' _ ⟨rfl,_⟩;exact SqT.of he
   · rintro k z zs H' hz ⟨rfl,rfl⟩;have hk:k<ss.length:=by
      have:=(List.getElem?_eq_some_iff.mp hz).1;rwa [zA0] at this
     have ez:z=.int ss[k]:=by rw [fP hk] at hz;exact (Option.some.inj hz).symm
     subst ez;refine ⟨by rw [zA0,zA0,zB9];exact ao (by lia),?_⟩;refine ⟨.(40),rfl,?_⟩;rw [zD3,List.getElem?_eq_getElem hk,zA3,zA3];rfl
   rintro zs H' ⟨rfl,rfl⟩ D hD
   rw [zA0,zB8 (zA1 _),← eq]
   refine ⟨_,.inl (SqL.of ae),fun D2 H26 y26 hD2=>?_⟩
   have y26:=(y25.trans (Same.new hD _)).trans y26
   have hC26:=y26 _ _ hC2
   have s26:=s24.same y26
   refine ⟨by show 3<=sizeLine;decide,fun d6 hd6=>?_⟩
   have yd6:=Same.new hd6 (.tup [V.int (t:Int),.int (l:Int),.int (t:Int)])
   have cb:M27.CB (t:Int) (l:Int) (t:Int):=⟨by lia,by lia,by lia,by lia,by lia,by lia⟩
   refine ⟨C2,d6,rw_,t,l,t,rfl,yd6 _ _ hC26,hlen,ae,cb,fun v H27 y27 hf=>?_⟩
   obtain rfl:=hold.f hf
   have y27:=yd6.trans y27
   have hC27:=y27 _ _ hC26
   have hD27:=y27 _ _ hD2
   refine ⟨by show 3<=sizeLine;decide,fun d7 hd7=>?_⟩
   have yd7:=Same.new hd7 (.tup [V.int (t:Int),.int (l:Int),.int (t:Int)])
   refine ⟨C2,d7,rw_,t,l,t,rfl,yd7 _ _ hC27,hlen,ae,cb,hold,fun e2 H28 y28 he2=>?_⟩
   have y28:=yd7.trans y28
   refine ⟨_,_,.ints he2,.ints (y28 _ _ hD27),aX _,aX _,?_⟩
   rw [if_pos rfl,eC (aX _)]
   have s28:=(s26.same y27).same y28
   exact done _ _ _ _ _ _ _ _ _ _ _ _ _ _ fun b o nb e=>s28.1 b o nb (kk1 b o nb e)
 · rintro σ H' ⟨_,y,x1,x2,x3,x4,x5,x6,x7,x8,x9,x10,x11,x12,x13,x14,rfl⟩;exact q _
end
end K79
namespace K79
open PySem L2
theorem fnA {P:Program} {w:World} {K:PySem.W.Frag} {mg:.(53)} {base:Heap} {x:Str} {k:Nat} {ps:List Str} {sp:Sp} {f:Addr} {fd:FuncData} (F:FnOk P w K mg base CX0 k f fd ps sp) (b:Binds K fd ps []) (kp:PySem.W.keepIn K (.ref f)=true) (m:mg x=some (.ref f)):FnA P w K mg base x k ps sp:=⟨⟨f,fd,F,b,kp,m⟩⟩
theorem us1 {α:Type} {p:List α->Prop} (h:∀ a,p [a]):∀ us:List α,us.length=1->p us
 | [a],_=>h a
theorem us2 {α:Type} {p:List α->Prop} (h:∀ a b,p [a,b]):∀ us:List α,us.length=2->p us
 | [a,b],_=>h a b
theorem us3 {α:Type} {p:List α->Prop} (h:∀ a b c,p [a,b,c]):∀ us:List α,us.length=3->p us
 | [a,b,c],_=>h a b c
theorem all_mk {l:PySem.W.OpenLaw} {w:World} {K:PySem.W.Frag} {h:Heap} {mg:.(53)} {fa f1 f2 f3 f4 f5 f6 f7 f8 f9 f10 f11 f12 f13 f14 f15 f16 f17 f18 f19 f20 f21 f22 f23 f24 f25 f26 f27 f28 f29 f30 f31 f32 f33 f34 f35 f36 f37 f38 f39 f40 f41:Addr} (X:K.In h) (G:h.Ns mainGlobals mg) (hfa:mg "law" = some (.ref fa))
 {od1 an1 od2 an2 od3 an3 od4 an4 od5 an5 od6 an6 od7 an7 od8 an8 od9 an9 od10 an10 od11 an11 od12 an12 od13 an13 od14 an14 od15 an15 od16 an16 od17 an17 od18 an18 od19 an19 od20 an20 od21 an21 od22 an22 od23 an23 od24 an24 od25 an25 od26 an26 od27 an27 od28 an28 od29 an29 od30 an30 od31 an31 od32 an32 od33 an33 od34 an34 od35 an35 od36 an36 od37 an37 od38 an38 od39 an39 od40 an40 od41 an41:Option Addr} {sl1 sl2 sl3 sl4 sl5 sl6 sl7 sl8 sl9 sl10 sl11 sl12 sl13 sl14 sl15 sl16 sl17 sl18 sl19 sl20 sl21 sl22 sl23 sl24 sl25 sl26 sl27 sl28 sl29 sl30 sl31 sl32 sl33 sl34 sl35 sl36 sl37 sl38 sl39 sl40 sl41:Array (Option Value)} {oc1 kV1 dc1 pm1 cd1 ct1 oc2 kV2 dc2 pm2 cd2 ct2 oc3 kV3 dc3 pm3 cd3 ct3 oc4 kV4 dc4 pm4 cd4 ct4 oc5 kV5 dc5 pm5 cd5 ct5 oc6 kV6 dc6 pm6 cd6 ct6 oc7 kV7 dc7 pm7 cd7 ct7 oc8 kV8 dc8 pm8 cd8 ct8 oc9 kV9 dc9 pm9 cd9 ct9 oc10 kV10 dc10 pm10 cd10 ct10 oc11 kV11 dc11 pm11 cd11 ct11 oc12 kV12 dc12 pm12 cd12 ct12 oc13 kV13 dc13 pm13 cd13 ct13 oc14 kV14 dc14 pm14 cd14 ct14 oc15 kV15 dc15 pm15 cd15 ct15 oc16 kV16 dc16 pm16 cd16 ct16 oc17 kV17 dc17 pm17 cd17 ct17 oc18 kV18 dc18 pm18 cd18 ct18 oc19 kV19 dc19 pm19 cd19 ct19 oc20 kV20 dc20 pm20 cd20 ct20 oc21 kV21 dc21 pm21 cd21 ct21 oc22 kV22 dc22 pm22 cd22 ct22 oc23 kV23 dc23 pm23 cd23 ct23 oc24 kV24 dc24 pm24 cd24 ct24 oc25 kV25 dc25 pm25 cd25 ct25 oc26 kV26 dc26 pm26 cd26 ct26 oc27 kV27 dc27 pm27 cd27 ct27 oc28 kV28 dc28 pm28 cd28 ct28 oc29 kV29 dc29 pm29 cd29 ct29 oc30 kV30 dc30 pm30 cd30 ct30 oc31 kV31 dc31 pm31 cd31 ct31 oc32 kV32 dc32 pm32 cd32 ct32 oc33 kV33 dc33 pm33 cd33 ct33 oc34 kV34 dc34 pm34 cd34 ct34 oc35 kV35 dc35 pm35 cd35 ct35 oc36 kV36 dc36 pm36 cd36 ct36 oc37 kV37 dc37 pm37 cd37 ct37 oc38 kV38 dc38 pm38 cd38 ct38 oc39 kV39 dc39 pm39 cd39 ct39 oc40 kV40 dc40 pm40 cd40 ct40 oc41 kV41 dc41 pm41 cd41 ct41:Value}
 (a1:PySem.W.nsIn K mainGlobals "beads_of" = some (some (.ref f1))) (l1:K.lookup f1=some ⟨oc1,od1,.func (PySem.W.fnOf "beads_of" "beads_of" (aq (top 6)) (ak (top 6)) (ag (top 6)) .none kV1 dc1 pm1 an1 cd1 ct1),sl1⟩) (c1:PySem.W.codeIn K cd1 "beads_of" = true) (k1:PySem.W.keepIn K (.ref f1)=true)
 (a2:PySem.W.nsIn K mainGlobals "parting_of" = some (some (.ref f2))) (l2:K.lookup f2=some ⟨oc2,od2,.func (PySem.W.fnOf "parting_of" "parting_of" (aq (top 7)) (ak (top 7)) (ag (top 7)) .none kV2 dc2 pm2 an2 cd2 ct2),sl2⟩) (c2:PySem.W.codeIn K cd2 "parting_of" = true) (k2:PySem.W.keepIn K (.ref f2)=true)
 (a3:PySem.W.nsIn K mainGlobals "rounds_of" = some (some (.ref f3))) (l3:K.lookup f3=some ⟨oc3,od3,.func (PySem.W.fnOf "rounds_of" "rounds_of" (aq (top 8)) (ak (top 8)) (ag (top 8)) .none kV3 dc3 pm3 an3 cd3 ct3),sl3⟩) (c3:PySem.W.codeIn K cd3 "rounds_of" = true) (k3:PySem.W.keepIn K (.ref f3)=true)
 (a4:PySem.W.nsIn K mainGlobals "runs_of" = some (some (.ref f4))) (l4:K.lookup f4=some ⟨oc4,od4,.func (PySem.W.fnOf "runs_of" "runs_of" (aq (top 9)) (ak (top 9)) (ag (top 9)) .none kV4 dc4 pm4 an4 cd4 ct4),sl4⟩) (c4:PySem.W.codeIn K cd4 "runs_of" = true) (k4:PySem.W.keepIn K (.ref f4)=true)
 (a5:PySem.W.nsIn K mainGlobals "with_least_beads" = some (some (.ref f5))) (l5:K.lookup f5=some ⟨oc5,od5,.func (PySem.W.fnOf "with_least_beads" "with_least_beads" (aq (top 10)) (ak (top 10)) (ag (top 10)) .none kV5 dc5 pm5 an5 cd5 ct5),sl5⟩) (c5:PySem.W.codeIn K cd5 "with_least_beads" = true) (k5:PySem.W.keepIn K (.ref f5)=true)
 (a6:PySem.W.nsIn K mainGlobals "vector" = some (some (.ref f6))) (l6:K.lookup f6=some ⟨oc6,od6,.func (PySem.W.fnOf "vector" "vector" (aq (top 11)) (ak (top 11)) (ag (top 11)) .none kV6 dc6 pm6 an6 cd6 ct6),sl6⟩) (c6:PySem.W.codeIn K cd6 "vector" = true) (k6:PySem.W.keepIn K (.ref f6)=true)
 (a7:PySem.W.nsIn K mainGlobals "apart" = some (some (.ref f7))) (l7:K.lookup f7=some ⟨oc7,od7,.func (PySem.W.fnOf "apart" "apart" (aq (top 12)) (ak (top 12)) (ag (top 12)) .none kV7 dc7 pm7 an7 cd7 ct7),sl7⟩) (c7:PySem.W.codeIn K cd7 "apart" = true) (k7:PySem.W.keepIn K (.ref f7)=true)
 (a8:PySem.W.nsIn K mainGlobals "is_core" = some (some (.ref f8))) (l8:K.lookup f8=some ⟨oc8,od8,.func (PySem.W.fnOf "is_core" "is_core" (aq (top 13)) (ak (top 13)) (ag (top 13)) .none kV8 dc8 pm8 an8 cd8 ct8),sl8⟩) (c8:PySem.W.codeIn K cd8 "is_core" = true) (k8:PySem.W.keepIn K (.ref f8)=true)
 (a9:PySem.W.nsIn K mainGlobals "joined" = some (some (.ref f9))) (l9:K.lookup f9=some ⟨oc9,od9,.func (PySem.W.fnOf "joined" "joined" (aq (top 14)) (ak (top 14)) (ag (top 14)) .none kV9 dc9 pm9 an9 cd9 ct9),sl9⟩) (c9:PySem.W.codeIn K cd9 "joined" = true) (k9:PySem.W.keepIn K (.ref f9)=true)
 (a10:PySem.W.nsIn K mainGlobals "size_of" = some (some (.ref f10))) (l10:K.lookup f10=some ⟨oc10,od10,.func (PySem.W.fnOf "size_of" "size_of" (aq (top 15)) (ak (top 15)) (ag (top 15)) .none kV10 dc10 pm10 an10 cd10 ct10),sl10⟩) (c10:PySem.W.codeIn K cd10 "size_of" = true) (k10:PySem.W.keepIn K (.ref f10)=true)
 (a11:PySem.W.nsIn K mainGlobals "core_of" = some (some (.ref f11))) (l11:K.lookup f11=some ⟨oc11,od11,.func (PySem.W.fnOf "core_of" "core_of" (aq (top 16)) (ak (top 16)) (ag (top 16)) .none kV11 dc11 pm11 an11 cd11 ct11),sl11⟩) (c11:PySem.W.codeIn K cd11 "core_of" = true) (k11:PySem.W.keepIn K (.ref f11)=true)
 (a12:PySem.W.nsIn K mainGlobals "weight_of_round" = some (some (.ref f12))) (l12:K.lookup f12=some ⟨oc12,od12,.func (PySem.W.fnOf "weight_of_round" "weight_of_round" (aq (top 19)) (ak (top 19)) (ag (top 19)) .none kV12 dc12 pm12 an12 cd12 ct12),sl12⟩) (c12:PySem.W.codeIn K cd12 "weight_of_round" = true) (k12:PySem.W.keepIn K (.ref f12)=true)
 (a13:PySem.W.nsIn K mainGlobals "vectors_of_round" = some (some (.ref f13))) (l13:K.lookup f13=some ⟨oc13,od13,.func (PySem.W.fnOf "vectors_of_round" "vectors_of_round" (aq (top 20)) (ak (top 20)) (ag (top 20)) .none kV13 dc13 pm13 an13 cd13 ct13),sl13⟩) (c13:PySem.W.codeIn K cd13 "vectors_of_round" = true) (k13:PySem.W.keepIn K (.ref f13)=true)
 (a14:PySem.W.nsIn K mainGlobals "vector_by" = some (some (.ref f14))) (l14:K.lookup f14=some ⟨oc14,od14,.func (PySem.W.fnOf "vector_by" "vector_by" (aq (top 21)) (ak (top 21)) (ag (top 21)) .none kV14 dc14 pm14 an14 cd14 ct14),sl14⟩) (c14:PySem.W.codeIn K cd14 "vector_by" = true) (k14:PySem.W.keepIn K (.ref f14)=true)
 (a15:PySem.W.nsIn K mainGlobals "sum_of_products" = some (some (.ref f15))) (l15:K.lookup f15=some ⟨oc15,od15,.func (PySem.W.fnOf "sum_of_products" "sum_of_products" (aq (top 22)) (ak (top 22)) (ag (top 22)) .none kV15 dc15 pm15 an15 cd15 ct15),sl15⟩) (c15:PySem.W.codeIn K cd15 "sum_of_products" = true) (k15:PySem.W.keepIn K (.ref f15)=true)
 (a16:PySem.W.nsIn K mainGlobals "bends_of" = some (some (.ref f16))) (l16:K.lookup f16=some ⟨oc16,od16,.func (PySem.W.fnOf "bends_of" "bends_of" (aq (top 23)) (ak (top 23)) (ag (top 23)) .none kV16 dc16 pm16 an16 cd16 ct16),sl16⟩) (c16:PySem.W.codeIn K cd16 "bends_of" = true) (k16:PySem.W.keepIn K (.ref f16)=true)
 (a17:PySem.W.nsIn K mainGlobals "by_rises" = some (some (.ref f17))) (l17:K.lookup f17=some ⟨oc17,od17,.func (PySem.W.fnOf "by_rises" "by_rises" (aq (top 24)) (ak (top 24)) (ag (top 24)) .none kV17 dc17 pm17 an17 cd17 ct17),sl17⟩) (c17:PySem.W.codeIn K cd17 "by_rises" = true) (k17:PySem.W.keepIn K (.ref f17)=true)
 (a18:PySem.W.nsIn K mainGlobals "frame_of" = some (some (.ref f18))) (l18:K.lookup f18=some ⟨oc18,od18,.func (PySem.W.fnOf "frame_of" "frame_of" (aq (top 25)) (ak (top 25)) (ag (top 25)) .none kV18 dc18 pm18 an18 cd18 ct18),sl18⟩) (c18:PySem.W.codeIn K cd18 "frame_of" = true) (k18:PySem.W.keepIn K (.ref f18)=true)
 (a19:PySem.W.nsIn K mainGlobals "core_frame" = some (some (.ref f19))) (l19:K.lookup f19=some ⟨oc19,od19,.func (PySem.W.fnOf "core_frame" "core_frame" (aq (top 27)) (ak (top 27)) (ag (top 27)) .none kV19 dc19 pm19 an19 cd19 ct19),sl19⟩) (c19:PySem.W.codeIn K cd19 "core_frame" = true) (k19:PySem.W.keepIn K (.ref f19)=true)
 (a20:PySem.W.nsIn K mainGlobals "turned_on" = some (some (.ref f20))) (l20:K.lookup f20=some ⟨oc20,od20,.func (PySem.W.fnOf "turned_on" "turned_on" (aq (top 28)) (ak (top 28)) (ag (top 28)) .none kV20 dc20 pm20 an20 cd20 ct20),sl20⟩) (c20:PySem.W.codeIn K cd20 "turned_on" = true) (k20:PySem.W.keepIn K (.ref f20)=true)
 (a21:PySem.W.nsIn K mainGlobals "share" = some (some (.ref f21))) (l21:K.lookup f21=some ⟨oc21,od21,.func (PySem.W.fnOf "share" "share" (aq (top 29)) (ak (top 29)) (ag (top 29)) .none kV21 dc21 pm21 an21 cd21 ct21),sl21⟩) (c21:PySem.W.codeIn K cd21 "share" = true) (k21:PySem.W.keepIn K (.ref f21)=true)
 (a22:PySem.W.nsIn K mainGlobals "first_not" = some (some (.ref f22))) (l22:K.lookup f22=some ⟨oc22,od22,.func (PySem.W.fnOf "first_not" "first_not" (aq (top 31)) (ak (top 31)) (ag (top 31)) .none kV22 dc22 pm22 an22 cd22 ct22),sl22⟩) (c22:PySem.W.codeIn K cd22 "first_not" = true) (k22:PySem.W.keepIn K (.ref f22)=true)
 (a23:PySem.W.nsIn K mainGlobals "quotients" = some (some (.ref f23))) (l23:K.lookup f23=some ⟨oc23,od23,.func (PySem.W.fnOf "quotients" "quotients" (aq (top 32)) (ak (top 32)) (ag (top 32)) .none kV23 dc23 pm23 an23 cd23 ct23),sl23⟩) (c23:PySem.W.codeIn K cd23 "quotients" = true) (k23:PySem.W.keepIn K (.ref f23)=true)
 (a24:PySem.W.nsIn K mainGlobals "begun" = some (some (.ref f24))) (l24:K.lookup f24=some ⟨oc24,od24,.func (PySem.W.fnOf "begun" "begun" (aq (top 34)) (ak (top 34)) (ag (top 34)) .none kV24 dc24 pm24 an24 cd24 ct24),sl24⟩) (c24:PySem.W.codeIn K cd24 "begun" = true) (k24:PySem.W.keepIn K (.ref f24)=true)
 (a25:PySem.W.nsIn K mainGlobals "put_on" = some (some (.ref f25))) (l25:K.lookup f25=some ⟨oc25,od25,.func (PySem.W.fnOf "put_on" "put_on" (aq (top 35)) (ak (top 35)) (ag (top 35)) .none kV25 dc25 pm25 an25 cd25 ct25),sl25⟩) (c25:PySem.W.codeIn K cd25 "put_on" = true) (k25:PySem.W.keepIn K (.ref f25)=true)
 (a26:PySem.W.nsIn K mainGlobals "of_sizes" = some (some (.ref f26))) (l26:K.lookup f26=some ⟨oc26,od26,.func (PySem.W.fnOf "of_sizes" "of_sizes" (aq (top 38)) (ak (top 38)) (ag (top 38)) .none kV26 dc26 pm26 an26 cd26 ct26),sl26⟩) (c26:PySem.W.codeIn K cd26 "of_sizes" = true) (k26:PySem.W.keepIn K (.ref f26)=true)
 (a27:PySem.W.nsIn K mainGlobals "counted" = some (some (.ref f27))) (l27:K.lookup f27=some ⟨oc27,od27,.func (PySem.W.fnOf "counted" "counted" (aq (top 42)) (ak (top 42)) (ag (top 42)) .none kV27 dc27 pm27 an27 cd27 ct27),sl27⟩) (c27:PySem.W.codeIn K cd27 "counted" = true) (k27:PySem.W.keepIn K (.ref f27)=true)
 (a28:PySem.W.nsIn K mainGlobals "counts" = some (some (.ref f28))) (l28:K.lookup f28=some ⟨oc28,od28,.func (PySem.W.fnOf "counts" "counts" (aq (top 43)) (ak (top 43)) (ag (top 43)) .none kV28 dc28 pm28 an28 cd28 ct28),sl28⟩) (c28:PySem.W.codeIn K cd28 "counts" = true) (k28:PySem.W.keepIn K (.ref f28)=true)
 (a29:PySem.W.nsIn K mainGlobals "partings_below" = some (some (.ref f29))) (l29:K.lookup f29=some ⟨oc29,od29,.func (PySem.W.fnOf "partings_below" "partings_below" (aq (top 45)) (ak (top 45)) (ag (top 45)) .none kV29 dc29 pm29 an29 cd29 ct29),sl29⟩) (c29:PySem.W.codeIn K cd29 "partings_below" = true) (k29:PySem.W.keepIn K (.ref f29)=true)
 (a30:PySem.W.nsIn K mainGlobals "partings" = some (some (.ref f30))) (l30:K.lookup f30=some ⟨oc30,od30,.func (PySem.W.fnOf "partings" "partings" (aq (top 46)) (ak (top 46)) (ag (top 46)) .none kV30 dc30 pm30 an30 cd30 ct30),sl30⟩) (c30:PySem.W.codeIn K cd30 "partings" = true) (k30:PySem.W.keepIn K (.ref f30)=true)
 (a31:PySem.W.nsIn K mainGlobals "weight" = some (some (.ref f31))) (l31:K.lookup f31=some ⟨oc31,od31,.func (PySem.W.fnOf "weight" "weight" (aq (top 48)) (ak (top 48)) (ag (top 48)) .none kV31 dc31 pm31 an31 cd31 ct31),sl31⟩) (c31:PySem.W.codeIn K cd31 "weight" = true) (k31:PySem.W.keepIn K (.ref f31)=true)
 (a32:PySem.W.nsIn K mainGlobals "rank" = some (some (.ref f32))) (l32:K.lookup f32=some ⟨oc32,od32,.func (PySem.W.fnOf "rank" "rank" (aq (top 50)) (ak (top 50)) (ag (top 50)) .none kV32 dc32 pm32 an32 cd32 ct32),sl32⟩) (c32:PySem.W.codeIn K cd32 "rank" = true) (k32:PySem.W.keepIn K (.ref f32)=true)
 (a33:PySem.W.nsIn K mainGlobals "mark" = some (some (.ref f33))) (l33:K.lookup f33=some ⟨oc33,od33,.func (PySem.W.fnOf "mark" "mark" (aq (top 51)) (ak (top 51)) (ag (top 51)) .none kV33 dc33 pm33 an33 cd33 ct33),sl33⟩) (c33:PySem.W.codeIn K cd33 "mark" = true) (k33:PySem.W.keepIn K (.ref f33)=true)
 (a34:PySem.W.nsIn K mainGlobals "value_of" = some (some (.ref f34))) (l34:K.lookup f34=some ⟨oc34,od34,.func (PySem.W.fnOf "value_of" "value_of" (aq (top 53)) (ak (top 53)) (ag (top 53)) .none kV34 dc34 pm34 an34 cd34 ct34),sl34⟩) (c34:PySem.W.codeIn K cd34 "value_of" = true) (k34:PySem.W.keepIn K (.ref f34)=true)
 (a35:PySem.W.nsIn K mainGlobals "many_with" = some (some (.ref f35))) (l35:K.lookup f35=some ⟨oc35,od35,.func (PySem.W.fnOf "many_with" "many_with" (aq (top 54)) (ak (top 54)) (ag (top 54)) .none kV35 dc35 pm35 an35 cd35 ct35),sl35⟩) (c35:PySem.W.codeIn K cd35 "many_with" = true) (k35:PySem.W.keepIn K (.ref f35)=true)
 (a36:PySem.W.nsIn K mainGlobals "spread" = some (some (.ref f36))) (l36:K.lookup f36=some ⟨oc36,od36,.func (PySem.W.fnOf "spread" "spread" (aq (top 55)) (ak (top 55)) (ag (top 55)) .none kV36 dc36 pm36 an36 cd36 ct36),sl36⟩) (c36:PySem.W.codeIn K cd36 "spread" = true) (k36:PySem.W.keepIn K (.ref f36)=true)
 (a37:PySem.W.nsIn K mainGlobals "shares" = some (some (.ref f37))) (l37:K.lookup f37=some ⟨oc37,od37,.func (PySem.W.fnOf "shares" "shares" (aq (top 56)) (ak (top 56)) (ag (top 56)) .none kV37 dc37 pm37 an37 cd37 ct37),sl37⟩) (c37:PySem.W.codeIn K cd37 "shares" = true) (k37:PySem.W.keepIn K (.ref f37)=true)
 (a38:PySem.W.nsIn K mainGlobals "_law_hand" = some (some (.ref f38))) (l38:K.lookup f38=some ⟨oc38,od38,.func (PySem.W.fnOf "_law_hand" "_law_hand" (aq (top 58)) (ak (top 58)) (ag (top 58)) .none kV38 dc38 pm38 an38 cd38 ct38),sl38⟩) (c38:PySem.W.codeIn K cd38 "_law_hand" = true) (k38:PySem.W.keepIn K (.ref f38)=true)
 (a39:PySem.W.nsIn K mainGlobals "_law_take" = some (some (.ref f39))) (l39:K.lookup f39=some ⟨oc39,od39,.func (PySem.W.fnOf "_law_take" "_law_take" (aq (top 59)) (ak (top 59)) (ag (top 59)) .none kV39 dc39 pm39 an39 cd39 ct39),sl39⟩) (c39:PySem.W.codeIn K cd39 "_law_take" = true) (k39:PySem.W.keepIn K (.ref f39)=true)
 (a40:PySem.W.nsIn K mainGlobals "_law_round_right" = some (some (.ref f40))) (l40:K.lookup f40=some ⟨oc40,od40,.func (PySem.W.fnOf "_law_round_right" "_law_round_right" (aq (top 60)) (ak (top 60)) (ag (top 60)) .none kV40 dc40 pm40 an40 cd40 ct40),sl40⟩) (c40:PySem.W.codeIn K cd40 "_law_round_right" = true) (k40:PySem.W.keepIn K (.ref f40)=true)
 (a41:PySem.W.nsIn K mainGlobals "law" = some (some (.ref f41))) (l41:K.lookup f41=some ⟨oc41,od41,.func (PySem.W.fnOf "law" "law" (aq (top 61)) (ak (top 61)) (ag (top 61)) .none kV41 dc41 pm41 an41 cd41 ct41),sl41⟩) (c41:PySem.W.codeIn K cd41 "law" = true) (k41:PySem.W.keepIn K (.ref f41)=true)
 {ra1:Addr} (y1:PySem.W.nsIn K mainGlobals "ROUNDS" = some (some (.ref ra1))) (yt1:tabL K ra1 M48.RD=true)
 (z1:PySem.W.nsIn K mainGlobals "enumerate" = some none) (z2:PySem.W.nsIn K mainGlobals "len" = some none) (z3:PySem.W.nsIn K mainGlobals "reversed" = some none) (z4:PySem.W.nsIn K mainGlobals "sorted" = some none) (z5:PySem.W.nsIn K mainGlobals "tuple" = some none) (z6:PySem.W.nsIn K mainGlobals "range" = some none) (z7:PySem.W.nsIn K mainGlobals "max" = some none) (z8:PySem.W.nsIn K mainGlobals "sum" = some none) (z9:PySem.W.nsIn K mainGlobals "min" = some none) (z10:PySem.W.nsIn K mainGlobals "zip" = some none) (z11:PySem.W.nsIn K mainGlobals "list" = some none) (z12:PySem.W.nsIn K mainGlobals "abs" = some none) (z13:PySem.W.nsIn K mainGlobals "int" = some none) (z14:PySem.W.nsIn K mainGlobals "set" = some none) :
 ∃ fd:FuncData,(∀ (s:Shared) (v:Value),BindsTo s fd ⟨[v],[]⟩ [("_law_script",v)])/\∀ base:Heap,K.In base->base.Ns mainGlobals mg->FnOk l.prog w K mg base CX0 33 fa fd ["_law_script"] (jD K):=by
 have e:=hfa.symm.trans (PySem.W.mg_of X G a41)
 cases e
 have F1:=aF (st:=top 6) l1 c1 k1;have b1:=F1.binds (ps:=["parting","many"]) fun _ _ _ _ _ _=>us2 fun _ _=>rfl;have F2:=aF (st:=top 7) l2 c2 k2;have b2:=F2.binds (ps:=["beads"]) fun _ _ _ _ _ _=>us1 fun _=>rfl;have F3:=aF (st:=top 8) l3 c3 k3;have b3:=F3.binds (ps:=["parting","t"]) fun _ _ _ _ _ _=>us2 fun _ _=>rfl;have F4:=aF (st:=top 9) l4 c4 k4;have b4:=F4.binds (ps:=["parting","t","rounds"]) fun _ _ _ _ _ _=>us3 fun _ _ _=>rfl;have F5:=aF (st:=top 10) l5 c5 k5;have b5:=F5.binds (ps:=["numbers"]) fun _ _ _ _ _ _=>us1 fun _=>rfl;have F6:=aF (st:=top 11) l6 c6 k6;have b6:=F6.binds (ps:=["parting","t"]) fun _ _ _ _ _ _=>us2 fun _ _=>rfl;have F7:=aF (st:=top 12) l7 c7 k7;have b7:=F7.binds (ps:=["parting","t"]) fun _ _ _ _ _ _=>us2 fun _ _=>rfl;have F8:=aF (st:=top 13) l8 c8 k8;have b8:=F8.binds (ps:=["parting","t"]) fun _ _ _ _ _ _=>us2 fun _ _=>rfl;have F9:=aF (st:=top 14) l9 c9 k9;have b9:=F9.binds (ps:=["core","quotients"]) fun _ _ _ _ _ _=>us2 fun _ _=>rfl;have F10:=aF (st:=top 15) l10 c10 k10;have b10:=F10.binds (ps:=["numbers"]) fun _ _ _ _ _ _=>us1 fun _=>rfl;have F11:=aF (st:=top 16) l11 c11 k11;have b11:=F11.binds (ps:=["numbers"]) fun _ _ _ _ _ _=>us1 fun _=>rfl;have F12:=aF (st:=top 19) l12 c12 k12;have b12:=F12.binds (ps:=["t"]) fun _ _ _ _ _ _=>us1 fun _=>rfl;have F13:=aF (st:=top 20) l13 c13 k13;have b13:=F13.binds (ps:=["t"]) fun _ _ _ _ _ _=>us1 fun _=>rfl;have F14:=aF (st:=top 21) l14 c14 k14;have b14:=F14.binds (ps:=["t","frame"]) fun _ _ _ _ _ _=>us2 fun _ _=>rfl;have F15:=aF (st:=top 22) l15 c15 k15;have b15:=F15.binds (ps:=["one","other"]) fun _ _ _ _ _ _=>us2 fun _ _=>rfl;have F16:=aF (st:=top 23) l16 c16 k16;have b16:=F16.binds (ps:=["t","numbers"]) fun _ _ _ _ _ _=>us2 fun _ _=>rfl;have F17:=aF (st:=top 24) l17 c17 k17;have b17:=F17.binds (ps:=["rises","total"]) fun _ _ _ _ _ _=>us2 fun _ _=>rfl;have F18:=aF (st:=top 25) l18 c18 k18;have b18:=F18.binds (ps:=["t","numbers"]) fun _ _ _ _ _ _=>us2 fun _ _=>rfl;have F19:=aF (st:=top 27) l19 c19 k19;have b19:=F19.binds (ps:=["t","parting"]) fun _ _ _ _ _ _=>us2 fun _ _=>rfl;have F20:=aF (st:=top 28) l20 c20 k20;have b20:=F20.binds (ps:=["t","parting"]) fun _ _ _ _ _ _=>us2 fun _ _=>rfl;have F21:=aF (st:=top 29) l21 c21 k21;have b21:=F21.binds (ps:=["t","parting"]) fun _ _ _ _ _ _=>us2 fun _ _=>rfl;have F22:=aF (st:=top 31) l22 c22 k22;have b22:=F22.binds (ps:=["row","claim"]) fun _ _ _ _ _ _=>us2 fun _ _=>rfl;have F23:=aF (st:=top 32) l23 c23 k23;have b23:=F23.binds (ps:=["row","claim"]) fun _ _ _ _ _ _=>us2 fun _ _=>rfl;have F24:=aF (st:=top 34) l24 c24 k24;have b24:=F24.binds (ps:=["most"]) fun _ _ _ _ _ _=>us1 fun _=>rfl;have F25:=aF (st:=top 35) l25 c25 k25;have b25:=F25.binds (ps:=["row","size"]) fun _ _ _ _ _ _=>us2 fun _ _=>rfl;have F26:=aF (st:=top 38) l26 c26 k26;have b26:=F26.binds (ps:=["some","most"]) fun _ _ _ _ _ _=>us2 fun _ _=>rfl;have F27:=aF (st:=top 42) l27 c27 k27;have b27:=F27.binds (ps:=["kind","most"]) fun _ _ _ _ _ _=>us2 fun _ _=>rfl;have F28:=aF (st:=top 43) l28 c28 k28;have b28:=F28.binds (ps:=["kind","most"]) fun _ _ _ _ _ _=>us2 fun _ _=>rfl;have F29:=aF (st:=top 45) l29 c29 k29;have b29:=F29.binds (ps:=["n","most"]) fun _ _ _ _ _ _=>us2 fun _ _=>rfl;have F30:=aF (st:=top 46) l30 c30 k30;have b30:=F30.binds (ps:=["n"]) fun _ _ _ _ _ _=>us1 fun _=>rfl;have F31:=aF (st:=top 48) l31 c31 k31;have b31:=F31.binds (ps:=["parting"]) fun _ _ _ _ _ _=>us1 fun _=>rfl;have F32:=aF (st:=top 50) l32 c32 k32;have b32:=F32.binds (ps:=["parting"]) fun _ _ _ _ _ _=>us1 fun _=>rfl;have F33:=aF (st:=top 51) l33 c33 k33;have b33:=F33.binds (ps:=["parting"]) fun _ _ _ _ _ _=>us1 fun _=>rfl;have F34:=aF (st:=top 53) l34 c34 k34;have b34:=F34.binds (ps:=["which","parting"]) fun _ _ _ _ _ _=>us2 fun _ _=>rfl;have F35:=aF (st:=top 54) l35 c35 k35;have b35:=F35.binds (ps:=["which","value","everything"]) fun _ _ _ _ _ _=>us3 fun _ _ _=>rfl;have F36:=aF (st:=top 55) l36 c36 k36;have b36:=F36.binds (ps:=["which","n"]) fun _ _ _ _ _ _=>us2 fun _ _=>rfl;have F37:=aF (st:=top 56) l37 c37 k37;have b37:=F37.binds (ps:=["which","n","t"]) fun _ _ _ _ _ _=>us3 fun _ _ _=>rfl;have F38:=aF (st:=top 58) l38 c38 k38;have b38:=F38.binds (ps:=["_law_script","_law_k"]) fun _ _ _ _ _ _=>us2 fun _ _=>rfl;have F39:=aF (st:=top 59) l39 c39 k39;have b39:=F39.binds (ps:=["_law_hand_here","_law_many"]) fun _ _ _ _ _ _=>us2 fun _ _=>rfl;have F40:=aF (st:=top 60) l40 c40 k40;have b40:=F40.binds (ps:=["_law_t","_law_parting","_law_n"]) fun _ _ _ _ _ _=>us3 fun _ _ _=>rfl;have F41:=aF (st:=top 61) l41 c41 k41;have m_enumerate:=PySem.W.mg_none_of X G z1;have m_len:=PySem.W.mg_none_of X G z2;have m_reversed:=PySem.W.mg_none_of X G z3;have m_sorted:=PySem.W.mg_none_of X G z4;have m_tuple:=PySem.W.mg_none_of X G z5;have m_range:=PySem.W.mg_none_of X G z6;have m_max:=PySem.W.mg_none_of X G z7;have m_sum:=PySem.W.mg_none_of X G z8;have m_min:=PySem.W.mg_none_of X G z9;have m_zip:=PySem.W.mg_none_of X G z10;have m_list:=PySem.W.mg_none_of X G z11;have m_abs:=PySem.W.mg_none_of X G z12;have m_int:=PySem.W.mg_none_of X G z13;have m_set:=PySem.W.mg_none_of X G z14;have g_ROUNDS:TabG K mg "ROUNDS" M48.RD:=⟨⟨_,PySem.W.mg_of X G y1,yt1⟩⟩
 refine ⟨PySem.W.fnOf "law" "law" (aq (top 61)) (ak (top 61)) (ag (top 61)) .none kV41 dc41 pm41 an41 cd41 ct41,fun s v=>.of_eq rfl,fun base _ _=>?_⟩;have A1:FnA l.prog w K mg base "beads_of" 1 ["parting","many"] (ca K):=fnA (i9 F1 m_enumerate m_len) b1 k1 (PySem.W.mg_of X G a1);have A2:FnA l.prog w K mg base "parting_of" 1 ["beads"] K79H.sp_po:=fnA (K79H.ok_po F2 m_enumerate m_reversed m_sorted m_tuple) b2 k2 (PySem.W.mg_of X G a2);have A3:FnA l.prog w K mg base "rounds_of" 1 ["parting","t"] (bv K):=fnA (ij F3 m_len) b3 k3 (PySem.W.mg_of X G a3);have A4:FnA l.prog w K mg base "runs_of" 2 ["parting","t","rounds"] (bS K):=fnA (kT F4 m_range A1) b4 k4 (PySem.W.mg_of X G a4);have A5:FnA l.prog w K mg base "with_least_beads" 2 ["numbers"] K79H.sp_wl:=fnA (K79H.ok_wl F5 m_enumerate m_len m_range A2) b5 k5 (PySem.W.mg_of X G a5);have A6:FnA l.prog w K mg base "vector" 3 ["parting","t"] (cY K):=fnA (nL F6 m_len m_tuple A3 A4) b6 k6 (PySem.W.mg_of X G a6);have A7:FnA l.prog w K mg base "apart" 3 ["parting","t"] K79H.sp_apart:=fnA (K79H.ok_apart F7 m_len m_tuple A3 A4 A2 A5) b7 k7 (PySem.W.mg_of X G a7);have A8:FnA l.prog w K mg base "is_core" 4 ["parting","t"] K79H.sp_ic:=fnA (K79H.ok_ic F8 A7) b8 k8 (PySem.W.mg_of X G a8);have A9:FnA l.prog w K mg base "joined" 5 ["core","quotients"] K79H.sp_jn:=fnA (K79H.ok_jn F9 m_enumerate m_len m_max A1 A8 A2 A3 A4) b9 k9 (PySem.W.mg_of X G a9);have A10:FnA l.prog w K mg base "size_of" 1 ["numbers"] uB:=fnA (ok_sz F10 m_enumerate m_len m_sum) b10 k10 (PySem.W.mg_of X G a10);have A11:FnA l.prog w K mg base "core_of" 3 ["numbers"] K79H.sp_co:=fnA (K79H.ok_co F11 m_min A5) b11 k11 (PySem.W.mg_of X G a11);have A12:FnA l.prog w K mg base "weight_of_round" 1 ["t"] qe:=fnA (ok_wr F12 m_sum g_ROUNDS) b12 k12 (PySem.W.mg_of X G a12);have A13:FnA l.prog w K mg base "vectors_of_round" 4 ["t"] qf:=fnA (ok_vr F13 g_ROUNDS A6) b13 k13 (PySem.W.mg_of X G a13);have A14:FnA l.prog w K mg base "vector_by" 5 ["t","frame"] uz:=fnA (ok_vb F14 m_range m_tuple m_zip A13) b14 k14 (PySem.W.mg_of X G a14);have A15:FnA l.prog w K mg base "sum_of_products" 1 ["one","other"] uC:=fnA (ok_sp F15 m_sum m_zip) b15 k15 (PySem.W.mg_of X G a15);have A16:FnA l.prog w K mg base "bends_of" 5 ["t","numbers"] uJ:=fnA (ok_bo F16 m_list m_range A15 A13 A12) b16 k16 (PySem.W.mg_of X G a16);have A17:FnA l.prog w K mg base "by_rises" 1 ["rises","total"] uI:=fnA (ok_br F17 m_len m_sum) b17 k17 (PySem.W.mg_of X G a17);have A18:FnA l.prog w K mg base "frame_of" 6 ["t","numbers"] uH:=fnA (ok_fo F18 m_tuple A16 A17 A10 A12) b18 k18 (PySem.W.mg_of X G a18);have A19:FnA l.prog w K mg base "core_frame" 7 ["t","parting"] qh:=fnA (ok_cf F19 A18 A6) b19 k19 (PySem.W.mg_of X G a19);have A20:FnA l.prog w K mg base "turned_on" 8 ["t","parting"] uA:=fnA (ok_tu F20 A7 A19 A11 A9 A14) b20 k20 (PySem.W.mg_of X G a20);have A21:FnA l.prog w K mg base "share" 8 ["t","parting"] qg:=fnA (ok_sh F21 m_enumerate m_sum A19) b21 k21 (PySem.W.mg_of X G a21);have A22:FnA l.prog w K mg base "first_not" 1 ["row","claim"] dZ:=fnA (ik F22 m_len m_range) b22 k22 (PySem.W.mg_of X G a22);have A23:FnA l.prog w K mg base "quotients" 2 ["row","claim"] uE:=fnA (ok_qu F23 m_tuple A22) b23 k23 (PySem.W.mg_of X G a23);have A24:FnA l.prog w K mg base "begun" 1 ["most"] gf:=fnA (q0 F24) b24 k24 (PySem.W.mg_of X G a24);have A25:FnA l.prog w K mg base "put_on" 1 ["row","size"] eM:=fnA (nM F25 m_len m_list m_range) b25 k25 (PySem.W.mg_of X G a25);have A26:FnA l.prog w K mg base "of_sizes" 2 ["some","most"] cM:=fnA (i8 F26 A24 A25) b26 k26 (PySem.W.mg_of X G a26);have A27:FnA l.prog w K mg base "counted" 3 ["kind","most"] dE:=fnA (kU F27 m_list m_min m_range A26) b27 k27 (PySem.W.mg_of X G a27);have A28:FnA l.prog w K mg base "counts" 4 ["kind","most"] cZ:=fnA (nN F28 m_tuple A27) b28 k28 (PySem.W.mg_of X G a28);have A29:FnA l.prog w K mg base "partings_below" 31 ["n","most"] (mI 31):=fnA (ok_pb 31 F29 m_min m_range b29 k29 (PySem.W.mg_of X G a29)) b29 k29 (PySem.W.mg_of X G a29);have A30:FnA l.prog w K mg base "partings" 32 ["n"] uF:=fnA (ok_ps F30 m_tuple A29) b30 k30 (PySem.W.mg_of X G a30);have A31:FnA l.prog w K mg base "weight" 1 ["parting"] eL:=fnA (nK F31 m_sum) b31 k31 (PySem.W.mg_of X G a31);have A32:FnA l.prog w K mg base "rank" 1 ["parting"] iW:=fnA (vH F32 m_len) b32 k32 (PySem.W.mg_of X G a32);have A33:FnA l.prog w K mg base "mark" 1 ["parting"] iX:=fnA (vI F33 m_len) b33 k33 (PySem.W.mg_of X G a33);have A34:FnA l.prog w K mg base "value_of" 2 ["which","parting"] uy:=fnA (ok_vo F34 A33 A32) b34 k34 (PySem.W.mg_of X G a34);have A35:FnA l.prog w K mg base "many_with" 1 ["which","value","everything"] uG:=fnA (ok_mw F35 m_abs m_len m_range) b35 k35 (PySem.W.mg_of X G a35);have A36:FnA l.prog w K mg base "spread" 5 ["which","n"] mG:=fnA (ok_spr F36 m_range m_tuple A28 A35 A34) b36 k36 (PySem.W.mg_of X G a36);have A37:FnA l.prog w K mg base "shares" 6 ["which","n","t"] mH:=fnA (ok_shs F37 m_tuple A36) b37 k37 (PySem.W.mg_of X G a37);have A38:FnA l.prog w K mg base "_law_hand" 1 ["_law_script","_law_k"] (iY K):=fnA (vJ F38 m_int m_len) b38 k38 (PySem.W.mg_of X G a38);have A39:FnA l.prog w K mg base "_law_take" 1 ["_law_hand_here","_law_many"] iV:=fnA (vG F39) b39 k39 (PySem.W.mg_of X G a39);have A40:FnA l.prog w K mg base "_law_round_right" 9 ["_law_t","_law_parting","_law_n"] uD:=fnA (ok_rr F40 m_len m_range m_set A21 A20 A31) b40 k40 (PySem.W.mg_of X G a40);exact ok_law F41 m_len m_list m_min m_range m_tuple A38 A40 A39 A28 A22 A30 A23 A21 A37
theorem walk {l:PySem.W.OpenLaw} {q:Program} {loose:List Str} {XP:(Str->Option Value)->Heap->Prop} {YP:World->Heap->Prop} {d:DefRec} {K:Params->PySem.W.Frag} (hn:l.most=some 63) (hdf:d.params.defaults=[])
 (hY:∀ (w:World) (h:Heap),YP w h->(K w.params).In h)
 (F:∀ (w:World) (mg:.(53)) (fa:Addr) (h:Heap),(K w.params).In h->h.Ns mainGlobals mg->mg d.name=some (.ref fa) ->
   ∃ fd:FuncData,(∀ (s:Shared) (u:Value),BindsTo s fd ⟨[u],[]⟩ [("_law_script",u)])/\∀ base:Heap,(K w.params).In base->base.Ns mainGlobals mg->FnOk l.prog w (K w.params) mg base CX0 33 fa fd ["_law_script"] (jD (K w.params))) :
 PySem.W.WalkO q loose XP YP l.row.toRowW d [] (fun f vs=>PySem.call f vs):=
 L2.walk_of (n:=63) (k:=33) (x:="_law_script") (CX:=fun _=>CX0) (sp:=fun w=>jD (K w.params)) hn (by decide) hdf ⟨rfl,by decide,by decide,rfl⟩ hY F (fun _ _ a ns hl _ hS=>⟨a,ns,rfl,hS,hl,fun _=>rfl⟩) fun _ _ _ _ _ z=>z
end K79
namespace PySem.W.Fast
theorem tw6866532452540508007:True:=⟨⟩
theorem tw7071803585661049236:True:=⟨⟩
theorem tw9371748766183271275:True:=⟨⟩
theorem tw17246262929962776872:True:=⟨⟩
theorem tw12690475131049802355:True:=⟨⟩
theorem tw12360049990141566847:True:=⟨⟩
theorem tw6888768150048298531:True:=⟨⟩
theorem tw12004832293559535052:True:=⟨⟩
theorem tw16674428597738092336:True:=⟨⟩
theorem tw1618972290817858804:True:=⟨⟩
theorem tw15904077427338355369:True:=⟨⟩
theorem tw8466081322543821608:True:=⟨⟩
theorem tw2163138863357591618:True:=⟨⟩
theorem tw8080046363127541304:True:=⟨⟩
theorem tw12460009943208746665:True:=⟨⟩
theorem tw5346415828914950324:True:=⟨⟩
theorem tw15529110898441728825:True:=⟨⟩
theorem tw1014237601002121286:True:=⟨⟩
theorem tw3074523174058408361:True:=⟨⟩
theorem tw7943312809705259638:True:=⟨⟩
theorem tw12457778661040384775:True:=⟨⟩
theorem tw8118875371027536250:True:=⟨⟩
theorem tw9762020252453034356:True:=⟨⟩
theorem tw16574580288427592782:True:=⟨⟩
theorem tw4653898914959323342:True:=⟨⟩
theorem tw2296001659158395636:True:=⟨⟩
theorem tw7114154079751002806:True:=⟨⟩
theorem tw11539920904571523990:True:=⟨⟩
theorem tw2688502725400395515:True:=⟨⟩
theorem tw3091237315756263093:True:=⟨⟩
theorem tw3643437680873639757:True:=⟨⟩
theorem tw3200968309495128522:True:=⟨⟩
theorem tw17772458539908470433:True:=⟨⟩
theorem tw11490943690156742297:True:=⟨⟩
theorem tw8239693038854805741:True:=⟨⟩
theorem tw3910272919892235318:True:=⟨⟩
theorem tw5406962014972099:True:=⟨⟩
theorem tw3193434149740744799:True:=⟨⟩
theorem tw11106327059747461758:True:=⟨⟩
theorem tw14555957897997108238:True:=⟨⟩
theorem tw17035759939022934710:True:=⟨⟩
theorem tw965379170674120281:True:=⟨⟩
theorem tw17138407243025308728:True:=⟨⟩
theorem tw12996374174294601281:True:=⟨⟩
theorem tw17052245392190816939:True:=⟨⟩
theorem tw619681816587508926:True:=⟨⟩
theorem tw2033108867429658973:True:=⟨⟩
theorem tw16465199449626432963:True:=⟨⟩
theorem tw15543459655820970703:True:=⟨⟩
theorem tw5001666082863114878:True:=⟨⟩
theorem tw8682360691508736514:True:=⟨⟩
theorem tw13475094637364985317:True:=⟨⟩
theorem tw15024885542308172095:True:=⟨⟩
theorem tw15553822200674997868:True:=⟨⟩
theorem tw16376023004684163256:True:=⟨⟩
theorem tw13340644488877474634:True:=⟨⟩
theorem tw11381636497469152514:True:=⟨⟩
theorem tw11544207190441924167:True:=⟨⟩
theorem tw8778641413478101631:True:=⟨⟩
theorem tw14465775536373597461:True:=⟨⟩
theorem tw9035823428047514544:True:=⟨⟩
theorem tw10201572335570686649:True:=⟨⟩
theorem tw12878055504916180162:True:=⟨⟩
theorem tw16352290260628306961:True:=⟨⟩
theorem tw18217137231651811423:True:=⟨⟩
theorem tw3599208610576189439:True:=⟨⟩
theorem tw10944257271118213834:True:=⟨⟩
theorem tw6045094604990829543:True:=⟨⟩
theorem tw15758051032118693746:True:=⟨⟩
theorem tw11644078857027905406:True:=⟨⟩
theorem tw5924605605562024282:True:=⟨⟩
theorem tw14316500286164057245:True:=⟨⟩
theorem tw5385896560524984248:True:=⟨⟩
theorem tw6056572920767616741:True:=⟨⟩
theorem tw18094980210202342582:True:=⟨⟩
theorem tw18232057636083230678:True:=⟨⟩
theorem tw2437198655827218414:True:=⟨⟩
theorem tw13894509077889048949:True:=⟨⟩
theorem tw17302143703420417616:True:=⟨⟩
theorem tw15974136178161939479:True:=⟨⟩
theorem tw4079635354739611095:True:=⟨⟩
theorem tw1035965317001267642:True:=⟨⟩
theorem tw17213016346519267430:True:=⟨⟩
theorem tw4127910105411863570:True:=⟨⟩
theorem tw8299779578699915993:True:=⟨⟩
theorem tw3366005474775122186:True:=⟨⟩
theorem tw6954712002088704343:True:=⟨⟩
theorem tw3666355476624117602:True:=⟨⟩
theorem tw4118800660483258899:True:=⟨⟩
theorem tw9644513821292408221:True:=⟨⟩
theorem tw14317758344847139773:True:=⟨⟩
theorem tw17221938376873118851:True:=⟨⟩
theorem tw12097402036480427305:True:=⟨⟩
theorem tw846402279743343722:True:=⟨⟩
theorem tw9804168421645532573:True:=⟨⟩
theorem tw10499966813604287386:True:=⟨⟩
theorem tw3164092745460701741:True:=⟨⟩
theorem tw17664481977462614511:True:=⟨⟩
theorem tw3101168592374682823:True:=⟨⟩
theorem tw8092207098606100574:True:=⟨⟩
theorem tw7599146817016167988:True:=⟨⟩
theorem tw15277128435376338833:True:=⟨⟩
theorem tw3701129747763477818:True:=⟨⟩
theorem tw11572481621945677824:True:=⟨⟩
theorem tw1556460942049167617:True:=⟨⟩
theorem tw7802274252390965242:True:=⟨⟩
theorem tw3627386914182733326:True:=⟨⟩
theorem tw12951040777106345812:True:=⟨⟩
theorem tw6214424104661037424:True:=⟨⟩
theorem tw3925767912915862295:True:=⟨⟩
theorem tw8156893727583681573:True:=⟨⟩
theorem tw13272431003877295379:True:=⟨⟩
theorem tw16370712408360955021:True:=⟨⟩
theorem tw6410162943897757939:True:=⟨⟩
theorem tw11363424975981451873:True:=⟨⟩
theorem tw9511137023088980529:True:=⟨⟩
theorem tw16677882838351063685:True:=⟨⟩
theorem tw13780192505743776503:True:=⟨⟩
theorem tw9397313025127591119:True:=⟨⟩
theorem tw18337699166987045549:True:=⟨⟩
theorem tw6736112189554985247:True:=⟨⟩
theorem tw18104206310150770160:True:=⟨⟩
theorem tw7568269177934218026:True:=⟨⟩
theorem tw12872141443228464570:True:=⟨⟩
theorem tw7370056825070665903:True:=⟨⟩
theorem tw6522473647543398389:True:=⟨⟩
theorem tw10642541317818371429:True:=⟨⟩
theorem tw3427852804169736074:True:=⟨⟩
theorem tw5861572405687662645:True:=⟨⟩
theorem tw8616831402872916553:True:=⟨⟩
theorem tw958440193795344226:True:=⟨⟩
theorem tw5912001676554207224:True:=⟨⟩
theorem tw17426283097524982580:True:=⟨⟩
theorem tw16305999896508590756:True:=⟨⟩
theorem tw13556575999028365239:True:=⟨⟩
theorem tw183008394151277322:True:=⟨⟩
theorem tw17928550397189109162:True:=⟨⟩
theorem tw9359981156495571676:True:=⟨⟩
theorem tw8493300895815611037:True:=⟨⟩
theorem tw5154166403513639422:True:=⟨⟩
theorem tw7911233775355217766:True:=⟨⟩
theorem tw12649340627572451832:True:=⟨⟩
theorem tw8949174407300117186:True:=⟨⟩
theorem tw4778300043944449304:True:=⟨⟩
theorem tw218064943878966209:True:=⟨⟩
theorem tw9970699592981031743:True:=⟨⟩
theorem tw2861522803386249918:True:=⟨⟩
theorem tw9077819194542752729:True:=⟨⟩
theorem tw11126929668005376644:True:=⟨⟩
theorem tw14583265062137042480:True:=⟨⟩
theorem tw15538211077150183863:True:=⟨⟩
theorem tw13499447266240294359:True:=⟨⟩
theorem tw7421365809065998629:True:=⟨⟩
theorem tw12080388222769038428:True:=⟨⟩
theorem tw18237095260290343696:True:=⟨⟩
theorem tw18265143818830549293:True:=⟨⟩
theorem tw14791255898191133338:True:=⟨⟩
theorem tw4868998035391183007:True:=⟨⟩
theorem tw12735845376283416077:True:=⟨⟩
theorem tw14269491013238513483:True:=⟨⟩
theorem tw16715245903812967651:True:=⟨⟩
theorem tw14586396246553791697:True:=⟨⟩
theorem tw4335542488047415475:True:=⟨⟩
theorem tw16806590753228978945:True:=⟨⟩
theorem tw6315099799267815354:True:=⟨⟩
theorem tw6066842864779632048:True:=⟨⟩
theorem tw7306174628150268543:True:=⟨⟩
theorem tw816194967429365023:True:=⟨⟩
theorem tw1899490135404266527:True:=⟨⟩
theorem tw16120142096409429438:True:=⟨⟩
theorem tw3077839802026846599:True:=⟨⟩
theorem tw14692551776624226244:True:=⟨⟩
theorem tw542109542952750171:True:=⟨⟩
theorem tw774430438726756121:True:=⟨⟩
theorem tw13213708940943423930:True:=⟨⟩
theorem tw10368534941430891609:True:=⟨⟩
theorem tw7846049101112112307:True:=⟨⟩
theorem tw13605194151571005414:True:=⟨⟩
theorem tw317246365454263174:True:=⟨⟩
theorem tw17008817480542731321:True:=⟨⟩
theorem tw265473645758952727:True:=⟨⟩
theorem tw9621276838725862802:True:=⟨⟩
theorem tw9235170273216430707:True:=⟨⟩
theorem tw11000735304186937722:True:=⟨⟩
theorem tw9752980278369044242:True:=⟨⟩
theorem tw13235997464773612204:True:=⟨⟩
theorem tw14508031393250751176:True:=⟨⟩
theorem tw18001445147227292961:True:=⟨⟩
theorem tw6587209358796421683:True:=⟨⟩
theorem tw8102605924147673615:True:=⟨⟩
theorem tw3057673352161884274:True:=⟨⟩
theorem tw16106339635232819641:True:=⟨⟩
theorem tw15005775602592298092:True:=⟨⟩
theorem tw12034015125202739499:True:=⟨⟩
theorem tw393255059109499944:True:=⟨⟩
theorem tw6427398438946161108:True:=⟨⟩
theorem tw8490491002135549494:True:=⟨⟩
theorem tw8883004078866860873:True:=⟨⟩
theorem tw4611986935256476593:True:=⟨⟩
theorem tw7645580519146416423:True:=⟨⟩
theorem tw3676795704052502157:True:=⟨⟩
theorem tw7945051106403784837:True:=⟨⟩
theorem tw9949473113032500486:True:=⟨⟩
theorem tw2194469307054651723:True:=⟨⟩
theorem tw14133074968711647437:True:=⟨⟩
theorem tw7212555452319860852:True:=⟨⟩
theorem tw13234538705976846940:True:=⟨⟩
theorem tw6376908529931458103:True:=⟨⟩
theorem tw15163002617509012591:True:=⟨⟩
theorem tw13408464212559970430:True:=⟨⟩
theorem tw6439268763863663677:True:=⟨⟩
theorem tw639713326291330634:True:=⟨⟩
theorem tw273990209630245510:True:=⟨⟩
theorem tw4021409086030346016:True:=⟨⟩
theorem tw10484518528623895329:True:=⟨⟩
theorem tw15252249290543087811:True:=⟨⟩
theorem tw1581735739735292679:True:=⟨⟩
theorem tw13327115691895019702:True:=⟨⟩
theorem tw10730019191014481583:True:=⟨⟩
theorem tw15537276663613819686:True:=⟨⟩
theorem tw8068865163501469752:True:=⟨⟩
theorem tw1888986899078288179:True:=⟨⟩
theorem tw4551878366735766647:True:=⟨⟩
theorem tw17069150395185752129:True:=⟨⟩
theorem tw5858621197981884595:True:=⟨⟩
theorem tw8543978051395949401:True:=⟨⟩
theorem tw3444046102927210016:True:=⟨⟩
theorem tw15693304197803755881:True:=⟨⟩
theorem tw12352545374653439081:True:=⟨⟩
theorem tw15815246523921969368:True:=⟨⟩
theorem tw11764531087325793734:True:=⟨⟩
theorem tw773278426230336545:True:=⟨⟩
theorem tw18161532192314095103:True:=⟨⟩
theorem tw14490550485170566233:True:=⟨⟩
theorem tw12471558309206433074:True:=⟨⟩
theorem tw17516275975668161980:True:=⟨⟩
theorem tw8148548618863691721:True:=⟨⟩
theorem tw2574197833513919612:True:=⟨⟩
theorem tw11202985805720591102:True:=⟨⟩
theorem tw12848909792555863919:True:=⟨⟩
theorem tw16236916834489288603:True:=⟨⟩
theorem tw1620507536477670700:True:=⟨⟩
theorem tw9759951312245597727:True:=⟨⟩
theorem tw1965880350440415385:True:=⟨⟩
theorem tw2433634701315843474:True:=⟨⟩
theorem tw17923235526209287988:True:=⟨⟩
theorem tw346610503766890182:True:=⟨⟩
theorem tw162276861093780531:True:=⟨⟩
theorem tw2304400175918839763:True:=⟨⟩
theorem tw7401237592122738919:True:=⟨⟩
theorem tw4617556168156756850:True:=⟨⟩
theorem tw13587775042051581260:True:=⟨⟩
theorem tw5982512047874578856:True:=⟨⟩
theorem tw1574098478130091017:True:=⟨⟩
theorem tw13513687987834945736:True:=⟨⟩
theorem tw12158006194205719982:True:=⟨⟩
theorem tw2490847395336249139:True:=⟨⟩
theorem tw7239583499948851374:True:=⟨⟩
theorem tw10724217860935337280:True:=⟨⟩
theorem tw14847438569443917207:True:=⟨⟩
theorem tw9319809970857449753:True:=⟨⟩
theorem tw4830066604870691611:True:=⟨⟩
theorem tw3534329947006329030:True:=⟨⟩
theorem tw6319397318972848405:True:=⟨⟩
theorem tw12463440567695688230:True:=⟨⟩
theorem tw16796880320717001098:True:=⟨⟩
theorem tw3105068558481238424:True:=⟨⟩
theorem tw3615140267048285361:True:=⟨⟩
theorem tw13183128827152620563:True:=⟨⟩
theorem tw13878040360491653569:True:=⟨⟩
theorem tw1310130544767796916:True:=⟨⟩
theorem tw3048155659613333933:True:=⟨⟩
theorem tw15294279010320603449:True:=⟨⟩
theorem tw1164590996448142739:True:=⟨⟩
theorem tw7066958860963157374:True:=⟨⟩
theorem tw10985200053818894674:True:=⟨⟩
theorem tw5484636405014295412:True:=⟨⟩
theorem tw3847665303593190736:True:=⟨⟩
theorem tw16009130318740524206:True:=⟨⟩
theorem tw9861480756394703213:True:=⟨⟩
theorem tw11048683661579445726:True:=⟨⟩
theorem tw7959325795847168561:True:=⟨⟩
theorem tw13070876416021854991:True:=⟨⟩
theorem tw2601791727999602297:True:=⟨⟩
theorem tw15882916851796502669:True:=⟨⟩
theorem tw16387309875450289336:True:=⟨⟩
theorem tw10782269391532002855:True:=⟨⟩
theorem tw6234120817012860127:True:=⟨⟩
theorem tw11558213451915723680:True:=⟨⟩
theorem tw3555338398691114175:True:=⟨⟩
theorem tw1906039346098132318:True:=⟨⟩
theorem tw17563027623654450495:True:=⟨⟩
theorem tw17464187223782855656:True:=⟨⟩
theorem tw16203350402133376975:True:=⟨⟩
theorem tw18294891552296793329:True:=⟨⟩
theorem tw4985821529320547300:True:=⟨⟩
theorem tw10996430622310234948:True:=⟨⟩
theorem tw14129196700074201514:True:=⟨⟩
theorem tw5143727098021855539:True:=⟨⟩
theorem tw7201128310185350349:True:=⟨⟩
theorem tw3479726398291408691:True:=⟨⟩
theorem tw15420628617124525273:True:=⟨⟩
theorem tw8275617618838180779:True:=⟨⟩
theorem tw543157049303204307:True:=⟨⟩
theorem tw2314590561455595860:True:=⟨⟩
theorem tw476925297269811566:True:=⟨⟩
theorem tw4937905156170549334:True:=⟨⟩
theorem tw17875987589379355380:True:=⟨⟩
theorem tw18174274329307141373:True:=⟨⟩
theorem tw14376273377750033511:True:=⟨⟩
theorem tw5600067637160392988:True:=⟨⟩
theorem tw9392279870621795991:True:=⟨⟩
theorem tw13316993581315201085:True:=⟨⟩
theorem tw10038449830165517218:True:=⟨⟩
theorem tw12083910820892286749:True:=⟨⟩
theorem tw6256579236076746218:True:=⟨⟩
theorem tw10798383575552627162:True:=⟨⟩
theorem tw16388561153823811794:True:=⟨⟩
theorem tw14635750633625049006:True:=⟨⟩
theorem tw9050630863524961002:True:=⟨⟩
theorem tw6072484091624082478:True:=⟨⟩
theorem tw12805850225968813825:True:=⟨⟩
theorem tw3045435591703444549:True:=⟨⟩
theorem tw1438759791427504703:True:=⟨⟩
theorem tw4021622552991116864:True:=⟨⟩
theorem tw4436963488253049250:True:=⟨⟩
theorem tw2079693674174649582:True:=⟨⟩
theorem tw11536000787917010954:True:=⟨⟩
theorem tw2676868235281456270:True:=⟨⟩
theorem tw14271730443531287647:True:=⟨⟩
theorem tw10825442169902890007:True:=⟨⟩
theorem tw18367421771810566150:True:=⟨⟩
theorem tw16447017852649323668:True:=⟨⟩
theorem tw2597469424667671345:True:=⟨⟩
theorem tw15923663650065978466:True:=⟨⟩
theorem tw6500960947679890742:True:=⟨⟩
theorem tw555507788040104255:True:=⟨⟩
theorem tw13427257443805553731:True:=⟨⟩
theorem tw15219331190153833000:True:=⟨⟩
theorem tw8537884543748302834:True:=⟨⟩
theorem tw17261326701971105058:True:=⟨⟩
theorem tw16759871067127022239:True:=⟨⟩
theorem tw17832018807019550096:True:=⟨⟩
theorem tw7489551611592369311:True:=⟨⟩
theorem tw8352867748732128412:True:=⟨⟩
theorem tw9533735315224106404:True:=⟨⟩
theorem tw8682426800614114364:True:=⟨⟩
theorem tw17370236918300969244:True:=⟨⟩
end PySem.W.Fast
open PySem PySem.W PyProof.Rows
set_option maxRecDepth 100000 in
set_option maxHeartbeats 0 in
theorem PySem.Challenge.cw_partrests_k79_whole_shares_part_the_coun_holds : PySem.Challenge.rw_partrests_k79_whole_shares_part_the_coun.Holds := by
 w_on;o_law;k_head;(case hw=>w_witness2);k_fill;refine K79.walk (l:=PySem.Challenge.rw_partrests_k79_whole_shares_part_the_coun) rfl rfl (fun w h Y=>PySem.W.kIn_of Y) ?F
 case F=>
  intro w mg fa h KX G hmg
  refine' K79.all_mk KX G hmg ?a1 ?l1 ?c1 ?k1 ?a2 ?l2 ?c2 ?k2 ?a3 ?l3 ?c3 ?k3 ?a4 ?l4 ?c4 ?k4 ?a5 ?l5 ?c5 ?k5 ?a6 ?l6 ?c6 ?k6 ?a7 ?l7 ?c7 ?k7 ?a8 ?l8 ?c8 ?k8 ?a9 ?l9 ?c9 ?k9 ?a10 ?l10 ?c10 ?k10 ?a11 ?l11 ?c11 ?k11 ?a12 ?l12 ?c12 ?k12 ?a13 ?l13 ?c13 ?k13 ?a14 ?l14 ?c14 ?k14 ?a15 ?l15 ?c15 ?k15 ?a16 ?l16 ?c16 ?k16 ?a17 ?l17 ?c17 ?k17 ?a18 ?l18 ?c18 ?k18 ?a19 ?l19 ?c19 ?k19 ?a20 ?l20 ?c20 ?k20 ?a21 ?l21 ?c21 ?k21 ?a22 ?l22 ?c22 ?k22 ?a23 ?l23 ?c23 ?k23 ?a24 ?l24 ?c24 ?k24 ?a25 ?l25 ?c25 ?k25 ?a26 ?l26 ?c26 ?k26 ?a27 ?l27 ?c27 ?k27 ?a28 ?l28 ?c28 ?k28 ?a29 ?l29 ?c29 ?k29 ?a30 ?l30 ?c30 ?k30 ?a31 ?l31 ?c31 ?k31 ?a32 ?l32 ?c32 ?k32 ?a33 ?l33 ?c33 ?k33 ?a34 ?l34 ?c34 ?k34 ?a35 ?l35 ?c35 ?k35 ?a36 ?l36 ?c36 ?k36 ?a37 ?l37 ?c37 ?k37 ?a38 ?l38 ?c38 ?k38 ?a39 ?l39 ?c39 ?k39 ?a40 ?l40 ?c40 ?k40 ?a41 ?l41 ?c41 ?k41 ?y1 ?yt1 ?z1 ?z2 ?z3 ?z4 ?z5 ?z6 ?z7 ?z8 ?z9 ?z10 ?z11 ?z12 ?z13 ?z14
  (case a1=>k_is);(case l1=>k_is);(case c1=>k_is);(case k1=>k_is)
  (case a2=>k_is);(case l2=>k_is);(case c2=>k_is);(case k2=>k_is)
  (case a3=>k_is);(case l3=>k_is);(case c3=>k_is);(case k3=>k_is)
  (case a4=>k_is);(case l4=>k_is);(case c4=>k_is);(case k4=>k_is)
  (case a5=>k_is);(case l5=>k_is);(case c5=>k_is);(case k5=>k_is)
  (case a6=>k_is);(case l6=>k_is);(case c6=>k_is);(case k6=>k_is)
  (case a7=>k_is);(case l7=>k_is);(case c7=>k_is);(case k7=>k_is)
  (case a8=>k_is);(case l8=>k_is);(case c8=>k_is);(case k8=>k_is)
  (case a9=>k_is);(case l9=>k_is);(case c9=>k_is);(case k9=>k_is)
  (case a10=>k_is);(case l10=>k_is);(case c10=>k_is);(case k10=>k_is)
  (case a11=>k_is);(case l11=>k_is);(case c11=>k_is);(case k11=>k_is)
  (case a12=>k_is);(case l12=>k_is);(case c12=>k_is);(case k12=>k_is)
  (case a13=>k_is);(case l13=>k_is);(case c13=>k_is);(case k13=>k_is)
  (case a14=>k_is);(case l14=>k_is);(case c14=>k_is);(case k14=>k_is)
  (case a15=>k_is);(case l15=>k_is);(case c15=>k_is);(case k15=>k_is)
  (case a16=>k_is);(case l16=>k_is);(case c16=>k_is);(case k16=>k_is)
  (case a17=>k_is);(case l17=>k_is);(case c17=>k_is);(case k17=>k_is)
  (case a18=>k_is);(case l18=>k_is);(case c18=>k_is);(case k18=>k_is)
  (case a19=>k_is);(case l19=>k_is);(case c19=>k_is);(case k19=>k_is)
  (case a20=>k_is);(case l20=>k_is);(case c20=>k_is);(case k20=>k_is)
  (case a21=>k_is);(case l21=>k_is);(case c21=>k_is);(case k21=>k_is)
  (case a22=>k_is);(case l22=>k_is);(case c22=>k_is);(case k22=>k_is)
  (case a23=>k_is);(case l23=>k_is);(case c23=>k_is);(case k23=>k_is)
  (case a24=>k_is);(case l24=>k_is);(case c24=>k_is);(case k24=>k_is)
  (case a25=>k_is);(case l25=>k_is);(case c25=>k_is);(case k25=>k_is)
  (case a26=>k_is);(case l26=>k_is);(case c26=>k_is);(case k26=>k_is)
  (case a27=>k_is);(case l27=>k_is);(case c27=>k_is);(case k27=>k_is)
  (case a28=>k_is);(case l28=>k_is);(case c28=>k_is);(case k28=>k_is)
  (case a29=>k_is);(case l29=>k_is);(case c29=>k_is);(case k29=>k_is)
  (case a30=>k_is);(case l30=>k_is);(case c30=>k_is);(case k30=>k_is)
  (case a31=>k_is);(case l31=>k_is);(case c31=>k_is);(case k31=>k_is)
  (case a32=>k_is);(case l32=>k_is);(case c32=>k_is);(case k32=>k_is)
  (case a33=>k_is);(case l33=>k_is);(case c33=>k_is);(case k33=>k_is)
  (case a34=>k_is);(case l34=>k_is);(case c34=>k_is);(case k34=>k_is)
  (case a35=>k_is);(case l35=>k_is);(case c35=>k_is);(case k35=>k_is)
  (case a36=>k_is);(case l36=>k_is);(case c36=>k_is);(case k36=>k_is)
  (case a37=>k_is);(case l37=>k_is);(case c37=>k_is);(case k37=>k_is)
  (case a38=>k_is);(case l38=>k_is);(case c38=>k_is);(case k38=>k_is)
  (case a39=>k_is);(case l39=>k_is);(case c39=>k_is);(case k39=>k_is)
  (case a40=>k_is);(case l40=>k_is);(case c40=>k_is);(case k40=>k_is)
  (case a41=>k_is);(case l41=>k_is);(case c41=>k_is);(case k41=>k_is)
  (case y1=>k_is)
  (case yt1=>with_unfolding_all rfl)
  (case z1=>k_is)
  (case z2=>k_is)
  (case z3=>k_is)
  (case z4=>k_is)
  (case z5=>k_is)
  (case z6=>k_is)
  (case z7=>k_is)
  (case z8=>k_is)
  (case z9=>k_is)
  (case z10=>k_is)
  (case z11=>k_is)
  (case z12=>k_is)
  (case z13=>k_is)
  (case z14=>k_is)
end
