import PyProof.Rows.All
import Wide.All
import OpenK.AllK
import Wide.FinOn
import Lean
import PyProof.EqAt
import PyProof.EqKinds
import PyProof.TupleCall
import KE.KEqDict
import KE.KDictList
import KE.KIntText
import PyProof.Rows.TupDisplay
import KE.KItemsList
import PySem.Challenge.RW_tallyveil_k77_whole_rounded_and_rounded
set_option Elab.async false
set_option linter.all false
set_option maxRecDepth 100000
set_option maxHeartbeats 4000000
theorem Zg{α : Type _}{l:List α}{i:Nat}{a:α}(h:l[i]?=some a):∃ h:i<l.length,l[i]=a:=List.getElem?_eq_some_iff.mp h
namespace P77
open PySem PySem.Spec PyProof.Rows
abbrev pw:Program:=PySem.Challenge.pw_tallyveil_k77_whole_rounded_and_rounded
abbrev lw:PySem.W.OpenLaw:=PySem.Challenge.rw_tallyveil_k77_whole_rounded_and_rounded
def vw:Program:=PySem.W.view pw [0,1,2,3,4,5,6,7,8,9,10,11,12,13,14,15,16,17,18,19,20,21,22,23,24,25,26,27,28,29,30,31,32,33,34,35,36,37,38,39,40,41,42,43,44,45,46,47,48,49,50,51,52,53,54,55,56,57,58]
def xt (s:Shared):Bool:=PySem.W.xlAt vw [] s&&PySem.W.recOk (PySem.W.RowW.records lw.row.toRowW) s
theorem seen1 (w:World):(PySem.W.openEnds treeTable pw w 8000).map (λ s=>(PySem.W.openSeen vw [] (importedModules pw.main.body) xt true s,()))=some (PySem.W.openGood vw [],()):=by
 unfold PySem.W.openEnds PySem.W.topFrom
 rw[PySem.W.Fast.te14082659384304107361,PySem.W.Fast.te4187177175401517315,PySem.W.Fast.te14364793385576792824]
 kernel_rfl
end P77
namespace L2
open PySem PySem.Spec PyProof.Rows
abbrev Key:=Sum Int Str
def a1m:Key->Value->Bool
 | .inl k,v=>Value.isInt k v
 | .inr x,v=>Value.isStrOf x v
def keyH (w:World):Key->Int
 | .inl k=>hashInt k
 | .inr x=>hashStr w x
theorem j7:∀ {k:Key}{v:Value},a1m k v=true->(∃ i t,k=Sum.inl i/\v=Value.int i t)\/(∃ x t,k=Sum.inr x/\v=Value.str x t)
 | .inl i,v,h=>by
  obtain⟨t,e⟩:=Value.isInt_shape (k:=i) (v:=v) h
  exact .inl ⟨i,t,rfl,e⟩
 | .inr x,v,h=>by
  obtain⟨t,e⟩:=Value.isStrOf_shape (x:=x) (v:=v) h
  exact .inr ⟨x,t,rfl,e⟩
theorem keyIs_int (i:Int)(t:Tok):a1m (.inl i) (.int i t)=true:=by simp[a1m,Value.isInt]
theorem keyIs_str (x:Str)(t:Tok):a1m (.inr x) (.str x t)=true:=by simp[a1m,Value.isStrOf]
theorem key_ll (a b:Int):decide ((Sum.inl a:Key)=Sum.inl b)=(a==b):=by
 by_cases e:a=b
 ·subst e;simp
 ·have h:¬ (Sum.inl a:Key)=Sum.inl b:=λ q=>e (Sum.inl.inj q)
  rw[decide_eq_false h]
  exact(beq_eq_false_iff_ne.mpr e).symm
theorem key_rr (a b:Str):decide ((Sum.inr a:Key)=Sum.inr b)=decide (a=b):=by
 by_cases e:a=b
 ·subst e;simp
 ·have h:¬ (Sum.inr a:Key)=Sum.inr b:=λ q=>e (Sum.inr.inj q)
  rw[decide_eq_false h,decide_eq_false e]
theorem key_lr (a:Int)(b:Str):decide ((Sum.inl a:Key)=Sum.inr b)=false:=decide_eq_false (λ q=>nomatch q)
theorem key_rl (a:Str)(b:Int):decide ((Sum.inr a:Key)=Sum.inl b)=false:=decide_eq_false (λ q=>nomatch q)
def d2 (prog:Program)(w:World):PySem.KeyKind prog w Key where
 is:=a1m
 hash:=keyH w
 inj:=λ v a b ha hb=>by
  rcases j7 ha with⟨i,t,rfl,rfl⟩ | ⟨x,t,rfl,rfl⟩
  ·rcases j7 hb with⟨j,u,rfl,e⟩ | ⟨y,u,rfl,e⟩
   ·injection e with e1 _;rw[e1]
   ·exact nomatch e
  ·rcases j7 hb with⟨j,u,rfl,e⟩ | ⟨y,u,rfl,e⟩
   ·exact nomatch e
   ·injection e with e1 _;rw[e1]
 byValue:=λ k v h=>by
  rcases j7 h with⟨i,t,rfl,rfl⟩ | ⟨x,t,rfl,rfl⟩ <;> rfl
 pyHash:=λ hv h=>by
  rcases j7 hv with⟨i,t,rfl,rfl⟩ | ⟨x,t,rfl,rfl⟩
  ·exact wpAny_pyHash_int h
  ·exact wpAny_pyHash_str h
 eqBool:=λ hu hv h=>by
  rcases j7 hu with⟨i,t,rfl,rfl⟩ | ⟨x,t,rfl,rfl⟩
  ·rcases j7 hv with⟨j,u,rfl,rfl⟩ | ⟨y,u,rfl,rfl⟩
   ·rw[key_ll]at h;exact wpAny_eqBool_int h
   ·rw[key_lr]at h;exact SeqAt.EqAt.int_str i t y u _ _ _ _ h
  ·rcases j7 hv with⟨j,u,rfl,rfl⟩ | ⟨y,u,rfl,rfl⟩
   ·rw[key_rl]at h;exact SeqAt.EqAt.str_int x t j u _ _ _ _ h
   ·rw[key_rr]at h;exact wpAny_eqBool_str h
 «strs»:=λ k x t v h=>by
  rcases j7 h with⟨i,u,rfl,e⟩ | ⟨y,u,rfl,e⟩
  ·exact nomatch e
  ·injection e with e1 _
   subst e1
   cases v <;> rfl
theorem E9 (prog:Program)(w:World)(i:Int)(t:Tok):(d2 prog w).is (.inl i) (.int i t)=true:=keyIs_int i t
theorem a4m (prog:Program)(w:World)(x:Str)(t:Tok):(d2 prog w).is (.inr x) (.str x t)=true:=keyIs_str x t
inductive V where
 | non | bl (b:Bool) | int (i:Int) | str (x:Str) | byt (b:Array UInt8) | flt (b:UInt64) | ref (a:Addr) | ty (n:String)
 deriving DecidableEq
def RelV:V->Value->Prop
 | .non,u=>u=Value.none
 | .bl b,u=>u=Value.bool b
 | .int i,u=>∃ t,u=Value.int i t
 | .str x,u=>∃ t,u=Value.str x t
 | .byt b,u=>∃ t,u=Value.bytes b t
 | .flt b,u=>∃ t,u=Value.float b t
 | .ref a,u=>u=Value.ref a
 | .ty n,u=>u=Value.type n
abbrev Vals:List V->List Value->Prop:=Paired RelV
theorem Vals.length {xs:List V}{us:List Value}(r:Vals xs us):xs.length=us.length:=Paired.length r
theorem Vals.get:∀ {xs:List V}{us:List Value}{i:Nat}{x:V},Vals xs us->xs[i]?=some x->∃ u,us[i]?=some u/\RelV x u
 | _,_,_,_,.nil,e=>by simp at e
 | _,_,0,_,.cons r _,e=>by simp at e;subst e;exact⟨_,rfl,r⟩
 | _,_,i + 1,x,.cons _ t,e=>by
  obtain⟨u,h1,h2⟩:=Vals.get (i:=i) (x:=x) t (by simpa using e)
  exact⟨u,by simpa using h1,h2⟩
theorem Vals.set {x:V}{u:Value}(r:RelV x u):∀ {xs:List V}{us:List Value} (i:Nat),Vals xs us->Vals (xs.set i x) (us.set i u)
 | _,_,_,.nil=>.nil
 | _,_,0,.cons _ t=>.cons r t
 | _,_,i + 1,.cons q t=>.cons q (Vals.set r i t)
theorem Vals.append:∀ {xs ys:List V}{us ws:List Value},Vals xs us->Vals ys ws->Vals (xs++ys) (us++ws)
 | _,_,_,_,.nil,s=>s
 | _,_,_,_,.cons r t,s=>.cons r (Vals.append t s)
theorem Vals.take:∀ {xs:List V}{us:List Value} (n:Nat),Vals xs us->Vals (xs.take n) (us.take n)
 | _,_,0,_=>.nil
 | _,_,_ + 1,.nil=>.nil
 | _,_,n + 1,.cons r t=>.cons r (Vals.take n t)
theorem Vals.drop:∀ {xs:List V}{us:List Value} (n:Nat),Vals xs us->Vals (xs.drop n) (us.drop n)
 | _,_,0,r=>r
 | _,_,_ + 1,.nil=>.nil
 | _,_,n + 1,.cons _ t=>Vals.drop n t
def RelO:Option V->Option Value->Prop
 | some v,some u=>RelV v u
 | none,none=>True
 | _,_=>False
def KV {κ:Type}:List (κ×V)->List (κ×Value)->Prop:=Paired λ (p:κ×V) (q:κ×Value)=>p.1=q.1/\RelV p.2 q.2
def kV:Key->V
 | .inl i=>.int i
 | .inr x=>.str x
end L2
namespace L2
open PySem PySem.Spec PyProof.Rows
section
variable {prog:Program}{w:World}{A:Around}{E:Value->Shared->Prop}{s:Shared}
abbrev o9:=List Key×Int
def IsPK (prog:Program)(w:World)(h:Heap)(k:o9)(a:Addr):Prop:=∃ o n t tk,h.get? a=some o/\o.cls=.type "tuple" /\ o.data=.seq #[.ref t,.int k.2 tk] n/\IsTupleKey (d2 prog w) h k.1 t
theorem IsPK.ty {k:o9}{a:Addr}(x:IsPK prog w s.heap k a):s.TypeIs (.ref a) "tuple" := let ⟨o,_,_,_,ho,hc,_⟩:=x;⟨o,ho,hc⟩
theorem IsPK.inj {h:Heap}{a:Addr}{x y:o9}(hx:IsPK prog w h x a)(hy:IsPK prog w h y a):x=y:=by
 obtain⟨o,n,t,tk,h1,_,h3,h4⟩:=hx
 obtain⟨o',n',t',tk',g1,_,g3,g4⟩:=hy
 rw[h1]at g1
 cases g1
 rw[h3]at g3
 injection g3 with e _
 have e:[Value.ref t,Value.int x.2 tk]=[Value.ref t',Value.int y.2 tk']:=congrArg Array.toList e
 simp only[List.cons.injEq,Value.ref.injEq,Value.int.injEq,and_true]at e
 obtain⟨rfl,e2,_⟩:=e
 exact Prod.ext (h4.inj g4) e2
theorem IsPK.keeps {h h':Heap}{k:o9}{a d:Addr}{o:Obj}{es:Array DictEntry}{ep:Nat}(x:IsPK prog w h k a)(ho:h.get? d=some o)(hd:o.data=.dict es ep)(hs:Heap.SameBut d h h'):IsPK prog w h' k a:=by
 obtain⟨o',n,t,tk,h1,h2,h3,h4⟩:=x
 have ne:a≠d:=λ z=>by
  rw[z,ho]at h1
  cases h1
  rw[hd]at h3
  cases h3
 exact⟨o',n,t,tk,(hs.2 a ne).trans h1,h2,h3,h4.keeps ho hd hs⟩
def pkHash (prog:Program)(w:World)(k:o9):Int:=reduceHash (Builtin.Tuple.tupleHashOf [tupleKeyHash (d2 prog w) k.1,(d2 prog w).hash (.inl k.2)])
theorem pk_hash {k:o9}{a:Addr}{Q:Int->Shared->Prop}(hu:A.units < cLine)(hu1:A.in1.units < cLine)(hk:IsPK prog w s.heap k a)(h:Q (pkHash prog w k) { s with toks:=s.toks + (k.1.length + 3) }):wpAny (model prog w) A (pyHash (.ref a)) Q E s:=by
 have hT:=hk.ty
 obtain⟨o,n,t,tk,ho,_,hd,hi⟩:=hk
 unfold pyHash
 first | unfold pyHashByItsType | skip
 first | refine wpAny_bind (wpAny_cRoomFor_or (.inr hu) ?_) | skip
 refine wpAny_bind (wpAny_specialOf hT F.slot_tuple_hash.lookup ?_)
 show wpAny _ _ (if (some (Value.builtin "tuple.__hash__")==some Value.none)=true then _ else _) Q E s
 rw[if_neg (by rw[beq_builtin_none];exact Bool.false_ne_true)]
 refine wpAny_bind (wpAny_specialOf hT F.slot_tuple_hash.lookup ?_)
 show wpAny _ _ (callSpecialIfBoundUnlessNone? (.ref a) "__hash__" _ >>= _) Q E s
 refine wpAny_bind (wpAny_callSpecialIfBoundUnlessNone?_slot hT F.slot_tuple_hash (wpAny_call_entry F.slot_tuple_hash hT F.entry_tuple_hash ?_ (F.args_tuple_hash_1 _)))
 show wpAny _ _ (Builtin.Tuple.tupleItemsOf (.ref a) >>= _) _ _ s
 refine wpAny_bind (wpAny_tupleItemsOf ho hd ?_)
 refine wpAny_bind ?_
 rw[<- Array.forIn_toList]
 refine wpAny_forIn_list _
  (λ rest (b:Array Int) s'=>(rest=[.ref t,.int k.2 tk]/\b.toList=[]/\s'=s)\/(rest=[.int k.2 tk]/\b.toList=[tupleKeyHash (d2 prog w) k.1]/\s'={ s with toks:=s.toks + (k.1.length + 1) })\/(rest=[]/\b.toList=[tupleKeyHash (d2 prog w) k.1,(d2 prog w).hash (.inl k.2)]/\s'={ s with toks:=s.toks + (k.1.length + 2) }))
  _ ?_ ?_ _ _ (.inl ⟨rfl,rfl,rfl⟩)
 ·rintro x rest b s' (⟨e1,e2,rfl⟩ | ⟨e1,e2,rfl⟩ | ⟨e1,_⟩)
  ·cases e1
   refine wpAny_bind (wpAny_pyHash_tuple hu1 hi ?_)
   first
    | exact wpAny_pure (.inr (.inl ⟨rfl,by simp[e2],rfl⟩))
    | exact wpAny_bind (wpAny_pure (wpAny_pure (.inr (.inl ⟨rfl,by simp[e2],rfl⟩))))
  ·cases e1
   refine wpAny_bind ((d2 prog w).pyHash (E9 prog w k.2 tk) ?_)
   first
    | exact wpAny_pure (.inr (.inr ⟨rfl,by simp[e2],by simp[Nat.add_assoc]⟩))
    | exact wpAny_bind (wpAny_pure (wpAny_pure (.inr (.inr ⟨rfl,by simp[e2],by simp[Nat.add_assoc]⟩))))
  ·cases e1
 ·rintro b s' (⟨e1,_⟩ | ⟨e1,_⟩ | ⟨_,hb,rfl⟩)
  ·cases e1
  ·cases e1
  ·show wpAny _ _ (retInt (Builtin.Tuple.tupleHashOf b.toList)) _ _ _
   rw[hb]
   refine wpAny_ret_mkInt ?_
   generalize hv:Builtin.Tuple.tupleHashOf [tupleKeyHash (d2 prog w) k.1,(d2 prog w).hash (.inl k.2)]=v
   have h:Q (reduceHash v) { s with toks:=s.toks + (k.1.length + 3) }:=by rw[<- hv];exact h
   show wpAny _ _ (if (decide (-(2:Int) ^ 63<=v)&&decide (v < 2 ^ 63))=true then _ else _) Q E _
   unfold reduceHash at h
   by_cases hr:(decide (-(2:Int) ^ 63<=v)&&decide (v < 2 ^ 63))=true
   ·rw[if_pos hr]
    rw[if_pos hr]at h
    exact wpAny_pure (by simpa[Nat.add_assoc] using h)
   ·rw[if_neg hr]
    rw[if_neg hr]at h
    exact wpAny_bind (wpAny_rule (wpAny_pure (by simpa[Nat.add_assoc] using h)))
theorem pk_eq {x y:o9}{a b:Addr}{P:Fin->Shared->Prop}(hu:A.units < cLine)(hx:IsPK prog w s.heap x a)(hy:IsPK prog w s.heap y b)(h:P (.done (.ret (.bool (decide (x=y))))) s):
  wpAny (model prog w) A (Builtin.«tuple.__eq__» ⟨[.ref a,.ref b],[]⟩) P E s:=by
 have hTb:=hy.ty
 obtain⟨oa,na,ta,ka,hoa,_,hda,hia⟩:=hx
 obtain⟨ob,nb,tb,kb,hob,_,hdb,hib⟩:=hy
 show wpAny _ _ (isInstance (.ref b) (.type "tuple") >>= _) _ _ s
 refine wpAny_bind (wpAny_isInstance hTb isSubtype_tuple_tuple ?_)
 simp only[Bool.not_true,Bool.false_eq_true,if_false]
 refine wpAny_bind (wpAny_tupleItemsOf hoa hda ?_)
 refine wpAny_bind (wpAny_tupleItemsOf hob hdb ?_)
 refine wpAny_bind ?_
 refine wpAny_forIn_list _
  (λ rest r s'=>r.1=none/\s'=s/\((rest=[(Value.ref ta,Value.ref tb),(Value.int x.2 ka,Value.int y.2 kb)])\/(rest=[(Value.int x.2 ka,Value.int y.2 kb)]/\x.1=y.1)\/(rest=[]/\x=y)))
  _ ?_ ?_ _ _ ⟨rfl,rfl,.inl rfl⟩
 ·rintro⟨u,v⟩ rest r s' ⟨hr,rfl,e1 | ⟨e1,e2⟩ | ⟨e1,_⟩⟩
  ·cases e1
   refine wpAny_bind (wpAny_eqBool_tuple hu hia hib ?_)
   by_cases hk:x.1=y.1
   ·rw[decide_eq_true hk]
    simp only[Bool.not_true,Bool.false_eq_true,if_false]
    exact wpAny_pure ⟨rfl,rfl,.inr (.inl ⟨by trivial,hk⟩)⟩
   ·rw[decide_eq_false hk]
    simp only[Bool.not_false,if_true]
    have hf:decide (x=y)=false:=decide_eq_false λ e=>hk (by rw[e])
    rw[hf]at h
    exact wpAny_bind (wpAny_pure (wpAny_pure (wpAny_pure h)))
  ·cases e1
   refine wpAny_bind ((d2 prog w).eqBool (a:=.inl x.2) (b:=.inl y.2) (E9 prog w x.2 ka) (E9 prog w y.2 kb) ?_)
   by_cases hk:x.2=y.2
   ·rw[show decide ((Sum.inl x.2:Key)=Sum.inl y.2)=true from decide_eq_true (by rw[hk])]
    simp only[Bool.not_true,Bool.false_eq_true,if_false]
    exact wpAny_pure ⟨rfl,rfl,.inr (.inr ⟨by trivial,Prod.ext e2 hk⟩)⟩
   ·rw[show decide ((Sum.inl x.2:Key)=Sum.inl y.2)=false from decide_eq_false λ e=>hk (by injection e)]
    simp only[Bool.not_false,if_true]
    have hf:decide (x=y)=false:=decide_eq_false λ e=>hk (by rw[e])
    rw[hf]at h
    exact wpAny_bind (wpAny_pure (wpAny_pure (wpAny_pure h)))
  ·cases e1
 ·rintro⟨r1,r2⟩ s' ⟨hr,rfl,e1 | ⟨e1,_⟩ | ⟨_,e2⟩⟩
  ·cases e1
  ·cases e1
  ·simp only at hr
   subst hr
   refine wpAny_pure ?_
   rw[decide_eq_true e2]at h
   exact h
theorem pk_eqBool {x y:o9}{a b:Addr}{Q:Bool->Shared->Prop}(hu:A.units < cLine)(hu1:A.in1.units < cLine)(hx:IsPK prog w s.heap x a)(hy:IsPK prog w s.heap y b)(h:Q (decide (x=y)) s):wpAny (model prog w) A (eqBool (.ref a) (.ref b)) Q E s:=by
 unfold eqBool
 try with_reducible refine wpAny_holding ?_
 show wpAny _ _ (if (Value.ref a==Value.ref b)=true then _ else _) Q E s
 by_cases hab:(Value.ref a==Value.ref b)=true
 ·rw[if_pos hab]
  have e:a=b:=by have:=eq_of_beq hab;injection this
  subst e
  obtain rfl:=hx.inj hy
  exact wpAny_bind (wpAny_rule (wpAny_pure (by simpa using h)))
 ·rw[if_neg hab]
  exact wpAny_bind (wpAny_richCompare_same_room (op:=.Eq) hx.ty hy.ty F.slot_tuple_eq
   (wpAny_call_entry F.slot_tuple_eq hx.ty F.entry_tuple_eq (pk_eq hu1 hx hy ⟨_,rfl,(λ e=>nomatch e),wpAny_truthy_bool h⟩) (F.args_tuple_eq_2 _ _)) hu)
theorem tk_quiet {ks:List Key}{a:Addr}{Q:Bool->Shared->Prop}(n:Nat)(hk:IsTupleKey (d2 prog w) s.heap ks a)(h:Q true s):wpAny (model prog w) A (eqIsQuiet (n + 1) (.ref a)) Q E s:=by
 have hT:=hk.typeIs
 obtain⟨o,items,m,ho,_,hd,hi⟩:=hk
 unfold eqIsQuiet
 refine wpAny_bind (wpAny_specialOf hT F.slot_tuple_eq.lookup ?_)
 show wpAny _ _ (isInstance (.ref a) (.type "tuple") >>= _) _ _ s
 refine wpAny_bind (wpAny_isInstance hT isSubtype_tuple_tuple ?_)
 simp only[Bool.not_true,Bool.false_eq_true,if_false]
 refine wpAny_bind (wpAny_seqItems ho hd ?_)
 refine wpAny_bind ?_
 show wpAny _ _ (forIn items _ _) _ _ s
 rw[<- Array.forIn_toList]
 refine wpAny_forIn_list _ (λ rest r s'=>r.1=none/\s'=s/\∀ v∈rest,carriedByValue v=true) _ ?_ ?_ _ _ ⟨rfl,rfl,hi.byValue⟩
 ·rintro v rest r s' ⟨hr,rfl,hall⟩
  rw[eqIsQuiet_byValue _ (hall v List.mem_cons_self)]
  refine wpAny_bind (wpAny_pure ?_)
  simp only[Bool.not_true,Bool.false_eq_true,if_false]
  exact wpAny_pure ⟨rfl,rfl,λ u hu'=>hall u (List.mem_cons_of_mem _ hu')⟩
 ·rintro⟨r1,r2⟩ s' ⟨hr,rfl,_⟩
  simp only at hr
  subst hr
  exact wpAny_pure h
theorem pk_quiet {k:o9}{a:Addr}{Q:Bool->Shared->Prop}(hk:IsPK prog w s.heap k a)(h:Q true s):wpAny (model prog w) A (eqIsQuiet 8 (.ref a)) Q E s:=by
 have hT:=hk.ty
 obtain⟨o,m,t,tk,ho,_,hd,hi⟩:=hk
 unfold eqIsQuiet
 refine wpAny_bind (wpAny_specialOf hT F.slot_tuple_eq.lookup ?_)
 show wpAny _ _ (isInstance (.ref a) (.type "tuple") >>= _) _ _ s
 refine wpAny_bind (wpAny_isInstance hT isSubtype_tuple_tuple ?_)
 simp only[Bool.not_true,Bool.false_eq_true,if_false]
 refine wpAny_bind (wpAny_seqItems ho hd ?_)
 refine wpAny_bind ?_
 show wpAny _ _ (forIn _ _ _) _ _ s
 rw[<- Array.forIn_toList]
 refine wpAny_forIn_list _ (λ rest r s'=>r.1=none/\s'=s/\(rest=[.ref t,.int k.2 tk]\/rest=[.int k.2 tk]\/rest=[])) _ ?_ ?_ _ _ ⟨rfl,rfl,.inl rfl⟩
 ·rintro v rest r s' ⟨hr,rfl,e | e | e⟩
  ·cases e
   refine wpAny_bind (tk_quiet 6 hi ?_)
   simp only[Bool.not_true,Bool.false_eq_true,if_false]
   exact wpAny_pure ⟨rfl,rfl,by simp⟩
  ·cases e
   rw[eqIsQuiet_byValue _ rfl]
   refine wpAny_bind (wpAny_pure ?_)
   simp only[Bool.not_true,Bool.false_eq_true,if_false]
   exact wpAny_pure ⟨rfl,rfl,by simp⟩
  ·cases e
 ·rintro⟨r1,r2⟩ s' ⟨hr,rfl,_⟩
  simp only at hr
  subst hr
  exact wpAny_pure h
end
def V8 (prog:Program)(w:World):HeapKind prog w o9 where
 is:=IsPK prog w
 hash:=pkHash prog w
 draws:=λ k=>k.1.length + 3
 room:=λ A=>A.units < cLine/\A.in1.units < cLine
 inj:=λ hx hy=>hx.inj hy
 keeps:=λ x ho hd hs=>x.keeps ho hd hs
 pyHash:=λ hu hk h=>pk_hash hu.1 hu.2 hk h
 eqBool:=λ hu hx hy h=>pk_eqBool hu.1 hu.2 hx hy h
 quiet:=λ hk h=>pk_quiet hk h
inductive HO where
 | lst (xs:List V)
 | tup (xs:List V)
 | dK (kvs:List (Key×V)) | dT (kvs:List (List Key×V))
 | dP (kvs:List (o9×V))
 | set (S:Int->Bool) (n:Nat)
 | ins (C dx:Addr) (fs:List (Str×V))
 | own (x:Addr)
 | xd (fs:List (Str×V))
 | met (f x:Addr)
 | rng (lo hi:Int)
 | frz (o:Obj) (u:HO)
 | tbl (ps:Array Value)
 | ext (φ:Heap->Prop)
abbrev Hp:=Addr->Option HO
def upd (H:Hp)(a:Addr)(o:HO):Hp:=λ b=>if b=a then some o else H b
theorem a6 {H:Hp}{a:Addr}{o:HO}:upd H a o a=some o:=by unfold upd;rw[if_pos rfl]
theorem a5 {H:Hp}{a b:Addr}{o:HO}(h:b≠a):upd H a o b=H b:=by unfold upd;rw[if_neg h]
theorem a0Y {H:Hp}{a:Addr}{o u:HO}:upd (upd H a o) a u=upd H a u:=by
 funext b;unfold upd;split <;> rfl
theorem ne_of {H:Hp}{a b:Addr}{o u:HO}(h:H a=some o)(h':H b=some u)(d:o≠u):a≠b:=by
 intro e;subst e;rw[h]at h';exact d (Option.some.inj h')
theorem c9 {H:Hp}{a b:Addr}{o:HO}(h:H a=some o)(h':H b=none):a≠b:=by
 intro e;subst e;rw[h]at h';cases h'
section
variable (P:Program)(w:World)
def ObjOk (H:Hp)(h:Heap)(a:Addr):HO->Prop
 | .lst xs=>xs.length<=sizeLine/\∃ (its:List Value) (n:Nat),Vals xs its/\h.get? a=some { cls:=.type "list",data:=.seq its.toArray n }
 | .tup xs=>xs.length<=sizeLine/\∃ its:List Value,Vals xs its/\IsTup h a its.toArray
 | .dK kvs=>kvs.length<=sizeLine/\(a==sysModules)=false/\∃ vs,KV kvs vs/\h.DictOf (d2 P w) a vs
 | .dT kvs=>kvs.length<=sizeLine/\(a==sysModules)=false/\∃ xs:List (List Key×Addr×Value),
   Paired (λ (p:List Key×V) (q:List Key×Addr×Value)=>p.1=q.1/\H q.2.1=some (.tup (p.1.map kV))/\RelV p.2 q.2.2) kvs xs ∧
   ∃ o es ep,h.get? a=some o/\o.ExactDict/\o.data=.dict es ep/\es.toList=xs.map (entryOfKey (tupleKind (d2 P w)))/\(xs.map (·.1)).Nodup
 | .dP kvs=>kvs.length<=sizeLine/\(a==sysModules)=false/\∃ xs:List (o9×Addr×Value),
   Paired (λ (p:o9×V) (q:o9×Addr×Value)=>p.1=q.1/\(∃ t,H q.2.1=some (.tup [.ref t,.int p.1.2])/\H t=some (.tup (p.1.1.map kV)))/\RelV p.2 q.2.2) kvs xs ∧
   ∃ o es ep,h.get? a=some o/\o.ExactDict/\o.data=.dict es ep/\es.toList=xs.map (entryOfKey (V8 P w))/\(xs.map (·.1)).Nodup
 | .set S n=>h.SetOf (intKind P w) a S n
 | .ins C dx fs=>H dx=some (.own a)/\fs.length<=1000/\dx≠a/\h.get? a=some (PySem.W.instObj C dx) ∧
   ∃ mA,h.Ns1 dx mA/\(∀ f,RelO (fs.lookup f) (mA f))/\PySem.Within mA (fs.map (·.1))
 | .own _=>∃ o,h.get? a=some o
 | .xd fs=>∃ mA,h.Ns1 a mA/\∀ f,RelO (fs.lookup f) (mA f)
 | .rng lo hi=>∃ t u v,h.get? a=some { cls:=.type "range",data:=.fields #[.int lo t,.int hi u,.int 1 v] }
 | .frz o u=>h.get? a=some o/\ObjOk H h a u
 | .tbl ps=>h.get? a=some { cls:=.none,data:=.fields ps }
 | .met f x=>h.get? a=some (PySem.W.methodObj (.ref f) (.ref x))
 | .ext φ=>φ h/\(∃ o,h.get? a=some o)/\∀ h1 h2:Heap,φ h1->(∀ o,h1.get? a=some o->h2.get? a=some o)->φ h2
def HOk (H:Hp)(h:Heap):Prop:=∀ a o,H a=some o->ObjOk P w H h a o
end
section
variable {P:Program}{w:World}{H H':Hp}{h h':Heap}{a:Addr}{o:HO}
theorem ObjOk.lt (x:ObjOk P w H h a o):a < h.objs.size:=by
 cases o with
 | lst xs=>obtain⟨_,_,_,_,e⟩:=x;exact Heap.lt_size e
 | tup xs=>obtain⟨_,_,_,p⟩:=x;exact p.lt
 | dK kvs=>obtain⟨_,_,_,_,o,_,_,e,_⟩:=x;exact Heap.lt_size e
 | dT kvs=>obtain⟨_,_,_,_,o,_,_,e,_⟩:=x;exact Heap.lt_size e
 | dP kvs=>obtain⟨_,_,_,_,o,_,_,e,_⟩:=x;exact Heap.lt_size e
 | set S n=>obtain⟨o,_,_,_,e,_⟩:=x;exact Heap.lt_size e
 | ins C dx fs=>obtain⟨_,_,_,e,_⟩:=x;exact Heap.lt_size e
 | own y=>obtain⟨_,e⟩:=x;exact Heap.lt_size e
 | xd fs=>obtain⟨_,⟨_,_,_,e,_⟩,_⟩:=x;exact Heap.lt_size e
 | rng lo hi=>obtain⟨_,_,_,e⟩:=x;exact Heap.lt_size e
 | frz ob u=>obtain⟨e,_⟩:=x;exact Heap.lt_size e
 | tbl ps=>exact Heap.lt_size (show h.get? a=some _ from x)
 | met f y=>exact Heap.lt_size (show h.get? a=some _ from x)
 | ext φ=>obtain⟨_,⟨_,e⟩,_⟩:=x;exact Heap.lt_size e
theorem Paired.mapP {α β:Type}{F G:α->β->Prop}:∀ {l₁:List α}{l₂:List β},Paired F l₁ l₂->(∀ a b,F a b->G a b)->Paired G l₁ l₂
 | _,_,.nil,_=>.nil
 | _,_,.cons r t,f=>.cons (f _ _ r) (Paired.mapP t f)
theorem ObjOk.stay (x:ObjOk P w H h a o)(k:∀ b u,(b=a\/H b=some (.own a))->h.get? b=some u->h'.get? b=some u)
  (ho:∀ b,H b=some (.own a)->H' b=some (.own a))(ht:∀ b xs,H b=some (.tup xs)->H' b=some (.tup xs)):ObjOk P w H' h' a o:=by
 induction o with
 | lst xs=>obtain⟨z,its,n,r,e⟩:=x;exact⟨z,its,n,r,k _ _ (.inl rfl) e⟩
 | tup xs=>obtain⟨z,its,r,ob,e,c⟩:=x;exact⟨z,its,r,ob,k _ _ (.inl rfl) e,c⟩
 | dK kvs=>obtain⟨z,y,vs,r,ob,es,ep,e,c⟩:=x;exact⟨z,y,vs,r,ob,es,ep,k _ _ (.inl rfl) e,c⟩
 | dT kvs=>
  obtain⟨z,y,xs,r,ob,es,ep,e,c⟩:=x
  exact⟨z,y,xs,Paired.mapP r λ p q z=>⟨z.1,ht _ _ z.2.1,z.2.2⟩,ob,es,ep,k _ _ (.inl rfl) e,c⟩
 | dP kvs=>
  obtain⟨z,y,xs,r,ob,es,ep,e,c⟩:=x
  exact⟨z,y,xs,Paired.mapP r λ p q z=>⟨z.1,z.2.1.imp λ _ g=>⟨ht _ _ g.1,ht _ _ g.2⟩,z.2.2⟩,ob,es,ep,k _ _ (.inl rfl) e,c⟩
 | set S n=>obtain⟨ob,es,ep,t,e,c⟩:=x;exact⟨ob,es,ep,t,k _ _ (.inl rfl) e,c⟩
 | ins C dx fs=>
  obtain⟨d,z,ne,e,mA,⟨od,es,ep,e2,c⟩,r⟩:=x
  exact⟨ho _ d,z,ne,k _ _ (.inl rfl) e,mA,⟨od,es,ep,k _ _ (.inr d) e2,c⟩,r⟩
 | own y=>obtain⟨ob,e⟩:=x;exact⟨ob,k _ _ (.inl rfl) e⟩
 | xd fs=>obtain⟨mA,⟨od,es,ep,e,c⟩,r⟩:=x;exact⟨mA,⟨od,es,ep,k _ _ (.inl rfl) e,c⟩,r⟩
 | rng lo hi=>obtain⟨t,u,v,e⟩:=x;exact⟨t,u,v,k _ _ (.inl rfl) e⟩
 | frz ob u ih=>obtain⟨e,q⟩:=x;exact⟨k _ _ (.inl rfl) e,ih q⟩
 | tbl ps=>
  have e:h.get? a=some { cls:=.none,data:=.fields ps }:=x
  show h'.get? a=some { cls:=.none,data:=.fields ps }
  exact k a _ (.inl rfl) e
 | met f y=>
  have e:h.get? a=some (PySem.W.methodObj (.ref f) (.ref y)):=x
  show h'.get? a=some (PySem.W.methodObj (.ref f) (.ref y))
  exact k a _ (.inl rfl) e
 | ext φ=>obtain⟨p,⟨o,e⟩,st⟩:=x;exact⟨st _ _ p λ o q=>k _ _ (.inl rfl) q,⟨o,k _ _ (.inl rfl) e⟩,st⟩
theorem HOk.lt (x:HOk P w H h)(e:H a=some o):a < h.objs.size:=(x a o e).lt
theorem HOk.fresh (x:HOk P w H h)(e:h.objs.size<=a):H a=none:=by
 cases q:H a with
 | none=>rfl
 | some u=>exact absurd (Nat.lt_of_lt_of_le (x.lt q) e) (Nat.lt_irrefl _)
theorem HOk.kept (x:HOk P w H h)(k:∀ b u,h.get? b=some u->h'.get? b=some u):HOk P w H h':=λ a o e=>
 (x a o e).stay (λ b u _ q=>k b u q) (λ _ q=>q) λ _ _ q=>q
theorem HOk.laid (x:HOk P w H h)(k:∀ b u,h.get? b=some u->h'.get? b=some u)(hp:h.objs.size<=a)(new:ObjOk P w (upd H a o) h' a o):HOk P w (upd H a o) h':=λ b u e=>by
 have hn:=x.fresh hp
 by_cases hb:b=a
 ·subst hb;rw[a6]at e;cases e;exact new
 ·rw[a5 hb]at e
  exact(x b u e).stay (λ c v _ q=>k c v q) (λ c q=>by rw[a5 (c9 q hn)];exact q) λ c xs q=>by rw[a5 (c9 q hn)];exact q
end
def Rd (H:Hp)(a:Addr)(u:HO):Prop:=H a=some u\/∃ o,H a=some (.frz o u)
theorem Rd.ok {P:Program}{w:World}{H:Hp}{h:Heap}{a:Addr}{u:HO}(r:Rd H a u)(x:HOk P w H h):ObjOk P w H h a u:=by
 rcases r with r | ⟨o,r⟩
 ·exact x a u r
 ·obtain⟨_,q⟩:=x a _ r
  exact q
def Mut:Option HO->Prop
 | some (.lst _)=>True
 | some (.dK _)=>True
 | some (.dT _)=>True
 | some (.dP _)=>True
 | some (.set _ _)=>True
 | some (.ins _ _ _)=>True
 | some (.ext _)=>True
 | _=>False
section
variable {P:Program}{w:World}{H:Hp}{h h':Heap}{x e:Addr}{o':HO}
theorem HOk.write (ok:HOk P w H h)(mu:Mut (H x))(he:e=x\/H e=some (.own x))(k:∀ b u,b≠e->h.get? b=some u->h'.get? b=some u)(heo:∃ u,h'.get? e=some u)
  (new:ObjOk P w (upd H x o') h' x o'):HOk P w (upd H x o') h':=λ b u q=>by
 have nown:∀ c y,H c=some (.own y)->c≠x:=λ c y r z=>by subst z;rw[r]at mu;exact mu
 have ntup:∀ c xs,H c=some (.tup xs)->c≠x:=λ c xs r z=>by subst z;rw[r]at mu;exact mu
 by_cases hb:b=x
 ·subst hb;rw[a6]at q;cases q;exact new
 ·rw[a5 hb]at q
  by_cases hbe:b=e
  ·have q':H b=some (.own x):=by
    rcases he with z | z
    ·exact absurd (hbe.trans z) hb
    ·rw[hbe];exact z
   rw[q]at q';cases q'
   obtain⟨v,hv⟩:=heo
   exact⟨v,by rw[hbe];exact hv⟩
  ·refine(ok b u q).stay (λ c v hc r=>k c v ?_ r) (λ c r=>by rw[a5 (nown c b r)];exact r) λ c xs r=>by rw[a5 (ntup c xs r)];exact r
   rcases hc with rfl | hc
   ·exact hbe
   ·rintro rfl
    rcases he with z | z
    ·exact nown c b hc z
    ·rw[hc]at z;cases z;exact hb rfl
end
structure Un (fs ex:List Addr) (H H':Hp) (h h':Heap):Prop where
 keep:∀ b o,h.get? b=some o->H b=none->b∉fs->b∉ex->h'.get? b=some o
 slot:∀ b o,h.get? b=some o->H b=none->b∈fs->b∉ex->∃ sl,h'.get? b=some { o with slots:=sl }
 free:∀ b o,h.get? b=some o->H b=none->b∉ex->H' b=none
 there:∀ b o,h.get? b=some o->b∉ex->∃ o',h'.get? b=some o'
 tups:∀ b xs,H b=some (.tup xs)->H' b=some (.tup xs)
 frzs:∀ b o u,H b=some (.frz o u)->H' b=some (.frz o u)
 tbls:∀ b ps,H b=some (.tbl ps)->∃ more,H' b=some (.tbl (ps++more))
section
variable {fs fs' ex ex':List Addr}{H H1 H2:Hp}{h h1 h2 h':Heap}{a x e:Addr}{o:HO}
theorem Un.any (u:Un fs ex H H1 h h1){b:Addr}{ob:Obj}(q:h.get? b=some ob)(n:H b=none)(hx:b∉ex):∃ sl,h1.get? b=some { ob with slots:=sl }:=by
 by_cases hb:b∈fs
 ·exact u.slot b ob q n hb hx
 ·exact⟨ob.slots,u.keep b ob q n hb hx⟩
theorem Un.kept (k:∀ b u,h.get? b=some u->h'.get? b=some u):Un fs ex H H h h':=
 ⟨λ b ob q _ _ _=>k b ob q,λ b ob q _ _ _=>⟨ob.slots,k b ob q⟩,λ _ _ _ n _=>n,λ b ob q _=>⟨ob,k b ob q⟩,λ _ _ q=>q,λ _ _ _ q=>q,λ _ ps q=>⟨#[],by rw[q];simp⟩⟩
theorem Un.refl:Un fs ex H H h h:=Un.kept λ _ _ q=>q
theorem Un.laid (k:∀ b u,h.get? b=some u->h'.get? b=some u)(hp:h.objs.size<=a)(hn:H a=none):Un fs ex H (upd H a o) h h' where
 keep:=λ b u q _ _ _=>k b u q
 slot:=λ b u q _ _ _=>⟨u.slots,k b u q⟩
 free:=λ b u q n _=>by rw[a5 (Nat.ne_of_lt (Nat.lt_of_lt_of_le (Heap.lt_size q) hp))];exact n
 there:=λ b u q _=>⟨u,k b u q⟩
 tups:=λ b xs q=>by rw[a5 (c9 q hn)];exact q
 frzs:=λ b u xs q=>by rw[a5 (c9 q hn)];exact q
 tbls:=λ b ps q=>⟨#[],by rw[a5 (c9 q hn),q];simp⟩
theorem Un.write (mu:Mut (H x))(he:e=x\/H e=some (.own x))(k:∀ b u,b≠e->h.get? b=some u->h'.get? b=some u)(heo:∃ u,h'.get? e=some u):Un fs ex H (upd H x o) h h':=by
 have hx:∀ b,H b=none->b≠x:=λ b n z=>by subst z;rw[n]at mu;exact mu
 have hb:∀ b,H b=none->b≠e:=λ b n z=>by
  subst z
  rcases he with r | r
  ·exact hx b n r
  ·rw[n]at r;cases r
 have hm:∀ b u,H b=some u->¬ Mut (some u)->b≠x:=λ b u q nm z=>by subst z;rw[q]at mu;exact nm mu
 refine⟨λ b u q n _ _=>k b u (hb b n) q,λ b u q n _ _=>⟨u.slots,k b u (hb b n) q⟩,λ b u q n _=>by rw[a5 (hx b n)];exact n,λ b u q _=>?_,
  λ b xs q=>by rw[a5 (hm b _ q λ z=>z)];exact q,λ b u xs q=>by rw[a5 (hm b _ q λ z=>z)];exact q,λ b ps q=>⟨#[],by rw[a5 (hm b _ q λ z=>z),q];simp⟩⟩
 by_cases hbe:b=e
 ·subst hbe;exact heo
 ·exact⟨u,k b u hbe q⟩
end
def trk (h:Heap)(H:Hp):List Addr:=(List.range h.objs.size).filter λ a=>(H a).isSome
def hidT (h:Heap)(H:Hp):Heap:=PySem.W.hideAll h (trk h H)
theorem hidT_size (h:Heap)(H:Hp):(hidT h H).objs.size=h.objs.size:=PySem.W.hideAll_size _ _
theorem hidT_get {h:Heap}{H:Hp}{b:Addr}{o:Obj}(e:h.get? b=some o)(n:H b=none):(hidT h H).get? b=some o:=
 PySem.W.hideAll_get _ e λ hm=>by
  have q:(H b).isSome=true:=(List.mem_filter.mp hm).2
  rw[n]at q;simp at q
theorem of_hidT {h:Heap}{H:Hp}{b:Addr}{o:Obj}(e:(hidT h H).get? b=some o):h.get? b=some o/\H b=none:=by
 have e':h.get? b=some o:=PySem.W.of_hideAll (trk h H) e
 refine⟨e',?_⟩
 cases q:H b with
 | none=>rfl
 | some x=>
  have hm:b∈trk h H:=List.mem_filter.mpr ⟨List.mem_range.mpr (Heap.lt_size e'),by simp[q]⟩
  have z:(hidT h H).get? b=none:=PySem.W.hideAll_none (trk h H) hm
  rw[z]at e;cases e
structure Mod (K:PySem.W.Frag) (mg:Str->Option Value) (base:Heap):Prop where
 kin:K.In base
 glob:base.Ns mainGlobals mg
 blt:∃ mb,base.Ns builtinsNs mb/\∀ x:Str,x ≠ "__name__" -> mb x=bootBuiltins x
 nolimit:base.NoLimit
structure Cx where
 prog:Program
 w:World
 K:PySem.W.Frag
 mg:Str->Option Value
 base:Heap
 A:Around
 N:List Str
 s₀:Shared
 H₀:Hp
 env:Env
 outer:List Env
 stack:List Env
 ex:List Addr
 fn:Str->Bool
 calm:Bool
 pn:List (Addr×Obj)
 xe:Value->Shared->Prop
def frs (l:List Env):List Addr:=l.filterMap (·.frame)
abbrev Cx.fs (X:Cx):List Addr:=frs X.outer
def Vis (sc:Scope)(x:Str):Prop:=sc.names.lookup x=some .local\/sc.names.lookup x=some .cell\/sc.names.lookup x=some .free
def Loc (sc:Scope)(x:Str):Prop:=sc.names.lookup x=some .local\/sc.names.lookup x=some .cell
def Look (env:Env)(h:Heap)(m:Str->Option Value)(x:Str)(u:Value):Prop:=
 (env.kindOf x=some .local/\m x=some u)\/((env.kindOf x=some .cell\/env.kindOf x=some .free)/\∃ c,env.cells.lookup x=some c/\h.IsCell c (some u))
structure Cx.Ok (X:Cx):Prop where
 mod:Mod X.K X.mg X.base
 kind:X.env.scope.kind=.function
 glob:X.env.globals=mainGlobals
 blt:X.env.builtins=builtinsNs
 above:X.s₀.heap.objs.size<=X.env.locals
 inj:∀ x y c,X.env.cells.lookup x=some c->X.env.cells.lookup y=some c->x=y
 has:∀ x,(X.env.kindOf x=some .cell\/X.env.kindOf x=some .free)->∃ c,X.env.cells.lookup x=some c
 cab:∀ x c,X.fn x=true->X.env.cells.lookup x=some c->X.s₀.heap.objs.size<=c
 hd:X.calm=true->X.A.handled=none
 frames:X.A.frames=some X.stack
 stk:X.stack=X.outer\/(X.stack=X.env::X.outer/\X.env.frame=some X.env.locals)
 exf:∀ b∈X.ex,b≠X.env.locals/\∀ x c,X.env.cells.lookup x=some c->c≠b
 bs:∀ b o,X.base.get? b=some o->X.s₀.heap.get? b=some o/\X.H₀ b=none
 bsz:X.base.objs.size<=X.s₀.heap.objs.size
 noex:∀ b o,X.base.get? b=some o->b∉X.ex
 exfs:∀ b∈X.ex,b∉X.fs
 funs:X.s₀.heap.FunFrames X.base X.outer
 frf:∀ b∈X.fs,X.H₀ b=none
structure Inv (X:Cx) (pins:List (Addr×Obj)) (Z:List (Option V)) (H:Hp) (s:Shared):Prop where
 ok:X.Ok
 os:s.os=X.s₀.os
 bare:AllBare s.gens
 base:Un X.fs X.ex X.H₀ H X.s₀.heap s.heap
 loc:∃ m,s.heap.Ns X.env.locals m/\∀ (i:Nat) (x:Str) (v:V),X.N[i]?=some x->Z[i]?=some (some v)->Vis X.env.scope x->∃ u,RelV v u/\Look X.env s.heap m x u
 cell:∀ x c,X.env.cells.lookup x=some c->∃ v,s.heap.IsCell c v
 free:H X.env.locals=none
 freeC:∀ x c,X.env.cells.lookup x=some c->H c=none
 pin:∀ p∈X.pn++pins,s.heap.get? p.1=some p.2/\H p.1=none/\p.1≠X.env.locals/\p.1∉X.fs/\∀ v,p.2.data≠.cell v
 hok:HOk X.prog X.w H s.heap
 len:Z.length=X.N.length
section
variable {X:Cx}{pins:List (Addr×Obj)}{Z:List (Option V)}{H H':Hp}{s:Shared}{h':Heap}
theorem Cx.Ok.nofr (ok:X.Ok){b:Addr}{o:Obj}(e:X.base.get? b=some o):b∉X.fs:=λ hb=>by
 have:=(ok.funs.mem hb).1
 rw[e]at this;cases this
theorem Inv.bs (I:Inv X pins Z H s):∀ b o,X.base.get? b=some o->s.heap.get? b=some o/\H b=none:=λ b o e=>
 ⟨I.base.keep b o (I.ok.bs b o e).1 (I.ok.bs b o e).2 (I.ok.nofr e) (I.ok.noex b o e),I.base.free b o (I.ok.bs b o e).1 (I.ok.bs b o e).2 (I.ok.noex b o e)⟩
theorem Inv.bk (I:Inv X pins Z H s):∀ b o,X.base.get? b=some o->s.heap.get? b=some o:=λ b o e=>(I.bs b o e).1
theorem Inv.mod (I:Inv X pins Z H s):Mod X.K X.mg X.base:=I.ok.mod
theorem Inv.kIn (I:Inv X pins Z H s):X.K.In s.heap:=I.ok.mod.kin.keeps I.bk
theorem Inv.lt (I:Inv X pins Z H s):X.env.locals < s.heap.objs.size:=let ⟨_,hn,_⟩:=I.loc;hn.lt
theorem Inv.sz (I:Inv X pins Z H s):X.s₀.heap.objs.size<=s.heap.objs.size:=Nat.le_trans I.ok.above (Nat.le_of_lt I.lt)
theorem Inv.nofs (I:Inv X pins Z H s){a:Addr}(h:s.heap.objs.size<=a):a∉X.fs:=λ hb=>by
 obtain⟨_,o,ho,_⟩:=I.ok.funs.mem hb
 exact absurd (Nat.lt_of_lt_of_le (Heap.lt_size ho) (Nat.le_trans I.sz h)) (Nat.lt_irrefl _)
theorem Inv.cne (I:Inv X pins Z H s):∀ x c,X.env.cells.lookup x=some c->c≠X.env.locals:=λ x c e z=>by
 obtain⟨v,o,ho,hd⟩:=I.cell x c e
 obtain⟨m,⟨o',es,ep,ho',hd',_⟩,_⟩:=I.loc
 rw[z,ho']at ho;cases ho;rw[hd']at hd;cases hd
theorem Inv.funs (I:Inv X pins Z H s):s.heap.FunFrames X.base X.outer:=by
 have all:∀ (l:List Env),(∀ b∈frs l,b∈X.fs)->X.s₀.heap.FunFrames X.base l->s.heap.FunFrames X.base l:=by
  intro l
  induction l with
  | nil=>intro _ _;trivial
  | cons env r ih=>
   intro hs hl
   obtain⟨hk,⟨L,o,hf,hn,ho,hd⟩,hr⟩:=hl
   have hL:L∈X.fs:=hs L (by unfold frs;rw[List.filterMap_cons,hf];exact List.mem_cons_self)
   obtain⟨sl,e⟩:=I.base.slot L o ho (I.ok.frf L hL) hL λ z=>I.ok.exfs L z hL
   exact⟨hk,⟨L,_,hf,hn,e,hd⟩,ih (λ b hb=>hs b (by unfold frs;rw[List.filterMap_cons,hf];exact List.mem_cons_of_mem _ hb)) hr⟩
 exact all X.outer (λ _ hb=>hb) I.ok.funs
theorem Inv.stack (I:Inv X pins Z H s):s.heap.FunFrames X.base X.stack:=by
 rcases I.ok.stk with e | ⟨e,hf⟩
 ·rw[e];exact I.funs
 ·rw[e]
  obtain⟨m,hn,_⟩:=I.loc
  refine .cons (by rw[I.ok.kind];decide) hf hn ?_ I.funs
  exact Heap.get?_none_of_le (Nat.le_trans I.ok.bsz I.ok.above)
theorem Inv.stkSub (I:Inv X pins Z H s):∀ b∈frs X.stack,b∈X.env.locals::X.fs:=λ b hb=>by
 rcases I.ok.stk with e | ⟨e,hf⟩
 ·rw[e]at hb;exact List.mem_cons_of_mem _ hb
 ·rw[e]at hb
  unfold frs at hb
  rw[List.filterMap_cons,hf]at hb
  exact hb
theorem Inv.stkFree (I:Inv X pins Z H s):∀ b∈frs X.stack,H b=none:=λ b hb=>by
 rcases List.mem_cons.mp (I.stkSub b hb) with e | hb
 ·rw[e];exact I.free
 ·obtain⟨_,o,ho,_⟩:=I.ok.funs.mem hb
  exact I.base.free b o ho (I.ok.frf b hb) λ z=>I.ok.exfs b z hb
theorem Inv.step {g':Array GenState}{t':Nat}{d':Drawn}{ch:List Addr}(I:Inv X pins Z H s)
  (hch:∀ b∈ch,(b∈X.ex\/X.s₀.heap.objs.size<=b)/\b≠X.env.locals/\(∀ x c,X.env.cells.lookup x=some c->c≠b)/\∀ p∈X.pn++pins,p.1≠b)
  (keep:∀ b o,b≠X.env.locals->b∉X.fs->b∉ch->s.heap.get? b=some o->H b=none->h'.get? b=some o)
  (slot:∀ b o,b≠X.env.locals->b∈X.fs->b∉ch->s.heap.get? b=some o->H b=none->∃ sl,h'.get? b=some { o with slots:=sl })(free:∀ b o,b∉ch->s.heap.get? b=some o->H b=none->H' b=none)
  (there:∀ b o,b∉ch->s.heap.get? b=some o->∃ o',h'.get? b=some o')
  (tups:∀ b xs,H b=some (.tup xs)->H' b=some (.tup xs))(frzs:∀ b o u,H b=some (.frz o u)->H' b=some (.frz o u))(tbls:∀ b ps,H b=some (.tbl ps)->∃ more,H' b=some (.tbl (ps++more)))
  (ns:∀ m,s.heap.Ns X.env.locals m->h'.Ns X.env.locals m)(hok:HOk X.prog X.w H' h')(hg:AllBare g'):
  Inv X pins Z H' { s with heap:=h',gens:=g',drawn:=d',toks:=t' }:=by
 have neL:∀ b o,X.s₀.heap.get? b=some o->b≠X.env.locals:=λ b o e=>Nat.ne_of_lt (Nat.lt_of_lt_of_le (Heap.lt_size e) I.ok.above)
 have neC:∀ b o,X.s₀.heap.get? b=some o->b∉X.ex->b∉ch:=λ b o e hx hb=>by
  rcases (hch b hb).1 with z | z
  ·exact hx z
  ·exact absurd (Nat.lt_of_lt_of_le (Heap.lt_size e) z) (Nat.lt_irrefl _)
 have cellK:∀ x c,X.env.cells.lookup x=some c->∀ v,s.heap.IsCell c v->h'.IsCell c v:=λ x c e v ⟨o,ho,hd⟩=>by
  have nch:c∉ch:=λ z=>(hch c z).2.2.1 x c e rfl
  by_cases hc:c∈X.fs
  ·obtain⟨sl,q⟩:=slot c o (I.cne x c e) hc nch ho (I.freeC x c e)
   exact⟨_,q,hd⟩
  ·exact⟨o,keep c o (I.cne x c e) hc nch ho (I.freeC x c e),hd⟩
 refine⟨I.ok,I.os,hg,⟨λ b o e n hb hx=>?_,λ b o e n hb hx=>?_,λ b o e n hx=>?_,λ b o e hx=>?_,λ b xs e=>tups b xs (I.base.tups b xs e),λ b o xs e=>frzs b o xs (I.base.frzs b o xs e),λ b ps e=>?_⟩,?_,λ x c e=>?_,?_,λ x c e=>?_,λ p hp=>?_,hok,I.len⟩
 ·exact keep b o (neL b o e) hb (neC b o e hx) (I.base.keep b o e n hb hx) (I.base.free b o e n hx)
 ·obtain⟨sl,e1⟩:=I.base.slot b o e n hb hx
  obtain⟨sl',e2⟩:=slot b _ (neL b o e) hb (neC b o e hx) e1 (I.base.free b o e n hx)
  exact⟨sl',e2⟩
 ·obtain⟨o',e1⟩:=I.base.there b o e hx
  exact free b o' (neC b o e hx) e1 (I.base.free b o e n hx)
 ·obtain⟨o',e1⟩:=I.base.there b o e hx
  exact there b o' (neC b o e hx) e1
 ·obtain⟨m1,e1⟩:=I.base.tbls b ps e
  obtain⟨m2,e2⟩:=tbls b _ e1
  exact⟨m1++m2,by rw[e2,Array.append_assoc]⟩
 ·obtain⟨m,hn,hl⟩:=I.loc
  refine⟨m,ns m hn,λ i x v e1 e2 e3=>?_⟩
  obtain⟨u,r,l⟩:=hl i x v e1 e2 e3
  refine⟨u,r,?_⟩
  rcases l with l | ⟨k,c,e,z⟩
  ·exact .inl l
  ·exact .inr ⟨k,c,e,cellK x c e _ z⟩
 ·obtain⟨v,z⟩:=I.cell x c e
  exact⟨v,cellK x c e v z⟩
 ·obtain⟨m,⟨o,_,_,ho,_⟩,_⟩:=I.loc
  exact free _ o (λ z=>(hch _ z).2.1 rfl) ho I.free
 ·obtain⟨v,o,ho,hd⟩:=I.cell x c e
  exact free c o (λ z=>(hch c z).2.2.1 x c e rfl) ho (I.freeC x c e)
 ·obtain⟨e,n,ne,nf,d⟩:=I.pin p hp
  have nch:p.1∉ch:=λ z=>(hch p.1 z).2.2.2 p hp rfl
  exact⟨keep p.1 p.2 ne nf nch e n,free p.1 p.2 nch e n,ne,nf,d⟩
theorem Inv.un {t':Nat}(I:Inv X pins Z H s)(u:Un X.fs [] H H' s.heap h')(hok:HOk X.prog X.w H' h'):Inv X pins Z H' { s with heap:=h',toks:=t' }:=by
 obtain⟨m,⟨o,es,ep,ho,r⟩,_⟩:=id I.loc
 obtain⟨sl,hL⟩:=u.any ho I.free (by simp)
 exact I.step (g':=s.gens) (d':=s.drawn) (ch:=[]) (λ _ z=>nomatch z) (λ b o _ hb _ e n=>u.keep b o e n hb (by simp)) (λ b o _ hb _ e n=>u.slot b o e n hb (by simp)) (λ b o _ e n=>u.free b o e n (by simp)) (λ b o _ e=>u.there b o e (by simp)) u.tups u.frzs u.tbls (λ m' hm=>by
  obtain⟨o',es',ep',ho',r'⟩:=hm
  rw[ho]at ho';cases ho'
  exact⟨_,es',ep',hL,r'⟩) hok I.bare
theorem Inv.call {g':Array GenState}{t':Nat}{d':Drawn}{ch:List Addr}(I:Inv X pins Z H s)(u:Un (frs X.stack) ch H H' s.heap h')(hok:HOk X.prog X.w H' h')(hg:AllBare g')
  (hch:∀ b∈ch,(b∈X.ex\/X.s₀.heap.objs.size<=b)/\b≠X.env.locals/\(∀ x c,X.env.cells.lookup x=some c->c≠b)/\∀ p∈X.pn++pins,p.1≠b):
  Inv X pins Z H' { s with heap:=h',gens:=g',drawn:=d',toks:=t' }:=by
 obtain⟨m,⟨o,es,ep,ho,r⟩,_⟩:=id I.loc
 obtain⟨sl,hL⟩:=u.any ho I.free λ z=>(hch _ z).2.1 rfl
 exact I.step (ch:=ch) hch (λ b o hL hb hc e n=>u.keep b o e n (λ z=>(List.mem_cons.mp (I.stkSub b z)).elim hL hb) hc) (λ b o _ _ hc e n=>u.any e n hc) (λ b o hc e n=>u.free b o e n hc) (λ b o hc e=>u.there b o e hc) u.tups u.frzs u.tbls (λ m' hm=>by
  obtain⟨o',es',ep',ho',r'⟩:=hm
  rw[ho]at ho';cases ho'
  exact⟨_,es',ep',hL,r'⟩) hok hg
theorem Inv.turned {t':Nat}{it:Addr}(I:Inv X pins Z H s)(k:∀ b o,b≠it->s.heap.get? b=some o->h'.get? b=some o)(hn:H it=none)(hL:it≠X.env.locals)
  (h1:it∈X.ex\/X.s₀.heap.objs.size<=it)(h2:∀ x c,X.env.cells.lookup x=some c->c≠it)(h3:∀ p∈X.pn++pins,p.1≠it):Inv X pins Z H { s with heap:=h',toks:=t' }:=by
 have nit:∀ b u,H b=some u->b≠it:=λ b u e z=>by rw[z,hn]at e;cases e
 refine I.step (g':=s.gens) (d':=s.drawn) (ch:=[it]) (λ b hb=>?_) (λ b o _ _ hc e _=>k b o (λ z=>hc (by simp[z])) e) (λ b o _ _ hc e _=>⟨o.slots,k b o (λ z=>hc (by simp[z])) e⟩) (λ _ _ _ _ n=>n)
  (λ b o hc e=>⟨o,k b o (λ z=>hc (by simp[z])) e⟩) (λ _ _ e=>e) (λ _ _ _ e=>e) (λ b ps e=>⟨#[],by rw[e];simp⟩) (λ m hm=>?_) (λ b u e=>?_) I.bare
 ·have e:b=it:=by simpa using hb
  subst e
  exact⟨h1,hL,h2,h3⟩
 ·obtain⟨o,es,ep,ho,r⟩:=hm
  exact⟨o,es,ep,k _ o (Ne.symm hL) ho,r⟩
 ·refine(I.hok b u e).stay (λ c v hc q=>k c v ?_ q) (λ _ q=>q) λ _ _ q=>q
  rcases hc with z | z
  ·rw[z];exact nit b u e
  ·exact nit c _ z
theorem Inv.tok (I:Inv X pins Z H s)(t:Nat):Inv X pins Z H { s with toks:=t }:=I.un (h':=s.heap) (t':=t) Un.refl I.hok
theorem Inv.kept {t':Nat}(I:Inv X pins Z H s)(k:∀ b u,s.heap.get? b=some u->h'.get? b=some u):Inv X pins Z H { s with heap:=h',toks:=t' }:=I.un (Un.kept k) (I.hok.kept k)
theorem Inv.laid {a:Addr}{o:HO}{t':Nat}(I:Inv X pins Z H s)(k:∀ b u,s.heap.get? b=some u->h'.get? b=some u)(hp:s.heap.objs.size<=a)(new:ObjOk X.prog X.w (upd H a o) h' a o):
  Inv X pins Z (upd H a o) { s with heap:=h',toks:=t' }:=I.un (Un.laid k hp (I.hok.fresh hp)) (I.hok.laid k hp new)
theorem Inv.write {x e:Addr}{o:HO}{t':Nat}(I:Inv X pins Z H s)(mu:Mut (H x))(he:e=x\/H e=some (.own x))(k:∀ b u,b≠e->s.heap.get? b=some u->h'.get? b=some u)(heo:∃ u,h'.get? e=some u)
  (new:ObjOk X.prog X.w (upd H x o) h' x o):Inv X pins Z (upd H x o) { s with heap:=h',toks:=t' }:=I.un (Un.write mu he k heo) (I.hok.write mu he k heo new)
theorem Inv.weak {Z':List (Option V)}(I:Inv X pins Z H s)(hl:Z'.length=Z.length)(w:∀ (i:Nat) v,Z'[i]?=some (some v)->Z[i]?=some (some v)):Inv X pins Z' H s:=
 ⟨I.ok,I.os,I.bare,I.base,let ⟨m,hn,hl'⟩:=I.loc;⟨m,hn,λ i x v e1 e2 e3=>hl' i x v e1 (w i v e2) e3⟩,I.cell,I.free,I.freeC,I.pin,I.hok,hl.trans I.len⟩
theorem Inv.pins_of {pins':List (Addr×Obj)}(I:Inv X pins Z H s)(h:∀ p∈pins',s.heap.get? p.1=some p.2/\H p.1=none/\p.1≠X.env.locals/\p.1∉X.fs/\∀ v,p.2.data≠.cell v):Inv X pins' Z H s:=
 ⟨I.ok,I.os,I.bare,I.base,I.loc,I.cell,I.free,I.freeC,λ p hp=>(List.mem_append.mp hp).elim (λ z=>I.pin p (List.mem_append_left _ z)) (h p),I.hok,I.len⟩
theorem a4n {N:List Str}(hN:N.Nodup){i j:Nat}{x:Str}(a:N[i]?=some x)(b:N[j]?=some x):i=j:=by
 obtain⟨h1,e1⟩:=Zg a
 obtain⟨h2,e2⟩:=Zg b
 exact(List.getElem_inj hN).mp (e1.trans e2.symm)
theorem a2N {M:Model}{A:Around}{E:Value->Shared->Prop}{i:Nat}{x:Str}{v:V}{u:Value}{Q:Unit->Shared->Prop}(I:Inv X pins Z H s)(hN:X.N.Nodup)(hi:X.N[i]?=some x)(hx:Loc X.env.scope x)(r:RelV v u)
  (h:∀ s',Inv X pins (Z.set i (some v)) H s'->(∃ a,Heap.SameBut a s.heap s'.heap/\(a=X.env.locals\/X.env.cells.lookup x=some a))->Q () s')(hf:X.fn x=true\/X.env.scope.names.lookup x=some .local:=by first | exact .inl rfl | exact .inr rfl | assumption):wpAny M A (storeName X.env x u) Q E s:=by
 obtain⟨m,hn,hl⟩:=id I.loc
 have hcls:(X.env.scope.kind==.class||(X.env.scope.kind==.module&&X.env.locals != X.env.globals))=false:=by rw[I.ok.kind];rfl
 have hiZ:i < Z.length:=by rw[I.len];exact(Zg hi).1
 have cne:=I.cne
 have tracked:∀ {a:Addr}{h':Heap},(∃ o,s.heap.get? a=some o/\H a=none)->Heap.SameBut a s.heap h'->HOk X.prog X.w H h':=λ {a h'} ha hs b ob e=>by
  obtain⟨_,_,hfree⟩:=ha
  refine(I.hok b ob e).stay (λ c w' hc q=>(hs.2 c ?_).trans q) (λ _ q=>q) λ _ _ q=>q
  rintro rfl
  rcases hc with rfl | hc
  ·rw[hfree]at e;cases e
  ·rw[hfree]at hc;cases hc
 rcases hx with hk | hk
 ·refine wpAny_storeName_local hk hn (λ h' hn' hs=>?_) hcls
  obtain⟨oL,_,_,hoL,_⟩:=id hn
  refine h _ ⟨I.ok,I.os,I.bare,⟨λ b o e n hb hx=>?_,λ b o e n hb hx=>?_,I.base.free,λ b o e hx=>?_,I.base.tups,I.base.frzs,I.base.tbls⟩,⟨_,hn',λ j y v' e1 e2 e3=>?_⟩,λ y c e=>?_,I.free,I.freeC,λ p hp=>?_,tracked ⟨oL,hoL,I.free⟩ hs,by simpa using I.len⟩ ⟨_,hs,.inl rfl⟩
  ·exact(hs.2 b (Nat.ne_of_lt (Nat.lt_of_lt_of_le (Heap.lt_size e) I.ok.above))).trans (I.base.keep b o e n hb hx)
  ·obtain⟨sl,e1⟩:=I.base.slot b o e n hb hx
   exact⟨sl,(hs.2 b (Nat.ne_of_lt (Nat.lt_of_lt_of_le (Heap.lt_size e) I.ok.above))).trans e1⟩
  ·obtain⟨o',e1⟩:=I.base.there b o e hx
   exact⟨o',(hs.2 b (Nat.ne_of_lt (Nat.lt_of_lt_of_le (Heap.lt_size e) I.ok.above))).trans e1⟩
  ·by_cases hj:j=i
   ·subst hj
    rw[hi]at e1;cases e1
    rw[List.getElem?_set_self hiZ]at e2
    cases e2
    exact⟨u,r,.inl ⟨hk,by simp⟩⟩
   ·rw[List.getElem?_set_ne (Ne.symm hj)]at e2
    obtain⟨u',r',q⟩:=hl j y v' e1 e2 e3
    refine⟨u',r',?_⟩
    rcases q with⟨k,e⟩ | ⟨k,c,e,z⟩
    ·refine .inl ⟨k,?_⟩
     have:y≠x:=λ e=>hj (a4n hN e1 (e ▸ hi))
     simp[this,e]
    ·exact .inr ⟨k,c,e,z.sameBut hs (cne y c e)⟩
  ·obtain⟨w',z⟩:=I.cell y c e
   exact⟨w',z.sameBut hs (cne y c e)⟩
  ·obtain⟨e,n,ne,nf,d⟩:=I.pin p hp
   exact⟨(hs.2 p.1 ne).trans e,n,ne,nf,d⟩
 ·have hfn:X.fn x=true:=by
   rcases hf with z | z
   ·exact z
   ·rw[z]at hk;cases hk
  obtain⟨c,hc⟩:=I.ok.has x (.inl hk)
  obtain⟨w',z⟩:=I.cell x c hc
  refine wpAny_storeName_cell I.ok.kind hk hc z (λ h' hc' hs=>?_)
  obtain⟨oc,hoc,hocd⟩:=id z
  refine h { s with heap:=h' } ⟨I.ok,I.os,I.bare,⟨λ b o e n hb hx=>?_,λ b o e n hb hx=>?_,I.base.free,λ b o e hx=>?_,I.base.tups,I.base.frzs,I.base.tbls⟩,⟨m,hn.sameBut hs (Ne.symm (cne x c hc)),λ j y v' e1 e2 e3=>?_⟩,λ y c' e=>?_,I.free,I.freeC,λ p hp=>?_,tracked ⟨oc,hoc,I.freeC x c hc⟩ hs,by simpa using I.len⟩ ⟨c,hs,.inr hc⟩
  ·exact(hs.2 b (Nat.ne_of_lt (Nat.lt_of_lt_of_le (Heap.lt_size e) (I.ok.cab x c hfn hc)))).trans (I.base.keep b o e n hb hx)
  ·obtain⟨sl,e1⟩:=I.base.slot b o e n hb hx
   exact⟨sl,(hs.2 b (Nat.ne_of_lt (Nat.lt_of_lt_of_le (Heap.lt_size e) (I.ok.cab x c hfn hc)))).trans e1⟩
  ·obtain⟨o',e1⟩:=I.base.there b o e hx
   exact⟨o',(hs.2 b (Nat.ne_of_lt (Nat.lt_of_lt_of_le (Heap.lt_size e) (I.ok.cab x c hfn hc)))).trans e1⟩
  ·by_cases hj:j=i
   ·subst hj
    rw[hi]at e1;cases e1
    rw[List.getElem?_set_self hiZ]at e2
    cases e2
    exact⟨u,r,.inr ⟨.inl hk,c,hc,hc'⟩⟩
   ·rw[List.getElem?_set_ne (Ne.symm hj)]at e2
    obtain⟨u',r',q⟩:=hl j y v' e1 e2 e3
    refine⟨u',r',?_⟩
    rcases q with q | ⟨k,c',e,z'⟩
    ·exact .inl q
    ·refine .inr ⟨k,c',e,z'.sameBut hs ?_⟩
     rintro rfl
     exact hj (a4n hN e1 (I.ok.inj _ _ _ e hc ▸ hi))
  ·by_cases hcc:c'=c
   ·subst hcc;exact⟨_,hc'⟩
   ·obtain⟨w2,z2⟩:=I.cell y c' e
    exact⟨w2,z2.sameBut hs hcc⟩
  ·obtain⟨e,n,ne,nf,d⟩:=I.pin p hp
   refine⟨(hs.2 p.1 ?_).trans e,n,ne,nf,d⟩
   intro q
   rw[q,hoc]at e
   have q':oc=p.2:=Option.some.inj e
   exact d w' (by rw[<- q'];exact hocd)
theorem a1n {M:Model}{A:Around}{E:Value->Shared->Prop}{i:Nat}{x:Str}{v:V}{u:Value}{Q:Unit->Shared->Prop}(I:Inv X pins Z H s)(hN:X.N.Nodup)(hi:X.N[i]?=some x)(hx:Loc X.env.scope x)(r:RelV v u)
  (h:∀ s',Inv X pins (Z.set i (some v)) H s'->Q () s')(hf:X.fn x=true\/X.env.scope.names.lookup x=some .local:=by first | exact .inl rfl | exact .inr rfl | assumption):wpAny M A (storeName X.env x u) Q E s:=
 a2N I hN hi hx r (λ s' I' _=>h s' I') hf
theorem Inv.call' {s':Shared}{ch:List Addr}(I:Inv X pins Z H s)(ho:s'.os=s.os)(u:Un (frs X.stack) ch H H' s.heap s'.heap)(hok:HOk X.prog X.w H' s'.heap)(hg:AllBare s'.gens)
  (hch:∀ b∈ch,(b∈X.ex\/X.s₀.heap.objs.size<=b)/\b≠X.env.locals/\(∀ x c,X.env.cells.lookup x=some c->c≠b)/\∀ p∈X.pn++pins,p.1≠b):Inv X pins Z H' s':=by
 obtain⟨h',g',d',t',o'⟩:=s'
 have e:o'=s.os:=ho
 subst e
 exact I.call (g':=g') (t':=t') (d':=d') u hok hg hch
end
abbrev XK:=Value->Option Addr->Hp->Prop
abbrev St:=List (Option V)
abbrev VK:=V->Hp->Prop
abbrev TE:=St->Hp->VK->Prop
abbrev TT:=St->Hp->(Bool->Hp->Prop)->Prop
abbrev TA:=St->Hp->(List V->Hp->Prop)->Prop
structure Ends where
 nx:St->Hp->Prop
 rt:VK
 bk:St->Hp->Prop:=λ _ _=>False
 ct:St->Hp->Prop:=λ _ _=>False
abbrev TS:=Ends->St->Hp->Prop
def EP (X:Cx)(pins:List (Addr×Obj))(Z:St)(Q:VK)(u:Value)(s':Shared):Prop:=∃ v H',Inv X pins Z H' s'/\RelV v u/\Q v H'
def TP (X:Cx)(pins:List (Addr×Obj))(Z:St)(Q:Bool->Hp->Prop)(b:Bool)(s':Shared):Prop:=∃ H',Inv X pins Z H' s'/\Q b H'
def AP (X:Cx)(pins:List (Addr×Obj))(Z:St)(Q:List V->Hp->Prop)(us:List Value)(s':Shared):Prop:=∃ vs H',Inv X pins Z H' s'/\Vals vs us/\Q vs H'
def SP (X:Cx)(pins:List (Addr×Obj))(D:Ends)(f:Flow)(s':Shared):Prop:=
 match f with
 | .next=>∃ Z' H',Inv X pins Z' H' s'/\D.nx Z' H'
 | .brk=>∃ Z' H',Inv X pins Z' H' s'/\D.bk Z' H'
 | .cont=>∃ Z' H',Inv X pins Z' H' s'/\D.ct Z' H'
 | .ret u=>∃ v Z' H',Inv X pins Z' H' s'/\RelV v u/\D.rt v H'
def PE (X:Cx)(e:Expr)(t:TE):Prop:=
 ∀ (pins:List (Addr×Obj)) (s:Shared) (Z:St) (H:Hp) (Q:VK),Inv X pins Z H s->t Z H Q->wpAny (model X.prog X.w) X.A (eval e X.env) (EP X pins Z Q) X.xe s
def PT (X:Cx)(e:Expr)(t:TT):Prop:=
 ∀ (pins:List (Addr×Obj)) (s:Shared) (Z:St) (H:Hp) (Q:Bool->Hp->Prop),Inv X pins Z H s->t Z H Q->wpAny (model X.prog X.w) X.A (isTrue e X.env (eval e X.env)) (TP X pins Z Q) X.xe s
def PW (X:Cx)(e:Expr)(t:TT):Prop:=
 ∀ (whole:Sem Value) (pins:List (Addr×Obj)) (s:Shared) (Z:St) (H:Hp) (Q:Bool->Hp->Prop),Inv X pins Z H s->t Z H Q->wpAny (model X.prog X.w) X.A (isTrue e X.env whole) (TP X pins Z Q) X.xe s
theorem PW.pt {X:Cx}{e:Expr}{t:TT}(h:PW X e t):PT X e t:=h _
def PA (X:Cx)(es:List Expr)(t:TA):Prop:=
 ∀ (pos:Pos) (pins:List (Addr×Obj)) (s:Shared) (Z:St) (H:Hp) (Q:List V->Hp->Prop),Inv X pins Z H s->t Z H Q->wpAny (model X.prog X.w) X.A (spliced (backTo pos (starEach es X.env))) (AP X pins Z Q) X.xe s
def PS (X:Cx)(st:Stmt)(t:TS):Prop:=
 ∀ (pins:List (Addr×Obj)) (s:Shared) (Z:St) (H:Hp) (D:Ends),Inv X pins Z H s->t D Z H->wpAny (model X.prog X.w) X.A (exec st X.env) (SP X pins D) X.xe s
def PSs (X:Cx)(st:List Stmt)(t:TS):Prop:=
 ∀ (pins:List (Addr×Obj)) (s:Shared) (Z:St) (H:Hp) (D:Ends),Inv X pins Z H s->t D Z H->wpAny (model X.prog X.w) X.A (execs st X.env) (SP X pins D) X.xe s
theorem thn {α:Type}{t:Sem α}{Q Q':α->Shared->Prop}{M:Model}{A:Around}{E:Value->Shared->Prop}{s:Shared}(h:wpAny M A t Q E s)(hQ:∀ a s,Q a s->Q' a s):wpAny M A t Q' E s:=wpAny_mono h hQ λ _ _ x=>x
section
variable {X:Cx}
def tVar (i:Nat):TE:=λ Z H Q=>∃ v,Z[i]?=some (some v)/\Q v H
def tC (v:V):TE:=λ _ H Q=>Q v H
theorem pe_var {i:Nat}{x:Str}{pos:Pos}(hN:X.N[i]?=some x)(hv:Vis X.env.scope x)(hd:(x==("__debug__" : Str))=false:=by decide)(hcd:(x==("__classdict__" : Str))=false:=by decide):PE X (.Name x pos) (tVar i):=by
 intro pins s Z H Q I h
 obtain⟨v,e,h⟩:=h
 obtain⟨m,hn,hl⟩:=I.loc
 obtain⟨u,r,l⟩:=hl i x v hN e hv
 have fin:EP X pins Z Q u s:=⟨v,H,I,r,h⟩
 rcases l with⟨hk,hm⟩ | ⟨hk,c,hc,hcell⟩
 ·exact wpAny_Name (wpAny_loadName_local I.ok.kind hk hn hm fin) hd
 ·rcases hk with hk | hk
  ·exact wpAny_Name (wpAny_loadName_cell I.ok.kind hk hc hcell fin) hd
  ·exact wpAny_Name (wpAny_loadName_free I.ok.kind hk hc hcell fin hcd) hd
theorem pe_int {i j pos}:PE X (.Constant (.int i) j pos) (tC (.int i)):=λ _ _ _ H _ I h=>wpAny_Constant_int ⟨.int i,H,I.tok _,⟨_,rfl⟩,h⟩
theorem pe_bl {b j pos}:PE X (.Constant (.bool b) j pos) (tC (.bl b)):=λ _ _ _ H _ I h=>Constant_bool ⟨.bl b,H,I,rfl,h⟩
theorem pe_non {j pos}:PE X (.Constant .none j pos) (tC .non):=λ _ _ _ H _ I h=>Constant_none ⟨.non,H,I,rfl,h⟩
theorem pe_str {x j pos}:PE X (.Constant (.str x) j pos) (tC (.str x)):=λ _ _ _ H _ I h=>Calls.Constant_str ⟨.str x,H,I.tok _,⟨_,rfl⟩,h⟩
def Gl (X:Cx)(x:Str):Prop:=X.env.kindOf x=some .globalImplicit
theorem V9 {E:Value->Shared->Prop}{pins:List (Addr×Obj)}{s:Shared}{Z:St}{H:Hp}{x:Str}{u:Value}{pos:Pos}{Q:Value->Shared->Prop}(I:Inv X pins Z H s)(hg:Gl X x)(hm:X.mg x=some u)(h:Q u s)
  (hd:(x==("__debug__" : Str))=false:=by decide):wpAny (model X.prog X.w) X.A (eval (.Name x pos) X.env) Q E s:=
 Calls.Name_function_global I.ok.kind hg (Calls.loadGlobal_global (by rw[I.ok.glob];exact I.mod.glob.keeps I.bk) hm h) hd
theorem U6 {E:Value->Shared->Prop}{pins:List (Addr×Obj)}{s:Shared}{Z:St}{H:Hp}{x:Str}{u:Value}{pos:Pos}{Q:Value->Shared->Prop}(I:Inv X pins Z H s)(hg:Gl X x)(hm:X.mg x=none)(hv:bootBuiltins x=some u)(h:Q u s)
  (hn:x ≠ "__name__" := by decide)(hd:(x==("__debug__" : Str))=false:=by decide):wpAny (model X.prog X.w) X.A (eval (.Name x pos) X.env) Q E s:=by
 obtain⟨mb,h1,h2⟩:=I.mod.blt
 exact Calls.Name_function_global I.ok.kind hg (Calls.loadGlobal_builtin (by rw[I.ok.glob];exact I.mod.glob.keeps I.bk) hm (by rw[I.ok.blt];exact h1.keeps I.bk) ((h2 x hn).trans hv) h) hd
theorem pe_glob {x:Str}{v:V}{u:Value}{pos:Pos}(hg:Gl X x)(hm:X.mg x=some u)(r:RelV v u)(hd:(x==("__debug__" : Str))=false:=by decide):PE X (.Name x pos) (tC v):=
 λ _ _ _ H _ I h=>V9 I hg hm ⟨v,H,I,r,h⟩ hd
theorem pe_bltn {x:Str}{v:V}{u:Value}{pos:Pos}(hg:Gl X x)(hm:X.mg x=none)(hv:bootBuiltins x=some u)(r:RelV v u)(hn:x ≠ "__name__" := by decide)(hd:(x==("__debug__" : Str))=false:=by decide):PE X (.Name x pos) (tC v):=
 λ _ _ _ H _ I h=>U6 I hg hm hv ⟨v,H,I,r,h⟩ hn hd
variable {a b:Expr}{ta tb:TE}{pos:Pos}
variable {tA tB':TT}{rest:List Expr}
def tAnd (t u:TT):TT:=λ Z H Q=>t Z H λ c H1=>if c=true then u Z H1 Q else Q false H1
def tOr (t u:TT):TT:=λ Z H Q=>t Z H λ c H1=>if c=true then Q true H1 else u Z H1 Q
def J4 (t:TT):TT:=λ Z H Q=>t Z H λ c H1=>Q (!c) H1
theorem pw_and1 (ha:PT X a tA):PW X (.BoolOp .And [a] pos) tA:=by
 intro wh pins s Z H Q I h
 refine isTrue_and (thn (ha pins s Z H Q I h) λ c s1 e=>?_)
 cases c with
 | true=>exact isTrue_and_nil e
 | false=>exact e
theorem pw_or1 (ha:PT X a tA):PW X (.BoolOp .Or [a] pos) tA:=by
 intro wh pins s Z H Q I h
 refine isTrue_or (thn (ha pins s Z H Q I h) λ c s1 e=>?_)
 cases c with
 | false=>exact isTrue_or_nil e
 | true=>exact e
theorem pw_and (ha:PT X a tA)(hb:PW X (.BoolOp .And (b::rest) pos) tB'):PW X (.BoolOp .And (a::b::rest) pos) (tAnd tA tB'):=by
 intro wh pins s Z H Q I h
 refine isTrue_and (thn (ha pins s Z H _ I h) λ c s1 ⟨H1,I1,q1⟩=>?_)
 cases c with
 | true=>exact hb wh pins s1 Z H1 Q I1 q1
 | false=>exact⟨H1,I1,q1⟩
theorem pw_or (ha:PT X a tA)(hb:PW X (.BoolOp .Or (b::rest) pos) tB'):PW X (.BoolOp .Or (a::b::rest) pos) (tOr tA tB'):=by
 intro wh pins s Z H Q I h
 refine isTrue_or (thn (ha pins s Z H _ I h) λ c s1 ⟨H1,I1,q1⟩=>?_)
 cases c with
 | true=>exact⟨H1,I1,q1⟩
 | false=>exact hb wh pins s1 Z H1 Q I1 q1
theorem pt_not (ha:PT X a tA):PT X (.UnaryOp .Not a pos) (J4 tA):=by
 intro pins s Z H Q I h
 exact isTrue_not (ha pins s Z H (λ c H1=>Q (!c) H1) I h)
def tAndV (ta tb:TE):TE:=λ Z H Q=>ta Z H λ x H1=>∃ c,x=.bl c/\if c=true then tb Z H1 Q else Q (.bl false) H1
def tOrV (ta tb:TE):TE:=λ Z H Q=>ta Z H λ x H1=>∃ c,x=.bl c/\if c=true then Q (.bl true) H1 else tb Z H1 Q
def tNotV (ta:TE):TE:=λ Z H Q=>ta Z H λ x H1=>∃ c,x=.bl c/\Q (.bl (!c)) H1
theorem pe_one {op}{t:TE}(h:PE X a t):PE X (.BoolOp op [a] pos) t:=λ pins s Z H Q I hw=>BoolOp_one (h pins s Z H Q I hw)
theorem pe_and (ha:PE X a ta)(hb:PE X (.BoolOp .And (b::rest) pos) tb):PE X (.BoolOp .And (a::b::rest) pos) (tAndV ta tb):=by
 intro pins s Z H Q I h
 refine BoolOp_and (thn (ha pins s Z H _ I h) λ v s1 ⟨x,H1,I1,r1,q1⟩=>?_)
 obtain⟨c,rfl,q1⟩:=q1
 cases r1
 refine wpAny_truthy_bool ?_
 cases c with
 | true=>exact hb pins s1 Z H1 Q I1 q1
 | false=>exact⟨.bl false,H1,I1,rfl,q1⟩
theorem pe_or (ha:PE X a ta)(hb:PE X (.BoolOp .Or (b::rest) pos) tb):PE X (.BoolOp .Or (a::b::rest) pos) (tOrV ta tb):=by
 intro pins s Z H Q I h
 refine BoolOp_or (thn (ha pins s Z H _ I h) λ v s1 ⟨x,H1,I1,r1,q1⟩=>?_)
 obtain⟨c,rfl,q1⟩:=q1
 cases r1
 refine wpAny_truthy_bool ?_
 cases c with
 | false=>exact hb pins s1 Z H1 Q I1 q1
 | true=>exact⟨.bl true,H1,I1,rfl,q1⟩
theorem pe_not (ha:PE X a ta):PE X (.UnaryOp .Not a pos) (tNotV ta):=by
 intro pins s Z H Q I h
 refine UnaryOp_ (thn (ha pins s Z H _ I h) λ v s1 ⟨x,H1,I1,r1,q1⟩=>?_)
 obtain⟨c,rfl,q1⟩:=q1
 cases r1
 exact not_of (wpAny_truthy_bool ⟨.bl (!c),H1,I1,rfl,q1⟩)
def tIf (t:TT)(ta tb:TE):TE:=λ Z H Q=>t Z H λ c H1=>if c=true then ta Z H1 Q else tb Z H1 Q
theorem pe_ifExp {c:Expr}(hc:PT X c tA)(ha:PE X a ta)(hb:PE X b tb):PE X (.IfExp c a b pos) (tIf tA ta tb):=by
 intro pins s Z H Q I h
 refine wpAny_IfExp (thn (hc pins s Z H _ I h) λ d s1 ⟨H1,I1,q1⟩=>?_)
 cases d with
 | true=>exact ha pins s1 Z H1 Q I1 q1
 | false=>exact hb pins s1 Z H1 Q I1 q1
end
def SqL (K:PySem.W.Frag)(H:Hp)(a:Addr)(xs:List V):Prop:=
 Rd H a (.lst xs) ∨
  ∃ (o:Obj) (its:Array Value) (n:Nat),K.lookup a=some o/\o.cls=.type "list" /\ o.dict=none/\o.data=.seq its n/\its.size<=sizeLine/\Vals xs its.toList
def SqT (K:PySem.W.Frag)(H:Hp)(a:Addr)(xs:List V):Prop:=
 Rd H a (.tup xs) ∨
  ∃ (o:Obj) (its:Array Value) (n:Nat),K.lookup a=some o/\o.cls=.type "tuple" /\ o.data=.seq its n/\its.size<=sizeLine/\Vals xs its.toList
def absV:Value->Option V
 | .none=>some .non
 | .bool b=>some (.bl b)
 | .int i _=>some (.int i)
 | .str x _=>some (.str x)
 | .bytes b _=>some (.byt b)
 | .float b _=>some (.flt b)
 | .ref a=>some (.ref a)
 | .type n=>some (.ty n)
 | _=>none
theorem RelV.abs {x:V}{u:Value}(r:RelV x u):absV u=some x:=by
 cases x with
 | non=>cases r;rfl
 | bl _=>cases r;rfl
 | int _=>obtain⟨t,rfl⟩:=r;rfl
 | str _=>obtain⟨t,rfl⟩:=r;rfl
 | byt _=>obtain⟨t,rfl⟩:=r;rfl
 | flt _=>obtain⟨t,rfl⟩:=r;rfl
 | ref _=>cases r;rfl
 | ty _=>cases r;rfl
theorem RelV.inj {x y:V}{u:Value}(r:RelV x u)(q:RelV y u):x=y:=Option.some.inj (r.abs.symm.trans q.abs)
theorem Vals.inj:∀ {xs ys:List V}{us:List Value},Vals xs us->Vals ys us->xs=ys
 | _,_,_,.nil,.nil=>rfl
 | _,_,_,.cons r t,.cons r' t'=>by rw[r.inj r',Vals.inj t t']
section
variable {X:Cx}{pins:List (Addr×Obj)}{Z:St}{H:Hp}{s:Shared}{a:Addr}{xs ys:List V}
theorem Inv.list (I:Inv X pins Z H s)(h:SqL X.K H a xs):∃ its:List Value,Vals xs its/\PlainL s.heap a its.toArray/\xs.length<=sizeLine:=by
 rcases h with h | ⟨o,its,n,hk,hc,hd,hs,hz,r⟩
 ·obtain⟨z,its,n,r,e⟩:=h.ok I.hok
  exact⟨its,r,⟨_,n,e,rfl,rfl,rfl⟩,z⟩
 ·refine⟨its.toList,r,⟨o,n,I.kIn a o hk,hc,hd,by simpa using hs⟩,?_⟩
  have e:=r.length
  simp only[Array.length_toList]at e
  omega
theorem Inv.tuple (I:Inv X pins Z H s)(h:SqT X.K H a xs):∃ its:List Value,Vals xs its/\IsTup s.heap a its.toArray/\xs.length<=sizeLine:=by
 rcases h with h | ⟨o,its,n,hk,hc,hs,hz,r⟩
 ·obtain⟨z,its,r,p⟩:=h.ok I.hok
  exact⟨its,r,p,z⟩
 ·refine⟨its.toList,r,⟨o,I.kIn a o hk,hc,n,by simpa using hs⟩,?_⟩
  have e:=r.length
  simp only[Array.length_toList]at e
  omega
theorem Inv.list_inj (I:Inv X pins Z H s)(h:SqL X.K H a xs)(h':SqL X.K H a ys):xs=ys:=by
 obtain⟨its,r,⟨o,n,e,_,_,d⟩,_⟩:=I.list h
 obtain⟨its',r',⟨o',n',e',_,_,d'⟩,_⟩:=I.list h'
 rw[e]at e';cases e'
 rw[d]at d'
 injection d' with d1 _
 have:its=its':=by simpa using congrArg Array.toList d1
 subst this
 exact r.inj r'
theorem Inv.tuple_inj (I:Inv X pins Z H s)(h:SqT X.K H a xs)(h':SqT X.K H a ys):xs=ys:=by
 obtain⟨its,r,⟨o,e,_,n,d⟩,_⟩:=I.tuple h
 obtain⟨its',r',⟨o',e',_,n',d'⟩,_⟩:=I.tuple h'
 rw[e]at e';cases e'
 rw[d]at d'
 injection d' with d1 _
 have:its=its':=by simpa using congrArg Array.toList d1
 subst this
 exact r.inj r'
end
abbrev Cx.wish (X:Cx)(E:Value->Shared->Prop):Cx:={ X with xe:=E }
abbrev Cx.nox (X:Cx):Cx:=X.wish λ _ _=>False
theorem Cx.Ok.wish {X:Cx}(ok:X.Ok)(E:Value->Shared->Prop):(X.wish E).Ok:=
 ⟨ok.mod,ok.kind,ok.glob,ok.blt,ok.above,ok.inj,ok.has,ok.cab,ok.hd,ok.frames,ok.stk,ok.exf,ok.bs,ok.bsz,ok.noex,ok.exfs,ok.funs,ok.frf⟩
theorem Cx.Ok.unwish {X:Cx}{E:Value->Shared->Prop}(ok:(X.wish E).Ok):X.Ok:=
 ⟨ok.mod,ok.kind,ok.glob,ok.blt,ok.above,ok.inj,ok.has,ok.cab,ok.hd,ok.frames,ok.stk,ok.exf,ok.bs,ok.bsz,ok.noex,ok.exfs,ok.funs,ok.frf⟩
section
variable {X:Cx}{pins:List (Addr×Obj)}{Z:St}{H:Hp}{s:Shared}{E:Value->Shared->Prop}
theorem Inv.wish (I:Inv X pins Z H s)(E:Value->Shared->Prop):Inv (X.wish E) pins Z H s:=⟨I.ok.wish E,I.os,I.bare,I.base,I.loc,I.cell,I.free,I.freeC,I.pin,I.hok,I.len⟩
theorem Inv.unwish (I:Inv (X.wish E) pins Z H s):Inv X pins Z H s:=⟨I.ok.unwish,I.os,I.bare,I.base,I.loc,I.cell,I.free,I.freeC,I.pin,I.hok,I.len⟩
theorem SP.unwish {D:Ends}{f:Flow}{s':Shared}(h:SP (X.wish E) pins D f s'):SP X pins D f s':=by
 cases f with
 | next=>obtain⟨Z',H',I,q⟩:=h;exact⟨Z',H',I.unwish,q⟩
 | brk=>obtain⟨Z',H',I,q⟩:=h;exact⟨Z',H',I.unwish,q⟩
 | cont=>obtain⟨Z',H',I,q⟩:=h;exact⟨Z',H',I.unwish,q⟩
 | ret u=>obtain⟨v,Z',H',I,r,q⟩:=h;exact⟨v,Z',H',I.unwish,r,q⟩
theorem PSs.nox {st:List Stmt}{t:TS}(h:PSs X.nox st t):PSs X st t:=λ pins s Z H D I hw=>
 wpAny_mono (h pins s Z H D (I.wish _) hw) (λ _ _ q=>q.unwish) λ _ _ z=>False.elim z
end
section
variable {X:Cx}{st:Stmt}{rest:List Stmt}{t u:TS}{e:Expr}{te:TE}{pos:Pos}
def g6:TS:=λ D Z H=>D.nx Z H
def b7 (t u:TS):TS:=λ D Z H=>t { D with nx:=u D } Z H
theorem pss_nil:PSs X [] g6:=λ _ _ Z H _ I h=>wpAny_execs_nil ⟨Z,H,I,h⟩
theorem pss_cons (h1:PS X st t)(h2:PSs X rest u):PSs X (st::rest) (b7 t u):=by
 intro pins s Z H D I h
 refine wpAny_execs_cons (thn (h1 pins s Z H { D with nx:=u D } I h) λ f s1 q=>?_)
 cases f with
 | next=>
  obtain⟨Z',H',I',q⟩:=q
  exact h2 pins s1 Z' H' D I' q
 | ret v=>exact q
 | brk=>exact q
 | cont=>exact q
theorem pss_one (h1:PS X st t):PSs X [st] t:=by
 intro pins s Z H D I h
 refine wpAny_execs_cons (thn (h1 pins s Z H D I h) λ f s1 q=>?_)
 cases f with
 | next=>exact wpAny_execs_nil q
 | ret v=>exact q
 | brk=>exact q
 | cont=>exact q
theorem ps_pass:PS X (.Pass pos) g6:=λ _ _ Z H _ I h=>wpAny_Pass ⟨Z,H,I,h⟩
theorem Inv.quiet {pins:List (Addr×Obj)}{Z:St}{H:Hp}{s:Shared}(I:Inv X pins Z H s):interactive X.env=false:=by simp[interactive,I.ok.kind]
theorem ps_doc {x j pos pos'}:PS X (.Expr (.Constant (.str x) j pos) pos') g6:=λ _ s Z H _ I h=>wpAny_Expr (Calls.Constant_str (show SP X _ _ .next { s with toks:=s.toks + 1 } from⟨Z,H,I.tok _,h⟩)) I.quiet
def K0 (te:TE):TS:=λ D Z H=>te Z H λ _ H1=>D.nx Z H1
theorem ps_expr (he:PE X e te)(hs:swapsWith e none pos.line X.env=pure false:=by rfl):PS X (.Expr e pos) (K0 te):=by
 intro pins s Z H D I h
 exact wpAny_Expr_any (thn (he pins s Z H _ I h) λ v s1 ⟨x,H1,I1,r1,q1⟩=>⟨Z,H1,I1,q1⟩) I.quiet hs
def f9 (te:TE):TS:=λ D Z H=>te Z H D.rt
theorem ps_ret (he:PE X e te):PS X (.Return (some e) pos) (f9 te):=by
 intro pins s Z H D I h
 exact wpAny_Return_some (thn (he pins s Z H _ I h) λ v s1 ⟨x,H1,I1,r1,q1⟩=>⟨x,Z,H1,I1,r1,q1⟩)
def tRetN:TS:=λ D _ H=>D.rt .non H
theorem ps_retN:PS X (.Return none pos) tRetN:=λ _ _ Z H _ I h=>wpAny_Return_none ⟨.non,Z,H,I,rfl,h⟩
def tIfS (c:TT)(t u:TS):TS:=λ D Z H=>c Z H λ b H1=>if b=true then t D Z H1 else u D Z H1
theorem ps_if {c:Expr}{a b:List Stmt}{tc:TT}(hc:PT X c tc)(ha:PSs X a t)(hb:PSs X b u):PS X (.If c a b pos) (tIfS tc t u):=by
 intro pins s Z H D I h
 refine wpAny_If (thn (hc pins s Z H _ I h) λ d s1 ⟨H1,I1,q1⟩=>?_)
 cases d with
 | true=>exact ha pins s1 Z H1 D I1 q1
 | false=>exact hb pins s1 Z H1 D I1 q1
end
abbrev TG:=V->St->Hp->(St->Hp->Prop)->Prop
abbrev TGs:=List V->St->Hp->(St->Hp->Prop)->Prop
def PG (X:Cx)(target:Expr)(t:TG):Prop:=
 ∀ (pins:List (Addr×Obj)) (s:Shared) (Z:St) (H:Hp) (v:V) (u:Value) (Q:St->Hp->Prop),Inv X pins Z H s->RelV v u->t v Z H Q →
  wpAny (model X.prog X.w) X.A (assign target X.env u) (λ _ s'=>∃ Z' H',Inv X pins Z' H' s'/\Q Z' H') X.xe s
def PGs (X:Cx)(ts:List Expr)(t:TGs):Prop:=
 ∀ (pins:List (Addr×Obj)) (s:Shared) (Z:St) (H:Hp) (vs:List V) (us:List Value) (Q:St->Hp->Prop),Inv X pins Z H s->Vals vs us->t vs Z H Q →
  wpAny (model X.prog X.w) X.A (assignInOrder ((assignEach ts X.env).map (·.2)) us) (λ _ s'=>∃ Z' H',Inv X pins Z' H' s'/\Q Z' H') X.xe s
abbrev TSet:=V->V->V->Hp->(Hp->Prop)->Prop
def PSet (X:Cx)(t:TSet):Prop:=
 ∀ (pins:List (Addr×Obj)) (s:Shared) (Z:St) (H:Hp) (o i v:V) (ov iv u:Value) (Q:Hp->Prop),Inv X pins Z H s->RelV o ov->RelV i iv->RelV v u->t o i v H Q →
  wpAny (model X.prog X.w) X.A (setItem ov iv u) (λ _ s'=>∃ H',Inv X pins Z H' s'/\Q H') X.xe s
abbrev TIp:=V->V->Hp->VK->Prop
def PIp (X:Cx)(op:Operator)(t:TIp):Prop:=
 ∀ (pins:List (Addr×Obj)) (s:Shared) (Z:St) (H:Hp) (x y:V) (v u:Value) (Q:VK),Inv X pins Z H s->RelV x v->RelV y u->t x y H Q →
  wpAny (model X.prog X.w) X.A (inplaceOp op v u) (EP X pins Z Q) X.xe s
section
variable {X:Cx}{pos:Pos}
def a8 (i:Nat):TG:=λ v Z H Q=>Q (Z.set i (some v)) H
theorem pg_name {i:Nat}{x:Str}(hN:X.N.Nodup)(hi:X.N[i]?=some x)(hx:Loc X.env.scope x)(hf:X.fn x=true\/X.env.scope.names.lookup x=some .local:=by first | exact .inl rfl | exact .inr rfl | assumption):PG X (.Name x pos) (a8 i):=by
 intro pins s Z H v u Q I r h
 exact wpAny_assign_Name (a1n I hN hi hx r (λ s' I'=>⟨_,H,I',h⟩) hf)
def gNil:TGs:=λ vs Z H Q=>vs=[]/\Q Z H
def C7 (t:TG)(u:TGs):TGs:=λ vs Z H Q=>∃ v r,vs=v::r/\t v Z H λ Z' H'=>u r Z' H' Q
theorem pgs_nil:PGs X [] gNil:=by
 intro pins s Z H vs us Q I r h
 obtain⟨e,h⟩:=h
 subst e
 cases r
 exact assignInOrder_nil ⟨Z,H,I,h⟩
theorem pgs_cons {e:Expr}{es:List Expr}{t:TG}{u:TGs}(h1:PG X e t)(h2:PGs X es u)
  (hs:(assignEach (e::es) X.env).map (·.2)=assign e X.env::(assignEach es X.env).map (·.2):=by rfl):PGs X (e::es) (C7 t u):=by
 intro pins s Z H vs us Q I r h
 obtain⟨v,vr,e1,h⟩:=h
 subst e1
 cases r with
 | cons r rr=>
  rw[hs]
  refine assignInOrder_cons (thn (h1 pins s Z H _ _ _ I r h) λ _ s1 ⟨σ1,H1,I1,q1⟩=>?_)
  exact h2 pins s1 σ1 H1 _ _ Q I1 rr q1
def gTup (K:PySem.W.Frag)(n:Nat)(t:TGs):TG:=λ v Z H Q=>∃ a xs,v=.ref a/\SqT K H a xs/\xs.length=n/\t xs Z H Q
theorem pg_tup {es:List Expr}{k:Nat}{t:TGs}{n:Nat}(hc:X.calm=true)(h:PGs X es t)
  (hn:(assignEach es X.env).length=n:=by rfl)(hst:(assignEach es X.env).findIdx? (·.1)=none:=by rfl):PG X (.Tuple es k pos) (gTup X.K n t):=by
 intro pins s Z H v u Q I r hw
 obtain⟨a,xs,e1,hq,hl,hw⟩:=hw
 subst e1
 cases r
 obtain⟨its,rv,ht,hz⟩:=I.tuple hq
 refine assign_Tuple_tuple (I.ok.hd hc) ht (by simp[hn,<- hl,rv.length]) hst λ h' hx=>?_
 have I1:Inv X pins Z H { s with heap:=h' }:=I.kept (t':=s.toks) λ b o e=>hx b o (Nat.ne_of_lt (Heap.lt_size e)) e
 exact h pins _ Z H xs _ Q I1 (by simpa using rv) hw
def W0 (to ti:TE)(t:TSet):TG:=λ v Z H Q=>to Z H λ o H1=>ti Z H1 λ i H2=>t o i v H2 λ H3=>Q Z H3
theorem pg_sub {o i:Expr}{to ti:TE}{t:TSet}(ho:PE X o to)(hi:PE X i ti)(hs:PSet X t)
  (ha:∀ v,assign (.Subscript o i pos) X.env v=(do
   let ov ← holding [v] (eval o X.env)
   let iv ← holding [v,ov] (eval i X.env)
   standAt pos
   holding [v,ov,iv] (setItem ov iv v)
   release [v,ov,iv] []):=by intro _;rfl):PG X (.Subscript o i pos) (W0 to ti t):=by
 intro pins s Z H v u Q I r h
 rw[ha]
 refine wpAny_bind (wpAny_holding (thn (ho pins s Z H _ I h) λ ov s1 ⟨x,H1,I1,r1,q1⟩=>?_))
 refine wpAny_bind (wpAny_holding (thn (hi pins s1 Z H1 _ I1 q1) λ iv s2 ⟨y,H2,I2,r2,q2⟩=>?_))
 refine wpAny_bind (wpAny_standAt (wpAny_bind (wpAny_holding (thn (hs pins s2 Z H2 x y v ov iv u _ I2 r1 r2 r q2) λ _ s3 ⟨H3,I3,q3⟩=>?_))))
 exact wpAny_release ⟨Z,H3,I3,q3⟩
def d7 (te:TE)(g:TG):TS:=λ D Z H=>te Z H λ x H1=>g x Z H1 D.nx
theorem ps_asg {tg e:Expr}{te:TE}{g:TG}(he:PE X e te)(hg:PG X tg g)(hs:swapsWithSole [tg] e pos.line X.env=pure false:=by rfl)(hw:swappedStores [tg] e X.env=pure none:=by rfl)
  (h1:(assignEach [tg] X.env).map (·.2)=[assign tg X.env]:=by rfl):PS X (.Assign [tg] e pos) (d7 te g):=by
 intro pins s Z H D I h
 refine wpAny_Assign_stores (thn (he pins s Z H _ I h) λ v s1 ⟨x,H1,I1,r1,q1⟩=>?_) hs hw
 rw[h1]
 exact thn (hg pins s1 Z H1 x v _ I1 r1 q1) λ _ s2 q=>q
theorem ps_set {i:Nat}{x:Str}{e:Expr}{te:TE}{pos':Pos}(hN:X.N.Nodup)(hi:X.N[i]?=some x)(hx:Loc X.env.scope x)(he:PE X e te)(hs:swapsWith e (some (.Name x pos')) pos.line X.env=pure false:=by rfl)(hf:X.fn x=true\/X.env.scope.names.lookup x=some .local:=by first | exact .inl rfl | exact .inr rfl | assumption):
  PS X (.Assign [.Name x pos'] e pos) (d7 te (a8 i)):=by
 intro pins s Z H D I h
 refine wpAny_Assign_Name (thn (he pins s Z H _ I h) λ v s1 ⟨y,H1,I1,r1,q1⟩=>?_) hs
 exact a1n I1 hN hi hx r1 (λ s2 I2=>⟨_,H1,I2,q1⟩) hf
def tAug (i:Nat)(te:TE)(ti:TIp):TS:=λ D Z H=>∃ x,Z[i]?=some (some x)/\te Z H λ y H1=>ti x y H1 λ z H2=>D.nx (Z.set i (some z)) H2
theorem ps_aug {i:Nat}{x:Str}{e:Expr}{te:TE}{op:Operator}{ti:TIp}{pos':Pos}(hN:X.N.Nodup)(hi:X.N[i]?=some x)(hx:Loc X.env.scope x)(he:PE X e te)(ho:PIp X op ti)(hf:X.fn x=true\/X.env.scope.names.lookup x=some .local:=by first | exact .inl rfl | exact .inr rfl | assumption):
  PS X (.AugAssign (.Name x pos') op e pos) (tAug i te ti):=by
 intro pins s Z H D I h
 obtain⟨v,e1,h⟩:=h
 obtain⟨m,hn,hl⟩:=I.loc
 have vis:Vis X.env.scope x:=by rcases hx with k | k;exact .inl k;exact .inr (.inl k)
 obtain⟨u,r,l⟩:=hl i x v hi e1 vis
 refine wpAny_AugAssign_Name ?_
 have go:wpAny (model X.prog X.w) X.A (eval e X.env) (λ w s₂=>wpAny (model X.prog X.w) X.A (inplaceOp op u w) (λ r s₃=>wpAny (model X.prog X.w) X.A (storeName X.env x r) (λ _=>SP X pins D .next) X.xe s₃) X.xe s₂) X.xe s:=by
  refine thn (he pins s Z H _ I h) λ w s1 ⟨y,H1,I1,r1,q1⟩=>?_
  refine thn (ho pins s1 Z H1 v y u w _ I1 r r1 q1) λ z s2 ⟨zv,H2,I2,r2,q2⟩=>?_
  exact a1n I2 hN hi hx r2 (λ s3 I3=>⟨_,H2,I3,q2⟩) hf
 rcases l with⟨hk,hm⟩ | ⟨hk,c,hc,hcell⟩
 ·exact wpAny_loadName_local I.ok.kind hk hn hm go
 ·rcases hk with hk | hk
  ·exact wpAny_loadName_cell I.ok.kind hk hc hcell go
  ·rcases hx with k | k
   ·have:X.env.scope.names.lookup x=some .free:=hk
    rw[k]at this;cases this
   ·have:X.env.scope.names.lookup x=some .free:=hk
    rw[k]at this;cases this
def tAugS (to ti te:TE)(tget:V->V->Hp->VK->Prop)(tip:TIp)(tset:TSet):TS:=λ D Z H=>to Z H λ o H1=>ti Z H1 λ i H2=>tget o i H2 λ x H3=>te Z H3 λ y H4=>tip x y H4 λ z H5=>tset o i z H5 λ H6=>D.nx Z H6
def PGet (X:Cx)(t:V->V->Hp->VK->Prop):Prop:=
 ∀ (pins:List (Addr×Obj)) (s:Shared) (Z:St) (H:Hp) (o i:V) (ov iv:Value) (Q:VK),Inv X pins Z H s->RelV o ov->RelV i iv->t o i H Q →
  wpAny (model X.prog X.w) X.A (getItem ov iv) (EP X pins Z Q) X.xe s
theorem ps_augS {o i e:Expr}{to ti te:TE}{tget:V->V->Hp->VK->Prop}{tip:TIp}{tset:TSet}{op:Operator}{tpos:Pos}(ho:PE X o to)(hi:PE X i ti)(hg:PGet X tget)(he:PE X e te)(hp:PIp X op tip)(hs:PSet X tset)
  (ha:∀ ov iv new,augStore i ov iv new=(do holding [new,ov,iv] (setItem ov iv new);release [new,ov,iv] [];pure .next):=by intros;rfl):PS X (.AugAssign (.Subscript o i tpos) op e pos) (tAugS to ti te tget tip tset):=by
 intro pins s Z H D I h
 refine wpAny_AugAssign_SubscriptAny (thn (ho pins s Z H _ I h) λ ov s1 ⟨x1,H1,I1,r1,q1⟩=>?_) ha
 refine thn (hi pins s1 Z H1 _ I1 q1) λ iv s2 ⟨x2,H2,I2,r2,q2⟩=>?_
 refine thn (hg pins s2 Z H2 x1 x2 ov iv _ I2 r1 r2 q2) λ old s3 ⟨x3,H3,I3,r3,q3⟩=>?_
 refine thn (he pins s3 Z H3 _ I3 q3) λ v s4 ⟨x4,H4,I4,r4,q4⟩=>?_
 refine thn (hp pins s4 Z H4 x3 x4 old v _ I4 r3 r4 q4) λ new s5 ⟨x5,H5,I5,r5,q5⟩=>?_
 exact thn (hs pins s5 Z H5 x1 x2 x5 ov iv new _ I5 r1 r2 r5 q5) λ _ s6 ⟨H6,I6,q6⟩=>⟨Z,H6,I6,q6⟩
def ipI (f:Int->Int->Int):TIp:=λ x y H Q=>∃ i j,x=.int i/\y=.int j/\Q (.int (f i j)) H
theorem ip_add:PIp X .Add (ipI λ i j=>i + j):=by
 intro pins s Z H x y v u Q I r1 r2 h
 obtain⟨i,j,e1,e2,q⟩:=h
 subst e1;subst e2
 obtain⟨t,rfl⟩:=r1
 obtain⟨t',rfl⟩:=r2
 exact iadd_int ⟨.int _,H,I.tok _,⟨_,rfl⟩,q⟩
theorem ip_sub:PIp X .Sub (ipI λ i j=>i - j):=by
 intro pins s Z H x y v u Q I r1 r2 h
 obtain⟨i,j,e1,e2,q⟩:=h
 subst e1;subst e2
 obtain⟨t,rfl⟩:=r1
 obtain⟨t',rfl⟩:=r2
 exact isub_int ⟨.int _,H,I.tok _,⟨_,rfl⟩,q⟩
end
section
variable {X:Cx}{pos:Pos}
def tWhile (c:TT)(tb:TS):TS:=λ D Z H=>∃ W:Nat->St->Hp->Prop,(∃ m,W m Z H)/\∀ m Z H,W m Z H →
 c Z H λ b H1=>if b=true then ∃ N:St->Hp->Prop,(∀ Z' H',N Z' H'->∃ m',m' < m/\W m' Z' H')/\tb { D with nx:=N,ct:=N,bk:=D.nx } Z H1 else D.nx Z H1
theorem ps_while {c:Expr}{body:List Stmt}{tc:TT}{tb:TS}(hp:PassesOwn (model X.prog X.w) X.A X.env X.xe)(hc:PT X c tc)(hb:PSs X body tb):PS X (.While c body [] pos) (tWhile tc tb):=by
 intro pins s Z H D I h
 obtain⟨W,⟨m0,w0⟩,turn⟩:=h
 refine wpAny_While (codeAny_whileLoop (λ n s'=>∃ Z' H',Inv X pins Z' H' s'/\W n Z' H') ?_ m0 ⟨Z,H,I,w0⟩)
 rintro n s1 ⟨σ1,H1,I1,w1⟩
 refine wpAny_passesOwn hp (thn (hc pins s1 σ1 H1 _ I1 (turn n σ1 H1 w1)) λ b s2 ⟨H2,I2,q2⟩=>?_)
 cases b with
 | true=>
  obtain⟨N,hN,q2⟩:=q2
  rw[if_pos rfl]
  refine wpAny_passesOwn hp (thn (hb pins s2 σ1 H2 _ I2 q2) λ f s3 q3=>?_)
  cases f with
  | next=>
   obtain⟨σ3,H3,I3,n3⟩:=q3
   obtain⟨m',hm,w3⟩:=hN σ3 H3 n3
   exact⟨m',hm,σ3,H3,I3,w3⟩
  | cont=>
   obtain⟨σ3,H3,I3,n3⟩:=q3
   obtain⟨m',hm,w3⟩:=hN σ3 H3 n3
   exact⟨m',hm,σ3,H3,I3,w3⟩
  | brk=>exact q3
  | ret v=>exact q3
 | false=>
  rw[if_neg Bool.false_ne_true]
  exact wpAny_execs_nil ⟨σ1,H2,I2,q2⟩
end
structure It where
 go:Nat->Hp->Prop
 yld:Nat->Hp->V->Hp->Prop
 stop:Nat->Hp->Prop
def FpOk (X:Cx)(pins:List (Addr×Obj))(H:Hp)(b:Addr):Prop:=
 H b=none/\b≠X.env.locals/\b∉X.fs/\(b∈X.ex\/X.s₀.heap.objs.size<=b)/\(∀ x c,X.env.cells.lookup x=some c->c≠b)/\∀ p∈X.pn++pins,p.1≠b
theorem Inv.fpOk {X:Cx}{pins:List (Addr×Obj)}{Z:St}{H H':Hp}{s:Shared}{b:Addr}(I:Inv X pins Z H s)(hb:s.heap.objs.size<=b)(hn:H' b=none):FpOk X pins H' b:=by
 refine⟨hn,Nat.ne_of_gt (Nat.lt_of_lt_of_le I.lt hb),I.nofs hb,.inr (Nat.le_trans I.sz hb),λ x c e z=>?_,λ p hp z=>?_⟩
 ·obtain⟨v,q⟩:=I.cell x c e
  exact absurd (Nat.lt_of_lt_of_le q.lt (by rw[z];exact hb)) (Nat.lt_irrefl _)
 ·exact absurd (Nat.lt_of_lt_of_le (Heap.lt_size (I.pin p hp).1) (by rw[z];exact hb)) (Nat.lt_irrefl _)
structure Turn (P:Program) (w:World) (K:PySem.W.Frag) (tg:Expr) (J:It) (fp:List Addr) (it:Addr) (tn:Nat->Heap->Prop):Prop where
 mem:it∈fp
 obj:∀ i h,tn i h->∀ b∈fp,∃ o,h.get? b=some o/\∀ v,o.data≠.cell v
 keep:∀ i h h',tn i h->(∀ b∈fp,∀ o,h.get? b=some o->h'.get? b=some o)->tn i h'
 item:∀ (X:Cx),X.prog=P->X.w=w->X.K=K->X.calm=true->∀ (i:Nat) (pins:List (Addr×Obj)) (s:Shared) (Z:St) (H:Hp) (E:Value->Shared->Prop),Inv X pins Z H s->(∀ b∈fp,FpOk X pins H b)->tn i s.heap->J.go i H →
  wpAny (model P w) X.A (pyNext (.ref it)) (λ r s1=>∃ u,r=some u ∧
   wpAny (model P w) X.A (letOwnedTupleGo tg (.ref it) u) (λ _ s2=>∃ x H',Inv X pins Z H' s2/\RelV x u/\J.yld i H x H'/\tn (i + 1) s2.heap/\∀ b∈fp,H' b=none) E s1) E s
 done:∀ (X:Cx),X.prog=P->X.w=w->X.K=K->X.calm=true->∀ (i:Nat) (pins:List (Addr×Obj)) (s:Shared) (Z:St) (H:Hp) (E:Value->Shared->Prop),Inv X pins Z H s->(∀ b∈fp,FpOk X pins H b)->tn i s.heap->J.stop i H →
  wpAny (model P w) X.A (pyNext (.ref it)) (λ r s1=>r=none/\Inv X pins Z H s1) E s
 self:∀ (A:Around) (i:Nat) (s:Shared) (Q:Value->Shared->Prop) (E:Value->Shared->Prop),tn i s.heap->Q (.ref it) s->wpAny (model P w) A (pyIter (.ref it)) Q E s
abbrev TI:=St->Hp->(It->Hp->Prop)->Prop
def PIE (X:Cx)(pins:List (Addr×Obj))(Z:St)(tg:Expr)(R:It->Hp->Prop)(itv:Value)(s2:Shared):Prop:=
 ∃ (it:Addr) (fp:List Addr) (tn:Nat->Heap->Prop) (J:It) (H':Hp),itv=.ref it/\Inv X pins Z H' s2/\Turn X.prog X.w X.K tg J fp it tn/\tn 0 s2.heap/\(∀ b∈fp,FpOk X pins H' b)/\R J H'
def PI (X:Cx)(tg iter:Expr)(wi:TI):Prop:=
 ∀ (pins:List (Addr×Obj)) (s:Shared) (Z:St) (H:Hp) (R:It->Hp->Prop),Inv X pins Z H s->wi Z H R →
  wpAny (model X.prog X.w) X.A (eval iter X.env) (λ v s1=>wpAny (model X.prog X.w) X.A (pyIter v) (PIE X pins Z tg R) X.xe s1) X.xe s
theorem a1o {M:Model}{A:Around}{E:Value->Shared->Prop}{s:Shared}{tg:Expr}{it:Addr}{u:Value}{o:Obj}{n:String}{vs:Array Value}{Q:Unit->Shared->Prop}(ho:s.heap.get? it=some o)(hc:o.cls=.type n)(hd:o.data=.fields vs)
  (hn:["enumerate", "zip", "dict_itemiterator", "dict_reverseitemiterator", "odict_iterator", "itertools.zip_longest", "itertools.pairwise"].contains n=false)(hQ:Q () s):wpAny M A (letOwnedTupleGo tg (.ref it) u) Q E s:=by
 unfold letOwnedTupleGo
 cases tg <;> first
  | exact wpAny_pure hQ
  | (cases u <;> first
    | exact wpAny_pure hQ
    | (refine wpAny_bind (wpAny_load ho ?_)
       rw[hc,hd]
       show wpAny M A (if (["enumerate", "zip", "dict_itemiterator", "dict_reverseitemiterator", "odict_iterator", "itertools.zip_longest", "itertools.pairwise"].contains n&&vs[0]?==some (rawInt _))=true then _ else _) Q E s
       rw[if_neg (by intro h;rw[hn,Bool.false_and]at h;cases h)]
       exact wpAny_pure hQ))
def Itl (K:PySem.W.Frag)(a:Addr):It:=
 ⟨λ i H=>∃ xs x,SqL K H a xs/\xs[i]?=some x,λ i H x H'=>H'=H/\∀ xs,SqL K H a xs->xs[i]?=some x,λ i H=>∃ xs,SqL K H a xs/\xs.length<=i⟩
def Itt (K:PySem.W.Frag)(a:Addr):It:=
 ⟨λ i H=>∃ xs x,SqT K H a xs/\xs[i]?=some x,λ i H x H'=>H'=H/\∀ xs,SqT K H a xs->xs[i]?=some x,λ i H=>∃ xs,SqT K H a xs/\xs.length<=i⟩
def Itr (lo:Int)(n:Nat):It:=⟨λ i _=>i < n,λ i H x H'=>H'=H/\x=.int (lo + i),λ i _=>n<=i⟩
theorem turn_list {P:Program}{w:World}{K:PySem.W.Frag}{tg:Expr}(a it:Addr):Turn P w K tg (Itl K a) [it] it (λ i h=>h.IsListIter it a i) where
 mem:=by simp
 obj:=λ i h st b hb=>by
  have e:b=it:=by simpa using hb
  subst e
  obtain⟨o,e,c,d⟩:=st
  exact⟨o,e,λ v z=>by rw[d]at z;cases z⟩
 keep:=λ i h h' st k=>st.at λ o e=>k it (by simp) o e
 item:=by
  intro X hP hw hK hc i pins s Z H E I hf st hg
  subst hP hw hK
  obtain⟨xs,x,hq,hx⟩:=hg
  obtain⟨its,rv,p,hz⟩:=I.list hq
  obtain⟨u,hu,ru⟩:=rv.get hx
  obtain⟨f0,f1,f2,f3,f4,f5⟩:=hf it (by simp)
  refine wpAny_pyNext_list_item st p.isList (x:=u) (by simpa using hu) λ h' st' sb=>?_
  have I1:Inv X pins Z H { s with heap:=h' }:=I.turned (t':=s.toks) (λ b o hb e=>(sb.2 b hb).trans e) f0 f1 f3 f4 f5
  obtain⟨o,e,c,d⟩:=id st'
  exact⟨u,rfl,a1o (s:={ s with heap:=h' }) e c d (by decide) ⟨x,H,I1,ru,⟨rfl,λ ys hy=>by rw[I.list_inj hy hq];exact hx⟩,st',λ b hb=>(hf b hb).1⟩⟩
 done:=by
  intro X hP hw hK hc i pins s Z H E I hf st hg
  subst hP hw hK
  obtain⟨xs,hq,hx⟩:=hg
  obtain⟨its,rv,p,hz⟩:=I.list hq
  obtain⟨f0,f1,f2,f3,f4,f5⟩:=hf it (by simp)
  have hl:=rv.length
  exact wpAny_pyNext_list_end (I.ok.hd hc) st p.isList (by simp;omega) λ h' eb=>⟨rfl,I.turned (t':=s.toks) (λ b o hb e=>eb b o hb e) f0 f1 f3 f4 f5⟩
 self:=λ _ _ _ _ _ st h=>wpAny_pyIter_listiter st h
theorem a5D {P:Program}{w:World}{K:PySem.W.Frag}{tg:Expr}(a it:Addr):Turn P w K tg (Itt K a) [it] it (λ i h=>h.IsTupleIter it a i) where
 mem:=by simp
 obj:=λ i h st b hb=>by
  have e:b=it:=by simpa using hb
  subst e
  obtain⟨o,e,c,d⟩:=st
  exact⟨o,e,λ v z=>by rw[d]at z;cases z⟩
 keep:=λ i h h' st k=>st.at λ o e=>k it (by simp) o e
 item:=by
  intro X hP hw hK hc i pins s Z H E I hf st hg
  subst hP hw hK
  obtain⟨xs,x,hq,hx⟩:=hg
  obtain⟨its,rv,p,hz⟩:=I.tuple hq
  obtain⟨u,hu,ru⟩:=rv.get hx
  obtain⟨f0,f1,f2,f3,f4,f5⟩:=hf it (by simp)
  refine wpAny_pyNext_tuple_item st (show s.heap.IsTuple a its.toArray from p) (x:=u) (by simpa using hu) λ h' st' sb=>?_
  have I1:Inv X pins Z H { s with heap:=h' }:=I.turned (t':=s.toks) (λ b o hb e=>(sb.2 b hb).trans e) f0 f1 f3 f4 f5
  obtain⟨o,e,c,d⟩:=id st'
  exact⟨u,rfl,a1o (s:={ s with heap:=h' }) e c d (by decide) ⟨x,H,I1,ru,⟨rfl,λ ys hy=>by rw[I.tuple_inj hy hq];exact hx⟩,st',λ b hb=>(hf b hb).1⟩⟩
 done:=by
  intro X hP hw hK hc i pins s Z H E I hf st hg
  subst hP hw hK
  obtain⟨xs,hq,hx⟩:=hg
  obtain⟨its,rv,p,hz⟩:=I.tuple hq
  obtain⟨f0,f1,f2,f3,f4,f5⟩:=hf it (by simp)
  have hl:=rv.length
  exact wpAny_pyNext_tuple_end (I.ok.hd hc) st (show s.heap.IsTuple a its.toArray from p) (by simp;omega) λ h' eb=>⟨rfl,I.turned (t':=s.toks) (λ b o hb e=>eb b o hb e) f0 f1 f3 f4 f5⟩
 self:=λ _ _ _ _ _ st h=>wpAny_pyIter_tupleiter st h
theorem a5E {P:Program}{w:World}{K:PySem.W.Frag}{tg:Expr}(it:Addr)(lo:Int)(n:Nat):Turn P w K tg (Itr lo n) [it] it (λ i h=>IsRangeIter h it (lo + (i:Nat) * 1) ((n:Int) - (i:Nat)) 1) where
 mem:=by simp
 obj:=λ i h st b hb=>by
  have e:b=it:=by simpa using hb
  subst e
  exact⟨_,st,λ v z=>by
   have z':Data.fields _=Data.cell v:=z
   cases z'⟩
 keep:=λ i h h' st k=>k it (by simp) _ st
 item:=by
  intro X hP hw hK hc i pins s Z H E I hf st hg
  subst hP hw hK
  obtain⟨f0,f1,f2,f3,f4,f5⟩:=hf it (by simp)
  have W:=Walks.range (prog:=X.prog) (w:=X.w) (I.ok.hd hc) it lo 1 n
  refine W.item i s _ _ hg st λ v h' tk hv st' kk=>?_
  obtain⟨t,rfl⟩:=hv
  have I1:Inv X pins Z H { s with heap:=h',toks:=tk }:=I.turned (λ b o hb e=>kk b o (by simpa using hb) e) f0 f1 f3 f4 f5
  refine⟨_,rfl,a1o (s:={ s with heap:=h',toks:=tk }) (n := "range_iterator") st' rfl rfl (by decide) ⟨.int (lo + i),H,I1,⟨t,?_⟩,⟨rfl,rfl⟩,st',λ b hb=>(hf b hb).1⟩⟩
  rw[Int.mul_one]
 done:=by
  intro X hP hw hK hc i pins s Z H E I hf st hg
  subst hP hw hK
  obtain⟨f0,f1,f2,f3,f4,f5⟩:=hf it (by simp)
  exact wpAny_pyNext_range_end (I.ok.hd hc) st (by have:n<=i:=hg;omega) λ h' eb=>⟨rfl,I.turned (t':=s.toks) (λ b o hb e=>eb b o hb e) f0 f1 f3 f4 f5⟩
 self:=λ _ _ _ _ _ st h=>wpAny_pyIter_rangeiter st h
section
variable {X:Cx}{tg:Expr}
theorem a4p {pins:List (Addr×Obj)}{Z:St}{H:Hp}{s:Shared}{R:It->Hp->Prop}{E:Value->Shared->Prop}{lo hi:Int}{t u v:Tok}{tk:Nat}(I:Inv X pins Z H s)(h1:-(2 ^ 62)<=lo)(h2:lo < 2 ^ 62)(h3:-(2 ^ 62)<=hi)(h4:hi < 2 ^ 62)
  (q:R (Itr lo (hi - lo).toNat) H):wpAny (model X.prog X.w) X.A (pyIter (.ref s.heap.objs.size)) (PIE X pins Z tg R) E { s with heap:=s.heap.push { cls:=.type "range",data:=.fields #[.int lo t,.int hi u,.int 1 v] },toks:=tk }:=by
 refine wpAny_pyIter_range (IsRange.new ..) (small_one h1 h2 h3 h4) ?_
 have I1:Inv X pins Z H { s with heap:=s.heap.push { cls:=.type "range",data:=.fields #[.int lo t,.int hi u,.int 1 v] },toks:=tk }:=I.kept λ b o e=>Heap.get?_push_of_some _ e
 refine⟨(s.heap.push { cls:=.type "range",data:=.fields #[.int lo t,.int hi u,.int 1 v] }).objs.size,[(s.heap.push { cls:=.type "range",data:=.fields #[.int lo t,.int hi u,.int 1 v] }).objs.size],_,_,H,rfl,
  I1.kept (t':=tk) λ b o e=>Heap.get?_push_of_some _ e,a5E _ lo (hi - lo).toNat,?_,λ b hb=>?_,q⟩
 ·have e1:lo + ((0:Nat):Int) * 1=lo:=by simp
  have e2:(((hi - lo).toNat:Nat):Int) - ((0:Nat):Int)=Builtin.Range.rangeSize lo hi 1:=by rw[rangeSize_one];split <;> omega
  show IsRangeIter _ _ (lo + ((0:Nat):Int) * 1) ((((hi - lo).toNat:Nat):Int) - ((0:Nat):Int)) 1
  rw[e1,e2]
  exact Heap.get?_push_size _ rfl
 ·have e:b=(s.heap.push { cls:=.type "range",data:=.fields #[.int lo t,.int hi u,.int 1 v] }).objs.size:=by simpa using hb
  subst e
  exact I1.fpOk (Nat.le_refl _) (I1.hok.fresh (Nat.le_refl _))
def tFor (wi:TI)(g:TG)(tb:TS):TS:=λ D Z H=>wi Z H λ J H1=>∃ W:Nat->Nat->St->Hp->Prop,(∃ m,W 0 m Z H1)/\∀ i m Z H,W i m Z H →
 (J.stop i H/\D.nx Z H)\/(J.go i H/\∃ N:St->Hp->Prop,(∀ Z' H',N Z' H'->∃ m',m' < m/\W (i + 1) m' Z' H')/\∀ x H',J.yld i H x H'->g x Z H' λ σ2 H2=>tb { D with nx:=N,ct:=N,bk:=D.nx } σ2 H2)
def a1p (fp:List Addr)(h:Heap):List (Addr×Obj):=fp.filterMap λ b=>(h.get? b).map λ o=>(b,o)
theorem M1 {fp:List Addr}{h:Heap}{b:Addr}{o:Obj}(hb:b∈fp)(e:h.get? b=some o):(b,o)∈a1p fp h:=List.mem_filterMap.mpr ⟨b,hb,by rw[e];rfl⟩
theorem of_pinsAt {fp:List Addr}{h:Heap}{p:Addr×Obj}(hp:p∈a1p fp h):p.1∈fp/\h.get? p.1=some p.2:=by
 obtain⟨b,hb,e⟩:=List.mem_filterMap.mp hp
 cases q:h.get? b with
 | none=>rw[q]at e;cases e
 | some o=>
  rw[q]at e
  have e':(b,o)=p:=Option.some.inj e
  subst e'
  exact⟨hb,q⟩
theorem Inv.pinned {pins:List (Addr×Obj)}{Z:St}{H:Hp}{s:Shared}{fp:List Addr}(I:Inv X pins Z H s)(hf:∀ b∈fp,FpOk X pins H b)(ho:∀ b∈fp,∃ o,s.heap.get? b=some o/\∀ v,o.data≠.cell v):Inv X (pins++a1p fp s.heap) Z H s:=
 I.pins_of λ p hp=>(List.mem_append.mp hp).elim (λ z=>I.pin p (List.mem_append_right _ z)) λ z=>by
  obtain⟨hb,e⟩:=of_pinsAt z
  obtain⟨f0,f1,f2,_⟩:=hf p.1 hb
  obtain⟨o,e',d⟩:=ho p.1 hb
  rw[e]at e';cases e'
  exact⟨e,f0,f1,f2,d⟩
theorem Inv.unpinned {pins pl:List (Addr×Obj)}{Z:St}{H:Hp}{s:Shared}(I:Inv X (pins++pl) Z H s):Inv X pins Z H s:=I.pins_of λ p hp=>I.pin p (List.mem_append_right _ (List.mem_append_left _ hp))
theorem ps_for {iter:Expr}{body:List Stmt}{wi:TI}{g:TG}{tb:TS}{pos:Pos}(hp:PassesOwn (model X.prog X.w) X.A X.env X.xe)(hc:X.calm=true)(hi:PI X tg iter wi)(hg:PG X tg g)(hb:PSs X body tb)
  (hs:∀ x,foldedSetIterable iter X.env x=pure x:=by intro _;rfl):PS X (.For tg iter body [] pos) (tFor wi g tb):=by
 intro pins s Z H D I h
 refine wpAny_For (thn (hi pins s Z H _ I h) λ v s1 h1=>thn h1 λ itv s2 h2=>?_) hs
 obtain⟨it,fp,tn,J,H2,e,I2,T,st2,f2,W,⟨m0,w0⟩,turn⟩:=h2
 subst e
 have stat:∀ {H':Hp},(∀ b∈fp,H' b=none)->∀ b∈fp,FpOk X pins H' b:=λ hn b hb=>⟨hn b hb,(f2 b hb).2⟩
 refine codeAny_forLoop_any (λ n s'=>∃ i Z' H',Inv X pins Z' H' s'/\tn i s'.heap/\(∀ b∈fp,H' b=none)/\W i n Z' H') ?_ m0 ⟨0,Z,H2,I2,st2,λ b hb=>(f2 b hb).1,w0⟩
 rintro n s3 ⟨i,σ3,H3,I3,st3,fr3,w3⟩
 rcases turn i n σ3 H3 w3 with⟨stop,qn⟩ | ⟨go,N,hN,step⟩
 ·refine wpAny_passesOwn hp (thn (T.done X rfl rfl rfl hc i pins s3 σ3 H3 X.xe I3 (stat fr3) st3 stop) λ r s4 ⟨hr,I4⟩=>?_)
  subst hr
  exact wpAny_execs_nil ⟨σ3,H3,I4,qn⟩
 ·refine wpAny_passesOwn hp (thn (T.item X rfl rfl rfl hc i pins s3 σ3 H3 X.xe I3 (stat fr3) st3 go) λ r s4 ⟨u,hr,h4⟩=>?_)
  subst hr
  refine wpAny_passesOwn hp (thn h4 λ _ s5 ⟨x,H5,I5,r5,y5,st5,fr5⟩=>?_)
  have I5':=I5.pinned (stat fr5) (T.obj _ _ st5)
  refine wpAny_passesOwn hp (thn (hg _ s5 σ3 H5 x u _ I5' r5 (step x H5 y5)) λ _ s6 ⟨σ6,H6,I6,q6⟩=>?_)
  refine wpAny_passesOwn hp (thn (hb _ s6 σ6 H6 _ I6 q6) λ f s7 q7=>?_)
  have again:∀ {σ7:St}{H7:Hp},Inv X (pins++a1p fp s5.heap) σ7 H7 s7->N σ7 H7->∃ m,m < n/\∃ i Z' H',Inv X pins Z' H' s7/\tn i s7.heap/\(∀ b∈fp,H' b=none)/\W i m Z' H':=λ {σ7 H7} I7 n7=>by
   obtain⟨m',hm,w7⟩:=hN σ7 H7 n7
   refine⟨m',hm,i + 1,σ7,H7,I7.unpinned,T.keep _ _ _ st5 λ b hb o e=>(I7.pin (b,o) (List.mem_append_right _ (List.mem_append_right _ (M1 hb e)))).1,λ b hb=>?_,w7⟩
   obtain⟨o,e,d⟩:=T.obj _ _ st5 b hb
   exact(I7.pin (b,o) (List.mem_append_right _ (List.mem_append_right _ (M1 hb e)))).2.1
  cases f with
  | next=>obtain⟨σ7,H7,I7,n7⟩:=q7;exact again I7 n7
  | cont=>obtain⟨σ7,H7,I7,n7⟩:=q7;exact again I7 n7
  | brk=>obtain⟨σ7,H7,I7,q7⟩:=q7;exact⟨σ7,H7,I7.unpinned,q7⟩
  | ret v=>obtain⟨x7,σ7,H7,I7,r7,q7⟩:=q7;exact⟨x7,σ7,H7,I7.unpinned,r7,q7⟩
end
theorem for_range {lo:Int}{n:Nat}{g:TG}{tb:TS}{D:Ends}{Z:St}{H:Hp}(Pv:Nat->St->Hp->Prop)(h0:Pv 0 Z H)
  (hs:∀ i Z H,i < n->Pv i Z H->g (.int (lo + i)) Z H λ σ2 H2=>tb { D with nx:=Pv (i + 1),ct:=Pv (i + 1),bk:=D.nx } σ2 H2)(hd:∀ Z H,Pv n Z H->D.nx Z H):
  ∃ W:Nat->Nat->St->Hp->Prop,(∃ m,W 0 m Z H)/\∀ i m Z H,W i m Z H →
   ((Itr lo n).stop i H/\D.nx Z H)\/((Itr lo n).go i H/\∃ N:St->Hp->Prop,(∀ Z' H',N Z' H'->∃ m',m' < m/\W (i + 1) m' Z' H')/\∀ x H',(Itr lo n).yld i H x H'->g x Z H' λ σ2 H2=>tb { D with nx:=N,ct:=N,bk:=D.nx } σ2 H2):=by
 refine⟨λ i m Z H=>m=n - i/\i<=n/\Pv i Z H,⟨n,by simp,Nat.zero_le _,h0⟩,?_⟩
 rintro i m Z H ⟨rfl,hi,p⟩
 by_cases hlt:i < n
 ·refine .inr ⟨hlt,Pv (i + 1),λ Z' H' p'=>⟨n - (i + 1),by omega,rfl,hlt,p'⟩,λ x H' y=>?_⟩
  obtain⟨e,y⟩:=y
  subst e y
  exact hs i Z _ hlt p
 ·have e:i=n:=by omega
  subst e
  exact .inl ⟨Nat.le_refl _,hd Z H p⟩
abbrev R2:=V->V->Hp->VK->Prop
def OpR (X:Cx)(f:Value->Value->Sem Value)(r:R2):Prop:=
 ∀ (pins:List (Addr×Obj)) (s:Shared) (Z:St) (H:Hp) (x y:V) (v u:Value) (Q:VK),Inv X pins Z H s->RelV x v->RelV y u->r x y H Q →
  wpAny (model X.prog X.w) X.A (f v u) (EP X pins Z Q) X.xe s
def UnR (X:Cx)(f:Value->Sem Value)(r:V->Hp->VK->Prop):Prop:=
 ∀ (pins:List (Addr×Obj)) (s:Shared) (Z:St) (H:Hp) (x:V) (v:Value) (Q:VK),Inv X pins Z H s->RelV x v->r x H Q →
  wpAny (model X.prog X.w) X.A (f v) (EP X pins Z Q) X.xe s
def CallR (X:Cx)(f:Value)(r:List V->Hp->VK->Prop):Prop:=
 ∀ (pins:List (Addr×Obj)) (s:Shared) (Z:St) (H:Hp) (xs:List V) (us:List Value) (Q:VK),Inv X pins Z H s->Vals xs us->r xs H Q →
  wpAny (model X.prog X.w) X.A (call f us) (EP X pins Z Q) X.xe s
def TruR (X:Cx)(r:V->Hp->(Bool->Hp->Prop)->Prop):Prop:=
 ∀ (pins:List (Addr×Obj)) (s:Shared) (Z:St) (H:Hp) (x:V) (v:Value) (Q:Bool->Hp->Prop),Inv X pins Z H s->RelV x v->r x H Q →
  wpAny (model X.prog X.w) X.A (truthy v) (TP X pins Z Q) X.xe s
def tOp (r:R2)(ta tb:TE):TE:=λ Z H Q=>ta Z H λ x H1=>tb Z H1 λ y H2=>r x y H2 Q
def tUn (r:V->Hp->VK->Prop)(ta:TE):TE:=λ Z H Q=>ta Z H λ x H1=>r x H1 Q
def rI (C:Int->Int->Prop)(g:Int->Int->V):R2:=λ x y H Q=>∃ i j,x=.int i/\y=.int j/\C i j/\Q (g i j) H
def rI0 (g:Int->Int->V):R2:=λ x y H Q=>∃ i j,x=.int i/\y=.int j/\Q (g i j) H
def rU (g:Int->V):V->Hp->VK->Prop:=λ x H Q=>∃ i,x=.int i/\Q (g i) H
section
variable {X:Cx}{a b c:Expr}{ta tb tc:TE}{pos:Pos}
theorem binT (ha:PE X a ta)(hb:PE X b tb){pins:List (Addr×Obj)}{s:Shared}{Z:St}{H:Hp}{R:V->V->Hp->Prop}(I:Inv X pins Z H s)
  (h:ta Z H λ x H1=>tb Z H1 λ y H2=>R x y H2){Q:Value->Shared->Prop}{f:Value->Value->Sem Value}
  (hf:∀ v u s2 x y H2,Inv X pins Z H2 s2->RelV x v->RelV y u->R x y H2->wpAny (model X.prog X.w) X.A (f v u) Q X.xe s2):
  wpAny (model X.prog X.w) X.A (eval a X.env) (λ v s₁=>wpAny (model X.prog X.w) X.A (eval b X.env) (λ u s₂=>wpAny (model X.prog X.w) X.A (f v u) Q X.xe s₂) X.xe s₁) X.xe s:=by
 refine thn (ha pins s Z H _ I h) λ v s1 ⟨x,H1,I1,r1,q1⟩=>?_
 refine thn (hb pins s1 Z H1 _ I1 q1) λ u s2 ⟨y,H2,I2,r2,q2⟩=>?_
 exact hf v u s2 x y H2 I2 r1 r2 q2
theorem pe_op {op:Operator}{r:R2}(ho:OpR X (binaryOp op) r)(ha:PE X a ta)(hb:PE X b tb):PE X (.BinOp a op b pos) (tOp r ta tb):=by
 intro pins s Z H Q I h
 exact wpAny_BinOp (binT ha hb I h λ v u s2 x y H2 I2 rx ry q=>ho pins s2 Z H2 x y v u Q I2 rx ry q)
theorem pe_un {op:UnaryOp}{r:V->Hp->VK->Prop}(ho:UnR X (unaryOp op) r)(ha:PE X a ta):PE X (.UnaryOp op a pos) (tUn r ta):=by
 intro pins s Z H Q I h
 exact UnaryOp_ (thn (ha pins s Z H _ I h) λ v s1 ⟨x,H1,I1,r1,q1⟩=>ho pins s1 Z H1 x v Q I1 r1 q1)
theorem opI {f:Value->Value->Sem Value}{C:Int->Int->Prop}{g:Int->Int->Int}
  (rule:∀ (i j:Int) (t u:Tok) (s:Shared) (Q:Value->Shared->Prop) (E:Value->Shared->Prop),C i j->Q (.int (g i j) s.toks) { s with toks:=s.toks + 1 }->wpAny (model X.prog X.w) X.A (f (.int i t) (.int j u)) Q E s):
  OpR X f (rI C λ i j=>.int (g i j)):=by
 intro pins s Z H x y v u Q I rx ry h
 obtain⟨i,j,rfl,rfl,hc,q⟩:=h
 obtain⟨t,rfl⟩:=rx
 obtain⟨t',rfl⟩:=ry
 exact rule i j t t' s _ _ hc ⟨.int (g i j),H,I.tok _,⟨_,rfl⟩,q⟩
theorem opI0 {f:Value->Value->Sem Value}{g:Int->Int->Int}
  (rule:∀ (i j:Int) (t u:Tok) (s:Shared) (Q:Value->Shared->Prop) (E:Value->Shared->Prop),Q (.int (g i j) s.toks) { s with toks:=s.toks + 1 }->wpAny (model X.prog X.w) X.A (f (.int i t) (.int j u)) Q E s):
  OpR X f (rI0 λ i j=>.int (g i j)):=by
 intro pins s Z H x y v u Q I rx ry h
 obtain⟨i,j,rfl,rfl,q⟩:=h
 obtain⟨t,rfl⟩:=rx
 obtain⟨t',rfl⟩:=ry
 exact rule i j t t' s _ _ ⟨.int (g i j),H,I.tok _,⟨_,rfl⟩,q⟩
theorem opB0 {f:Value->Value->Sem Value}{g:Int->Int->Bool}
  (rule:∀ (i j:Int) (t u:Tok) (s:Shared) (Q:Value->Shared->Prop) (E:Value->Shared->Prop),Q (.bool (g i j)) s->wpAny (model X.prog X.w) X.A (f (.int i t) (.int j u)) Q E s):
  OpR X f (rI0 λ i j=>.bl (g i j)):=by
 intro pins s Z H x y v u Q I rx ry h
 obtain⟨i,j,rfl,rfl,q⟩:=h
 obtain⟨t,rfl⟩:=rx
 obtain⟨t',rfl⟩:=ry
 exact rule i j t t' s _ _ ⟨.bl (g i j),H,I,rfl,q⟩
def CPow (i j:Int):Prop:=0<=j/\j<=1000000/\i.natAbs < 2 ^ 64
def CMul (i j:Int):Prop:=(-(2 ^ 64) < i/\i < 2 ^ 64)\/(-(2 ^ 64) < j/\j < 2 ^ 64)
theorem CMul.ok {i j:Int}(h:CMul i j):IntMulOk i j:=by
 rcases h with⟨h1,h2⟩ | ⟨h1,h2⟩
 ·exact .of_left (intBits_le_64 h1 h2)
 ·exact .of_right (intBits_le_64 h1 h2)
theorem op_add:OpR X (binaryOp .Add) (rI0 λ i j=>.int (i + j)):=opI0 λ _ _ _ _ _ _ _ q=>add_int q
theorem op_sub:OpR X (binaryOp .Sub) (rI0 λ i j=>.int (i - j)):=opI0 λ _ _ _ _ _ _ _ q=>sub_int q
theorem op_mod:OpR X (binaryOp .Mod) (rI (λ _ j=>0 < j) λ i j=>.int (i % j)):=opI λ i j _ _ _ _ _ hc q=>by
 have h1:(0:Int) < j:=hc
 exact mod_int' (by omega) (by rw[Int.fmod_eq_emod_of_nonneg i (by omega)];exact q)
theorem op_pow:OpR X (binaryOp .Pow) (rI CPow λ i j=>.int (i ^ j.toNat)):=opI λ _ _ _ _ _ _ _ hc q=>pow_int_small hc.1 hc.2.1 hc.2.2 q
theorem unI {f:Value->Sem Value}{g:Int->Int}
  (rule:∀ (i:Int) (t:Tok) (s:Shared) (Q:Value->Shared->Prop) (E:Value->Shared->Prop),Q (.int (g i) s.toks) { s with toks:=s.toks + 1 }->wpAny (model X.prog X.w) X.A (f (.int i t)) Q E s):
  UnR X f (rU λ i=>.int (g i)):=by
 intro pins s Z H x v Q I rx h
 obtain⟨i,rfl,q⟩:=h
 obtain⟨t,rfl⟩:=rx
 exact rule i t s _ _ ⟨.int (g i),H,I.tok _,⟨_,rfl⟩,q⟩
theorem un_neg:UnR X (unaryOp .USub) (rU λ i=>.int (-i)):=unI λ _ _ _ _ _ q=>neg_int q
end
section
variable {X:Cx}{a b c:Expr}{ta tb tc:TE}{pos:Pos}
theorem a0f {pins:List (Addr×Obj)}{Z:St}{H:Hp}{s:Shared}{Q:VK}{k k':Bool}(I:Inv X pins Z H s)(q:Q (.bl k) H)(e:k=k'):EP X pins Z Q (.bool k') s:=by
 subst e
 exact⟨.bl k,H,I,rfl,q⟩
theorem op_lt:OpR X (compareOp .Lt) (rI0 λ i j=>.bl (decide (i < j))):=opB0 λ _ _ _ _ _ _ _ q=>lt_int q
theorem op_le:OpR X (compareOp .LtE) (rI0 λ i j=>.bl (decide (i<=j))):=opB0 λ _ _ _ _ _ _ _ q=>le_int q
theorem op_gt:OpR X (compareOp .Gt) (rI0 λ i j=>.bl (decide (j < i))):=opB0 λ _ _ _ _ _ _ _ q=>gt_int q
theorem op_ge:OpR X (compareOp .GtE) (rI0 λ i j=>.bl (decide (j<=i))):=opB0 λ _ _ _ _ _ _ _ q=>ge_int q
theorem op_lt_str:OpR X (compareOp .Lt) (λ x y H Q=>∃ i j,x=.str i/\y=.str j/\Q (.bl (decide (i.cps.toList < j.cps.toList))) H):=by
 intro pins s Z H x y v u Q I rx ry h
 obtain⟨i,j,rfl,rfl,q⟩:=h
 obtain⟨t,rfl⟩:=rx
 obtain⟨t',rfl⟩:=ry
 exact lt_str (a0f I q rfl)
theorem op_in_str:OpR X (compareOp .In) (λ x y H Q=>∃ i j,x=.str i/\y=.str j/\Q (.bl (!(Builtin.Str.occurrences j i 0 j.length 1).isEmpty)) H):=by
 intro pins s Z H x y v u Q I rx ry h
 obtain⟨i,j,rfl,rfl,q⟩:=h
 obtain⟨t,rfl⟩:=rx
 obtain⟨t',rfl⟩:=ry
 exact in_str (a0f I q rfl)
theorem op_isN:OpR X (compareOp .Is) (λ x y H Q=>y=.non/\Q (.bl (decide (x=.non))) H):=by
 intro pins s Z H x y v u Q I rx ry h
 obtain⟨rfl,q⟩:=h
 cases ry
 refine is_none_gen (a0f I q ?_)
 cases x <;> first
  | (cases rx;rfl)
  | (obtain⟨t,rfl⟩:=rx;rfl)
theorem op_notN:OpR X (compareOp .IsNot) (λ x y H Q=>y=.non/\Q (.bl (!decide (x=.non))) H):=by
 intro pins s Z H x y v u Q I rx ry h
 obtain⟨rfl,q⟩:=h
 cases ry
 refine isnot_none_gen (a0f I q ?_)
 cases x <;> first
  | (cases rx;rfl)
  | (obtain⟨t,rfl⟩:=rx;rfl)
theorem a3F:OpR X (compareOp .NotIn) (λ x y H Q=>∃ i j,x=.str i/\y=.str j/\Q (.bl (!(!(Builtin.Str.occurrences j i 0 j.length 1).isEmpty))) H):=by
 intro pins s Z H x y v u Q I rx ry h
 obtain⟨i,j,rfl,rfl,q⟩:=h
 obtain⟨t,rfl⟩:=rx
 obtain⟨t',rfl⟩:=ry
 exact notIn_str (a0f I q rfl)
theorem OpR.or {f:Value->Value->Sem Value}{r r':R2}(h:OpR X f r)(h':OpR X f r'):OpR X f (λ x y H Q=>r x y H Q\/r' x y H Q):=by
 intro pins s Z H x y v u Q I rx ry q
 rcases q with q | q
 ·exact h pins s Z H x y v u Q I rx ry q
 ·exact h' pins s Z H x y v u Q I rx ry q
theorem pe_cmpR {op:CmpOp}{r:R2}(ho:OpR X (compareOp op) r)(ha:PE X a ta)(hb:PE X b tb)(hm:behindInMarks op b=false):PE X (.Compare a [op] [b] pos) (tOp r ta tb):=by
 intro pins s Z H Q I h
 exact wpAny_Compare1 (binT ha hb I h λ v u s2 x y H2 I2 rx ry q=>ho pins s2 Z H2 x y v u Q I2 rx ry q) hm
def tTest (t:TE):TT:=λ Z H Q=>t Z H λ x H'=>∃ k,x=.bl k/\Q k H'
theorem pt_cmpR {op:CmpOp}{r:R2}(ho:OpR X (compareOp op) r)(ha:PE X a ta)(hb:PE X b tb)(hm:behindInMarks op b=false):PT X (.Compare a [op] [b] pos) (tTest (tOp r ta tb)):=by
 intro pins s Z H Q I h
 refine wpAny_isTrue_Compare1 (thn (ha pins s Z H _ I h) λ v s1 ⟨x,H1,I1,r1,q1⟩=>thn (hb pins s1 Z H1 _ I1 q1) λ u s2 ⟨y,H2,I2,r2,q2⟩=>
  thn (ho pins s2 Z H2 x y v u _ I2 r1 r2 q2) λ c s3 ⟨z,H3,I3,r3,k,e,q3⟩=>?_) hm
 subst e
 cases r3
 exact wpAny_truthy_bool ⟨H3,I3,q3⟩
def tChain (r r':R2)(ta tb tc:TE):TE:=λ Z H Q=>ta Z H λ x H1=>tb Z H1 λ y H2=>r x y H2 λ z H3=>∃ k,z=.bl k ∧
 (if k=true then tc Z H3 λ w' H4=>r' y w' H4 Q else Q (.bl false) H3)
theorem pe_chain {op op':CmpOp}{r r':R2}(ho:OpR X (compareOp op) r)(ho':OpR X (compareOp op') r')(ha:PE X a ta)(hb:PE X b tb)(hc:PE X c tc)
  (hm:lastMarks [op,op'] [b,c]=false:=by with_unfolding_all rfl):PE X (.Compare a [op,op'] [b,c] pos) (tChain r r' ta tb tc):=by
 intro pins s Z H Q I h
 refine Compare_chain (thn (ha pins s Z H _ I h) λ v s1 ⟨x,H1,I1,r1,q1⟩=>chain_link (thn (hb pins s1 Z H1 _ I1 q1) λ u s2 ⟨y,H2,I2,r2,q2⟩=>
  thn (ho pins s2 Z H2 x y v u _ I2 r1 r2 q2) λ d s3 ⟨z,H3,I3,r3,k,e,q3⟩=>?_)) hm
 subst e
 cases r3
 refine wpAny_truthy_bool ?_
 cases k with
 | false=>exact ite_ff ⟨.bl false,H3,I3,rfl,q3⟩
 | true=>exact ite_tt (chain_last (thn (hc pins s3 Z H3 _ I3 q3) λ w' s4 ⟨z',H4,I4,r4,q4⟩=>ho' pins s4 Z H4 y z' u w' Q I4 r2 r4 q4))
theorem pt_chain {op op':CmpOp}{r r':R2}(ho:OpR X (compareOp op) r)(ho':OpR X (compareOp op') r')(ha:PE X a ta)(hb:PE X b tb)(hc:PE X c tc)
  (hm:lastMarks [op,op'] [b,c]=false:=by with_unfolding_all rfl):PT X (.Compare a [op,op'] [b,c] pos) (tTest (tChain r r' ta tb tc)):=by
 intro pins s Z H Q I h
 refine isTrue_chain (thn (ha pins s Z H _ I h) λ v s1 ⟨x,H1,I1,r1,q1⟩=>test_link (thn (hb pins s1 Z H1 _ I1 q1) λ u s2 ⟨y,H2,I2,r2,q2⟩=>
  thn (ho pins s2 Z H2 x y v u _ I2 r1 r2 q2) λ d s3 ⟨z,H3,I3,r3,k,e,q3⟩=>?_)) hm
 subst e
 cases r3
 refine wpAny_truthy_bool ?_
 cases k with
 | false=>
  obtain⟨k',e',q'⟩:=q3
  cases e'
  exact ite_ff ⟨H3,I3,q'⟩
 | true=>
  refine ite_tt (test_last (thn (hc pins s3 Z H3 _ I3 q3) λ w' s4 ⟨z',H4,I4,r4,q4⟩=>thn (ho' pins s4 Z H4 y z' u w' _ I4 r2 r4 q4) λ d' s5 ⟨z2,H5,I5,r5,k2,e2,q5⟩=>?_))
  subst e2
  cases r5
  exact wpAny_truthy_bool ⟨H5,I5,q5⟩
def TruV (K:PySem.W.Frag)(x:V)(H:Hp)(k:Bool):Prop:=
 match x with
 | .non=>k=false
 | .bl b=>k=b
 | .int i=>k=(i != 0)
 | .str y=>y.length<=sizeLine/\k=((y.length:Int) != 0)
 | .byt y=>y.size<=sizeLine/\k=((y.size:Int) != 0)
 | .ref p=>(∃ xs,SqL K H p xs/\k=!xs.isEmpty)\/(∃ xs,SqT K H p xs/\k=!xs.isEmpty)\/∃ kvs,H p=some (.dK kvs)/\k=!kvs.isEmpty
 | _=>False
theorem a5F {κ:Type}{kvs:List (κ×V)}{vs:List (κ×Value)}(r:KV kvs vs):(!vs.isEmpty)=!kvs.isEmpty:=by
 cases r <;> rfl
theorem a1q {xs:List V}{its:List Value}(r:Vals xs its):(!its.toArray.isEmpty)=!xs.isEmpty:=by
 cases r <;> simp
theorem U7:(sizeLine:Nat) < 2 ^ 63:=by rw[sizeLine_eq];decide
theorem tru_ok:TruR X (λ x H Q=>∃ k,TruV X.K x H k/\Q k H):=by
 intro pins s Z H x v Q I rx h
 obtain⟨k,e,q⟩:=h
 have hl:=U7
 have hs:sizeLine=16777216:=sizeLine_eq
 cases x with
 | non=>
  cases rx
  have e':k=false:=e
  subst e'
  exact truthy_none ⟨H,I,q⟩
 | bl b=>
  cases rx
  have e':k=b:=e
  subst e'
  exact wpAny_truthy_bool ⟨H,I,q⟩
 | int i=>
  obtain⟨t,rfl⟩:=rx
  have e':k=(i != 0):=e
  subst e'
  exact PySem.P.truthy_int ⟨H,I,q⟩
 | str y=>
  obtain⟨t,rfl⟩:=rx
  obtain⟨hy,e'⟩:y.length<=sizeLine/\k=((y.length:Int) != 0):=e
  subst e'
  exact PySem.P.truthy_str (by omega) ⟨H,I.tok _,q⟩
 | byt y=>
  obtain⟨t,rfl⟩:=rx
  obtain⟨hy,e'⟩:y.size<=sizeLine/\k=((y.size:Int) != 0):=e
  subst e'
  exact PySem.W.truthy_bytes (by omega) ⟨H,I.tok _,q⟩
 | ref p=>
  cases rx
  have e':(∃ xs,SqL X.K H p xs/\k=!xs.isEmpty)\/(∃ xs,SqT X.K H p xs/\k=!xs.isEmpty)\/∃ kvs,H p=some (.dK kvs)/\k=!kvs.isEmpty:=e
  rcases e' with⟨xs,hx,e'⟩ | ⟨xs,hx,e'⟩ | ⟨kvs,hx,e'⟩
  ·subst e'
   obtain⟨its,r,pl,hz⟩:=I.list hx
   have hlen:=r.length
   exact wpAny_truthy_list pl.isList (by simp only[List.size_toArray];omega) ⟨H,I.tok _,by rw[a1q r];exact q⟩
  ·subst e'
   obtain⟨its,r,pl,hz⟩:=I.tuple hx
   have hlen:=r.length
   exact truthy_tuple pl (by simp only[List.size_toArray];omega) ⟨H,I.tok _,by rw[a1q r];exact q⟩
  ·subst e'
   obtain⟨hz,hS,vs,r,m⟩:kvs.length<=sizeLine/\(p==sysModules)=false/\∃ vs,KV kvs vs/\s.heap.DictOf (d2 X.prog X.w) p vs:=I.hok p _ hx
   have hlen:kvs.length=vs.length:=Paired.length r
   exact wpAny_truthy_dict hS m (by omega) ⟨H,I.tok _,by rw[a5F r];exact q⟩
 | _=>exact(show False from e).elim
theorem a5G:OpR X (binaryOp .Add) (λ x y H Q=>∃ i j,x=.str i/\y=.str j/\i.length + j.length<=sizeLine/\Q (.str (i++j)) H):=by
 intro pins s Z H x y v u Q I rx ry h
 obtain⟨i,j,rfl,rfl,hz,q⟩:=h
 obtain⟨t,rfl⟩:=rx
 obtain⟨t',rfl⟩:=ry
 exact add_str (λ t' tk=>⟨.str (i++j),H,I.tok _,⟨_,rfl⟩,q⟩) hz
theorem a4q:OpR X (inplaceOp .Add) (λ x y H Q=>∃ i j,x=.str i/\y=.str j/\i.length + j.length<=sizeLine/\Q (.str (i++j)) H):=by
 intro pins s Z H x y v u Q I rx ry h
 obtain⟨i,j,rfl,rfl,hz,q⟩:=h
 obtain⟨t,rfl⟩:=rx
 obtain⟨t',rfl⟩:=ry
 exact iadd_str (λ t' tk=>⟨.str (i++j),H,I.tok _,⟨_,rfl⟩,q⟩) hz
theorem y8 {x:V}{us:List Value}(r:Vals [x] us):∃ u,us=[u]/\RelV x u:=by
 cases r with
 | cons r1 r2=>cases r2;exact⟨_,rfl,r1⟩
theorem a2O {x y:V}{us:List Value}(r:Vals [x,y] us):∃ u w',us=[u,w']/\RelV x u/\RelV y w':=by
 cases r with
 | cons r1 r2=>
  cases r2 with
  | cons r3 r4=>cases r4;exact⟨_,_,rfl,r1,r3⟩
theorem call_max2 (hc:X.calm=true):CallR X (.builtin "max") (λ xs H Q=>∃ i j,xs=[.int i,.int j]/\Q (.int (if j > i then j else i)) H):=by
 intro pins s Z H xs us Q I r h
 obtain⟨i,j,rfl,q⟩:=h
 obtain⟨u,w',rfl,⟨t,rfl⟩,⟨t',rfl⟩⟩:=a2O r
 refine max_two_ints (I.ok.hd hc) λ h' tk k=>⟨_,H,I.kept k,?_,q⟩
 by_cases hj:j > i
 ·rw[if_pos hj,if_pos hj];exact⟨_,rfl⟩
 ·rw[if_neg hj,if_neg hj];exact⟨_,rfl⟩
theorem call_min2 (hc:X.calm=true):CallR X (.builtin "min") (λ xs H Q=>∃ i j,xs=[.int i,.int j]/\Q (.int (if j < i then j else i)) H):=by
 intro pins s Z H xs us Q I r h
 obtain⟨i,j,rfl,q⟩:=h
 obtain⟨u,w',rfl,⟨t,rfl⟩,⟨t',rfl⟩⟩:=a2O r
 refine min_two_ints (I.ok.hd hc) λ h' tk k=>⟨_,H,I.kept k,?_,q⟩
 by_cases hj:j < i
 ·rw[if_pos hj,if_pos hj];exact⟨_,rfl⟩
 ·rw[if_neg hj,if_neg hj];exact⟨_,rfl⟩
end
structure ObjM (h:Heap) (x dx C:Addr) (mA:Str->Option Value):Prop where
 obj:h.get? x=some (PySem.W.instObj C dx)
 ns:h.Ns1 dx mA
 ne:dx≠x
theorem lookIn_ns {h:Heap}{dx:Addr}{mA:Str->Option Value}(n:h.Ns1 dx mA):∃ od,h.get? dx=some od/\∀ name,PySem.W.lookIn name od=some (mA name):=by
 obtain⟨o,es,ep,ho,hd,hk,_,hm⟩:=n
 refine⟨o,ho,λ name=>?_⟩
 have e:=hm name
 unfold nsFind findBy at e
 rw[<- Array.find?_toList]at e
 unfold PySem.W.lookIn
 rw[hd]
 dsimp only
 split
 ·rename_i y q
  rw[q]at e
  exact congrArg some e
 ·rename_i q
  rw[q]at e
  have a:es.toList.any (·.refKey)=false:=by
   rw[List.any_eq_false]
   intro y hy
   obtain⟨z,t,hkey⟩:=hk y (Array.mem_toList_iff.mp hy)
   simp[DictEntry.refKey,hkey]
  have a':¬ es.toList.any (·.refKey)=true:=by rw[a];exact Bool.false_ne_true
  rw[if_neg a']
  exact congrArg some e
theorem ObjM.look {h:Heap}{x dx C:Addr}{mA:Str->Option Value}(I:ObjM h x dx C mA):∃ od,PySem.W.InstAt h x (PySem.W.instObj C dx) C (some od)/\∀ name,PySem.W.lookIn name od=some (mA name):=
 let ⟨od,ho,hl⟩:=lookIn_ns I.ns
 ⟨od,⟨I.obj,rfl,rfl,ho⟩,hl⟩
section
variable {prog:Program}{w:World}{A:Around}{E:Value->Shared->Prop}{s:Shared}{K:PySem.W.Frag}{x dx C f:Addr}{mA:Str->Option Value}{name:Str}{v:Value}
theorem get_map {expr:Bool}{Q:Value->Shared->Prop}(X:K.In s.heap)(I:ObjM s.heap x dx C mA)(hg:PySem.W.plainGet K C name=true)(hh:PySem.W.hasDictIn K C=true)
  (ha:PySem.W.findIn K (.ref C) name=some none)(hv:mA name=some v)(hv':PySem.W.handedIn v=true)(h:Q v { s with toks:=s.toks + 1 }):
  wpAny (model prog w) A (getAttr (.ref x) name expr) Q E s:=by
 obtain⟨od,J,hl⟩:=I.look
 exact PySem.W.get_value X J (PySem.W.plainGet_of hg).1 (PySem.W.findObj_own hh ha rfl (by rw[hl,hv])) hv' h
theorem get_meth {pl:Sem Bool}{Q:Value×List Value->Shared->Prop}(X:K.In s.heap)(I:ObjM s.heap x dx C mA)(hg:PySem.W.plainGet K C name=true)
  (hf:PySem.W.findIn K (.ref C) name=some (some (.ref f)))(ht:PySem.W.isFn K (.ref f)=true)(hv:mA name=none)(h:Q (.ref f,[.ref x]) s):
  wpAny (model prog w) A (getMethod (.ref x) name pl) Q E s:=by
 obtain⟨od,J,hl⟩:=I.look
 exact PySem.W.method_fn X J (PySem.W.plainGet_of hg).1 (PySem.W.plainGet_of hg).2 hf (beq_iff_eq.mp ht) (by show(PySem.W.lookIn name od).map (·.isSome)=some false;rw[hl,hv];rfl) h
theorem set_map {ns:List Str}{Q:Unit->Shared->Prop}(X:K.In s.heap)(I:ObjM s.heap x dx C mA)
  (hs:PySem.W.findIn K (.ref C) "__setattr__" = some (some (.builtin "object.__setattr__")))(hp:PySem.W.plainOver K C=true)(ht:PySem.W.takerIn K C name=some none)(hh:PySem.W.hasDictIn K C=true)
  (hw:PySem.Within mA ns)(hsz:ns.length<=sizeLine)
  (h:∀ h',ObjM h' x dx C (λ y=>if y=name then some v else mA y)->Heap.SameBut dx s.heap h'->Q () { s with heap:=h',toks:=s.toks + 2 }):
  wpAny (model prog w) A (setAttr (.ref x) name v) Q E s:=by
 obtain⟨od,J,hl⟩:=I.look
 refine PySem.W.set_plain X J hs (PySem.W.osa_open (s:={ s with toks:=s.toks + 1 }) (r:=none) X J hp ht λ b=>?_)
 obtain⟨cd,hc,hd'⟩:=PySem.W.any_some hh
 have hx:s.heap.get? x=some ⟨.ref C,some dx,.plain,#[]⟩:=I.obj
 refine wpAny_bind (wpAny_pure (wpAny_bind (wpAny_bind (wpAny_loadPart hx (wpAny_bind (PySem.W.Looks.here (s:={ s with toks:=s.toks + 1 }) (PySem.W.looks_clsIn X hc) ?_))))))
 rw[hd']
 refine wpAny_pure (a:=some dx) (wpAny_bind (wpAny_pure (wpAny_bind ?_)))
 refine wpAny_nsSet1 (s:={ s with toks:=s.toks + 1 }) I.ns λ h' hn2 hs2=>?_
 obtain⟨oD,esD,epD,hoD,hdD,hcD⟩:=hn2.count (PySem.Within.cons name v hw)
 refine wpAny_bind (wpAny_lookBehind hoD (by rw[hdD];exact pastItsLine_dict (Nat.le_trans hcD (by rw[List.length_cons];omega))) ?_)
 exact wpAny_pure (h _ ⟨(hs2.2 _ (Ne.symm I.ne)).trans I.obj,hn2,I.ne⟩ hs2)
theorem make_map {R:Result->Shared->Prop}{vs:List Value}{kw:List (Str×Value)}(X:K.In s.heap)(hm:PySem.W.makesIn K C=true)
  (hi:PySem.W.findIn K (.ref C) "__init__" = some (some (.ref f)))(hf:PySem.W.typeIn K (.ref f)=some (.type "function"))
  (h:codeAny (model prog w) (A.under (.builtin "type.__call__" ⟨.ref C::vs,kw⟩)) (.call (.ref f) ⟨.ref (s.heap.objs.size + 1)::vs,kw⟩) (PySem.W.InitBack (s.heap.objs.size + 1) R)
   { s with heap:=(s.heap.push PySem.W.emptyDict).push (PySem.W.instObj C s.heap.objs.size) }):
  codeAny (model prog w) A (.call (.ref C) ⟨vs,kw⟩) R s:=by
 obtain⟨hh,g,d,t,os⟩:=s
 exact PySem.W.make_core (PySem.W.makes_of X hm) (PySem.W.looks_findIn X hi) (λ self=>PySem.W.bind_fn X self hf) (.inl rfl) h
end
def l8 (f:Str)(v:V):List (Str×V)->List (Str×V)
 | []=>[(f,v)]
 | (g,x)::r=>if g=f then(g,v)::r else(g,x)::l8 f v r
theorem a0y (f g:Str)(v:V):∀ fs:List (Str×V),(l8 f v fs).lookup g=if g=f then some v else fs.lookup g
 | []=>by
  show List.lookup g [(f,v)]=_
  by_cases h:g=f
  ·have hb:(g==f)=true:=beq_iff_eq.mpr h
   simp only[List.lookup,hb,if_pos h]
  ·have hb:(g==f)=false:=beq_eq_false_iff_ne.mpr h
   simp only[List.lookup,hb,if_neg h]
 | (k,x)::r=>by
  have ih:=a0y f g v r
  rw[show l8 f v ((k,x)::r)=(if k=f then(k,v)::r else(k,x)::l8 f v r) from rfl]
  by_cases hk:k=f
  ·rw[if_pos hk]
   by_cases h:g=k
   ·have hb:(g==k)=true:=beq_iff_eq.mpr h
    simp only[List.lookup,hb,if_pos (h.trans hk)]
   ·have hb:(g==k)=false:=beq_eq_false_iff_ne.mpr h
    simp only[List.lookup,hb,if_neg (λ e:g=f=>h (e.trans hk.symm))]
  ·rw[if_neg hk]
   by_cases h:g=k
   ·have hb:(g==k)=true:=beq_iff_eq.mpr h
    simp only[List.lookup,hb,if_neg (λ e:g=f=>hk (h.symm.trans e))]
   ·have hb:(g==k)=false:=beq_eq_false_iff_ne.mpr h
    simp only[List.lookup,hb]
    exact ih
theorem a0g (f:Str)(v:V):∀ fs:List (Str×V),f∈(l8 f v fs).map (·.1)/\∀ g,g∈fs.map (·.1)->g∈(l8 f v fs).map (·.1)
 | []=>⟨by simp[l8],λ g h=>by simp at h⟩
 | (k,x)::r=>by
  obtain⟨i1,i2⟩:=a0g f v r
  rw[show l8 f v ((k,x)::r)=(if k=f then(k,v)::r else(k,x)::l8 f v r) from rfl]
  by_cases hk:k=f
  ·rw[if_pos hk]
   subst hk
   exact⟨by simp,λ g h=>by simpa using h⟩
  ·rw[if_neg hk]
   refine⟨?_,λ g h=>?_⟩
   ·rw[List.map_cons]
    exact List.mem_cons_of_mem _ i1
   ·rw[List.map_cons]at h ⊢
    rcases List.mem_cons.mp h with e | e
    ·exact List.mem_cons.mpr (.inl e)
    ·exact List.mem_cons_of_mem _ (i2 g e)
theorem a0z (f:Str)(v:V):∀ fs:List (Str×V),(l8 f v fs).length<=fs.length + 1
 | []=>by simp[l8]
 | (k,x)::r=>by
  have ih:=a0z f v r
  rw[show l8 f v ((k,x)::r)=(if k=f then(k,v)::r else(k,x)::l8 f v r) from rfl]
  by_cases hk:k=f
  ·rw[if_pos hk,List.length_cons,List.length_cons];omega
  ·rw[if_neg hk,List.length_cons,List.length_cons];omega
theorem RelO.some_of {v:V}{o:Option Value}(r:RelO (some v) o):∃ u,o=some u/\RelV v u:=by
 cases o with
 | none=>exact(show False from r).elim
 | some u=>exact⟨u,rfl,r⟩
theorem RelO.none_of {o:Option Value}(r:RelO none o):o=none:=by
 cases o with
 | none=>rfl
 | some u=>exact(show False from r).elim
theorem handed_of {v:V}{u:Value}(r:RelV v u):PySem.W.handedIn u=true:=by
 cases v with
 | non=>cases(show u=Value.none from r);rfl
 | bl b=>cases(show u=Value.bool b from r);rfl
 | int i=>obtain⟨t,e⟩:=(show ∃ t,u=Value.int i t from r);cases e;rfl
 | str x=>obtain⟨t,e⟩:=(show ∃ t,u=Value.str x t from r);cases e;rfl
 | byt b=>obtain⟨t,e⟩:=(show ∃ t,u=Value.bytes b t from r);cases e;rfl
 | flt b=>obtain⟨t,e⟩:=(show ∃ t,u=Value.float b t from r);cases e;rfl
 | ref a=>cases(show u=Value.ref a from r);rfl
 | ty n=>cases(show u=Value.type n from r);rfl
section
variable {P:Program}{w:World}{H H':Hp}{h h':Heap}{a C dx:Addr}{fs fs':List (Str×V)}
theorem a0Z (hok:HOk P w H h)(e:H a=some (.ins C dx fs)):∃ mA,ObjM h a dx C mA/\(∀ f,RelO (fs.lookup f) (mA f))/\PySem.Within mA (fs.map (·.1))/\fs.length<=1000/\H dx=some (.own a):=by
 obtain⟨d,z,ne,ob,mA,n,r,q⟩:=(show ObjOk P w H h a (.ins C dx fs) from hok a _ e)
 exact⟨mA,⟨ob,n,ne⟩,r,q,z,d⟩
end
structure Cls (K:PySem.W.Frag) (C:Addr):Prop where
 pg:PySem.W.plainGet K C Str.empty=true
 hd:PySem.W.hasDictIn K C=true
 po:PySem.W.plainOver K C=true
 sa:PySem.W.findIn K (.ref C) "__setattr__" = some (some (.builtin "object.__setattr__"))
theorem Cls.get {K:PySem.W.Frag}{C:Addr}(c:Cls K C)(f:Str):PySem.W.plainGet K C f=true:=c.pg
def NoAttr (K:PySem.W.Frag)(C:Addr)(f:Str):Prop:=PySem.W.findIn K (.ref C) f=some none
theorem NoAttr.taker {K:PySem.W.Frag}{C:Addr}{f:Str}(n:NoAttr K C f):PySem.W.takerIn K C f=some none:=by
 unfold PySem.W.takerIn
 rw[show PySem.W.findIn K (.ref C) f=some none from n]
 rfl
structure Meth (K:PySem.W.Frag) (C:Addr) (m:Str) (f:Addr):Prop where
 at_:PySem.W.findIn K (.ref C) m=some (some (.ref f))
 fn:PySem.W.isFn K (.ref f)=true
 kp:PySem.W.keepIn K (.ref f)=true
section
variable {X:Cx}{pins:List (Addr×Obj)}{Z:St}{H:Hp}{s:Shared}{a C dx:Addr}{fs:List (Str×V)}{f:Str}{v:V}{A:Around}{E:Value->Shared->Prop}
theorem a5H {b:Bool}{Q:Value->Shared->Prop}(I:Inv X pins Z H s)(e:H a=some (.ins C dx fs))(c:Cls X.K C)(n:NoAttr X.K C f)(l:fs.lookup f=some v)
  (h:∀ u s',Inv X pins Z H s'->RelV v u->Q u s'):wpAny (model X.prog X.w) A (getAttr (.ref a) f b) Q E s:=by
 obtain⟨mA,O,r,_,_,_⟩:=a0Z I.hok e
 obtain⟨u,hu,ru⟩:=RelO.some_of (v:=v) (o:=mA f) (by rw[<- l];exact r f)
 exact get_map I.kIn O (c.get f) c.hd n hu (handed_of ru) (h u _ (I.tok _) ru)
theorem a1r {m:Str}{g:Addr}{pl:Sem Bool}{Q:Value×List Value->Shared->Prop}(I:Inv X pins Z H s)(e:H a=some (.ins C dx fs))(c:Cls X.K C)(k:Meth X.K C m g)(l:fs.lookup m=none)
  (h:Q (.ref g,[.ref a]) s):wpAny (model X.prog X.w) A (getMethod (.ref a) m pl) Q E s:=by
 obtain⟨mA,O,r,_,_,_⟩:=a0Z I.hok e
 have hn:mA m=none:=RelO.none_of (by rw[<- l];exact r m)
 exact get_meth I.kIn O (c.get m) k.at_ k.fn hn h
theorem a5I {y:V}{u:Value}{Q:Unit->Shared->Prop}(I:Inv X pins Z H s)(e:H a=some (.ins C dx fs))(c:Cls X.K C)(n:NoAttr X.K C f)(hl:fs.length < 1000)(ry:RelV y u)
  (h:∀ s',Inv X pins Z (upd H a (.ins C dx (l8 f y fs))) s'->Q () s'):wpAny (model X.prog X.w) A (setAttr (.ref a) f u) Q E s:=by
 obtain⟨mA,O,r,wi,_,ho⟩:=a0Z I.hok e
 have hz:(fs.map (·.1)).length<=sizeLine:=by rw[List.length_map,sizeLine_eq];omega
 refine set_map I.kIn O c.sa c.po n.taker c.hd wi hz λ h' O' sb=>h _ ?_
 have hd:∃ o,h'.get? dx=some o:=let ⟨o,_,_,e',_⟩:=O'.ns;⟨o,e'⟩
 refine I.write (x:=a) (e:=dx) (by rw[e];exact True.intro) (.inr ho) (λ b q hb z=>(sb.2 b hb).trans z) hd ?_
 refine⟨by rw[a5 O.ne];exact ho,?_,O.ne,O'.obj,_,O'.ns,λ g=>?_,λ g hg=>?_⟩
 ·have:=a0z f y fs;omega
 ·show RelO ((l8 f y fs).lookup g) (if g=f then some u else mA g)
  rw[a0y]
  by_cases q:g=f
  ·rw[if_pos q,if_pos q];exact ry
  ·rw[if_neg q,if_neg q];exact r g
 ·by_cases q:g=f
  ·rw[q];exact(a0g f y fs).1
  ·refine(a0g f y fs).2 g (wi g λ z=>hg ?_)
   show(if g=f then some u else mA g)=none
   rw[if_neg q];exact z
theorem Inv.made (I:Inv X pins Z H s):Inv X pins Z (upd (upd H s.heap.objs.size (.own (s.heap.objs.size + 1))) (s.heap.objs.size + 1) (.ins C s.heap.objs.size []))
  { s with heap:=(s.heap.push PySem.W.emptyDict).push (PySem.W.instObj C s.heap.objs.size) }:=by
 have e1:(s.heap.push PySem.W.emptyDict).get? s.heap.objs.size=some PySem.W.emptyDict:=Heap.get?_push_size s.heap rfl
 have e2:((s.heap.push PySem.W.emptyDict).push (PySem.W.instObj C s.heap.objs.size)).get? (s.heap.objs.size + 1)=some (PySem.W.instObj C s.heap.objs.size):=by
  have:=Heap.get?_push_size (s.heap.push PySem.W.emptyDict) (o:=PySem.W.instObj C s.heap.objs.size) rfl
  rwa [Heap.size_push]at this
 have e3:(s.heap.push PySem.W.emptyDict).Ns s.heap.objs.size (λ _=>none):=⟨PySem.W.emptyDict,#[],_,e1,rfl,(λ e he=>absurd he (by simp)),λ _=>rfl⟩
 have I1:=I.laid (a:=s.heap.objs.size) (o:=.own (s.heap.objs.size + 1)) (h':=s.heap.push PySem.W.emptyDict) (t':=s.toks) (λ b u q=>Heap.get?_push_of_some _ q) (Nat.le_refl _) ⟨_,e1⟩
 refine I1.laid (a:=s.heap.objs.size + 1) (o:=.ins C s.heap.objs.size []) (t':=s.toks) (λ b u q=>Heap.get?_push_of_some _ q) (Nat.le_of_eq (Heap.size_push _ _)) ?_
 have ne:s.heap.objs.size≠s.heap.objs.size + 1:=Nat.ne_of_lt (Nat.lt_succ_self _)
 refine⟨by rw[a5 ne,a6],Nat.zero_le _,ne,e2,λ _=>none,(Heap.Ns1.of_empty e3).at λ o q=>Heap.get?_push_of_some _ q,λ _=>True.intro,λ y hy=>absurd rfl hy⟩
theorem attr_of {prog:Program}{w:World}{env:Env}{e:Expr}{f:Str}{pos:Pos}{s:Shared}{Q:Value->Shared->Prop}(hb:attributeBase e f env (eval e env)=eval e env)
  (h:wpAny (model prog w) A (eval e env) (λ o s₁=>wpAny (model prog w) A (getAttr o f true) Q E s₁) E s):wpAny (model prog w) A (eval (.Attribute e f pos) env) Q E s:=
 Attribute_any_ h (by rw[arm_eval_Attribute,hb])
end
def sFld (K:PySem.W.Frag)(ta tv:TE)(f:Str):TS:=λ D Z H=>tv Z H λ y H1=>ta Z H1 λ x H2=>∃ a C dx fs,x=.ref a/\H2 a=some (.ins C dx fs)/\Cls K C/\NoAttr K C f/\fs.length < 1000 ∧
 D.nx Z (upd H2 a (.ins C dx (l8 f y fs)))
section
variable {X:Cx}{o e value:Expr}{f:Str}{pos pos' tpos:Pos}{ta tv:TE}
theorem ps_fld (ha:PE X o ta)(hv:PE X value tv)(hs:swapsWith value (some (.Attribute o f pos')) pos.line X.env=pure false):PS X (.Assign [.Attribute o f pos'] value pos) (sFld X.K ta tv f):=by
 intro pins s Z H D I h
 refine plainObj_wpAny_Assign_Attribute (thn (hv pins s Z H _ I h) λ u s1 ⟨y,H1,I1,ry,q⟩=>thn (ha pins s1 Z H1 _ I1 q) λ ov s2 ⟨x,H2,I2,rx,a,C,dx,fs,ex,ea,c,n,l,q2⟩=>?_) hs
 subst ex
 obtain rfl:ov=Value.ref a:=rx
 exact a5I I2 ea c n l ry λ s3 I3=>⟨Z,_,I3,q2⟩
end
section
variable {X:Cx}{pins:List (Addr×Obj)}{Z:St}{H:Hp}{s:Shared}{A:Around}{E:Value->Shared->Prop}{Q:Value->Shared->Prop}{c:Value}{b:Bool}
inductive TyOf (K:PySem.W.Frag) (H:Hp):V->Value->Prop where
 | non:TyOf K H .non (.type "NoneType")
 | bl (x:Bool):TyOf K H (.bl x) (.type "bool")
 | int (i:Int):TyOf K H (.int i) (.type "int")
 | str (x:Str):TyOf K H (.str x) (.type "str")
 | flt (x:UInt64):TyOf K H (.flt x) (.type "float")
 | lst {a:Addr}{xs:List V} (e:H a=some (.lst xs)):TyOf K H (.ref a) (.type "list")
 | frz {a:Addr}{o:Obj}{xs:List V} (e:H a=some (.frz o (.lst xs))):TyOf K H (.ref a) (.type "list")
 | tup {a:Addr}{xs:List V} (e:H a=some (.tup xs)):TyOf K H (.ref a) (.type "tuple")
 | dK {a:Addr}{kvs:List (Key×V)} (e:H a=some (.dK kvs)):TyOf K H (.ref a) (.type "dict")
 | dT {a:Addr}{kvs:List (List Key×V)} (e:H a=some (.dT kvs)):TyOf K H (.ref a) (.type "dict")
 | ins {a C dx:Addr}{fs:List (Str×V)} (e:H a=some (.ins C dx fs)) (cl:Cls K C) (ha:PySem.W.findIn K (.ref C) "__class__" = some (some (.builtin "object.__class__")))
   (hn:PySem.W.specialIn K (.builtin "object.__class__") "__get__" = some (some (.builtin "getset_descriptor.__get__"))) (htk:PySem.W.takesIn K (.builtin "object.__class__")=some true)
   (hm:PySem.W.mroIn K C (.type "object")=some true):TyOf K H (.ref a) (.ref C)
theorem isinst_ok {x:V}{u t:Value}(I:Inv X pins Z H s)(rx:RelV x u)(ty:TyOf X.K H x t)(e:PySem.W.kitOne X.K t c=some b)(h:∀ tk,Q (.bool b) { s with toks:=tk }):
  wpAny (model X.prog X.w) A (call (.builtin "isinstance") [u,c]) Q E s:=by
 cases ty with
 | non=>cases(show u=Value.none from rx);exact PySem.W.kia_one PySem.W.kitx_none I.kIn True.intro e (λ z=>nomatch z) h
 | bl y=>cases(show u=Value.bool y from rx);exact PySem.W.kia_one PySem.W.kitx_bool I.kIn True.intro e (λ z=>nomatch z) h
 | int i=>obtain⟨t,q⟩:=(show ∃ t,u=Value.int i t from rx);cases q;exact PySem.W.kia_one PySem.W.kitx_int I.kIn True.intro e (λ z=>nomatch z) h
 | str y=>obtain⟨t,q⟩:=(show ∃ t,u=Value.str y t from rx);cases q;exact PySem.W.kia_one PySem.W.kitx_str I.kIn True.intro e (λ z=>nomatch z) h
 | flt y=>obtain⟨t,q⟩:=(show ∃ t,u=Value.float y t from rx);cases q;exact PySem.W.kia_one PySem.W.kitx_float I.kIn True.intro e (λ z=>nomatch z) h
 | @lst a xs ea=>
  cases(show u=Value.ref a from rx)
  obtain⟨_,_,n,_,h1⟩:=(show ObjOk X.prog X.w H s.heap a (.lst xs) from I.hok a _ ea)
  exact PySem.W.kia_one PySem.W.kitx_list I.kIn ⟨_,h1,rfl⟩ e (λ z=>nomatch z) h
 | @frz a ob xs ea=>
  cases(show u=Value.ref a from rx)
  obtain⟨_,_,_,n,_,h1⟩:=(show ObjOk X.prog X.w H s.heap a (.frz ob (.lst xs)) from I.hok a _ ea)
  exact PySem.W.kia_one PySem.W.kitx_list I.kIn ⟨_,h1,rfl⟩ e (λ z=>nomatch z) h
 | @tup a xs ea=>
  cases(show u=Value.ref a from rx)
  obtain⟨_,_,_,p⟩:=(show ObjOk X.prog X.w H s.heap a (.tup xs) from I.hok a _ ea)
  obtain⟨o,h1,h2,_⟩:=p
  exact PySem.W.kia_one PySem.W.kitx_tuple I.kIn ⟨o,h1,h2⟩ e (λ z=>nomatch z) h
 | @dK a kvs ea=>
  cases(show u=Value.ref a from rx)
  obtain⟨_,_,vs,_,p⟩:=(show ObjOk X.prog X.w H s.heap a (.dK kvs) from I.hok a _ ea)
  obtain⟨o,es,ep,h1,h2,_⟩:=p
  exact PySem.W.kia_one PySem.W.kitx_dict I.kIn ⟨o,h1,h2.1⟩ e (λ z=>nomatch z) h
 | @dT a kvs ea=>
  cases(show u=Value.ref a from rx)
  obtain⟨_,_,xs,_,o,es,ep,h1,h2,_⟩:=(show ObjOk X.prog X.w H s.heap a (.dT kvs) from I.hok a _ ea)
  exact PySem.W.kia_one PySem.W.kitx_dict I.kIn ⟨o,h1,h2.1⟩ e (λ z=>nomatch z) h
 | @ins a C dx fs ea cl ha hn htk hm=>
  cases(show u=Value.ref a from rx)
  obtain⟨mA,O,_⟩:=a0Z I.hok ea
  obtain⟨od,J,_⟩:=O.look
  exact PySem.W.kia_one (PySem.W.kitx_own (cl.get _) cl.hd ha hn htk hm) I.kIn J e (λ z=>nomatch z) h
end
structure Room (k:Nat) (A:Around):Prop where
 hd:A.handled=none
 dp:A.depth + 3 * k + 5 < recursionLimit
 un:A.units + 16 * k + 200 < cLine
theorem Room.mono {j k:Nat}{A:Around}(r:Room k A)(h:j<=k):Room j A:=⟨r.hd,by have:=r.dp;omega,by have:=r.un;omega⟩
theorem Room.deeper {k:Nat}{A:Around}(r:Room (k + 1) A)(env:Env):Room k (A.deeper env):=
 ⟨r.hd,by have:=r.dp;show A.depth + 1 + 3 * k + 5 < _;omega,by have:=r.un;show A.units + 3 + 16 * k + 200 < _;omega⟩
theorem a5J {A:Around}{C:Addr}{us:List Value}{kw:List (Str×Value)}:(A.under (.builtin "type.__call__" ⟨.ref C::us,kw⟩)).depth=A.depth + 1:=by
 first | rfl | simp[Around.under,Code.weight,Code.isCreation,Code.isGuard,Code.isCaller,Code.frames,Code.isFrame,guardIds]
theorem a5K {A:Around}{C:Addr}{us:List Value}{kw:List (Str×Value)}:(A.under (.builtin "type.__call__" ⟨.ref C::us,kw⟩)).units=A.units + 1:=by
 first | rfl | simp[Around.under,Code.cUnits,Code.frames,Code.isFrame]
theorem Room.make {k:Nat}{A:Around}(r:Room (k + 1) A)(C:Addr)(us:List Value)(kw:List (Str×Value)):Room k (A.under (.builtin "type.__call__" ⟨.ref C::us,kw⟩)):=
 ⟨r.hd,by have:=r.dp;rw[a5J];omega,by have:=r.un;rw[a5K];omega⟩
theorem Room.depth {k:Nat}{A:Around}(r:Room k A):A.depth < recursionLimit:=by have:=r.dp;omega
theorem Room.units {k:Nat}{A:Around}(r:Room k A):A.units + 64 < cLine:=by have:=r.un;omega
def a7:TA:=λ _ H Q=>Q [] H
def a0 (ta:TE)(tr:TA):TA:=λ Z H Q=>ta Z H λ x H1=>tr Z H1 λ xs H2=>Q (x::xs) H2
section
variable {X:Cx}{e:Expr}{es:List Expr}{te:TE}{t:TA}{pos:Pos}
theorem pa_nil:PA X [] a7:=λ _ _ _ _ H Q I h=>Calls.spliced_nil ⟨[],H,I,.nil,h⟩
theorem pa_cons (ha:PE X e te)(hr:PA X es t)(hs:starEach (e::es) X.env=(false,eval e X.env)::starEach es X.env:=by rfl):PA X (e::es) (a0 te t):=by
 intro pos pins s Z H Q I h
 rw[hs]
 show wpAny _ _ (spliced ((false,eval e X.env)::backTo pos (starEach es X.env))) _ _ s
 refine Calls.spliced_cons (thn (ha pins s Z H _ I h) λ u s1 ⟨x,H1,I1,r1,q1⟩=>?_)
 exact thn (hr pos pins s1 Z H1 _ I1 q1) λ us s2 ⟨xs,H2,I2,r2,q2⟩=>⟨x::xs,H2,I2,.cons r1 r2,q2⟩
def tTup (t:TA):TE:=λ Z H Q=>t Z H λ xs H1=>xs.length<=sizeLine/\∀ p,H1 p=none->Q (.ref p) (upd H1 p (.tup xs))
def tLst (t:TA):TE:=λ Z H Q=>t Z H λ xs H1=>xs.length<=sizeLine/\∀ p,H1 p=none->Q (.ref p) (upd H1 p (.lst xs))
theorem pe_tup {x1}(h:PA X es t):PE X (.Tuple es x1 pos) (tTup t):=by
 intro pins s Z H Q I hq
 refine wpAny_Tuple_spliced (thn (h pos pins s Z H _ I hq) λ us s1 ⟨xs,H1,I1,r,z,q⟩=>⟨by rw[<- r.length];exact z,?_⟩)
 have hf:H1 s1.heap.objs.size=none:=I1.hok.fresh (Nat.le_refl _)
 refine⟨.ref s1.heap.objs.size,upd H1 s1.heap.objs.size (.tup xs),I1.laid (t':=s1.toks) (λ b u e=>Heap.get?_push_of_some _ e) (Nat.le_refl _) ?_,rfl,q _ hf⟩
 exact⟨z,us,r,⟨_,Heap.get?_push_size _ rfl,rfl,_,rfl⟩⟩
theorem pe_lst (h:PA X es t):PE X (.List es pos) (tLst t):=by
 intro pins s Z H Q I hq
 refine wpAny_List_spliced (thn (h pos pins s Z H _ I hq) λ us s1 ⟨xs,H1,I1,r,z,q⟩=>⟨by rw[<- r.length];exact z,?_⟩)
 have hf:H1 s1.heap.objs.size=none:=I1.hok.fresh (Nat.le_refl _)
 refine⟨.ref s1.heap.objs.size,upd H1 s1.heap.objs.size (.lst xs),I1.laid (t':=s1.toks) (λ b u e=>Heap.get?_push_of_some _ e) (Nat.le_refl _) ?_,rfl,q _ hf⟩
 exact⟨z,us,0,r,Heap.get?_push_size _ rfl⟩
end
abbrev Sp:=List V->Hp->VK->XK->Prop
abbrev CXT:=List Env->Hp->Shared->XK->Value->Shared->Prop
structure Env0 (P:Program) (w:World) (K:PySem.W.Frag) (mg:Str->Option Value) (base:Heap) (A:Around) (outer:List Env) (s:Shared) (H:Hp):Prop where
 frames:A.frames=some outer
 mod:Mod K mg base
 bs:∀ b o,base.get? b=some o->s.heap.get? b=some o/\H b=none
 bsz:base.objs.size<=s.heap.objs.size
 funs:s.heap.FunFrames base outer
 frf:∀ b∈frs outer,H b=none
 hok:HOk P w H s.heap
 bare:AllBare s.gens
def CE (outer:List Env)(P:Program)(w:World)(H:Hp)(s:Shared)(Q:VK)(u:Value)(s':Shared):Prop:=
 ∃ v H',s'.os=s.os/\AllBare s'.gens/\Un (frs outer) [] H H' s.heap s'.heap/\HOk P w H' s'.heap/\RelV v u/\Q v H'
def CR (CX:CXT)(outer:List Env)(P:Program)(w:World)(H:Hp)(s:Shared)(Q:VK)(E:XK)(r:Result)(s':Shared):Prop:=
 match r with
 | .ok (.ret u)=>CE outer P w H s Q u s'
 | .ok _=>False
 | .error e=>CX outer H s E e s'
structure FnOk (P:Program) (w:World) (K:PySem.W.Frag) (mg:Str->Option Value) (base:Heap) (CX:CXT) (k:Nat) (f:Addr) (fd:FuncData) (ps:List Str) (sp:Sp):Prop where
 len:∀ vs H Q E,sp vs H Q E->vs.length=ps.length
 run:∀ (A:Around) (outer:List Env) (s:Shared) (H:Hp) (args:Args) (us:List Value) (vs:List V) (Q:VK) (E:XK),Room k A->Env0 P w K mg base A outer s H->BindsTo s fd args (ps.zip us)->Vals vs us->sp vs H Q E →
  codeAny (model P w) A (.call (.ref f) args) (CR CX outer P w H s Q E) s
theorem FnOk.mono {P:Program}{w:World}{K:PySem.W.Frag}{mg:Str->Option Value}{base:Heap}{CX:CXT}{j k:Nat}{f:Addr}{fd:FuncData}{ps:List Str}{sp:Sp}(F:FnOk P w K mg base CX j f fd ps sp)(h:j<=k):
  FnOk P w K mg base CX k f fd ps sp:=⟨F.len,λ A outer s H args us vs Q E hr=>F.run A outer s H args us vs Q E (hr.mono h)⟩
theorem Env0.make {P:Program}{w:World}{K:PySem.W.Frag}{mg:Str->Option Value}{base:Heap}{A:Around}{outer:List Env}{s:Shared}{H:Hp}(e:Env0 P w K mg base A outer s H)(C:Addr)(us:List Value)(kw:List (Str×Value)):
  Env0 P w K mg base (A.under (.builtin "type.__call__" ⟨.ref C::us,kw⟩)) outer s H:=⟨by first | exact e.frames | (simpa[Around.under,Code.envs,Code.isFrame,pushEnvs] using e.frames),e.mod,e.bs,e.bsz,e.funs,e.frf,e.hok,e.bare⟩
section
variable {X:Cx}{pins:List (Addr×Obj)}{Z:St}{H:Hp}{s s':Shared}
theorem Inv.env0 (I:Inv X pins Z H s):Env0 X.prog X.w X.K X.mg X.base X.A X.stack s H:=
 ⟨I.ok.frames,I.ok.mod,I.bs,Nat.le_trans I.ok.bsz I.sz,I.stack,I.stkFree,I.hok,I.bare⟩
theorem Inv.after {Q:VK}{u:Value}(I:Inv X pins Z H s)(h:CE X.stack X.prog X.w H s Q u s'):EP X pins Z Q u s':=by
 obtain⟨v,H',os,bare,un,hok,r,q⟩:=h
 obtain⟨hh,g,d,t,os'⟩:=s'
 obtain rfl:os'=s.os:=os
 exact⟨v,H',I.call (h':=hh) (g':=g) (d':=d) (t':=t) (ch:=[]) un hok bare (λ b z=>absurd z (by simp)),r,q⟩
end
def d3 (sp:Sp)(dvs:List V)(E:XK)(t:TA):TE:=λ Z H Q=>t Z H λ vs H1=>sp (vs++dvs) H1 Q E
def tMeth (C:Addr)(m:Str)(sp:Sp)(dvs:List V)(E:XK)(ta:TE)(t:TA):TE:=λ Z H Q=>ta Z H λ x H1=>∃ a dx fs,x=.ref a/\H1 a=some (.ins C dx fs)/\fs.lookup m=none ∧
 t Z H1 λ vs H2=>sp (x::(vs++dvs)) H2 Q E
def tMake (C:Addr)(sp:Sp)(dvs:List V)(E:XK)(t:TA):TE:=λ Z H Q=>t Z H λ vs H1=>∀ x dx,H1 x=none->H1 dx=none->dx≠x →
 sp (.ref x::(vs++dvs)) (upd (upd H1 dx (.own x)) x (.ins C dx [])) (λ v H2=>v=.non/\Q (.ref x) H2) E
def Binds (K:PySem.W.Frag)(fd:FuncData)(ps:List Str)(ds:List Value):Prop:=
 ∀ (s:Shared) (us:List Value),K.In s.heap->(us++ds).length=ps.length->BindsTo s fd ⟨us,[]⟩ (ps.zip (us++ds))
theorem Binds.all {K:PySem.W.Frag}{fd:FuncData}{ps:List Str}(h:∀ us:List Value,us.length=ps.length->bindArgs fd ⟨us,[]⟩=pure (ps.zip us)):Binds K fd ps []:=λ s us _ hl=>by
 rw[List.append_nil]at hl ⊢
 exact .of_eq (h us hl)
def C2 (CX:CXT)(X:Cx)(E:XK):Prop:=∀ (pins:List (Addr×Obj)) (Z:St) (H:Hp) (s:Shared) (e:Value) (s':Shared),Inv X pins Z H s->CX X.stack H s E e s'->X.xe e s'
section
variable {X:Cx}{CX:CXT}{k:Nat}{f C:Addr}{fd:FuncData}{ps:List Str}{sp:Sp}{dvs:List V}{ds:List Value}{E:XK}{x m:Str}{p pos apos:Pos}{e o:Expr}{es:List Expr}{ta:TE}{t:TA}
theorem a1s {pins:List (Addr×Obj)}{Z:St}{H:Hp}{s:Shared}{Q:VK}{us:List Value}{vs:List V}(F:FnOk X.prog X.w X.K X.mg X.base CX k f fd ps sp)(hr:Room k X.A)(hb:Binds X.K fd ps ds)(hd:Vals dvs ds)(hx:C2 CX X E)
  (I:Inv X pins Z H s)(r:Vals vs us)(h:sp (vs++dvs) H Q E):wpAny (model X.prog X.w) X.A (call (.ref f) us) (EP X pins Z Q) X.xe s:=by
 have r2:Vals (vs++dvs) (us++ds):=r.append hd
 have hl:(us++ds).length=ps.length:=by rw[<- r2.length];exact F.len _ _ _ _ h
 refine wpAny_call (codeAny_mono (F.run X.A X.stack s H ⟨us,[]⟩ (us++ds) (vs++dvs) Q E hr I.env0 (hb s us I.kIn hl) r2 h) λ r s' hq=>?_)
 cases r with
 | error e=>exact hx pins Z H s e s' I hq
 | ok fl=>
  cases fl with
  | ret u=>exact I.after hq
  | next=>exact False.elim hq
  | brk=>exact False.elim hq
  | cont=>exact False.elim hq
theorem pe_call (F:FnOk X.prog X.w X.K X.mg X.base CX k f fd ps sp)(hr:Room k X.A)(hg:Gl X x)(hm:X.mg x=some (.ref f))(hk:PySem.W.keepIn X.K (.ref f)=true)(hb:Binds X.K fd ps ds)(hd:Vals dvs ds)(hx:C2 CX X E)
  (ha:PA X (e::es) t)(hdb:(x==("__debug__" : Str))=false:=by decide)(he:starEach (e::es) X.env=(false,eval e X.env)::starEach es X.env:=by rfl)(hpl:(backTo pos (starEach es X.env)).any (·.1)=false:=by rfl):
  PE X (.Call (.Name x p) (e::es) [] pos) (d3 sp dvs E t):=by
 intro pins s Z H Q I h
 refine wpAny_Call_Name_kw (V9 I hg hm ?_ hdb)
 refine PySem.W.callWith_K (h₀:=X.base) I.ok.mod.kin hk (thn (ha pos pins s Z H _ I h) λ us s1 ⟨vs,H1,I1,r,q⟩=>⟨I1.kIn,?_⟩) he hpl
 exact a1s F hr hb hd hx I1 r q
theorem a4s (F:FnOk X.prog X.w X.K X.mg X.base CX k f fd ps sp)(hr:Room k X.A)(hg:Gl X x)(hm:X.mg x=some (.ref f))(hk:PySem.W.keepIn X.K (.ref f)=true)(hb:Binds X.K fd ps ds)(hd:Vals dvs ds)(hx:C2 CX X E)
  (hdb:(x==("__debug__" : Str))=false:=by decide):PE X (.Call (.Name x p) [] [] pos) (d3 sp dvs E a7):=by
 intro pins s Z H Q I h
 refine wpAny_Call_Name_kw (V9 I hg hm ?_ hdb)
 exact PySem.W.callWith_K0 I.kIn hk (a1s (us:=[]) F hr hb hd hx I .nil h)
theorem pe_meth {pl:Sem Bool}(he:PE X o ta)(c:Cls X.K C)(hm:Meth X.K C m f)(F:FnOk X.prog X.w X.K X.mg X.base CX k f fd ps sp)(hr:Room k X.A)(hb:Binds X.K fd ps ds)(hd:Vals dvs ds)(hx:C2 CX X E)(ha:PA X (e::es) t)
  (hst:starEach (e::es) X.env=(false,eval e X.env)::starEach es X.env:=by rfl)(hpl:(backTo pos (starEach es X.env)).any (·.1)=false:=by rfl)
  (ht:eval (.Call (.Attribute o m apos) (e::es) [] pos) X.env=(do
   let ov ← eval o X.env
   standAt apos.atName
   let (f,first) ← holding [ov] (getMethod ov m pl)
   callWith pos f first (backTo pos (starEach (e::es) X.env)) (backToKw pos (keywordEach [] X.env))):=by rfl):
  PE X (.Call (.Attribute o m apos) (e::es) [] pos) (tMeth C m sp dvs E ta t):=by
 intro pins s Z H Q I h
 refine PySem.W.methodCall_KW (pl:=pl) (thn (he pins s Z H _ I h) λ u s1 ⟨x,H1,I1,rx,a,dx,fs,ex,ea,l,q⟩=>?_) ht
 subst ex
 obtain rfl:u=Value.ref a:=rx
 refine a1r I1 ea c hm l ?_
 refine PySem.W.callWith_K (first:=[.ref a]) (h₀:=X.base) I.ok.mod.kin hm.kp (thn (ha pos pins s1 Z H1 _ I1 q) λ us s2 ⟨vs,H2,I2,r,q2⟩=>⟨I2.kIn,?_⟩) hst hpl
 exact a1s (us:=.ref a::us) (vs:=.ref a::vs) F hr hb hd hx I2 (.cons rfl r) q2
theorem pe_meth0 {pl:Sem Bool}(he:PE X o ta)(c:Cls X.K C)(hm:Meth X.K C m f)(F:FnOk X.prog X.w X.K X.mg X.base CX k f fd ps sp)(hr:Room k X.A)(hb:Binds X.K fd ps ds)(hd:Vals dvs ds)(hx:C2 CX X E)
  (ht:eval (.Call (.Attribute o m apos) [] [] pos) X.env=(do
   let ov ← eval o X.env
   standAt apos.atName
   let (f,first) ← holding [ov] (getMethod ov m pl)
   callWith pos f first (backTo pos (starEach [] X.env)) (backToKw pos (keywordEach [] X.env))):=by rfl):
  PE X (.Call (.Attribute o m apos) [] [] pos) (tMeth C m sp dvs E ta a7):=by
 intro pins s Z H Q I h
 refine PySem.W.methodCall_KW (pl:=pl) (thn (he pins s Z H _ I h) λ u s1 ⟨x,H1,I1,rx,a,dx,fs,ex,ea,l,q⟩=>?_) ht
 subst ex
 obtain rfl:u=Value.ref a:=rx
 refine a1r I1 ea c hm l ?_
 exact PySem.W.callWith_K0 (first:=[.ref a]) I1.kIn hm.kp (a1s (us:=[.ref a]) (vs:=[.ref a]) F hr hb hd hx I1 (.cons rfl .nil) q)
structure Mk (K:PySem.W.Frag) (C f:Addr):Prop where
 makes:PySem.W.makesIn K C=true
 init:PySem.W.findIn K (.ref C) "__init__" = some (some (.ref f))
 fn:PySem.W.isFn K (.ref f)=true
 kp:PySem.W.keepIn K (.ref C)=true
theorem a4t {pins:List (Addr×Obj)}{Z:St}{H:Hp}{s:Shared}{Q:VK}{us:List Value}{vs:List V}(M:Mk X.K C f)(F:FnOk X.prog X.w X.K X.mg X.base CX k f fd ps sp)(hr:Room (k + 1) X.A)(hb:Binds X.K fd ps ds)(hd:Vals dvs ds)
  (hx:C2 CX X E)(I:Inv X pins Z H s)(r:Vals vs us)
  (h:∀ x dx,H x=none->H dx=none->dx≠x->sp (.ref x::(vs++dvs)) (upd (upd H dx (.own x)) x (.ins C dx [])) (λ v H2=>v=.non/\Q (.ref x) H2) E):
  wpAny (model X.prog X.w) X.A (call (.ref C) us) (EP X pins Z Q) X.xe s:=by
 have hq:=h (s.heap.objs.size + 1) s.heap.objs.size (I.hok.fresh (Nat.le_succ _)) (I.hok.fresh (Nat.le_refl _)) (Nat.ne_of_lt (Nat.lt_succ_self _))
 have I2:=Inv.made (C:=C) I
 have r2:Vals (V.ref (s.heap.objs.size + 1)::(vs++dvs)) (Value.ref (s.heap.objs.size + 1)::(us++ds)):=.cons rfl (r.append hd)
 have hl:(Value.ref (s.heap.objs.size + 1)::us++ds).length=ps.length:=by
  have e:=r2.length
  rw[F.len _ _ _ _ hq]at e
  exact e.symm
 refine wpAny_call (make_map (f:=f) I.kIn M.makes M.init (beq_iff_eq.mp M.fn) (codeAny_mono (F.run _ X.stack _ _ ⟨Value.ref (s.heap.objs.size + 1)::us,[]⟩ (Value.ref (s.heap.objs.size + 1)::(us++ds)) _ _ E (hr.make C us [])
  (I2.env0.make C us []) (hb _ (Value.ref (s.heap.objs.size + 1)::us) I2.kIn hl) r2 hq) λ r s' hq'=>?_))
 cases r with
 | error e=>exact hx pins Z _ _ e s' I2 hq'
 | ok fl=>
  cases fl with
  | ret u=>
   obtain⟨v,H',I3,rv,ev,q3⟩:=I2.after hq'
   subst ev
   exact⟨rv,⟨V.ref (s.heap.objs.size + 1),H',I3,rfl,q3⟩⟩
  | next=>exact False.elim hq'
  | brk=>exact False.elim hq'
  | cont=>exact False.elim hq'
theorem pe_make (M:Mk X.K C f)(F:FnOk X.prog X.w X.K X.mg X.base CX k f fd ps sp)(hr:Room (k + 1) X.A)(hg:Gl X x)(hm:X.mg x=some (.ref C))(hb:Binds X.K fd ps ds)(hd:Vals dvs ds)(hx:C2 CX X E)
  (ha:PA X (e::es) t)(hdb:(x==("__debug__" : Str))=false:=by decide)(he:starEach (e::es) X.env=(false,eval e X.env)::starEach es X.env:=by rfl)(hpl:(backTo pos (starEach es X.env)).any (·.1)=false:=by rfl):
  PE X (.Call (.Name x p) (e::es) [] pos) (tMake C sp dvs E t):=by
 intro pins s Z H Q I h
 refine wpAny_Call_Name_kw (V9 I hg hm ?_ hdb)
 refine PySem.W.callWith_K (h₀:=X.base) I.ok.mod.kin M.kp (thn (ha pos pins s Z H _ I h) λ us s1 ⟨vs,H1,I1,r,q⟩=>⟨I1.kIn,?_⟩) he hpl
 exact a4t M F hr hb hd hx I1 r q
theorem pe_make0 (M:Mk X.K C f)(F:FnOk X.prog X.w X.K X.mg X.base CX k f fd ps sp)(hr:Room (k + 1) X.A)(hg:Gl X x)(hm:X.mg x=some (.ref C))(hb:Binds X.K fd ps ds)(hd:Vals dvs ds)(hx:C2 CX X E)
  (hdb:(x==("__debug__" : Str))=false:=by decide):PE X (.Call (.Name x p) [] [] pos) (tMake C sp dvs E a7):=by
 intro pins s Z H Q I h
 refine wpAny_Call_Name_kw (V9 I hg hm ?_ hdb)
 exact PySem.W.callWith_K0 I.kIn M.kp (a4t (us:=[]) M F hr hb hd hx I .nil h)
end
section
variable {X:Cx}{CX:CXT}{k:Nat}{f C:Addr}{fd:FuncData}{ps ks:List Str}{sp:Sp}{E:XK}{x m:Str}{p pos apos kpos:Pos}{e o:Expr}{es:List Expr}{kws:List Keyword}{te ta:TE}{t tk:TA}{nm:Option Str}
variable {g:List Value->List Value->List Value}{gV:List V->List V->List V}
end
structure FnScope (N P:List Str) (sc:Scope):Prop where
 kind:sc.kind=.function
 co:sc.isCoroutine=false
 gen:sc.isGenerator=false
 nd:N.Nodup
 pre:N.take P.length=P
 par:∀ x∈P,sc.names.lookup x=some .local\/sc.names.lookup x=some .cell
 nofree:∀ y∈sc.names,y.2≠.free
theorem a2P {kindOf:Str->Option NameKind}{x:Str}:∀ {binds:List (Str×Value)}{m:Str->Option Value},(∀ v,(x,v)∉binds)->bindL kindOf binds m x=m x
 | [],_,_=>rfl
 | (n,v)::r,m,h=>by
  unfold bindL
  rw[a2P λ w hw=>h w (List.mem_cons_of_mem _ hw)]
  split
  ·have:x≠n:=by rintro rfl;exact h v List.mem_cons_self
   simp[this]
  ·rfl
theorem a2Q {kindOf:Str->Option NameKind}{x:Str}:∀ {binds:List (Str×Value)}{m:Str->Option Value},(∀ v,(x,v)∉binds)->bindC kindOf binds m x=m x
 | [],_,_=>rfl
 | (n,v)::r,m,h=>by
  unfold bindC
  rw[a2Q λ w hw=>h w (List.mem_cons_of_mem _ hw)]
  split
  ·rfl
  ·have:x≠n:=by rintro rfl;exact h v List.mem_cons_self
   simp[this]
theorem a2R {kindOf:Str->Option NameKind}{x:Str}{v:Value}:∀ {P:List Str}{vs:List Value}{i:Nat}{m:Str->Option Value},P.Nodup->P[i]?=some x->vs[i]?=some v->kindOf x=some .local →
  bindL kindOf (P.zip vs) m x=some v
 | [],_,_,_,_,h,_,_=>by simp at h
 | _::_,[],_,_,_,_,h,_=>by simp at h
 | p::P,w::vs,0,m,nd,h1,h2,hk=>by
  simp at h1 h2;subst h1;subst h2
  show bindL kindOf ((p,w)::P.zip vs) m p=_
  unfold bindL
  rw[a2P λ v hv=>(List.nodup_cons.mp nd).1 (List.of_mem_zip hv).1,if_pos hk]
  simp
 | p::P,w::vs,i + 1,m,nd,h1,h2,hk=>by
  show bindL kindOf ((p,w)::P.zip vs) m x=_
  unfold bindL
  exact a2R (i:=i) (List.nodup_cons.mp nd).2 (by simpa using h1) (by simpa using h2) hk
theorem a2S {kindOf:Str->Option NameKind}{x:Str}{v:Value}:∀ {P:List Str}{vs:List Value}{i:Nat}{m:Str->Option Value},P.Nodup->P[i]?=some x->vs[i]?=some v->kindOf x≠some .local →
  bindC kindOf (P.zip vs) m x=some v
 | [],_,_,_,_,h,_,_=>by simp at h
 | _::_,[],_,_,_,_,h,_=>by simp at h
 | p::P,w::vs,0,m,nd,h1,h2,hk=>by
  simp at h1 h2;subst h1;subst h2
  show bindC kindOf ((p,w)::P.zip vs) m p=_
  unfold bindC
  rw[a2Q λ v hv=>(List.nodup_cons.mp nd).1 (List.of_mem_zip hv).1,if_neg hk]
  simp
 | p::P,w::vs,i + 1,m,nd,h1,h2,hk=>by
  show bindC kindOf ((p,w)::P.zip vs) m x=_
  unfold bindC
  exact a2S (i:=i) (List.nodup_cons.mp nd).2 (by simpa using h1) (by simpa using h2) hk
def start (N:List Str)(vs:List V):St:=vs.map some++List.replicate (N.length - vs.length) none
def cxOf (CX:CXT)(P:Program)(w:World)(K:PySem.W.Frag)(mg:Str->Option Value)(base:Heap)(N:List Str)(qual:Str)(scope:Scope)(f:Addr)(cd:Value)(A:Around)(outer:List Env)(s:Shared)(H:Hp)(E:XK):Cx where
 prog:=P
 w:=w
 K:=K
 mg:=mg
 base:=base
 A:=A.deeper (envOfC qual scope s.heap.objs.size f cd)
 N:=N
 s₀:=s
 H₀:=H
 env:=envOfC qual scope s.heap.objs.size f cd
 outer:=outer
 stack:=envOfC qual scope s.heap.objs.size f cd::outer
 ex:=[]
 calm:=true
 fn:=λ _=>true
 pn:=[]
 xe:=λ e s'=>wpAny (model P w) (A.deeper (envOfC qual scope s.heap.objs.size f cd)) (leaving (envOfC qual scope s.heap.objs.size f cd) e) (λ _ s''=>CX outer H s E e s'') (λ e' s''=>CX outer H s E e' s'') s'
theorem a4u {sc:Scope}{n:Nat}{x:Str}(h:sc.names.lookup x=some .cell):∃ c,(cellsFrom n sc.names []).lookup x=some c:=by
 have q:=PySem.W.cellsFrom_some sc.names n [] (.inl h)
 exact Option.isSome_iff_exists.mp q
theorem inv_start {CX:CXT}{P:Program}{w:World}{K:PySem.W.Frag}{mg:Str->Option Value}{base:Heap}{N ps:List Str}{qual:Str}{scope:Scope}{f:Addr}{cd:Value}{A:Around}{outer:List Env}{s s1:Shared}{H:Hp}{E:XK}{us:List Value}{vs:List V}
  (S:FnScope N ps scope)(hd:A.handled=none)(e0:Env0 P w K mg base A outer s H)(hl:vs.length=ps.length)(r:Vals vs us)
  (x:InCallC s s.heap.objs.size (bindL (envOfC qual scope s.heap.objs.size f cd).kindOf (ps.zip us) λ _=>none) (cellsFrom (s.heap.objs.size + 1) scope.names []) (bindC (envOfC qual scope s.heap.objs.size f cd).kindOf (ps.zip us) λ _=>none) s1):
  Inv (cxOf CX P w K mg base N qual scope f cd A outer s H E) [] (start N vs) H s1:=by
 have hpl:ps.length<=N.length:=by have:=congrArg List.length S.pre;rw[List.length_take]at this;omega
 obtain⟨h1,tk,rfl,hk⟩:=x.done
 have noA:∀ b:Addr,b∉(cxOf CX P w K mg base N qual scope f cd A outer s H E).ex:=λ b z=>absurd (show b∈([]:List Addr) from z) (by simp)
 refine⟨⟨e0.mod,S.kind,rfl,rfl,Nat.le_refl _,λ y z c h1 h2=>?_,λ y hy=>?_,λ y c _ h=>?_,λ _=>hd,Around.frames_deeper e0.frames,.inr ⟨rfl,rfl⟩,λ b z=>absurd z (noA b),e0.bs,e0.bsz,λ b _ _=>noA b,λ b z=>absurd z (noA b),e0.funs,e0.frf⟩,
  rfl,e0.bare,Un.kept hk,⟨_,x.toInCall.ns,λ i y v h1 h2 h3=>?_⟩,λ y c h=>⟨_,x.cell y c h⟩,e0.hok.fresh (Nat.le_refl _),λ y c h=>?_,λ p hp=>absurd (show p∈([]:List (Addr×Obj)) from hp) (by simp),e0.hok.kept hk,?_⟩
 ·exact name_of_addr x.apart (PySem.mem_of_lookup h1) (PySem.mem_of_lookup h2)
 ·have hy:scope.names.lookup y=some .cell\/scope.names.lookup y=some .free:=hy
  rcases hy with hy | hy
  ·exact a4u hy
  ·exact absurd rfl (S.nofree _ (PySem.mem_of_lookup hy))
 ·exact Nat.le_of_lt (x.above y c (PySem.mem_of_lookup h))
 ·have hi:i < vs.length:=by
   unfold start at h2
   by_cases hi:i < vs.length
   ·exact hi
   ·rw[List.getElem?_append_right (by simpa using hi)]at h2
    rw[List.getElem?_replicate]at h2
    split at h2 <;> cases h2
  have ha:vs[i]?=some v:=by
   unfold start at h2
   rw[List.getElem?_append_left (by simpa using hi),List.getElem?_map]at h2
   cases e:vs[i]? with
   | none=>rw[e]at h2;cases h2
   | some a=>rw[e]at h2;cases h2;rfl
  obtain⟨u,hu,rv⟩:=r.get ha
  have hp:ps[i]?=some y:=by
   rw[<- S.pre,List.getElem?_take_of_lt (by omega)];exact h1
  have ndP:ps.Nodup:=by rw[<- S.pre];exact S.nd.sublist (List.take_sublist _ _)
  refine⟨u,rv,?_⟩
  rcases S.par y (List.mem_of_getElem? hp) with k | k
  ·exact .inl ⟨k,a2R ndP hp hu k⟩
  ·obtain⟨c,e⟩:=a4u (n:=s.heap.objs.size + 1) k
   refine .inr ⟨.inl k,c,e,?_⟩
   have q:=x.cell y c e
   rw[a2S ndP hp hu (by show scope.names.lookup y≠_;rw[k];decide)]at q
   exact q
 ·exact e0.hok.fresh (Nat.le_of_lt (x.above y c (PySem.mem_of_lookup h)))
 ·unfold start
  show _=N.length
  rw[List.length_append,List.length_map,List.length_replicate]
  omega
theorem fn_of {CX:CXT}{P:Program}{w:World}{K:PySem.W.Frag}{mg:Str->Option Value}{base:Heap}{k:Nat}{f:Addr}{name qual:Str}{params:Arguments}{body:List Stmt}{scope:Scope}{dV kV doc pm cdv ct oc:Value}{an od:Option Addr}
  {osl:Array (Option Value)}{N ps:List Str}{sp:Sp}(lk:K.lookup f=some ⟨oc,od,.func (PySem.W.fnOf name qual params body scope dV kV doc pm an cdv ct),osl⟩)(hcd:PySem.W.codeIn K cdv qual=true)(S:FnScope N ps scope)
  (len:∀ vs H Q E,sp vs H Q E->vs.length=ps.length)
  (hbody:∀ (A:Around) (outer:List Env) (s:Shared) (H:Hp) (vs:List V) (Q:VK) (E:XK),Room k (A.deeper (envOfC qual scope s.heap.objs.size f cdv))->sp vs H Q E →
   ∃ t,PSs (cxOf CX P w K mg base N qual scope f cdv A outer s H E) body t/\t { nx:=λ _ H'=>Q .non H',rt:=Q } (start N vs) H):
  FnOk P w K mg base CX (k + 1) f (PySem.W.fnOf name qual params body scope dV kV doc pm an cdv ct) ps sp:=by
 refine⟨len,λ A outer s H args us vs Q E hr e0 hb r hsp=>?_⟩
 have hl:=len _ _ _ _ hsp
 have KX:K.In s.heap:=e0.mod.kin.keeps λ b o e=>(e0.bs b o e).1
 have lim:s.heap.NoLimit:=e0.mod.nolimit.keeps λ b o e=>(e0.bs b o e).1
 have hkind:∀ y∈ps.zip us,scope.names.lookup y.1=some .local\/(scope.names.lookup y.1=some .cell/\((cellsFrom (s.heap.objs.size + 1) scope.names []).lookup y.1).isSome=true):=λ ⟨n,v⟩ hy=>by
  rcases S.par n (List.of_mem_zip hy).1 with q | q
  ·exact .inl q
  ·exact .inr ⟨q,PySem.W.cellsFrom_some _ _ _ (.inl q)⟩
 refine codeAny_call_function hr.depth (KX _ _ lk) rfl S.co S.gen rfl (PySem.W.codeRec_of KX hcd) (hb _ _ _ _ ?_)
 refine wpAny_newFunctionEnv_cells S.kind hkind λ env he s1 x=>?_
 subst he
 refine⟨lim.keeps x.toInCall.keep,codeAny_func ?_⟩
 obtain⟨t,ht,hq⟩:=hbody A outer s H vs Q E (hr.deeper _) hsp
 have I:Inv (cxOf CX P w K mg base N qual scope f cdv A outer s H E) [] (start N vs) H s1:=inv_start S hr.hd e0 hl r x
 refine wpAny_mono (ht [] s1 (start N vs) H _ I hq) (λ fl s' hs=>?_) λ e s' hs=>hs
 have fin:∀ {Z':St}{H':Hp}{v:V}{u:Value},Inv (cxOf CX P w K mg base N qual scope f cdv A outer s H E) [] Z' H' s'->RelV v u->Q v H'->CE outer P w H s Q u s':=
  λ {Z' H' v u} J rv q=>⟨v,H',J.os,J.bare,J.base,J.hok,rv,q⟩
 cases fl with
 | ret u=>
  obtain⟨v,Z',H',J,rv,q⟩:=hs
  exact fin J rv q
 | next=>
  obtain⟨Z',H',J,q⟩:=hs
  exact fin (v:=V.non) (u:=Value.none) J rfl q
 | brk=>
  obtain⟨_,_,_,q⟩:=hs
  exact False.elim q
 | cont=>
  obtain⟨_,_,_,q⟩:=hs
  exact False.elim q
section
variable {X:Cx}{x:Str}{p pos:Pos}{e:Expr}{es:List Expr}{t:TA}{id T:String}{r:List V->Hp->VK->Prop}
def tCB (r:List V->Hp->VK->Prop)(t:TA):TE:=λ Z H Q=>t Z H λ vs H1=>r vs H1 Q
theorem a4v (hc:CallR X (.builtin id) r)(hg:Gl X x)(hm:X.mg x=none)(hv:bootBuiltins x=some (.builtin id))(ha:PA X (e::es) t)(hn:x ≠ "__name__" := by decide)(hdb:(x==("__debug__" : Str))=false:=by decide)
  (he:starEach (e::es) X.env=(false,eval e X.env)::starEach es X.env:=by rfl)(hpl:(backTo pos (starEach es X.env)).any (·.1)=false:=by rfl):PE X (.Call (.Name x p) (e::es) [] pos) (tCB r t):=by
 intro pins s Z H Q I h
 refine wpAny_Call_Name_kw (U6 I hg hm hv ?_ hn hdb)
 exact PyProof.Rows.callWith_builtin1 (thn (ha pos pins s Z H _ I h) λ us s1 ⟨vs,H1,I1,r1,q1⟩=>hc pins s1 Z H1 vs us Q I1 r1 q1) he hpl
theorem pe_callTy (hc:CallR X (.type T) r)(hg:Gl X x)(hm:X.mg x=none)(hv:bootBuiltins x=some (.type T))(ha:PA X (e::es) t)(hn:x ≠ "__name__" := by decide)(hdb:(x==("__debug__" : Str))=false:=by decide)
  (he:starEach (e::es) X.env=(false,eval e X.env)::starEach es X.env:=by rfl)(hpl:(backTo pos (starEach es X.env)).any (·.1)=false:=by rfl):PE X (.Call (.Name x p) (e::es) [] pos) (tCB r t):=by
 intro pins s Z H Q I h
 refine wpAny_Call_Name_kw (U6 I hg hm hv ?_ hn hdb)
 exact PyProof.Rows.callWith_type1 (thn (ha pos pins s Z H _ I h) λ us s1 ⟨vs,H1,I1,r1,q1⟩=>hc pins s1 Z H1 vs us Q I1 r1 q1) he hpl
end
section
variable {κ:Type}[DecidableEq κ]
def d6 (kvs:List (κ×V))(k:κ):Option V:=(kvs.find? λ kv=>decide (kv.1=k)).map (·.2)
def g0 (kvs:List (κ×V))(k:κ)(v:V):List (κ×V):=
 if (kvs.any λ kv=>decide (kv.1=k))=true then kvs.map (λ kv=>if kv.1=k then(kv.1,v) else kv) else kvs++[(k,v)]
theorem i5 {p:κ×V}{r:List (κ×V)}{k:κ}(e:p.1=k):d6 (p::r) k=some p.2:=by simp[d6,List.find?_cons,e]
theorem g5 {p:κ×V}{r:List (κ×V)}{k:κ}(e:¬ p.1=k):d6 (p::r) k=d6 r k:=by simp[d6,List.find?_cons,e]
theorem E1 (k:κ):∀ kvs:List (κ×V),(kvs.any λ kv=>decide (kv.1=k))=(d6 kvs k).isSome
 | []=>rfl
 | p::r=>by
  rw[List.any_cons]
  by_cases e:p.1=k
  ·simp only[i5 e,decide_eq_true e,Bool.true_or,Option.isSome_some]
  ·rw[g5 e,decide_eq_false e,Bool.false_or];exact E1 k r
theorem a4w (k j:κ)(y:V):∀ kvs:List (κ×V),d6 (kvs.map λ kv=>if kv.1=k then(kv.1,y) else kv) j=(d6 kvs j).map λ x=>if j=k then y else x
 | []=>rfl
 | p::r=>by
  have ih:=a4w k j y r
  rw[List.map_cons]
  by_cases h:p.1=k
  ·rw[if_pos h]
   by_cases e:p.1=j
   ·rw[i5 (p:=(p.1,y)) e,i5 e,Option.map_some,if_pos (e.symm.trans h)]
   ·rw[g5 (p:=(p.1,y)) e,g5 e,ih]
  ·rw[if_neg h]
   by_cases e:p.1=j
   ·rw[i5 (p:=p) e,i5 e,Option.map_some,if_neg (λ z=>h (e.trans z))]
   ·rw[g5 (p:=p) e,g5 e,ih]
theorem a2T (k j:κ)(y:V):∀ kvs:List (κ×V),d6 kvs k=none->d6 (kvs++[(k,y)]) j=if j=k then some y else d6 kvs j
 | [],_=>by
  by_cases e:k=j
  ·rw[if_pos e.symm];exact i5 (p:=(k,y)) e
  ·rw[if_neg (λ z=>e z.symm)];exact g5 (p:=(k,y)) e
 | p::r,hn=>by
  rw[List.cons_append]
  have hk:¬ p.1=k:=λ z=>by rw[i5 z]at hn;cases hn
  rw[g5 hk]at hn
  have ih:=a2T k j y r hn
  by_cases e:p.1=j
  ·rw[i5 e,i5 e,if_neg (λ z=>hk (e.trans z))]
  ·rw[g5 e,g5 e,ih]
theorem o7 (kvs:List (κ×V))(k j:κ)(y:V):d6 (g0 kvs k y) j=if j=k then some y else d6 kvs j:=by
 unfold g0
 by_cases a:(kvs.any λ kv=>decide (kv.1=k))=true
 ·rw[if_pos a,a4w]
  rw[E1]at a
  by_cases e:j=k
  ·obtain⟨x,hx⟩:=Option.isSome_iff_exists.mp a
   rw[if_pos e,e,hx,Option.map_some,if_pos rfl]
  ·rw[if_neg e]
   cases d6 kvs j with
   | none=>rfl
   | some x=>rw[Option.map_some,if_neg e]
 ·rw[if_neg a]
  refine a2T k j y kvs ?_
  rw[E1]at a
  cases q:d6 kvs k with
  | none=>rfl
  | some x=>rw[q]at a;exact(a rfl).elim
theorem B7 (kvs:List (κ×V))(k:κ)(v:V):(g0 kvs k v).length<=kvs.length + 1:=by
 unfold g0
 split
 ·rw[List.length_map];omega
 ·rw[List.length_append,List.length_cons,List.length_nil];omega
theorem W5 {kvs:List (κ×V)}{k:κ}(v:V)(h:d6 kvs k=none):g0 kvs k v=kvs++[(k,v)]:=by
 unfold g0
 rw[E1,h]
 exact if_neg (by decide)
theorem RelO.isSome_eq {o:Option V}{u:Option Value}(r:RelO o u):o.isSome=u.isSome:=by
 cases o with
 | none=>cases u with
  | none=>rfl
  | some _=>exact(show False from r).elim
 | some _=>cases u with
  | none=>exact(show False from r).elim
  | some _=>rfl
theorem RelO.getD {o:Option V}{u:Option Value}{d:V}{d':Value}(r:RelO o u)(rd:RelV d d'):RelV (o.getD d) (u.getD d'):=by
 cases o with
 | none=>cases u with
  | none=>exact rd
  | some _=>exact(show False from r).elim
 | some _=>cases u with
  | none=>exact(show False from r).elim
  | some _=>exact r
theorem KV.val {kvs:List (κ×V)}{vs:List (κ×Value)}(r:KV kvs vs)(k:κ):RelO (d6 kvs k) (valueAt vs k):=by
 unfold KV at r
 induction r with
 | nil=>exact True.intro
 | @cons p q ps qs h t ih=>
  obtain⟨h1,h2⟩:=h
  by_cases e:p.1=k
  ·have e':q.1=k:=h1.symm.trans e
   have b:valueAt (q::qs) k=some q.2:=by simp[valueAt,List.find?_cons,e']
   rw[i5 e,b];exact h2
  ·have e':¬ q.1=k:=λ z=>e (h1.trans z)
   have b:valueAt (q::qs) k=valueAt qs k:=by simp[valueAt,List.find?_cons,e']
   rw[g5 e,b];exact ih
theorem KV.any {kvs:List (κ×V)}{vs:List (κ×Value)}(r:KV kvs vs)(k:κ):(kvs.any λ kv=>decide (kv.1=k))=vs.any λ kv=>decide (kv.1=k):=by
 unfold KV at r
 induction r with
 | nil=>rfl
 | cons h t ih=>rw[List.any_cons,List.any_cons,ih,h.1]
theorem KV.repl {kvs:List (κ×V)}{vs:List (κ×Value)}(r:KV kvs vs)(k:κ){y:V}{u:Value}(ry:RelV y u):
  KV (kvs.map λ kv=>if kv.1=k then(kv.1,y) else kv) (vs.map λ kv=>if kv.1=k then(kv.1,u) else kv):=by
 unfold KV at r ⊢
 induction r with
 | nil=>exact .nil
 | @cons p q ps qs h t ih=>
  rw[List.map_cons,List.map_cons]
  refine .cons ?_ ih
  obtain⟨h1,h2⟩:=h
  by_cases e:p.1=k
  ·rw[if_pos e,if_pos (h1.symm.trans e)];exact⟨h1,ry⟩
  ·rw[if_neg e,if_neg (λ z=>e (h1.trans z))];exact⟨h1,h2⟩
theorem KV.put {kvs:List (κ×V)}{vs:List (κ×Value)}(r:KV kvs vs)(k:κ){y:V}{u:Value}(ry:RelV y u):KV (g0 kvs k y) (stored vs k u):=by
 unfold g0 stored
 rw[r.any k]
 by_cases e:(vs.any λ kv=>decide (kv.1=k))=true
 ·rw[if_pos e,if_pos e];exact r.repl k ry
 ·rw[if_neg e,if_neg e];exact Paired.snoc r ⟨rfl,ry⟩
theorem KV.length {kvs:List (κ×V)}{vs:List (κ×Value)}(r:KV kvs vs):kvs.length=vs.length:=Paired.length r
end
theorem a0A {P:Program}{w:World}{k:Key}{u:Value}(r:RelV (kV k) u):(d2 P w).is k u=true:=by
 cases k with
 | inl i=>obtain⟨t,e⟩:=(show ∃ t,u=Value.int i t from r);subst e;exact E9 P w i t
 | inr x=>obtain⟨t,e⟩:=(show ∃ t,u=Value.str x t from r);subst e;exact a4m P w x t
theorem a2U {P:Program}{w:World}:∀ {ks:List Key}{us:List Value},Vals (ks.map kV) us->ItemsAre (d2 P w) ks us
 | [],_,r=>by rw[List.map_nil]at r;cases r;exact .nil
 | k::ks,_,r=>by
  rw[List.map_cons]at r
  cases r with
  | cons h t=>exact .cons (a0A h) (a2U t)
abbrev KT (H:Hp):List (List Key×V)->List (List Key×Addr×Value)->Prop:=Paired λ p q=>p.1=q.1/\H q.2.1=some (.tup (p.1.map kV))/\RelV p.2 q.2.2
theorem KT.val {H:Hp}{kvs:List (List Key×V)}{xs:List (List Key×Addr×Value)}(r:KT H kvs xs)(k:List Key):RelO (d6 kvs k) ((atKey xs k).map (·.2)):=by
 induction r with
 | nil=>exact True.intro
 | @cons p q ps qs h t ih=>
  obtain⟨h1,_,h2⟩:=h
  by_cases e:p.1=k
  ·have e':q.1=k:=h1.symm.trans e
   have b:atKey (q::qs) k=some q.2:=by simp[atKey,List.find?_cons,e']
   rw[i5 e,b];exact h2
  ·have e':¬ q.1=k:=λ z=>e (h1.trans z)
   have b:atKey (q::qs) k=atKey qs k:=by simp[atKey,List.find?_cons,e']
   rw[g5 e,b];exact ih
theorem KT.repl {H:Hp}{kvs:List (List Key×V)}{xs:List (List Key×Addr×Value)}(r:KT H kvs xs)(k:List Key){y:V}{u:Value}(ry:RelV y u):
  KT H (kvs.map λ kv=>if kv.1=k then(kv.1,y) else kv) (xs.map (putAt k u)):=by
 induction r with
 | nil=>exact .nil
 | @cons p q ps qs h t ih=>
  rw[List.map_cons,List.map_cons]
  refine .cons ?_ ih
  obtain⟨h1,h2,h3⟩:=h
  unfold putAt
  by_cases e:p.1=k
  ·rw[if_pos e,if_pos (h1.symm.trans e)];exact⟨h1,h2,ry⟩
  ·rw[if_neg e,if_neg (λ z=>e (h1.trans z))];exact⟨h1,h2,h3⟩
theorem KT.put {H:Hp}{kvs:List (List Key×V)}{xs:List (List Key×Addr×Value)}(r:KT H kvs xs)(k:List Key){b:Addr}{y:V}{u:Value}(hb:H b=some (.tup (k.map kV)))(ry:RelV y u):
  KT H (g0 kvs k y) (storedH xs k b u):=by
 have e:(kvs.any λ kv=>decide (kv.1=k))=(atKey xs k).isSome:=by
  rw[E1,(r.val k).isSome_eq,Option.isSome_map]
 unfold g0 storedH
 rw[e]
 by_cases q:(atKey xs k).isSome=true
 ·rw[if_pos q,if_pos q];exact r.repl k ry
 ·rw[if_neg q,if_neg q];exact Paired.snoc r ⟨rfl,hb,ry⟩
theorem KT.keeps {H H':Hp}{kvs:List (List Key×V)}{xs:List (List Key×Addr×Value)}(r:KT H kvs xs)(ht:∀ b ys,H b=some (.tup ys)->H' b=some (.tup ys)):KT H' kvs xs:=
 Paired.mapP r λ _ _ z=>⟨z.1,ht _ _ z.2.1,z.2.2⟩
section
variable {P:Program}{w:World}{H:Hp}{h:Heap}{a:Addr}
theorem rd_of {u:HO}(ok:HOk P w H h)(e:Rd H a u):ObjOk P w H h a u:=e.ok ok
theorem T3 {kvs:List (Key×V)}(ok:HOk P w H h)(e:Rd H a (.dK kvs)):kvs.length<=sizeLine/\(a==sysModules)=false/\∃ vs,KV kvs vs/\h.DictOf (d2 P w) a vs:=
 show ObjOk P w H h a (.dK kvs) from rd_of ok e
theorem dk_of {kvs:List (Key×V)}(ok:HOk P w H h)(e:H a=some (.dK kvs)):kvs.length<=sizeLine/\(a==sysModules)=false/\∃ vs,KV kvs vs/\h.DictOf (d2 P w) a vs:=T3 ok (.inl e)
theorem J5 {ks:List Key}(ok:HOk P w H h)(e:H a=some (.tup (ks.map kV))):(tupleKind (d2 P w)).is h ks a:=by
 obtain⟨_,its,r,o,h1,h2,n,h3⟩:=(show ObjOk P w H h a (.tup (ks.map kV)) from ok a _ e)
 exact⟨o,its.toArray,n,h1,h2,h3,by simpa using a2U r⟩
theorem T4 {kvs:List (List Key×V)}(ok:HOk P w H h)(e:Rd H a (.dT kvs)):kvs.length<=sizeLine/\(a==sysModules)=false ∧
  ∃ xs,KT H kvs xs/\h.DictOfH (tupleKind (d2 P w)) a xs:=by
 obtain⟨z,y,xs,r,o,es,ep,h1,h2,h3,h4,h5⟩:=(show ObjOk P w H h a (.dT kvs) from rd_of ok e)
 refine⟨z,y,xs,r,o,es,ep,h1,h2,h3,h4,λ x hx=>?_,h5⟩
 have all:∀ {l:List (List Key×V)}{m:List (List Key×Addr×Value)},KT H l m->∀ x∈m,(tupleKind (d2 P w)).is h x.1 x.2.1:=by
  intro l m q
  induction q with
  | nil=>intro x hx;exact nomatch hx
  | @cons p q ps qs hq t ih=>
   intro x hx
   rcases List.mem_cons.mp hx with e | hx
   ·subst e
    exact J5 ok (by rw[<- hq.1];exact hq.2.1)
   ·exact ih x hx
 exact all r x hx
theorem dt_of {kvs:List (List Key×V)}(ok:HOk P w H h)(e:H a=some (.dT kvs)):kvs.length<=sizeLine/\(a==sysModules)=false ∧
  ∃ xs,KT H kvs xs/\h.DictOfH (tupleKind (d2 P w)) a xs:=T4 ok (.inl e)
end
def DGet (H:Hp)(a:Addr)(y:V)(r:Option V):Prop:=
 (∃ kvs k,Rd H a (.dK kvs)/\y=kV k/\r=d6 kvs k)\/∃ kvs k b,Rd H a (.dT kvs)/\y=.ref b/\H b=some (.tup (k.map kV))/\r=d6 kvs k
def DPut (H:Hp)(a:Addr)(y v:V)(H':Hp):Prop:=
 (∃ kvs k,H a=some (.dK kvs)/\y=kV k/\kvs.length < sizeLine/\H'=upd H a (.dK (g0 kvs k v))) ∨
 ∃ kvs k b,H a=some (.dT kvs)/\y=.ref b/\H b=some (.tup (k.map kV))/\kvs.length < sizeLine/\H'=upd H a (.dT (g0 kvs k v))
theorem DGet.k {H:Hp}{a:Addr}{kvs:List (Key×V)}{k:Key}(e:H a=some (.dK kvs)):DGet H a (kV k) (d6 kvs k):=.inl ⟨kvs,k,.inl e,rfl,rfl⟩
theorem DGet.t {H:Hp}{a b:Addr}{kvs:List (List Key×V)}{k:List Key}(e:H a=some (.dT kvs))(eb:H b=some (.tup (k.map kV))):DGet H a (.ref b) (d6 kvs k):=.inr ⟨kvs,k,b,.inl e,rfl,eb,rfl⟩
theorem DPut.k {H:Hp}{a:Addr}{kvs:List (Key×V)}{k:Key}{v:V}(e:H a=some (.dK kvs))(hl:kvs.length < sizeLine):DPut H a (kV k) v (upd H a (.dK (g0 kvs k v))):=.inl ⟨kvs,k,e,rfl,hl,rfl⟩
theorem DPut.t {H:Hp}{a b:Addr}{kvs:List (List Key×V)}{k:List Key}{v:V}(e:H a=some (.dT kvs))(eb:H b=some (.tup (k.map kV)))(hl:kvs.length < sizeLine):
  DPut H a (.ref b) v (upd H a (.dT (g0 kvs k v))):=.inr ⟨kvs,k,b,e,rfl,eb,hl,rfl⟩
section
variable {X:Cx}{pins:List (Addr×Obj)}{Z:St}{H:Hp}{s:Shared}{a:Addr}{y v:V}{u r:Value}{o:Option V}{A:Around}{E:Value->Shared->Prop}
theorem Inv.big (I:Inv X pins Z H s):sysModules < s.heap.objs.size:=by
 have h:mainGlobals < s.heap.objs.size:=(I.mod.glob.keeps I.bk).lt
 exact Nat.lt_trans (by decide) h
theorem a2V {Q:Value->Shared->Prop}(hu:A.units + 1 < cLine)(I:Inv X pins Z H s)(g:DGet H a y (some v))(ry:RelV y u)(h:∀ w' s',Inv X pins Z H s'->RelV v w'->Q w' s'):
  wpAny (model X.prog X.w) A (getItem (.ref a) u) Q E s:=by
 rcases g with⟨kvs,k,e,ey,l⟩ | ⟨kvs,k,b,e,ey,eb,l⟩
 ·subst ey
  obtain⟨z,hd,vs,rel,dd⟩:=T3 I.hok e
  obtain⟨w',hw,rw'⟩:=RelO.some_of (v:=v) (o:=valueAt vs k) (by rw[l];exact rel.val k)
  exact wpAny_getItem_of (a0A ry) dd.mapOf hw (h w' _ (I.tok _) rw')
 ·subst ey
  cases(show u=Value.ref b from ry)
  obtain⟨z,hd,xs,rel,dd⟩:=T4 I.hok e
  obtain⟨w',hw,rw'⟩:=RelO.some_of (v:=v) (o:=(atKey xs k).map (·.2)) (by rw[l];exact rel.val k)
  obtain⟨p,hp,hp2⟩:=Option.map_eq_some_iff.mp hw
  refine wpAny_getItem_heap (tupleKind_room_in1 hu) (J5 I.hok eb) dd hp ?_
  rw[hp2]
  exact h w' _ (I.tok _) rw'
theorem d_in {Q:Value->Shared->Prop}(hu:A.units + 1 < cLine)(I:Inv X pins Z H s)(g:DGet H a y o)(ry:RelV y u)(h:∀ s',Inv X pins Z H s'->Q (.bool o.isSome) s'):
  wpAny (model X.prog X.w) A (compareOp .In u (.ref a)) Q E s:=by
 rcases g with⟨kvs,k,e,ey,l⟩ | ⟨kvs,k,b,e,ey,eb,l⟩
 ·subst ey
  obtain⟨z,hd,vs,rel,dd⟩:=T3 I.hok e
  refine wpAny_in_of (a0A ry) hd dd.mapOf ?_
  rw[<- (rel.val k).isSome_eq,<- l]
  exact h _ (I.tok _)
 ·subst ey
  cases(show u=Value.ref b from ry)
  obtain⟨z,hd,xs,rel,dd⟩:=T4 I.hok e
  refine wpAny_in_heap (tupleKind_room_in1 hu) (J5 I.hok eb) hd dd ?_
  have q:=(rel.val k).isSome_eq
  rw[Option.isSome_map]at q
  rw[<- q,<- l]
  exact h _ (I.tok _)
theorem d_notIn {Q:Value->Shared->Prop}(hu:A.units + 1 < cLine)(I:Inv X pins Z H s)(g:DGet H a y o)(ry:RelV y u)(h:∀ s',Inv X pins Z H s'->Q (.bool (!o.isSome)) s'):
  wpAny (model X.prog X.w) A (compareOp .NotIn u (.ref a)) Q E s:=by
 rcases g with⟨kvs,k,e,ey,l⟩ | ⟨kvs,k,b,e,ey,eb,l⟩
 ·subst ey
  obtain⟨z,hd,vs,rel,dd⟩:=T3 I.hok e
  refine wpAny_notIn_of (a0A ry) hd dd.mapOf ?_
  rw[<- (rel.val k).isSome_eq,<- l]
  exact h _ (I.tok _)
 ·subst ey
  cases(show u=Value.ref b from ry)
  obtain⟨z,hd,xs,rel,dd⟩:=T4 I.hok e
  refine wpAny_notIn_heap (tupleKind_room_in1 hu) (J5 I.hok eb) hd dd ?_
  have q:=(rel.val k).isSome_eq
  rw[Option.isSome_map]at q
  rw[<- q,<- l]
  exact h _ (I.tok _)
theorem W6 {h':Heap}{t':Nat}{ob:HO}(I:Inv X pins Z H s)(mu:Mut (H a))(hs:Heap.SameBut a s.heap h')(he:∃ q,h'.get? a=some q)(new:ObjOk X.prog X.w (upd H a ob) h' a ob):
  Inv X pins Z (upd H a ob) { s with heap:=h',toks:=t' }:=
 I.write (x:=a) (e:=a) mu (.inl rfl) (λ b q hb z=>(hs.2 b hb).trans z) he new
theorem dk_new {P:Program}{w:World}{H':Hp}{h':Heap}{kvs:List (Key×V)}{vs:List (Key×Value)}(z:kvs.length<=sizeLine)(hd:(a==sysModules)=false)(rel:KV kvs vs)(dd:h'.DictOf (d2 P w) a vs):
  ObjOk P w H' h' a (.dK kvs):=⟨z,hd,vs,rel,dd⟩
theorem a2W {H':Hp}{Q:Unit->Shared->Prop}(hu:A.units + 1 < cLine)(I:Inv X pins Z H s)(g:DPut H a y v H')(ry:RelV y u)(rv:RelV v r)(h:∀ s',Inv X pins Z H' s'->Q () s'):
  wpAny (model X.prog X.w) A (setItem (.ref a) u r) Q E s:=by
 rcases g with⟨kvs,k,e,ey,l,eH⟩ | ⟨kvs,k,b,e,ey,eb,l,eH⟩
 ·subst ey eH
  obtain⟨z,hd,vs,rel,dd⟩:=dk_of I.hok e
  have hz:vs.length<=sizeLine:=by rw[<- rel.length];exact z
  have hl:(g0 kvs k v).length<=sizeLine:=by have:=B7 kvs k v;omega
  refine wpAny_setItem_pairs (hsz:=hz) (a0A ry) dd λ h' dd' hs=>h _ ?_
  have he:∃ q,h'.get? a=some q:=let ⟨q,_,_,hq,_⟩:=dd';⟨q,hq⟩
  exact W6 I (by rw[e];exact True.intro) hs he (dk_new hl hd (rel.put k rv) dd')
 ·subst ey eH
  cases(show u=Value.ref b from ry)
  obtain⟨z,hd,xs,rel,dd⟩:=dt_of I.hok e
  have hz:xs.length<=sizeLine:=by rw[<- Paired.length rel];exact z
  have hl:(g0 kvs k v).length<=sizeLine:=by have:=B7 kvs k v;omega
  refine wpAny_setItem_heap (hsz:=hz) (tupleKind_room_in1 hu) (J5 I.hok eb) dd λ h' dd' hs=>h _ ?_
  obtain⟨q,es,ep,hq,h2,h3,h4,_,h5⟩:=dd'
  refine W6 I (by rw[e];exact True.intro) hs ⟨q,hq⟩ ⟨hl,hd,_,(rel.put k eb rv).keeps λ c ys ec=>?_,q,es,ep,hq,h2,h3,h4,h5⟩
  rw[a5 (ne_of ec e (λ z=>nomatch z))]
  exact ec
end
section
variable {X:Cx}{pins:List (Addr×Obj)}{Z:St}{H:Hp}{s:Shared}{a:Addr}{kvs:List (Key×V)}{k:Key}{u:Value}{A:Around}{E:Value->Shared->Prop}
theorem d_len {Q:Value->Shared->Prop}(I:Inv X pins Z H s)(e:Rd H a (.dK kvs))(h:∀ t s',Inv X pins Z H s'->Q (.int kvs.length t) s'):wpAny (model X.prog X.w) A (call (.builtin "len") [.ref a]) Q E s:=by
 obtain⟨z,hd,vs,rel,dd⟩:=T3 I.hok e
 refine call_len_dict hd dd (by rw[<- rel.length];rw[sizeLine_eq]at z;omega) ?_
 rw[<- rel.length]
 exact h _ _ (I.tok _)
end
theorem a4x {X:Cx}{pins:List (Addr×Obj)}{Z:St}{H:Hp}{s:Shared}{a:Addr}{y:V}{o:Option V}(I:Inv X pins Z H s)(g:DGet H a y o):s.TypeIs (.ref a) "dict" := by
 rcases g with⟨kvs,k,e,_,_⟩ | ⟨kvs,k,b,e,_,_,_⟩
 ·obtain⟨_,_,vs,_,dd⟩:=T3 I.hok e
  exact dd.typeIs
 ·obtain⟨_,_,xs,_,dd⟩:=T4 I.hok e
  exact dd.typeIs
section
variable {X:Cx}{o i e value:Expr}{pos pos' tpos:Pos}{td ty tv:TE}
end
theorem a4y {P:Program}{w:World}{H:Hp}(h:Heap)(hb:sysModules < h.objs.size):ObjOk P w H (h.push { cls:=.type "dict",data:=.dict #[] }) h.objs.size (.dK []):=
 ⟨Nat.zero_le _,beq_eq_false_iff_ne.mpr (Ne.symm (Nat.ne_of_lt hb)),[],.nil,Heap.DictOf.new h⟩
theorem a4z {P:Program}{w:World}{H:Hp}(h:Heap)(hb:sysModules < h.objs.size):ObjOk P w H (h.push { cls:=.type "dict",data:=.dict #[] }) h.objs.size (.dT []):=
 ⟨Nat.zero_le _,beq_eq_false_iff_ne.mpr (Ne.symm (Nat.ne_of_lt hb)),[],.nil,_,#[],0,Heap.get?_push_size _ rfl,⟨rfl,rfl,rfl⟩,rfl,rfl,List.nodup_nil⟩
def tDNewK:TE:=λ _ H Q=>∀ p,H p=none->Q (.ref p) (upd H p (.dK []))
def tDNewT:TE:=λ _ H Q=>∀ p,H p=none->Q (.ref p) (upd H p (.dT []))
section
variable {X:Cx}{pos:Pos}
theorem pe_dnewK:PE X (.Dict [] [] pos) tDNewK:=λ pins s Z H Q I h=>
 wpAny_Dict_empty ⟨.ref s.heap.objs.size,_,I.laid (a:=s.heap.objs.size) (o:=.dK []) (t':=s.toks) (λ _ _ q=>Heap.get?_push_of_some _ q) (Nat.le_refl _) (a4y s.heap I.big),rfl,h _ (I.hok.fresh (Nat.le_refl _))⟩
theorem pe_dnewT:PE X (.Dict [] [] pos) tDNewT:=λ pins s Z H Q I h=>
 wpAny_Dict_empty ⟨.ref s.heap.objs.size,_,I.laid (a:=s.heap.objs.size) (o:=.dT []) (t':=s.toks) (λ _ _ q=>Heap.get?_push_of_some _ q) (Nat.le_refl _) (a4z s.heap I.big),rfl,h _ (I.hok.fresh (Nat.le_refl _))⟩
end
def tPairs:List (TE×TE)->St->Hp->(List (V×V)->Hp->Prop)->Prop
 | [],_,H,Q=>Q [] H
 | (tk,tv)::r,Z,H,Q=>tk Z H λ x H1=>tv Z H1 λ y H2=>tPairs r Z H2 λ ps H3=>Q ((x,y)::ps) H3
abbrev VV:List (V×V)->List (Value×Value)->Prop:=Paired λ p q=>RelV p.1 q.1/\RelV p.2 q.2
def PPs (X:Cx)(pos:Pos)(keys:List (Option Expr))(values:List Expr)(trs:List (TE×TE)):Prop:=
 ∀ (pins:List (Addr×Obj)) (s:Shared) (Z:St) (H:Hp) (Q:List (V×V)->Hp->Prop),Inv X pins Z H s->tPairs trs Z H Q →
  wpAny (model X.prog X.w) X.A (evalPairs (pairTrees keys values X.env pos)) (λ vs s'=>∃ ps H',Inv X pins Z H' s'/\VV ps vs/\Q ps H') X.xe s
theorem pps_nil {X:Cx}{pos:Pos}:PPs X pos [] [] []:=λ pins s Z H Q I h=>pairTrees_nil_walk ⟨[],H,I,.nil,h⟩
theorem pps_cons {X:Cx}{pos:Pos}{k v:Expr}{ks:List (Option Expr)}{vs:List Expr}{tk tv:TE}{trs:List (TE×TE)}(hk:PE X k tk)(hv:PE X v tv)(hr:PPs X pos ks vs trs):
  PPs X pos (some k::ks) (v::vs) ((tk,tv)::trs):=λ pins s Z H Q I h=>
 pairTrees_cons_walk (thn (hk pins s Z H _ I h) λ u s1 ⟨x,H1,I1,rx,q1⟩=>thn (hv pins s1 Z H1 _ I1 q1) λ w2 s2 ⟨y,H2,I2,ry,q2⟩=>
  thn (hr pins s2 Z H2 _ I2 q2) λ ws s3 ⟨ps,H3,I3,rel,q3⟩=>⟨(x,y)::ps,H3,I3,.cons ⟨rx,ry⟩ rel,q3⟩)
def a0h (kvs more:List (Key×V)):List (Key×V):=more.foldl (λ acc kv=>g0 acc kv.1 kv.2) kvs
theorem KV.merge:∀ {more:List (Key×V)}{rs:List (Key×Value)}{kvs:List (Key×V)}{vs:List (Key×Value)},KV more rs->KV kvs vs->KV (a0h kvs more) (merged vs rs):=by
 intro more rs kvs vs r
 unfold KV at r
 induction r generalizing kvs vs with
 | nil=>intro q;exact q
 | @cons p q ps qs h t ih=>
  intro r0
  have e:KV (g0 kvs p.1 p.2) (stored vs q.1 q.2):=by
   have:=r0.put p.1 h.2
   rw[<- h.1];exact this
  exact ih e
theorem T5:∀ (more kvs:List (Key×V)),(a0h kvs more).length<=kvs.length + more.length
 | [],kvs=>by show kvs.length<=kvs.length + 0;omega
 | p::r,kvs=>by
  have h1:=T5 r (g0 kvs p.1 p.2)
  have h2:=B7 kvs p.1 p.2
  show(a0h (g0 kvs p.1 p.2) r).length<=_
  rw[List.length_cons];omega
theorem a1t {P:Program}{w:World}:∀ {kvs:List (Key×V)}{ws:List (Value×Value)},VV (kvs.map λ kv=>(kV kv.1,kv.2)) ws->∃ rs,Carries (d2 P w) ws rs/\KV kvs rs
 | [],_,r=>by rw[List.map_nil]at r;cases r;exact⟨[],True.intro,.nil⟩
 | p::kvs,_,r=>by
  rw[List.map_cons]at r
  cases r with
  | @cons a b as bs h t=>
   obtain⟨rs,c,q⟩:=a1t (P:=P) (w:=w) t
   obtain⟨b1,b2⟩:=b
   exact⟨(p.1,b2)::rs,⟨a0A h.1,rfl,c⟩,.cons ⟨rfl,h.2⟩ q⟩
def a2X (trs:List (TE×TE)):TE:=λ Z H Q=>∀ p,H p=none->tPairs trs Z (upd H p (.dK [])) λ ps H2=>H2 p=some (.dK [])/\∃ kvs:List (Key×V),ps=kvs.map (λ kv=>(kV kv.1,kv.2))/\kvs.length<=15/\Q (.ref p) (upd H2 p (.dK (a0h [] kvs)))
theorem pe_disp {X:Cx}{pos:Pos}{keys:List (Option Expr)}{values:List Expr}{trs:List (TE×TE)}(h:PPs X pos keys values trs)(hall:keys.all (·.isSome)=true)(hl:keys.length=values.length)(h0:keys≠[])
  (h15:keys.length<=15):PE X (.Dict keys values pos) (a2X trs):=by
 intro pins s Z H Q I q
 have hn:=I.hok.fresh (Nat.le_refl s.heap.objs.size)
 have I1:=I.laid (a:=s.heap.objs.size) (o:=.dK []) (h':=s.heap.push { cls:=.type "dict",data:=.dict #[] }) (t':=s.toks) (λ _ _ q=>Heap.get?_push_of_some _ q) (Nat.le_refl _) (a4y s.heap I.big)
 refine wpAny_Dict_walk (knd:=d2 X.prog X.w) hall hl h0 h15 (thn (h pins _ Z _ _ I1 (q _ hn)) λ ws s2 ⟨ps,H2,I2,rel,e,kvs,ep,lk,q2⟩=>?_)
 subst ep
 obtain⟨rs,c,rk⟩:=a1t (P:=X.prog) (w:=X.w) rel
 obtain⟨z,hd,vs0,r0,dd⟩:=dk_of I2.hok e
 cases r0
 refine⟨rs,c,dd,λ h' dd' hs=>⟨.ref s.heap.objs.size,_,?_,rfl,q2⟩⟩
 have hz:(a0h [] kvs).length<=sizeLine:=by
  have h1:=T5 kvs []
  rw[List.length_nil]at h1
  rw[sizeLine_eq];omega
 have he:∃ q,h'.get? s.heap.objs.size=some q:=let ⟨q,_,_,hq,_⟩:=dd';⟨q,hq⟩
 exact W6 I2 (by rw[e];exact True.intro) hs he (dk_new hz hd (rk.merge .nil) dd')
def IsD (H:Hp)(a:Addr):Prop:=(∃ kvs,Rd H a (.dK kvs))\/∃ kvs,Rd H a (.dT kvs)
theorem isD_at {X:Cx}{pins:List (Addr×Obj)}{Z:St}{H:Hp}{s:Shared}{a:Addr}(I:Inv X pins Z H s)(d:IsD H a):
  s.TypeIs (.ref a) "dict" /\ (∀ b,Value.ref a=.ref b->∃ ob,s.heap.get? b=some ob/\ob.dict=none)/\(a==sysModules)=false:=by
 rcases d with⟨kvs,e⟩ | ⟨kvs,e⟩
 ·obtain⟨_,hd,vs,_,dd⟩:=T3 I.hok e
  refine⟨dd.typeIs,λ b q=>?_,hd⟩
  cases q
  obtain⟨ob,_,_,h1,h2,_⟩:=dd
  exact⟨ob,h1,h2.2.1⟩
 ·obtain⟨_,hd,xs,_,dd⟩:=T4 I.hok e
  refine⟨dd.typeIs,λ b q=>?_,hd⟩
  cases q
  obtain⟨ob,_,_,h1,h2,_⟩:=dd
  exact⟨ob,h1,h2.2.1⟩
section
variable {X:Cx}{pins:List (Addr×Obj)}{Z:St}{H:Hp}{s:Shared}{a:Addr}{y d:V}{u r:Value}{o:Option V}{A:Around}{E:Value->Shared->Prop}
theorem d_get1 {Q:Value->Shared->Prop}(hu:A.units + 1 < cLine)(I:Inv X pins Z H s)(g:DGet H a y o)(ry:RelV y u)(h:∀ w' s',Inv X pins Z H s'->RelV (o.getD .non) w'->Q w' s'):
  wpAny (model X.prog X.w) A (call (.builtin "dict.get") [.ref a,u]) Q E s:=by
 rcases g with⟨kvs,k,e,ey,l⟩ | ⟨kvs,k,b,e,ey,eb,l⟩
 ·subst ey
  obtain⟨z,hd,vs,rel,dd⟩:=T3 I.hok e
  refine call_meetsIn PySem.F.slot_dict_get dd.typeIs PySem.F.entry_dict_get (PySem.F.args_dict_get_2 _ _) (meets_dict_get (d2 X.prog X.w) a (a0A ry) hd) ⟨_,dd.mapOf,h _ _ (I.tok _) ?_⟩
  rw[l]
  exact(rel.val k).getD rfl
 ·subst ey
  cases(show u=Value.ref b from ry)
  obtain⟨z,hd,xs,rel,dd⟩:=T4 I.hok e
  refine call_meetsIn PySem.F.slot_dict_get dd.typeIs PySem.F.entry_dict_get (PySem.F.args_dict_get_2 _ _) (meetsH_dict_get (tupleKind (d2 X.prog X.w)) a b hd) ⟨tupleKind_room_in1 hu,k,xs,J5 I.hok eb,dd,h _ _ (I.tok _) ?_⟩
  rw[l]
  exact(rel.val k).getD rfl
theorem d_get2 {Q:Value->Shared->Prop}(hu:A.units + 1 < cLine)(I:Inv X pins Z H s)(g:DGet H a y o)(ry:RelV y u)(rd:RelV d r)(h:∀ w' s',Inv X pins Z H s'->RelV (o.getD d) w'->Q w' s'):
  wpAny (model X.prog X.w) A (call (.builtin "dict.get") [.ref a,u,r]) Q E s:=by
 rcases g with⟨kvs,k,e,ey,l⟩ | ⟨kvs,k,b,e,ey,eb,l⟩
 ·subst ey
  obtain⟨z,hd,vs,rel,dd⟩:=T3 I.hok e
  refine call_meetsIn PySem.F.slot_dict_get dd.typeIs PySem.F.entry_dict_get (PySem.F.args_dict_get_3 _ _ _) (meets_dict_get_default (d2 X.prog X.w) a (a0A ry) hd r) ⟨_,dd.mapOf,h _ _ (I.tok _) ?_⟩
  rw[l]
  exact(rel.val k).getD rd
 ·subst ey
  cases(show u=Value.ref b from ry)
  obtain⟨z,hd,xs,rel,dd⟩:=T4 I.hok e
  refine call_meetsIn PySem.F.slot_dict_get dd.typeIs PySem.F.entry_dict_get (PySem.F.args_dict_get_3 _ _ _) (meetsH_dict_get_default (tupleKind (d2 X.prog X.w)) a b hd r) ⟨tupleKind_room_in1 hu,k,xs,J5 I.hok eb,dd,h _ _ (I.tok _) ?_⟩
  rw[l]
  exact(rel.val k).getD rd
end
section
variable {X:Cx}{o e f:Expr}{apos cpos:Pos}{td ty tx:TE}
end
section
variable {X:Cx}{pins:List (Addr×Obj)}{Z:St}{H:Hp}{s:Shared}{a:Addr}{kvs:List (Key×V)}{A:Around}{E:Value->Shared->Prop}
end
section
variable {X:Cx}{pins:List (Addr×Obj)}{Z:St}{H:Hp}{s:Shared}{a:Addr}{y:V}{u:Value}{A:Around}{E:Value->Shared->Prop}
end
end L2
namespace HT
open PySem PyProof.Rows
section
open PySem.SeqAt
open PySem.AutoSeq1 (wpAny_loadPart')
open PySem.MeetsSeq PySem.MeetsSeq2 PySem.MeetsSeq3
end
section
variable {prog:Program}{w:World}{A:Around}{E:Value->Shared->Prop}{s:Shared}
def sIx (n d:Nat):Option Int->Nat
 | none=>d
 | some v=>if v < 0 then(v + (n:Int)).toNat else min v.toNat n
theorem a4A (n d:Nat):sIx n d none=d:=rfl
theorem a1a (n d k:Nat):sIx n d (some (k:Int))=min k n:=by
 show(if (k:Int) < 0 then((k:Int) + (n:Int)).toNat else min (k:Int).toNat n)=min k n
 rw[if_neg (by omega),Int.toNat_natCast]
end
end HT
namespace L2
open PySem PySem.Spec PyProof.Rows
abbrev TO:=St->Hp->(Option Int->Hp->Prop)->Prop
def PO (X:Cx)(e:Option Expr)(t:TO):Prop:=
 ∀ (pins:List (Addr×Obj)) (s:Shared) (Z:St) (H:Hp) (Q:Option Int->Hp->Prop),Inv X pins Z H s->t Z H Q →
  wpAny (model X.prog X.w) X.A (evalPart e X.env) (λ u s'=>∃ o H',Inv X pins Z H' s'/\IsPart u o/\Q o H') X.xe s
def a1b:TO:=λ _ H Q=>Q none H
def tPart (t:TE):TO:=λ Z H Q=>t Z H λ x H1=>∃ i,x=.int i/\Q (some i) H1
section
variable {X:Cx}{e:Expr}{te:TE}{lo hi:Option Expr}{tl th:TO}{pos p2:Pos}
theorem po_none:PO X none a1b:=by
 intro pins s Z H Q I h
 rw[evalPart_none]
 exact wpAny_pure ⟨none,H,I,.none,h⟩
theorem po_some (h:PE X e te):PO X (some e) (tPart te):=by
 intro pins s Z H Q I hw
 rw[evalPart_some]
 refine thn (h pins s Z H _ I hw) λ u s1 ⟨x,H1,I1,r1,q1⟩=>?_
 obtain⟨i,rfl,q⟩:=q1
 obtain⟨t,rfl⟩:=r1
 exact⟨some i,H1,I1,.int i t,q⟩
def SlR (X:Cx)(r:V->Option Int->Option Int->Hp->VK->Prop):Prop:=
 ∀ (pins:List (Addr×Obj)) (s:Shared) (Z:St) (H:Hp) (x:V) (v vl vu:Value) (lo hi:Option Int) (sl:Addr) (Q:VK),Inv X pins Z H s->RelV x v->s.heap.IsSliceOf sl vl vu .none->IsPart vl lo->IsPart vu hi->r x lo hi H Q →
  ∃ T id,typeLookup (.type T) "__getitem__" = pure (some (.builtin id))/\s.TypeIs v T/\wpAny (model X.prog X.w) X.A (getItem v (.ref sl)) (EP X pins Z Q) X.xe s
def tSl (r:V->Option Int->Option Int->Hp->VK->Prop)(te:TE)(tl th:TO):TE:=λ Z H Q=>te Z H λ x H1=>tl Z H1 λ l H2=>th Z H2 λ u H3=>r x l u H3 Q
theorem a4B {r:V->Option Int->Option Int->Hp->VK->Prop}(hr:SlR X r)(he:PE X e te)(hl:PO X lo tl)(hu:PO X hi th):PE X (.Subscript e (.Slice lo hi none p2) pos) (tSl r te tl th):=by
 intro pins s Z H Q I h
 refine Subscript_ (thn (he pins s Z H _ I h) λ v s1 ⟨x,H1,I1,r1,q1⟩=>?_)
 refine wpAny_Slice (thn (hl pins s1 Z H1 _ I1 q1) λ vl s2 ⟨l,H2,I2,pl,q2⟩=>thn (hu pins s2 Z H2 _ I2 q2) λ vu s3 ⟨u,H3,I3,pu,q3⟩=>?_)
 rw[evalPart_none]
 refine wpAny_pure ?_
 have I4:Inv X pins Z H3 { s3 with heap:=s3.heap.push { cls:=.type "slice",data:=.fields #[vl,vu,.none] } }:=I3.kept (t':=s3.toks) λ b ob q=>Heap.get?_push_of_some _ q
 obtain⟨T,id,hT,ht,hg⟩:=hr pins { s3 with heap:=s3.heap.push { cls:=.type "slice",data:=.fields #[vl,vu,.none] } } Z H3 x v vl vu l u s3.heap.objs.size Q I4 r1 (Heap.IsSliceOf.new ..) pl pu q3
 show wpAny (model X.prog X.w) X.A (subscriptTail e (.Slice lo hi none p2) v (.ref s3.heap.objs.size)) (EP X pins Z Q) X.xe { s3 with heap:=s3.heap.push { cls:=.type "slice",data:=.fields #[vl,vu,.none] } }
 exact tail_any (ops:=[.ref s3.heap.objs.size,v]) ht hT hg (by with_unfolding_all rfl)
def a0i (xs:List V)(lo hi:Option Int):List V:=(xs.drop (HT.sIx xs.length 0 lo)).take (HT.sIx xs.length xs.length hi - HT.sIx xs.length 0 lo)
theorem a4C (xs:List V)(lo hi:Option Int):(a0i xs lo hi).length<=xs.length:=by
 unfold a0i
 rw[List.length_take,List.length_drop]
 omega
end
def ixN (n:Nat)(i:Int):Option Nat:=if 0<=i then(if i < n then some i.toNat else none) else if -(n:Int)<=i then some (i + n).toNat else none
def atI {α:Type}(xs:List α)(i:Int):Option α:=(ixN xs.length i).bind λ j=>xs[j]?
theorem ixN_seq {n:Nat}{i:Int}{j:Nat}(h:ixN n i=some j):seqIndex? i n=some j/\j < n/\-(n:Int)<=i/\i < n:=by
 unfold ixN at h
 by_cases h0:0<=i
 ·rw[if_pos h0]at h
  by_cases h1:i < n
  ·rw[if_pos h1]at h
   have e:i.toNat=j:=Option.some.inj h
   exact⟨by rw[seqIndex_of h0 h1,e],by omega,by omega,h1⟩
  ·rw[if_neg h1]at h;cases h
 ·rw[if_neg h0]at h
  by_cases h1:-(n:Int)<=i
  ·rw[if_pos h1]at h
   have e:(i + n).toNat=j:=Option.some.inj h
   exact⟨by rw[seqIndex_neg (by omega) h1,e],by omega,h1,by omega⟩
  ·rw[if_neg h1]at h;cases h
theorem a3G {α:Type}{xs:List α}{i:Int}{v:α}(h:atI xs i=some v):∃ j,seqIndex? i xs.length=some j/\xs[j]?=some v/\j < xs.length/\-(xs.length:Int)<=i/\i < xs.length:=by
 unfold atI at h
 cases e:ixN xs.length i with
 | none=>rw[e]at h;cases h
 | some j=>
  rw[e]at h
  obtain⟨h1,h2,h3,h4⟩:=ixN_seq e
  exact⟨j,h1,h,h2,h3,h4⟩
theorem D2 {α:Type}{xs:List α}{j:Nat}{v:α}(h:xs[j]?=some v):atI xs (j:Int)=some v:=by
 have hj:j < xs.length:=(Zg h).1
 have e:ixN xs.length (j:Int)=some j:=by
  unfold ixN
  rw[if_pos (by omega),if_pos (by omega)];simp
 unfold atI;rw[e];exact h
theorem atI_last {α:Type}(xs:List α)(v:α):atI (xs++[v]) (-1)=some v:=by
 have hl:(xs++[v]).length=xs.length + 1:=by simp
 have e:ixN (xs++[v]).length (-1)=some xs.length:=by
  unfold ixN
  rw[hl,if_neg (by decide),if_pos (by omega)]
  congr 1
  omega
 unfold atI
 rw[e]
 show(xs++[v])[xs.length]?=some v
 simp
def PlainIx (b:Expr):Prop:=∀ o i,subscripted b false o i=operate [o,i] (getItem o i)
def IxR (X:Cx)(r:R2):Prop:=
 ∀ (value slice:Expr) (pins:List (Addr×Obj)) (s:Shared) (Z:St) (H:Hp) (x y:V) (v u:Value) (Q:VK),Inv X pins Z H s->RelV x v->RelV y u->r x y H Q →
  subscripted slice false v u=operate [v,u] (getItem v u)->wpAny (model X.prog X.w) X.A (subscriptTail value slice v u) (EP X pins Z Q) X.xe s
def MtR (X:Cx)(id:String)(r:V->List V->Hp->VK->Prop):Prop:=
 ∀ (pins:List (Addr×Obj)) (s:Shared) (Z:St) (H:Hp) (x:V) (xs:List V) (v:Value) (us:List Value) (Q:VK),Inv X pins Z H s->RelV x v->Vals xs us->r x xs H Q →
  wpAny (model X.prog X.w) X.A (call (.builtin id) (v::us)) (EP X pins Z Q) X.xe s
section
variable {X:Cx}{a b:Expr}{ta tb:TE}{pos:Pos}
theorem IxR.or {r r':R2}(h:IxR X r)(h':IxR X r'):IxR X (λ x y H Q=>r x y H Q\/r' x y H Q):=by
 intro value slice pins s Z H x y v u Q I rx ry q hs
 rcases q with q | q
 ·exact h value slice pins s Z H x y v u Q I rx ry q hs
 ·exact h' value slice pins s Z H x y v u Q I rx ry q hs
theorem pe_ix {r:R2}(hr:IxR X r)(ha:PE X a ta)(hb:PE X b tb)(hs:PlainIx b):PE X (.Subscript a b pos) (tOp r ta tb):=by
 intro pins s Z H Q I h
 exact Subscript_ (binT ha hb I h λ v u s2 x y H2 I2 rx ry q=>hr a b pins s2 Z H2 x y v u Q I2 rx ry q (hs _ _))
def rIxL (K:PySem.W.Frag):R2:=λ x y H Q=>∃ p xs i v,x=.ref p/\y=.int i/\SqL K H p xs/\atI xs i=some v/\Q v H
def rIxT (K:PySem.W.Frag):R2:=λ x y H Q=>∃ p xs i v,x=.ref p/\y=.int i/\SqT K H p xs/\atI xs i=some v/\Q v H
def rIxS:R2:=λ x y H Q=>∃ z i c,x=.str z/\y=.int i/\z.length<=sizeLine/\atI z.cps.toList i=some c/\Q (.str ⟨#[c]⟩) H
theorem ix_list:IxR X (rIxL X.K):=by
 intro value slice pins s Z H x y v u Q I rx ry h hs
 obtain⟨p,xs,i,z,rfl,rfl,hq,he,q⟩:=h
 cases rx
 obtain⟨t,rfl⟩:=ry
 obtain⟨its,r,pl,hz⟩:=I.list hq
 obtain⟨j,h1,h2,h3,h4,h5⟩:=a3G he
 obtain⟨w,ew,rw'⟩:=r.get h2
 have hl:=r.length
 have hn:=U7
 have fin:EP X pins Z Q w s:=⟨z,H,I,rw',q⟩
 by_cases h0:0<=i
 ·have hj:i.toNat=j:=by
   rw[seqIndex_of h0 h5]at h1
   exact Option.some.inj h1
  exact item_listR pl.isList h0 (by omega) (by rw[hj];simpa using ew) fin hs
 ·have hj:(i + (its.toArray.size:Int)).toNat=j:=by
   rw[seqIndex_neg (by omega) h4]at h1
   rw[List.size_toArray,<- hl]
   exact Option.some.inj h1
  exact subscriptTail_builtinR (x:=w) pl.isList.typeIs slot_list_getitem.lookup
   (wpAny_getItem_list_neg (Q:=λ r s'=>r=w/\EP X pins Z Q r s') pl.isList (by omega) (by rw[List.size_toArray] <;> omega) (by omega) (by rw[hj];simpa using ew) ⟨rfl,fin⟩) hs
theorem ix_tup:IxR X (rIxT X.K):=by
 intro value slice pins s Z H x y v u Q I rx ry h hs
 obtain⟨p,xs,i,z,rfl,rfl,hq,he,q⟩:=h
 cases rx
 obtain⟨t,rfl⟩:=ry
 obtain⟨its,r,pl,hz⟩:=I.tuple hq
 obtain⟨j,h1,h2,h3,h4,h5⟩:=a3G he
 obtain⟨w,ew,rw'⟩:=r.get h2
 have hl:=r.length
 have hn:=U7
 have fin:EP X pins Z Q w s:=⟨z,H,I,rw',q⟩
 exact subscriptTail_builtinR (x:=w) pl.typeIs slot_tuple_getitem.lookup
  (getItem_tuple (j:=j) (Q:=λ r s'=>r=w/\EP X pins Z Q r s') pl (by omega) (by omega) (by rw[List.size_toArray,<- hl];exact h1) (by simpa using ew) ⟨rfl,fin⟩) hs
theorem ix_str:IxR X rIxS:=by
 intro value slice pins s Z H x y v u Q I rx ry h hs
 obtain⟨z,i,c,rfl,rfl,hz,he,q⟩:=h
 obtain⟨t,rfl⟩:=rx
 obtain⟨t',rfl⟩:=ry
 obtain⟨j,h1,h2,h3,h4,h5⟩:=a3G he
 have hl:z.cps.toList.length=z.length:=by simp[Str.length]
 rw[hl]at h1 h4 h5
 have hn:=U7
 exact tail_any (typeIs_str s z t) slot_str_getitem.lookup (getItem_str (c:=c) (by
  have e1:decide (i < -(2 ^ 63:Int))=false:=decide_eq_false (by omega)
  have e2:decide (i≥2 ^ 63)=false:=decide_eq_false (by omega)
  rw[e1,e2,Bool.or_false]) (by rw[h1];simpa using h2) ⟨.str ⟨#[c]⟩,H,I.tok _,⟨_,rfl⟩,q⟩) hs
theorem a5N (its:List Value)(n j:Nat)(u:Value):Obj.mapSeq (·.setIfInBounds j u) { cls:=.type "list",data:=.seq its.toArray n }={ cls:=.type "list",data:=.seq (its.set j u).toArray n }:=by
 simp[Obj.mapSeq]
theorem Inv.lst {pins:List (Addr×Obj)}{Z:St}{H:Hp}{s:Shared}{p:Addr}{xs:List V}(I:Inv X pins Z H s)(h:H p=some (.lst xs)):
  ∃ (its:List Value) (n:Nat),Vals xs its/\s.heap.get? p=some { cls:=.type "list",data:=.seq its.toArray n }/\xs.length<=sizeLine:=by
 obtain⟨z,its,n,r,e⟩:=I.hok p _ h
 exact⟨its,n,r,e,z⟩
theorem Inv.lstUpd {pins:List (Addr×Obj)}{Z:St}{H:Hp}{s:Shared}{p:Addr}{xs ys:List V}{its its':List Value}{n n':Nat}{f:Obj->Obj}(I:Inv X pins Z H s)(h:H p=some (.lst xs))
  (ho:s.heap.get? p=some { cls:=.type "list",data:=.seq its.toArray n })(hf:f { cls:=.type "list",data:=.seq its.toArray n }={ cls:=.type "list",data:=.seq its'.toArray n' })(r:Vals ys its')(hz:ys.length<=sizeLine)(t:Nat):
  Inv X pins Z (upd H p (.lst ys)) { s with heap:=s.heap.update p f,toks:=t }:=by
 have e:(s.heap.update p f).get? p=some { cls:=.type "list",data:=.seq its'.toArray n' }:=by
  rw[Heap.get?_update_self f ho (by rw[hf] <;> rfl),hf]
 refine I.write (x:=p) (e:=p) (by rw[h];trivial) (.inl rfl) (λ b u hb q=>(Heap.get?_update_other _ _ (Ne.symm hb)).trans q) ⟨_,e⟩ ?_
 exact⟨hz,its',n',r,e⟩
def rSetL:V->V->V->Hp->(Hp->Prop)->Prop:=λ o i v H Q=>∃ p xs k j,o=.ref p/\i=.int k/\H p=some (.lst xs)/\ixN xs.length k=some j/\Q (upd H p (.lst (xs.set j v)))
theorem set_list:PSet X rSetL:=by
 intro pins s Z H o i v ov iv u Q I ro ri rv h
 obtain⟨p,xs,k,j,rfl,rfl,hp,hj,q⟩:=h
 cases ro
 obtain⟨t,rfl⟩:=ri
 obtain⟨its,n,r,ho,hz⟩:=I.lst hp
 obtain⟨h1,h2,h3,h4⟩:=ixN_seq hj
 have hl:=r.length
 have hn:=U7
 have I':Inv X pins Z (upd H p (.lst (xs.set j v))) { s with heap:=s.heap.update p (Obj.mapSeq (·.setIfInBounds j u)) }:=
  I.lstUpd hp ho (a5N its n j u) (r.set rv j) (by rw[List.length_set];exact hz) s.toks
 by_cases h0:0<=k
 ·have hk:k.toNat=j:=by
   rw[seqIndex_of h0 h4]at h1
   exact Option.some.inj h1
  exact PySem.W.ki_setAt ho h0 (by omega) (by rw[List.size_toArray,<- hl];exact h4) (by rw[hk];exact⟨_,I',q⟩)
 ·have hk:(k + (its.toArray.size:Int)).toNat=j:=by
   rw[seqIndex_neg (by omega) h3]at h1
   rw[List.size_toArray,<- hl]
   exact Option.some.inj h1
  exact PySem.W.ki_setBack ho (by omega) (by rw[List.size_toArray,<- hl];exact h3) (by omega) (by rw[hk];exact⟨_,I',q⟩)
theorem a3H (lo hi:Option Int)(n:Nat):(sliceBounds lo hi none n).1=((HT.sIx n 0 lo:Nat):Int)/\(sliceBounds lo hi none n).2.1=((HT.sIx n n hi:Nat):Int)/\(sliceBounds lo hi none n).2.2=1:=by
 refine⟨?_,?_,rfl⟩
 ·cases lo with
  | none=>simp[sliceBounds,HT.sIx]
  | some i=>
   simp only[sliceBounds,HT.sIx,Option.getD_none,show(1:Int) > 0 by decide,if_true]
   by_cases h:i < 0
   ·simp only[h,if_true] <;> omega
   ·simp only[h,if_false] <;> omega
 ·cases hi with
  | none=>simp[sliceBounds,HT.sIx]
  | some i=>
   simp only[sliceBounds,HT.sIx,Option.getD_none,show(1:Int) > 0 by decide,if_true]
   by_cases h:i < 0
   ·simp only[h,if_true] <;> omega
   ·simp only[h,if_false] <;> omega
theorem a2B (its:List Value)(lo hi:Option Int):slicePick its.toArray lo hi none=((its.drop (HT.sIx its.length 0 lo)).take (HT.sIx its.length its.length hi - HT.sIx its.length 0 lo)).toArray:=by
 obtain⟨h1,h2,h3⟩:=a3H lo hi its.toArray.size
 unfold slicePick
 rw[h1,h2,h3]
 simp only[sliceRange_one,pick_run,List.size_toArray] <;> rfl
def rSlL (K:PySem.W.Frag):V->Option Int->Option Int->Hp->VK->Prop:=λ x lo hi H Q=>∃ a xs,x=.ref a/\SqL K H a xs/\∀ p,H p=none->Q (.ref p) (upd H p (.lst (a0i xs lo hi)))
theorem sl_list:SlR X (rSlL X.K):=by
 intro pins s Z H x v vl vu lo hi sl Q I rx hs pl pu h
 obtain⟨a,xs,rfl,hx,q⟩:=h
 cases rx
 obtain⟨its,r,ht,hz⟩:=I.list hx
 have hlen:=r.length
 refine⟨"list",_,slot_list_getitem.lookup,ht.isList.typeIs,?_⟩
 refine wpAny_getItem_list_slice ht.isList hs pl pu .none (by simp) ?_ (by rw[List.size_toArray] <;> omega)
 rw[a2B,<- hlen]
 refine⟨.ref s.heap.objs.size,_,I.laid (t':=s.toks) (o:=.lst (a0i xs lo hi)) (λ b ob q=>Heap.get?_push_of_some _ q) (Nat.le_refl _) ?_,rfl,q _ (I.hok.fresh (Nat.le_refl _))⟩
 exact⟨Nat.le_trans (a4C xs lo hi) hz,_,0,(r.drop (HT.sIx xs.length 0 lo)).take (HT.sIx xs.length xs.length hi - HT.sIx xs.length 0 lo),Heap.get?_push_size _ rfl⟩
def a1u:V->Bool
 | .non=>true
 | .bl _=>true
 | .int _=>true
 | .str _=>true
 | _=>false
def eqV:V->V->Bool
 | .non,.non=>true
 | .bl a,.bl b=>a==b
 | .bl a,.int b=>(if a then 1 else 0)==b
 | .int a,.bl b=>a==(if b then 1 else 0)
 | .int a,.int b=>a==b
 | .str a,.str b=>a==b
 | _,_=>false
theorem eqAt_V {A:Around}{s:Shared}{y x:V}{u v:Value}(ry:RelV y u)(rx:RelV x v)(fy:a1u y=true)(fx:a1u x=true):SeqAt.EqAt A s u v (eqV y x):=by
 cases y with
 | non=>
  cases ry
  cases x with
  | non=>cases rx;exact SeqAt.EqAt.same _
  | bl b=>cases rx;exact SeqAt.EqAt.none_bool b
  | int b=>obtain⟨t,rfl⟩:=rx;exact SeqAt.EqAt.none_int b t
  | str b=>obtain⟨t,rfl⟩:=rx;exact SeqAt.EqAt.none_str b t
  | _=>exact absurd (show false=true from fx) Bool.false_ne_true
 | bl a=>
  cases ry
  cases x with
  | non=>cases rx;exact SeqAt.EqAt.bool_none a
  | bl b=>cases rx;exact SeqAt.EqAt.bool_bool a b
  | int b=>obtain⟨t,rfl⟩:=rx;exact SeqAt.EqAt.bool_int a b t
  | str b=>obtain⟨t,rfl⟩:=rx;exact SeqAt.EqAt.bool_str a b t
  | _=>exact absurd (show false=true from fx) Bool.false_ne_true
 | int a=>
  obtain⟨t',rfl⟩:=ry
  cases x with
  | non=>cases rx;exact SeqAt.EqAt.int_none a t'
  | bl b=>cases rx;exact SeqAt.EqAt.int_bool a t' b
  | int b=>obtain⟨t,rfl⟩:=rx;exact SeqAt.EqAt.int_int a t' b t
  | str b=>obtain⟨t,rfl⟩:=rx;exact SeqAt.EqAt.int_str a t' b t
  | _=>exact absurd (show false=true from fx) Bool.false_ne_true
 | str a=>
  obtain⟨t',rfl⟩:=ry
  cases x with
  | non=>cases rx;exact SeqAt.EqAt.str_none a t'
  | bl b=>cases rx;exact SeqAt.EqAt.str_bool a t' b
  | int b=>obtain⟨t,rfl⟩:=rx;exact SeqAt.EqAt.str_int a t' b t
  | str b=>obtain⟨t,rfl⟩:=rx;exact SeqAt.EqAt.str_str a t' b t
  | _=>exact absurd (show false=true from fx) Bool.false_ne_true
 | _=>exact absurd (show false=true from fy) Bool.false_ne_true
theorem W7:CallR X (.builtin "len") (λ xs H Q=>∃ p ys,xs=[.ref p]/\(SqL X.K H p ys\/SqT X.K H p ys)/\Q (.int ys.length) H):=by
 intro pins s Z H xs us Q I r h
 obtain⟨p,ys,rfl,hq,q⟩:=h
 obtain⟨u,rfl,rx⟩:=y8 r
 cases rx
 have hn:=U7
 rcases hq with hq | hq
 ·obtain⟨its,r',pl,hz⟩:=I.list hq
  have hlen:=r'.length
  exact Calls.call_len_list pl.isList (by simp only[List.size_toArray] <;> omega) ⟨.int ys.length,H,I.tok _,⟨s.toks + 1,by rw[List.size_toArray,hlen]⟩,q⟩
 ·obtain⟨its,r',pl,hz⟩:=I.tuple hq
  have hlen:=r'.length
  exact len_tuple pl (by simp only[List.size_toArray] <;> omega) ⟨.int ys.length,H,I.tok _,⟨s.toks + 1,by rw[List.size_toArray,hlen]⟩,q⟩
theorem a3I:CallR X (.builtin "len") (λ xs H Q=>∃ z,xs=[.str z]/\z.length<=sizeLine/\Q (.int z.length) H):=by
 intro pins s Z H xs us Q I r h
 obtain⟨z,rfl,hz,q⟩:=h
 obtain⟨u,rfl,t,rfl⟩:=y8 r
 have hn:=U7
 exact len_str (by omega) ⟨.int z.length,H,I.tok _,⟨_,rfl⟩,q⟩
theorem CallR.or {f:Value}{r r':List V->Hp->VK->Prop}(h:CallR X f r)(h':CallR X f r'):CallR X f (λ xs H Q=>r xs H Q\/r' xs H Q):=by
 intro pins s Z H xs us Q I rs q
 rcases q with q | q
 ·exact h pins s Z H xs us Q I rs q
 ·exact h' pins s Z H xs us Q I rs q
theorem W8:CallR X (.type "list") (λ xs H Q=>∃ p ys,xs=[.ref p]/\(SqL X.K H p ys\/SqT X.K H p ys)/\∀ l,H l=none->Q (.ref l) (upd H l (.lst ys))):=by
 intro pins s Z H xs us Q I r h
 obtain⟨p,ys,rfl,hq,q⟩:=h
 obtain⟨u,rfl,rx⟩:=y8 r
 cases rx
 have fin:∀ (its:List Value),Vals ys its->ys.length<=sizeLine->∀ (h':Heap) (c':Nat),(∀ b o',s.heap.get? b=some o'->h'.get? b=some o') →
   h'.get? s.heap.objs.size=some { cls:=.type "list",dict:=none,data:=.seq its.toArray c',slots:=#[] }->EP X pins Z Q (.ref s.heap.objs.size) { s with heap:=h' }:=λ its r' hz h' c' kp e=>
  ⟨.ref s.heap.objs.size,_,I.laid (t':=s.toks) kp (Nat.le_refl _) (show ObjOk X.prog X.w _ h' _ (.lst ys) from⟨hz,its,c',r',e⟩),rfl,q _ (I.hok.fresh (Nat.le_refl _))⟩
 rcases hq with hq | hq
 ·obtain⟨its,r',pl,hz⟩:=I.list hq
  have hlen:=r'.length
  obtain⟨o,ho,hc,n,hd⟩:=pl.isList
  exact call_list_seq p (.inl rfl) ho hc hd (λ h' c' kp e=>fin its r' hz h' c' kp e) (by simp only[List.size_toArray] <;> omega)
 ·obtain⟨its,r',pl,hz⟩:=I.tuple hq
  have hlen:=r'.length
  obtain⟨o,ho,hc,n,hd⟩:=pl
  exact call_list_seq p (.inr rfl) ho hc hd (λ h' c' kp e=>fin its r' hz h' c' kp e) (by simp only[List.size_toArray] <;> omega)
def tyV (K:PySem.W.Frag)(T:String)(x:V)(H:Hp):Prop:=match x with
 | .str _=>T = "str"
 | .int _=>T = "int"
 | .ref p=>(T = "list" /\ ∃ xs,SqL K H p xs)\/(T = "tuple" /\ ∃ o,K.lookup p=some o/\o.cls=.type "tuple" /\ o.dict=none) ∨
   (T = "dict" /\ ((∃ kvs,H p=some (.dK kvs))\/∃ kvs,H p=some (.dT kvs)))\/(T = "set" /\ ∃ S n,H p=some (.set S n))
 | _=>False
theorem tyV_is {pins:List (Addr×Obj)}{Z:St}{H:Hp}{s:Shared}{T:String}{x:V}{v:Value}(I:Inv X pins Z H s)(r:RelV x v)(ty:tyV X.K T x H):
  s.TypeIs v T/\∀ a,v=.ref a->∃ ob,s.heap.get? a=some ob/\ob.dict=none:=by
 cases x with
 | str z=>
  obtain⟨t,rfl⟩:=r
  cases(show T = "str" from ty)
  exact⟨typeIs_str s z t,λ _ e=>nomatch e⟩
 | int i=>
  obtain⟨t,rfl⟩:=r
  cases(show T = "int" from ty)
  exact⟨typeIs_int s i t,λ _ e=>nomatch e⟩
 | ref p=>
  cases r
  rcases ty with⟨rfl,xs,hq⟩ | ⟨rfl,o,hk,hc,hd⟩ | ⟨rfl,hk⟩ | ⟨rfl,S,n,hk⟩
  ·obtain⟨its,_,pl,_⟩:=I.list hq
   refine⟨pl.isList.typeIs,λ a e=>?_⟩
   cases e
   obtain⟨o,n,e,c,hd,_⟩:=pl
   exact⟨o,e,hd⟩
  ·refine⟨⟨o,I.kIn p o hk,hc⟩,λ a e=>?_⟩
   cases e
   exact⟨o,I.kIn _ o hk,hd⟩
  ·have z:∃ o,s.heap.get? p=some o/\o.ExactDict:=by
    rcases hk with⟨kvs,hk⟩ | ⟨kvs,hk⟩
    ·obtain⟨_,_,_,_,o,_,_,e,ex,_⟩:=I.hok p _ hk
     exact⟨o,e,ex⟩
    ·obtain⟨_,_,_,_,o,_,_,e,ex,_⟩:=I.hok p _ hk
     exact⟨o,e,ex⟩
   obtain⟨o,e,ex⟩:=z
   refine⟨⟨o,e,ex.1⟩,λ a e2=>?_⟩
   cases e2
   exact⟨o,e,ex.2.1⟩
  ·obtain⟨o,_,_,_,e,ex,_⟩:=I.hok p _ hk
   refine⟨⟨o,e,ex.1⟩,λ a e2=>?_⟩
   cases e2
   exact⟨o,e,ex.2.1⟩
 | _=>exact False.elim ty
variable {o e:Expr}{es:List Expr}{to:TE}{t:TA}{name:Str}{apos cpos:Pos}{T id:String}{r:V->List V->Hp->VK->Prop}
/- xs.append(e),list.index on a module's tuple .. are MtR facts of 06m -/
end
def MtM (X:Cx)(id:String)(r:V->List V->Hp->VK->Prop):Prop:=
 ∀ (pins:List (Addr×Obj)) (s:Shared) (Z:St) (H:Hp) (x:V) (xs:List V) (v:Value) (us:List Value) (Q:VK),Inv X pins Z H s->RelV x v->Vals xs us->r x xs H Q →
  wpAny (model X.prog X.w) X.A (call (.builtin id) (v::us)) (EP X pins Z Q) X.xe s
theorem Vals.one:∀ {x:V}{us:List Value},Vals [x] us->∃ u,us=[u]/\RelV x u
 | _,_,.cons r .nil=>⟨_,rfl,r⟩
theorem Vals.reverse {xs:List V}{us:List Value}(h:Vals xs us):Vals xs.reverse us.reverse:=by
 induction h with
 | nil=>exact .nil
 | cons r t ih=>rw[List.reverse_cons,List.reverse_cons];exact Vals.append ih (.cons r .nil)
theorem Vals.rep {xs:List V}{us:List Value}(h:Vals xs us):∀ k:Nat,Vals (List.replicate k xs).flatten (List.replicate k us).flatten
 | 0=>.nil
 | k + 1=>by
  rw[List.replicate_succ,List.replicate_succ,List.flatten_cons,List.flatten_cons]
  exact Vals.append h (Vals.rep h k)
theorem a2Y (its:List Value):∀ (k:Nat) (acc:List Value),
  List.foldl (λ x1 x2=>x1++x2) acc.toArray (List.replicate k its.toArray)=(acc++(List.replicate k its).flatten).toArray
 | 0,acc=>by simp
 | k + 1,acc=>by
  have e:acc.toArray++its.toArray=(acc++its).toArray:=by simp
  have e2:(acc++its)++(List.replicate k its).flatten=acc++(List.replicate (k + 1) its).flatten:=by
   rw[List.replicate_succ,List.flatten_cons,List.append_assoc]
  rw[<- e2,<- a2Y its k (acc++its),<- e,List.replicate_succ,List.foldl_cons]
section
variable {X:Cx}{pins:List (Addr×Obj)}{Z:St}{H:Hp}{s:Shared}{l b:Addr}{xs ys zs:List V}
theorem Inv.lset {its its':List Value}{n:Nat}{f:Array Value->Array Value}{t':Nat}(I:Inv X pins Z H s)(hH:H l=some (.lst xs))
  (e:s.heap.get? l=some { cls:=.type "list",data:=.seq its.toArray n })(hf:f its.toArray=its'.toArray)(hv:Vals ys its')(hz:ys.length<=sizeLine):
  Inv X pins Z (upd H l (.lst ys)) { s with heap:=s.heap.update l (Obj.mapSeq f),toks:=t' }:=by
 have q:=PySem.IsL.update e f
 rw[hf]at q
 refine I.write (x:=l) (e:=l) (by rw[hH];exact trivial) (.inl rfl) (λ b' u hb hu=>(Heap.get?_update_other s.heap (Obj.mapSeq f) (Ne.symm hb)).trans hu) ⟨_,q⟩ ?_
 exact⟨hz,its',_,hv,q⟩
theorem Inv.lnew {its:List Value}{t':Nat}(I:Inv X pins Z H s)(hv:Vals ys its)(hz:ys.length<=sizeLine):
  Inv X pins Z (upd H s.heap.objs.size (.lst ys)) { s with heap:=s.heap.push { cls:=.type "list",data:=.seq its.toArray },toks:=t' }:=
 I.laid (λ _ _ q=>Heap.get?_push_of_some _ q) (Nat.le_refl _) ⟨hz,its,0,hv,Heap.get?_push_size _ rfl⟩
theorem Inv.fresh (I:Inv X pins Z H s):H s.heap.objs.size=none:=I.hok.fresh (Nat.le_refl _)
theorem Inv.lstM (I:Inv X pins Z H s)(hH:H l=some (.lst xs)):xs.length<=sizeLine/\∃ (its:List Value) (n:Nat),Vals xs its/\xs.length=its.length/\s.heap.get? l=some { cls:=.type "list",data:=.seq its.toArray n }:=by
 obtain⟨z,its,n,r,e⟩:=I.hok l _ hH
 exact⟨z,its,n,r,r.length,e⟩
theorem a4D {n:Nat}(h:n<=sizeLine):Builtin.List.listTooLong n=false:=by
 unfold Builtin.List.listTooLong
 exact decide_eq_false (by omega)
end
section
variable {X:Cx}
def rAppend:V->List V->Hp->VK->Prop:=λ x vs H Q=>∃ l xs y,x=.ref l/\vs=[y]/\H l=some (.lst xs)/\xs.length < sizeLine/\Q .non (upd H l (.lst (xs++[y])))
theorem a2Z:MtM X "list.append" rAppend:=by
 intro pins s Z H x vs v us Q I rx rv h
 obtain⟨l,xs,y,rfl,rfl,hH,hz,q⟩:=h
 cases rx
 obtain⟨u,rfl,ru⟩:=rv.one
 obtain⟨z,its,n,r,hl,e⟩:=I.lstM hH
 refine call_meets F.slot_list_append ⟨_,e,rfl⟩ F.entry_list_append (F.args_list_append_2 _ _) (PySem.list_append l its.toArray n u (by rw[List.size_toArray];omega)) ⟨e,?_⟩
 refine⟨.non,_,I.lset (its':=its++[u]) hH e (by simp) (r.append (.cons ru .nil)) ?_,rfl,q⟩
 rw[List.length_append,List.length_singleton]
 omega
def rExtend:V->List V->Hp->VK->Prop:=λ x vs H Q=>∃ l b xs zs,x=.ref l/\vs=[.ref b]/\H l=some (.lst xs)/\H b=some (.lst zs)/\xs.length + zs.length<=sizeLine/\Q .non (upd H l (.lst (xs++zs)))
theorem mt_extend:MtM X "list.extend" rExtend:=by
 intro pins s Z H x vs v us Q I rx rv h
 obtain⟨l,b,xs,zs,rfl,rfl,hH,hB,hz,q⟩:=h
 cases rx
 obtain⟨u,rfl,ru⟩:=rv.one
 cases ru
 obtain⟨z,its,n,r,hl,e⟩:=I.lstM hH
 obtain⟨z2,its2,n2,r2,hl2,e2⟩:=I.lstM hB
 have hsz:its.toArray.size + its2.toArray.size<=sizeLine:=by rw[List.size_toArray,List.size_toArray];omega
 have hlong:¬ (!its.toArray.isEmpty&&Builtin.List.listTooLong (its.toArray.size + its2.toArray.size))=true:=by
  rw[a4D hsz,Bool.and_false]
  exact Bool.false_ne_true
 refine call_meets F.slot_list_extend ⟨_,e,rfl⟩ F.entry_list_extend (F.args_list_extend_2 _ _)
  (AutoSeq1.list_extend_list_list_0 l its.toArray n b its2.toArray n2 hlong (by rw[List.size_toArray];omega) (by omega)) ⟨e,e2,?_⟩
 refine⟨.non,_,I.lset (its':=its++its2) hH e (by simp) (r.append r2) ?_,rfl,q⟩
 rw[List.length_append]
 omega
def rCat:R2:=λ x y H Q=>∃ l b xs zs,x=.ref l/\y=.ref b/\H l=some (.lst xs)/\H b=some (.lst zs)/\xs.length + zs.length<=sizeLine/\∀ p,H p=none->Q (.ref p) (upd H p (.lst (xs++zs)))
theorem op_cat:OpR X (binaryOp .Add) rCat:=by
 intro pins s Z H x y v u Q I rx ry h
 obtain⟨l,b,xs,zs,rfl,rfl,hH,hB,hz,q⟩:=h
 cases rx
 cases ry
 obtain⟨z,its,n,r,hl,e⟩:=I.lstM hH
 obtain⟨z2,its2,n2,r2,hl2,e2⟩:=I.lstM hB
 refine PySem.P.add_list e e2 ?_ (by rw[List.size_toArray,List.size_toArray];omega)
 have ea:its.toArray++its2.toArray=(its++its2).toArray:=by simp
 rw[ea]
 exact⟨.ref _,_,I.lnew (t':=s.toks) (r.append r2) (by rw[List.length_append];omega),rfl,q _ I.fresh⟩
def rRep:R2:=λ x y H Q=>∃ l k xs,x=.ref l/\y=.int k/\H l=some (.lst xs)/\-(2 ^ 63)<=k/\k < 2 ^ 63/\xs.length * k.toNat<=sizeLine ∧
 ∀ p,H p=none->Q (.ref p) (upd H p (.lst (List.replicate k.toNat xs).flatten))
theorem len_rep {α:Type}(xs:List α)(k:Nat):(List.replicate k xs).flatten.length=k * xs.length:=by
 induction k with
 | zero=>simp
 | succ k ih=>rw[List.replicate_succ,List.flatten_cons,List.length_append,ih,Nat.succ_mul,Nat.add_comm]
theorem op_rep:OpR X (binaryOp .Mult) rRep:=by
 intro pins s Z H x y v u Q I rx ry h
 obtain⟨l,k,xs,rfl,rfl,hH,h1,h2,hz,q⟩:=h
 cases rx
 obtain⟨t,rfl⟩:=ry
 obtain⟨z,its,n,r,hl,e⟩:=I.lstM hH
 have hlen:its.toArray.size * k.toNat<=sizeLine:=by rw[List.size_toArray,<- hl];exact hz
 have hcap:¬ its.toArray.size * k.toNat > (2 ^ 63 - 1) / 8:=by
  have:(sizeLine:Nat)<=(2 ^ 63 - 1) / 8:=by decide
  omega
 have hfit:¬ (!Builtin.List.listFitsIndex k)=true:=by
  rw[fitsIndex_both h1 h2]
  exact Bool.false_ne_true
 have hlong:¬ Builtin.List.listTooLong (its.toArray.size * k.toNat)=true:=by
  rw[a4D hlen]
  exact Bool.false_ne_true
 have hnew:List.foldl (λ x1 x2=>x1++x2) #[] (List.replicate (if its.toArray.isEmpty=true then 0 else k.toNat) its.toArray)=(List.replicate k.toNat its).flatten.toArray:=by
  have f0:∀ m:Nat,List.foldl (λ x1 x2=>x1++x2) #[] (List.replicate m its.toArray)=(List.replicate m its).flatten.toArray:=λ m=>by
   have:=a2Y its m []
   rw[List.nil_append]at this
   exact this
  rw[f0]
  cases its with
  | nil=>simp
  | cons a r'=>rw[if_neg (by simp)]
 refine wpAny_binaryOp_repeat_ref (T := "list") (U := "int") (by decide) ⟨_,e,rfl⟩ (λ s'=>typeIs_int s' k t) noFill_list_mul F.fills_int_mul F.slot_int_rmul repeat_list F.slot_int_index.lookup
  (call_meets F.slot_int_rmul (typeIs_int s k t) F.entry_int_rmul (F.args_int_rmul_2 _ _) (int___rmul___int_list k t l its.toArray n)
   ⟨e,rfl,⟨_,e,rfl⟩,call_meets F.slot_list_mul ⟨_,e,rfl⟩ F.entry_list_mul (F.args_list_mul_2 _ _) (AutoListH.list___mul___list_int_3 l its.toArray n k t hfit hcap hlong) ⟨e,?_⟩⟩)
 rw[hnew]
 exact⟨.ref _,_,I.lnew (t':=s.toks) (r.rep k.toNat) (by rw[len_rep,Nat.mul_comm];exact hz),rfl,q _ I.fresh⟩
end
section
variable {prog:Program}{w:World}{A:Around}{E:Value->Shared->Prop}{s:Shared}
set_option maxRecDepth 100000 in
end
section
variable {X:Cx}
end
end L2
namespace Att
open PySem PySem.W PySem.Calls PyProof.Rows
theorem a0P {P:Params}{h:Heap}:∀ (ns:List Int) (vs:List Value),WellAll P h vs (ns.map WData.int)->IntsAre vs ns:=by
 intro ns
 induction ns with
 | nil=>
  intro vs w
  rw[List.map_nil]at w
  cases w
  exact .nil
 | cons n ns ih=>
  intro vs w
  rw[List.map_cons]at w
  cases w with
  | cons a b=>
   cases a
   exact .cons _ _ (ih _ b)
theorem script_of {l:OpenLaw}{n:Nat}(hn:l.most=some n){P:Params}{h:Heap}{args:List WData}{vals:List Value}
  (hpre:l.row.toRowW.claim.pre args=true)(hwl:WellAll P h vals args):
  ∃ a vs ns,vals=[Value.ref a]/\args=[WData.list (ns.map WData.int)]/\h.get? a=some { cls:=.type "list",data:=.seq vs.toArray }/\IntsAre vs ns/\ns.length<=n:=by
 have hsh:WShape.hasAll [] args [.list .int]=true:=(pre_splitW hpre).1
 have hc:l.pre.holds [] { args:=args }=true:=(pre_splitW hpre).2
 obtain⟨d,r,rfl,h1,h2⟩:=hasAllW_cons hsh
 obtain rfl:=hasAllW_nil h2
 obtain⟨xs,rfl,h3⟩:=hasW_list h1
 obtain⟨ns,rfl⟩:=items_int h3
 have hlen:ns.length<=n:=by
  unfold OpenLaw.pre at hc
  have h4:(WTm.not (.lt (.lit (.int (n:Int))) (.len (.arg 0)))).holds [] { args:=[.list (ns.map .int)] }=true:=by
   have h4:=(holds_andW hc).1
   rw[hn]at h4
   exact h4
  have h5:=condW_of h4 (w_not (w_lt w_lit (w_len_list (w_arg rfl))))
  rw[List.length_map]at h5
  refine Nat.le_of_not_lt λ q=>?_
  have q':(n:Int) < ((ns.length:Nat):Int):=by omega
  first
   | (rw[decide_eq_true q']at h5;exact absurd h5 (by decide))
   | (simp at h5;omega)
 cases hwl with
 | cons w1 w2=>
  cases w2
  cases w1 with
  | list ho hall=>exact⟨_,_,ns,rfl,rfl,ho,a0P ns _ hall,hlen⟩
theorem post_true (l:OpenLaw)(args:List WData):l.row.toRowW.claim.post args (.bool true) args=true:=
 postW_of (r:=l.row.toRowW) (X:=(true==true))
  (show WShape.has [] (.bool true) .bool=true by first | rfl | decide | simp[WShape.has,WShape.arms,WShape.armsAll])
  (show(WTm.eq .res (.lit (.bool true))).value [] { args:=args,res:=some (.bool true),after:=args }=some (.bool (true==true)) from w_eq_bool (w_res rfl) w_lit) rfl
theorem a4E {l:OpenLaw}{n:Nat}{q:Program}{loose:List Str}{XP:(Str->Option Value)->Heap->Prop}{YP:World->Heap->Prop}{d:DefRec}
  (hn:l.most=some n)(hdf:d.params.defaults=[])
  (call:∀ (w:World) (s₀ s₁:Shared) (mg mb:Str->Option Value) (fa:Addr) (o:Obj) (pm cd doc:Value) (a:Addr) (vs:List Value) (ns:List Int),
   Ground q loose [] XP w s₀ mg mb s₁.heap->YP w s₁.heap →
   s₁.heap.get? fa=some o->o.data=.func (docDef d.name d.params d.body d.scope pm cd doc)->s₁.heap.CodeRec cd d.name->mg d.name=some (.ref fa) →
   s₁.heap.get? a=some { cls:=.type "list",data:=.seq vs.toArray }->IntsAre vs ns->ns.length<=n->s₁.gens=#[] →
   codeAny (model l.prog w) callerA (.call (.ref fa) ⟨[.ref a],[]⟩) (λ r s'=>r=.ok (.ret (.bool true))/\OldK s₁.heap s'.heap/\s'.os=s₁.os/\AllBare s'.gens) s₁):
  WalkO q loose XP YP l.row.toRowW d [] (λ f vs=>PySem.call f vs):=by
 intro w s₀ s₁ mg mb G Y fa o pm cd doc dV kV ho hd hcd hD hmg hg args vals as hpre hlay hrd hwl hlo
 obtain rfl:dV=.none:=Dflts.none hD hdf
 obtain rfl:kV=.none:=Dflts.noKw hD
 obtain⟨a,vs,ns,rfl,rfl,hobj,hints,hlen⟩:=script_of hn hpre hwl
 refine enter_call (codeAny_mono (call w s₀ s₁ mg mb fa o pm cd doc a vs ns G Y ho (fd_plain hd) hcd hmg hobj hints hlen hg) λ r s' hq=>?_)
 obtain⟨rfl,h2,h3,h4⟩:=hq
 exact⟨.inl ⟨.bool true,.bool true,[],rfl,λ _=>rfl,.bool true,post_true l _,λ _=>⟨List.Pairwise.nil,λ _ hm=>(nomatch hm)⟩⟩,h2,h3,h4⟩
section
variable {prog:Program}{w:World}{A:Around}{E:Value->Shared->Prop}{s:Shared}{K:Frag}
end
end Att
namespace L2
open PySem PySem.Spec PyProof.Rows
theorem a3a:∀ {vs:List Value}{ns:List Int},IntsAre vs ns->Vals (ns.map V.int) vs
 | _,_,.nil=>.nil
 | _,_,.cons n t h=>.cons ⟨t,rfl⟩ (a3a h)
def Only (H:Hp):Prop:=∀ b,H b=none\/∃ o xs,H b=some (.frz o (.lst xs))
theorem law_call {P:Program}{w:World}{K:PySem.W.Frag}{mg mb:Str->Option Value}{CX:CXT}{k:Nat}{fa a:Addr}{fd:FuncData}{x:Str}{sp:Sp}{s₁:Shared}{vs:List Value}{ns:List Int}
  (KX:K.In s₁.heap)(hns:s₁.heap.Ns mainGlobals mg)(hb:s₁.heap.Ns builtinsNs mb)(hbb:∀ x:Str,x ≠ "__name__" -> mb x=bootBuiltins x)(hlim:s₁.heap.NoLimit)(hg:s₁.gens=#[])
  (ha:s₁.heap.get? a=some { cls:=.type "list",data:=.seq vs.toArray })(hi:IntsAre vs ns)(hl:ns.length<=sizeLine)(hr:Room k callerA)
  (F:∀ base:Heap,K.In base->base.Ns mainGlobals mg->FnOk P w K mg base CX k fa fd [x] sp)(hbind:∀ (s:Shared) (u:Value),BindsTo s fd ⟨[u],[]⟩ [(x,u)])
  (hsp:∀ H:Hp,Only H->SqL K H a (ns.map V.int)->sp [.ref a] H (λ v _=>v=.bl true) λ _ _ _=>False)
  (hCX:∀ H e s',CX [] H s₁ (λ _ _ _=>False) e s'->False):
  codeAny (model P w) callerA (.call (.ref fa) ⟨[.ref a],[]⟩) (λ r s'=>r=.ok (.ret (.bool true))/\OldK s₁.heap s'.heap/\s'.os=s₁.os/\AllBare s'.gens) s₁:=by
 have rv:=a3a hi
 have lenV:=hi.length
 have core:∀ H:Hp,Only H->SqL K H a (ns.map V.int)->HOk P w H s₁.heap->(∀ b,H b≠none->b=a)->(H a≠none->K.lookup a=none) →
   codeAny (model P w) callerA (.call (.ref fa) ⟨[.ref a],[]⟩) (λ r s'=>r=.ok (.ret (.bool true))/\OldK s₁.heap s'.heap/\s'.os=s₁.os/\AllBare s'.gens) s₁:=by
  intro H hO hS hok hA hK
  have F3:∀ {b:Addr}{o:Obj},s₁.heap.get? b=some o->H b=none->(hidT s₁.heap H).get? b=some o:=λ e n=>hidT_get e n
  have noA:∀ {b:Addr}{o:Obj}{es:Array DictEntry}{ep:Nat},s₁.heap.get? b=some o->o.data=.dict es ep->H b=none:=λ {b o es ep} e d=>by
   cases q:H b with
   | none=>rfl
   | some u=>
    have e':b=a:=hA b (by rw[q];simp)
    subst e'
    rw[ha]at e;cases e
    have d':Data.seq vs.toArray _=Data.dict es ep:=d
    cases d'
  have nsK:∀ {b:Addr}{m:Str->Option Value},s₁.heap.Ns b m->(hidT s₁.heap H).Ns b m:=λ {b m} ⟨o,es,ep,e,d,r⟩=>⟨o,es,ep,F3 e (noA e d),d,r⟩
  have hKb:K.In (hidT s₁.heap H):=λ b o e=>F3 (KX b o e) (by
   cases q:H b with
   | none=>rfl
   | some u=>
    have e':b=a:=hA b (by rw[q];simp)
    subst e'
    rw[hK (by rw[q];simp)]at e;cases e)
  have hM:Mod K mg (hidT s₁.heap H):=⟨hKb,nsK hns,⟨mb,nsK hb,hbb⟩,let ⟨mc,h1,h2⟩:=hlim;⟨mc,nsK h1,h2⟩⟩
  have e0:Env0 P w K mg (hidT s₁.heap H) callerA [] s₁ H:=⟨rfl,hM,λ b o e=>of_hidT e,Nat.le_of_eq (hidT_size _ _),trivial,λ b hb=>absurd (show b∈([]:List Addr) from hb) (by simp),hok,.of_eq hg⟩
  refine codeAny_mono ((F _ hKb (nsK hns)).run callerA [] s₁ H ⟨[.ref a],[]⟩ [.ref a] [.ref a] _ _ hr e0 (hbind s₁ (.ref a)) (.cons rfl .nil) (hsp H hO hS)) λ r s' h=>?_
  cases r with
  | error e=>exact(hCX H e s' h).elim
  | ok fl=>
   cases fl with
   | next=>exact False.elim h
   | brk=>exact False.elim h
   | cont=>exact False.elim h
   | ret u=>
    obtain⟨v,H',os,bare,un,hok',r',q⟩:=h
    have q':v=.bl true:=q
    subst q'
    obtain rfl:u=Value.bool true:=r'
    refine⟨rfl,OldK.of_keep λ b o e=>?_,os,bare⟩
    cases q:H b with
    | none=>exact un.keep b o e q (by intro z;exact absurd (show b∈([]:List Addr) from z) (by simp)) (by simp)
    | some u=>
     rcases hO b with z | ⟨ob,xs,z⟩
     ·rw[q]at z;cases z
     ·have z2:=un.frzs b ob _ z
      obtain⟨e1,_⟩:=hok b _ z
      obtain⟨e2,_⟩:=hok' b _ z2
      rw[e]at e1;cases e1
      exact e2
 cases hk:K.lookup a with
 | some o=>
  have e:=KX a o hk
  rw[ha]at e
  cases e
  refine core (λ _=>none) (λ _=>.inl rfl) (.inr ⟨_,vs.toArray,_,hk,rfl,rfl,rfl,by rw[List.size_toArray,lenV];exact hl,by simpa using rv⟩) (λ b u z=>by have z':(none:Option HO)=some u:=z;cases z') (λ b z=>absurd rfl z) λ z=>absurd rfl z
 | none=>
  refine core (λ b=>if b=a then some (.frz { cls:=.type "list",data:=.seq vs.toArray } (.lst (ns.map V.int))) else none) (λ b=>?_) (.inl (.inr ⟨{ cls:=.type "list",data:=.seq vs.toArray },if_pos rfl⟩)) (λ b u z=>?_) (λ b z=>?_) λ _=>hk
  ·by_cases hb:b=a
   ·exact .inr ⟨_,_,if_pos hb⟩
   ·exact .inl (if_neg hb)
  ·by_cases hb:b=a
   ·have z':=(if_pos hb).symm.trans z
    cases z'
    subst hb
    exact⟨ha,by rw[List.length_map];exact hl,vs,_,rv,ha⟩
   ·have z':=(if_neg hb).symm.trans z
    cases z'
  ·by_cases hb:b=a
   ·exact hb
   ·exact absurd (if_neg hb) z
end L2
/- THE LAST THEOREM (shape;LID,My.* are yours):
   My.Adr: a structure of the addresses that your layer names (classes,functions);My.Txt K t: a structure (Prop) of the equations over K;
   My.txt_mk:{K}{implicit addresses ..} (e1:nsIn K mainGlobals "law" = some (some (.ref f))) (e2:K.lookup f=some ⟨oc,od,.func (fnOf "law" "law" params body scope dV kV doc pm an cdv ct),sl⟩) (e3:codeIn K cdv "law" = true) ..:∃ t,My.Txt K t
set_option maxRecDepth 100000 in
set_option maxHeartbeats 0 in
(the tactic k_is has no namespace: write k_is) -/
namespace L2
open PySem PySem.Spec PyProof.Rows
def D3 (s:Stmt)(j:Nat):Stmt:=match s with
 | .ClassDef _ _ _ body _ _ _ _ _ _ _=>body.getD j (.Pass ⟨0,0,0,0⟩)
 | _=>.Pass ⟨0,0,0,0⟩
def F0 (s:Stmt):Arguments:=match s with
 | .FunctionDef _ a _ _ _ _ _ _ _ _=>a
 | _=>{ posonlyargs:=[],args:=[],vararg:=none,kwonlyargs:=[],kw_defaults:=[],kwarg:=none,defaults:=[] }
def a9 (s:Stmt):List Stmt:=match s with
 | .FunctionDef _ _ b _ _ _ _ _ _ _=>b
 | _=>[]
def a4 (s:Stmt):Scope:=match s with
 | .FunctionDef _ _ _ _ _ _ sc _ _ _=>sc
 | _=>{ kind:=.function,names:=[],isGenerator:=false,isCoroutine:=false }
abbrev CX0:CXT:=λ _ _ _ _ _ _=>False
abbrev E0:XK:=λ _ _ _=>False
theorem pass0 {X:Cx}:C2 CX0 X E0:=λ _ _ _ _ _ _ _ h=>h.elim
structure Fun (K:PySem.W.Frag) (x qual:Str) (st:Stmt) (f:Addr) (fd:FuncData):Prop where
 ex:∃ (oc:Value) (od:Option Addr) (kV doc pm:Value) (an:Option Addr) (cdv ct:Value) (osl:Array (Option Value)),
  fd=PySem.W.fnOf x qual (F0 st) (a9 st) (a4 st) .none kV doc pm an cdv ct/\K.lookup f=some ⟨oc,od,.func fd,osl⟩/\PySem.W.codeIn K cdv qual=true
 kp:PySem.W.keepIn K (.ref f)=true
section
variable {P:Program}{w:World}{K:PySem.W.Frag}{mg:Str->Option Value}{base:Heap}
theorem Fun.binds {x qual:Str}{st:Stmt}{f:Addr}{fd:FuncData}{ps:List Str}(F:Fun K x qual st f fd)
  (h:∀ (kV doc pm:Value) (an:Option Addr) (cdv ct:Value) (us:List Value),us.length=ps.length->bindArgs (PySem.W.fnOf x qual (F0 st) (a9 st) (a4 st) .none kV doc pm an cdv ct) ⟨us,[]⟩=pure (ps.zip us)):Binds K fd ps []:=by
 obtain⟨oc,od,kV,doc,pm,an,cdv,ct,osl,rfl,lk,hcd⟩:=F.ex
 exact .all (h kV doc pm an cdv ct)
theorem fun_mk {x qual:Str}{st:Stmt}{f:Addr}{oc:Value}{od an:Option Addr}{osl:Array (Option Value)}{kV doc pm cdv ct:Value}(l:K.lookup f=some ⟨oc,od,.func (PySem.W.fnOf x qual (F0 st) (a9 st) (a4 st) .none kV doc pm an cdv ct),osl⟩)
  (c:PySem.W.codeIn K cdv qual=true)(k:PySem.W.keepIn K (.ref f)=true):Fun K x qual st f (PySem.W.fnOf x qual (F0 st) (a9 st) (a4 st) .none kV doc pm an cdv ct):=⟨⟨oc,od,kV,doc,pm,an,cdv,ct,osl,rfl,l,c⟩,k⟩
end
theorem N1 {A:Around}{k:Nat}(hr:Room k A):A.units + 1 < cLine:=Nat.lt_of_le_of_lt (Nat.add_le_add_left (by decide:1<=64) _) hr.units
theorem small1000 {n:Nat}(h:n<=1000):n < sizeLine:=Nat.lt_of_le_of_lt h (by decide)
section
variable {X:Cx}
theorem call_lenD:CallR X (.builtin "len") (λ xs H Q=>∃ a kvs,xs=[V.ref a]/\H a=some (.dK kvs)/\Q (.int kvs.length) H):=by
 intro pins s Z H xs us Q I r h
 obtain⟨a,kvs,rfl,ha,q⟩:=h
 obtain⟨u,rfl,ru⟩:=y8 r
 cases ru
 exact d_len I (.inl ha) λ t s' I'=>⟨.int kvs.length,H,I',⟨t,rfl⟩,q⟩
end
def Same (H H':Hp):Prop:=∀ b o,H b=some o->H' b=some o
theorem Same.refl (H:Hp):Same H H:=λ _ _ h=>h
theorem Same.trans {H H1 H2:Hp}(a:Same H H1)(b:Same H1 H2):Same H H2:=λ c o h=>b c o (a c o h)
theorem Same.free {H H':Hp}(e:Same H H'){l:Addr}(h:H' l=Option.none):H l=Option.none:=by
 cases q:H l with
 | none=>rfl
 | some o=>
  rw[e l o q]at h
  cases h
theorem Same.seq {K:PySem.W.Frag}{H H':Hp}{a:Addr}{xs:List V}(e:Same H H')(h:SqL K H a xs):SqL K H' a xs:=by
 rcases h with(h | ⟨o,h⟩) | h
 ·exact .inl (.inl (e _ _ h))
 ·exact .inl (.inr ⟨o,e _ _ h⟩)
 ·exact .inr h
section
variable {κ:Type}[DecidableEq κ]
theorem nd_snoc:∀ {l:List κ}{k:κ},l.Nodup->¬ k∈l->(l++[k]).Nodup
 | [],k,_,_=>by simp
 | a::r,k,h,hk=>by
  obtain⟨h1,h2⟩:=List.nodup_cons.mp h
  show(a::(r++[k])).Nodup
  refine List.nodup_cons.mpr ⟨λ m=>?_,nd_snoc h2 λ m=>hk (List.mem_cons.mpr (Or.inr m))⟩
  rcases List.mem_append.mp m with q | q
  ·exact h1 q
  ·exact hk (List.mem_cons.mpr (Or.inl (List.mem_singleton.mp q).symm))
end
theorem p7 {H:Hp}{p:Addr}{o:HO}(h:H p=none):Same H (upd H p o):=λ b u e=>by
 rw[a5 (c9 e h)]
 exact e
theorem Same.put {H H':Hp}{p:Addr}{o:HO}(s:Same H H')(h:H p=none):Same H (L2.upd H' p o):=λ b u e=>by
 rw[a5 (c9 e h)]
 exact s b u e
@[irreducible] def br (c:Bool)(A B:Prop):Prop:=match c with
 | true=>A
 | false=>B
theorem m5 {c:Bool}{A B:Prop}(hc:c=true)(h:A):br c A B:=by
 subst hc
 unfold br
 exact h
theorem i8 {c:Bool}{A B:Prop}(hc:c=false)(h:B):br c A B:=by
 subst hc
 unfold br
 exact h
theorem a3J {A B:Prop}:br true A B=A:=by unfold br;rfl
theorem a1v {A B:Prop}:br false A B=B:=by unfold br;rfl
theorem A4 {c:Bool}{A B:Prop}(h:br c A B):if c=true then A else B:=by
 cases c
 ·rw[a1v]at h
  simpa using h
 ·rw[a3J]at h
  simpa using h
theorem C8 {c:Bool}{A B:Prop}(h1:c=true->A)(h2:c=false->B):br c A B:=by
 cases c
 ·exact i8 rfl (h2 rfl)
 ·exact m5 rfl (h1 rfl)
theorem a0j {c:Prop}[Decidable c]{A B:Prop}(h1:c->A)(h2:¬ c->B):br (decide c) A B:=C8 (λ h=>h1 (of_decide_eq_true h)) (λ h=>h2 (of_decide_eq_false h))
theorem br_not {c:Bool}{A B:Prop}(h:br c B A):br (!c) A B:=by
 cases c
 ·rw[a1v]at h
  exact m5 rfl h
 ·rw[a3J]at h
  exact i8 rfl h
theorem a4F {X:Cx}:CallR X (.builtin "isinstance") (λ xs H Q=>∃ (x:V) (t:Value) (b:Bool) (T:String),xs=[x,.ty T]/\TyOf X.K H x t/\PySem.W.kitOne X.K t (.type T)=some b/\Q (.bl b) H):=by
 intro pins s Z H xs us Q I r h
 obtain⟨x,t,b,T,rfl,ty,e,q⟩:=h
 obtain⟨u,w',rfl,ru,rw'⟩:=a2O r
 cases rw'
 exact isinst_ok I ru ty e λ tk=>⟨.bl b,H,I.tok tk,rfl,q⟩
def w5 (H:Hp):V->Option String
 | .non=>some "NoneType"
 | .bl _=>some "bool"
 | .int _=>some "int"
 | .str _=>some "str"
 | .ref a=>match H a with
  | some (.lst _)=>some "list"
  | some (.frz _ (.lst _))=>some "list"
  | some (.tup _)=>some "tuple"
  | some (.dK _)=>some "dict"
  | some (.dT _)=>some "dict"
  | _=>none
 | _=>none
theorem tyOf_kind {K:PySem.W.Frag}{H:Hp}{x:V}{T:String}(e:w5 H x=some T):TyOf K H x (.type T):=by
 unfold w5 at e
 split at e
 ·cases e;exact .non
 ·cases e;exact .bl _
 ·cases e;exact .int _
 ·cases e;exact .str _
 ·split at e
  ·cases e;exact .lst (by assumption)
  ·cases e;exact .frz (by assumption)
  ·cases e;exact .tup (by assumption)
  ·cases e;exact .dK (by assumption)
  ·cases e;exact .dT (by assumption)
  ·cases e
 ·cases e
def A5 (S T:String):Bool:=S==T||(S == "bool" && T == "int")
def a1w:List String:=["NoneType", "bool", "int", "str", "list", "tuple", "dict"]
theorem kit_tt {K:PySem.W.Frag}{S T:String}{l:List Value}(hm:PySem.W.kitMeta T=true)(hl:fastBuiltinMro S=some l):PySem.W.kitOne K (.type S) (.type T)=some ((Value.type S==Value.type T)||l.contains (.type T)):=by
 show(if (Value.type S==Value.type T)=true then some true else if PySem.W.kitMeta T=true then(fastBuiltinMro S).map (·.contains (.type T)) else none)=_
 rw[hm,hl]
 cases(Value.type S==Value.type T) <;> rfl
def rIsi:List V->Hp->VK->Prop:=λ xs H Q=>∃ (x:V) (S T:String),xs=[x,.ty T]/\w5 H x=some S/\T∈["str", "int", "bool", "list", "tuple", "dict"]/\Q (.bl (A5 S T)) H
theorem kindV_own {H:Hp}{x:V}{S:String}(e:w5 H x=some S):S∈a1w:=by
 unfold w5 at e
 split at e
 ·cases e;decide
 ·cases e;decide
 ·cases e;decide
 ·cases e;decide
 ·split at e <;> first | (cases e;done) | (cases e;decide)
 ·cases e
theorem kit_own {K:PySem.W.Frag}:∀ S∈a1w,∀ T∈["str", "int", "bool", "list", "tuple", "dict"],PySem.W.kitOne K (.type S) (.type T)=some (A5 S T):=by
 intro S hS T hT
 have hm:PySem.W.kitMeta T=true:=by
  revert T
  decide +kernel
 have hl:∃ l,fastBuiltinMro S=some l/\∀ T∈["str", "int", "bool", "list", "tuple", "dict"],((Value.type S==Value.type T)||l.contains (.type T))=A5 S T:=by
  revert S
  have:∀ S∈a1w,(match fastBuiltinMro S with | some l=>["str", "int", "bool", "list", "tuple", "dict"].all λ T=>((Value.type S==Value.type T)||l.contains (.type T))==A5 S T | none=>false)=true:=by decide +kernel
  intro S hS
  have e:=this S hS
  split at e
  ·rename_i l hl
   refine⟨l,hl,λ T hT=>?_⟩
   exact eq_of_beq (List.all_eq_true.mp e T hT)
  ·cases e
 obtain⟨l,h1,h2⟩:=hl
 rw[kit_tt hm h1,h2 T hT]
theorem call_isi {X:Cx}:CallR X (.builtin "isinstance") rIsi:=by
 intro pins s Z H xs us Q I r h
 obtain⟨x,S,T,rfl,e,hT,q⟩:=h
 exact a4F pins s Z H _ us Q I r ⟨x,.type S,A5 S T,T,rfl,tyOf_kind e,kit_own S (kindV_own e) T hT,q⟩
theorem op_le_str {X:Cx}:OpR X (compareOp .LtE) (λ x y H Q=>∃ i j,x=.str i/\y=.str j/\Q (.bl (!decide (j.cps.toList < i.cps.toList))) H):=by
 intro pins s Z H x y v u Q I rx ry h
 obtain⟨i,j,rfl,rfl,q⟩:=h
 obtain⟨t,rfl⟩:=rx
 obtain⟨t',rfl⟩:=ry
 exact PySem.P.le_str (a0f I q rfl)
theorem sl_str {X:Cx}:SlR X (λ x lo hi H Q=>∃ z,x=.str z/\z.length<=sizeLine/\Q (.str (Txt.slice z lo hi)) H):=by
 intro pins s Z H x v vl vu lo hi sl Q I rx hs pl pu h
 obtain⟨z,rfl,hz,q⟩:=h
 obtain⟨t,rfl⟩:=rx
 refine⟨"str",_,F.slot_str_getitem.lookup,typeIs_str _ _ _,?_⟩
 have go:∀ (l u:Option (Int×Tok)),vl=partValue l->vu=partValue u->lo=l.map (·.1)->hi=u.map (·.1)->wpAny (model X.prog X.w) X.A (getItem (.str z t) (.ref sl)) (EP X pins Z Q) X.xe s:=by
  intro l u e1 e2 e3 e4
  subst e1 e2 e3 e4
  refine wpAny_getItem_str_slice (l:=l) (u:=u) (st:=none) hs rfl ?_
  exact post_val_or_str ⟨Nat.le_trans (Txt.slice_le z _ _) hz,λ t' k=>⟨.str _,H,I.tok k,⟨t',rfl⟩,q⟩⟩
 cases pl with
 | none=>
  cases pu with
  | none=>exact go none none rfl rfl rfl rfl
  | int i t'=>exact go none (some (i,t')) rfl rfl rfl rfl
 | int j t2=>
  cases pu with
  | none=>exact go (some (j,t2)) none rfl rfl rfl rfl
  | int i t'=>exact go (some (j,t2)) (some (i,t')) rfl rfl rfl rfl
def repS (z:Str)(n:Nat):Str:=⟨(List.replicate n z.cps.toList).flatten.toArray⟩
theorem a4G (z:Str)(n:Nat):(repS z n).length=n * z.length:=by
 show((List.replicate n z.cps.toList).flatten.toArray).size=n * z.cps.size
 rw[List.size_toArray,List.length_flatten,List.map_replicate,List.sum_replicate_nat,Array.length_toList]
theorem a3b (a:Array Nat):∀ (n:Nat) (acc:Array Nat),((List.replicate n a).foldl (·++·) acc).toList=acc.toList++(List.replicate n a.toList).flatten
 | 0,acc=>by simp
 | n + 1,acc=>by
  rw[List.replicate_succ,List.foldl_cons,a3b a n,Array.toList_append,List.replicate_succ,List.flatten_cons,List.append_assoc]
theorem a5P {X:Cx}:OpR X (binaryOp .Mult) (λ x y H Q=>∃ z n,x=.str z/\y=.int n/\0 < z.length/\0<=n/\n < 2 ^ 31/\n.toNat * z.length<=sizeLine/\Q (.str (repS z n.toNat)) H):=by
 intro pins s Z H x y v u Q I rx ry h
 obtain⟨z,n,rfl,rfl,h0,hn,h1,hz,q⟩:=h
 obtain⟨t,rfl⟩:=rx
 obtain⟨t',rfl⟩:=ry
 have hs:sizeLine=16777216:=sizeLine_eq
 by_cases hn0:n < 1
 ·have e:n=0:=by omega
  subst e
  refine PySem.P.mul_str_none (by decide) (by decide) ⟨.str (repS z 0),H,I.tok _,⟨_,rfl⟩,q⟩
 ·have hz':z.length * n.toNat<=sizeLine:=by rw[Nat.mul_comm];exact hz
  have ez:⟨(List.replicate n.toNat z.cps).foldl (·++·) #[]⟩=repS z n.toNat:=by
   unfold repS
   congr 1
   apply Array.toList_inj.mp
   rw[a3b]
   simp
  refine PySem.P.mul_str (by simp;omega) (λ _ _=>?_) (λ _ _=>?_) ?_
  ·have e1:(z.length:Int) * n<=16777216:=by
    have:=hz'
    have e2:((z.length * n.toNat:Nat):Int)=(z.length:Int) * n:=by rw[Int.natCast_mul,Int.toNat_of_nonneg hn]
    omega
   intro h3
   have h4:(2 ^ 63 - 1) / n < (z.length:Int):=h3
   have h5:(2 ^ 63 - 1:Int) < (z.length:Int) * n:=Int.lt_mul_of_ediv_lt (by omega) h4
   omega
  ·unfold Builtin.Str.tooLong
   exact decide_eq_false (by omega)
  ·rw[if_neg hn0]
   by_cases h1':(n==1||z.length==0)=true
   ·rw[if_pos h1']
    have en:n=1:=by
     rcases Bool.or_eq_true _ _ ▸ h1' with z1 | z1
     ·exact eq_of_beq z1
     ·have:=eq_of_beq z1;omega
    subst en
    have er:repS z (1:Int).toNat=z:=by
     unfold repS
     simp
    rw[er]at q
    exact⟨.str z,H,I,⟨_,rfl⟩,q⟩
   ·rw[if_neg h1',ez]
    exact⟨by show(repS z n.toNat).length<=sizeLine;rw[a4G];exact hz,.str _,H,I.tok _,⟨_,rfl⟩,q⟩
theorem a4H {X:Cx}(hc:X.calm=true):CallR X (.builtin "all") (λ xs H Q=>∃ p bs,xs=[.ref p]/\SqL X.K H p (List.map V.bl bs)/\Q (.bl (bs.all id)) H):=by
 intro pins s Z H xs us Q I r h
 obtain⟨p,bs,rfl,hp,q⟩:=h
 obtain⟨u,rfl,ru⟩:=y8 r
 cases ru
 obtain⟨its,rv,pl,hz⟩:=I.list hp
 have hlt:p < s.heap.objs.size:=by
  obtain⟨o,n,e,_⟩:=pl
  exact Heap.lt_size e
 have hlen:its.length=bs.length:=by rw[<- rv.length,List.length_map]
 refine call_all_walk (wpAny_pyIter_list pl.isList ?_)
 refine⟨s.heap.objs.size,_,_,_,_,_,λ i=>bs.getD i true,rfl,Walks.list (show X.A.in1.handled=none from I.ok.hd hc) s.heap.objs.size p (Nat.ne_of_lt hlt) its.toArray,⟨⟨_,Heap.get?_push_size _ rfl,rfl,rfl⟩,pl.isList.at λ o e=>Heap.get?_push_of_some _ e⟩,?_,?_⟩
 ·intro i v s' Q' E' hv hq
  have hv':its[i]?=some v:=by simpa using hv
  have hb:bs[i]?=some (bs.getD i true):=by
   have hi:i < bs.length:=by rw[<- hlen];exact(Zg hv').1
   simp[List.getD,hi]
  obtain⟨u,hu,ru⟩:=rv.get (i:=i) (x:=.bl (bs.getD i true)) (by rw[List.getElem?_map,hb];rfl)
  rw[hv']at hu
  cases hu
  cases ru
  exact wpAny_truthy_bool hq
 ·intro h' tk hk
  have e:((List.range its.toArray.size).all λ i=>bs.getD i true)=bs.all id:=by
   rw[List.size_toArray,hlen]
   rw[Bool.eq_iff_iff,List.all_eq_true,List.all_eq_true]
   constructor
   ·intro h b hb
    obtain⟨i,hi,e⟩:=List.mem_iff_getElem.mp hb
    have:=h i (List.mem_range.mpr hi)
    simp[List.getD,hi,e]at this
    exact this
   ·intro h i hi
    have hi':=List.mem_range.mp hi
    have:=h bs[i] (List.getElem_mem hi')
    simp[List.getD,hi']
    exact this
  rw[e]
  exact⟨.bl _,H,I.kept (h':=h') (t':=tk) λ b o eo=>hk b o (by
   have:b < s.heap.objs.size:=Heap.lt_size eo
   simp
   exact Nat.ne_of_lt this) (Heap.get?_push_of_some _ eo),rfl,q⟩
theorem call_all0 {X:Cx}(hc:X.calm=true):CallR X (.builtin "all") (λ xs H Q=>∃ p bs,xs=[.ref p]/\Rd H p (.lst (List.map V.bl bs))/\Q (.bl (bs.all id)) H):=by
 intro pins s Z H xs us Q I r h
 obtain⟨p,bs,e,hp,q⟩:=h
 exact a4H hc pins s Z H xs us Q I r ⟨p,bs,e,.inl hp,q⟩
theorem Turn.imp {P:Program}{w:World}{K:PySem.W.Frag}{tg:Expr}{J J':It}{fp:List Addr}{it:Addr}{tn:Nat->Heap->Prop}(T:Turn P w K tg J fp it tn)
  (hg:∀ i H,J'.go i H->J.go i H)(hy:∀ i H x H',J'.go i H->J.yld i H x H'->J'.yld i H x H')(hs:∀ i H,J'.stop i H->J.stop i H):Turn P w K tg J' fp it tn:=
 ⟨T.mem,T.obj,T.keep,λ X e1 e2 e3 hc i pins s Z H E I hf st g=>thn (T.item X e1 e2 e3 hc i pins s Z H E I hf st (hg i H g)) λ r s1 ⟨u,e,h⟩=>⟨u,e,thn h λ _ s2 ⟨x,H',I',rx,y,st',fr⟩=>⟨x,H',I',rx,hy i H x H' g y,st',fr⟩⟩,
  λ X e1 e2 e3 hc i pins s Z H E I hf st g=>T.done X e1 e2 e3 hc i pins s Z H E I hf st (hs i H g),T.self⟩
def Itl0 (a:Addr):It:=⟨λ i H=>∃ xs x,Rd H a (.lst xs)/\xs[i]?=some x,λ i H x H'=>H'=H/\∀ xs,Rd H a (.lst xs)->xs[i]?=some x,λ i H=>∃ xs,Rd H a (.lst xs)/\xs.length<=i⟩
def Itt0 (a:Addr):It:=⟨λ i H=>∃ xs x,Rd H a (.tup xs)/\xs[i]?=some x,λ i H x H'=>H'=H/\∀ xs,Rd H a (.tup xs)->xs[i]?=some x,λ i H=>∃ xs,Rd H a (.tup xs)/\xs.length<=i⟩
def Its (z:Str):It:=⟨λ i _=>i < z.length,λ i H x H'=>H'=H/\∃ c,z.cps[i]?=some c/\x=.str ⟨#[c]⟩,λ i _=>z.length<=i⟩
theorem turn_str {P:Program}{w:World}{K:PySem.W.Frag}{tg:Expr}(it:Addr)(z:Str)(t:Tok)(ty:String)(hty:ty = "str_ascii_iterator" \/ ty = "str_iterator"):Turn P w K tg (Its z) [it] it (λ i h=>h.IsStrIter it ty z t i) where
 mem:=by simp
 obj:=λ i h st b hb=>by
  have e:b=it:=by simpa using hb
  subst e
  obtain⟨o,e,c,d⟩:=st
  exact⟨o,e,λ v z=>by rw[d]at z;cases z⟩
 keep:=λ i h h' st k=>by
  obtain⟨o,e,r⟩:=st
  exact⟨o,k it (by simp) o e,r⟩
 item:=by
  intro X hP hw hK hc i pins s Z H E I hf st hg
  subst hP hw hK
  obtain⟨f0,f1,f2,f3,f4,f5⟩:=hf it (by simp)
  have hg':i < z.cps.size:=hg
  have W:Walks X.prog X.w X.A it [it] [it] z.cps.size (SignAt z) (λ i h=>h.IsStrIter it ty z t i):=by
   rcases hty with rfl | rfl
   ·exact Walks.strAscii (I.ok.hd hc) it z t
   ·exact Walks.strWide (I.ok.hd hc) it z t
  refine W.item i s _ _ hg' st λ v h' tk hv st' kk=>?_
  obtain⟨c,u,hcu,rfl⟩:=hv
  have I1:Inv X pins Z H { s with heap:=h',toks:=tk }:=I.turned (λ b o hb e=>kk b o (by simpa using hb) e) f0 f1 f3 f4 f5
  obtain⟨o,e,cl,d⟩:=id st'
  have hn:["enumerate", "zip", "dict_itemiterator", "dict_reverseitemiterator", "odict_iterator", "itertools.zip_longest", "itertools.pairwise"].contains ty=false:=by
   rcases hty with rfl | rfl <;> decide
  exact⟨_,rfl,a1o (s:={ s with heap:=h',toks:=tk }) e cl d hn ⟨.str ⟨#[c]⟩,H,I1,⟨u,rfl⟩,⟨rfl,c,hcu,rfl⟩,st',λ b hb=>(hf b hb).1⟩⟩
 done:=by
  intro X hP hw hK hc i pins s Z H E I hf st hg
  subst hP hw hK
  obtain⟨f0,f1,f2,f3,f4,f5⟩:=hf it (by simp)
  have hg':z.cps.size<=i:=hg
  rcases hty with rfl | rfl
  ·exact wpAny_pyNext_ascii_end (I.ok.hd hc) st (by simp;omega) λ h' eb=>⟨rfl,I.turned (t':=s.toks) (λ b o hb e=>eb b o hb e) f0 f1 f3 f4 f5⟩
  ·exact wpAny_pyNext_wide_end (I.ok.hd hc) st (by simp;omega) λ h' eb=>⟨rfl,I.turned (t':=s.toks) (λ b o hb e=>eb b o hb e) f0 f1 f3 f4 f5⟩
 self:=λ A i s Q E st h=>by
  rcases hty with rfl | rfl
  ·exact wpAny_pyIter_striter_ascii st h
  ·exact wpAny_pyIter_striter_wide st h
section
variable {X:Cx}{tg:Expr}
def O3 (n:Nat)(t:TGs):TG:=λ v Z H Q=>∃ a xs,v=.ref a/\Rd H a (.tup xs)/\xs.length=n/\t xs Z H Q
theorem pg_tup0 {es:List Expr}{k:Nat}{t:TGs}{n:Nat}{pos:Pos}(hc:X.calm=true)(h:PGs X es t)(hn:(assignEach es X.env).length=n:=by rfl)(hst:(assignEach es X.env).findIdx? (·.1)=none:=by rfl):PG X (.Tuple es k pos) (O3 n t):=
 λ pins s Z H v u Q I r ⟨a,xs,e,hq,hl,hw⟩=>pg_tup (X:=X) hc h hn hst pins s Z H v u Q I r ⟨a,xs,e,.inl hq,hl,hw⟩
def tFld0 (C:Addr)(ta:TE)(f:Str):TE:=λ Z H Q=>ta Z H λ x H1=>∃ a dx fs v,x=.ref a/\H1 a=some (.ins C dx fs)/\fs.lookup f=some v/\Q v H1
theorem pe_fld0 {C:Addr}{e:Expr}{f:Str}{pos:Pos}{ta:TE}(c:Cls X.K C)(n:NoAttr X.K C f)(he:PE X e ta)(hb:attributeBase e f X.env (eval e X.env)=eval e X.env):PE X (.Attribute e f pos) (tFld0 C ta f):=by
 intro pins s Z H Q I h
 refine attr_of hb (thn (he pins s Z H _ I h) λ u s1 ⟨x,H1,I1,rx,a,dx,fs,v,ex,ea,l,q⟩=>?_)
 subst ex
 obtain rfl:u=Value.ref a:=rx
 exact a5H I1 ea c n l λ u' s2 I2 ru=>⟨v,H1,I2,ru,q⟩
end
theorem for_list0 {a:Addr}{xs:List V}{g:TG}{tb:TS}{D:Ends}{Z:St}{H:Hp}(Pv:Nat->St->Hp->Prop)(h0:Pv 0 Z H)(hl:∀ i Z H,i<=xs.length->Pv i Z H->Rd H a (.lst xs))
  (hs:∀ i x Z H,xs[i]?=some x->Pv i Z H->g x Z H λ σ2 H2=>tb { D with nx:=Pv (i + 1),ct:=Pv (i + 1),bk:=D.nx } σ2 H2)(hd:∀ Z H,Pv xs.length Z H->D.nx Z H):
  ∃ W:Nat->Nat->St->Hp->Prop,(∃ m,W 0 m Z H)/\∀ i m Z H,W i m Z H →
   ((Itl0 a).stop i H/\D.nx Z H)\/((Itl0 a).go i H/\∃ N:St->Hp->Prop,(∀ Z' H',N Z' H'->∃ m',m' < m/\W (i + 1) m' Z' H')/\∀ x H',(Itl0 a).yld i H x H'->g x Z H' λ σ2 H2=>tb { D with nx:=N,ct:=N,bk:=D.nx } σ2 H2):=by
 refine⟨λ i m Z H=>m=xs.length - i/\i<=xs.length/\Pv i Z H,⟨xs.length,by simp,Nat.zero_le _,h0⟩,?_⟩
 rintro i m Z H ⟨rfl,hi,p⟩
 have q:=hl i Z H hi p
 by_cases hlt:i < xs.length
 ·refine .inr ⟨⟨xs,xs[i],q,by simp[hlt]⟩,Pv (i + 1),λ Z' H' p'=>⟨xs.length - (i + 1),by omega,rfl,hlt,p'⟩,λ x H' y=>?_⟩
  obtain⟨e,y⟩:=y
  subst e
  exact hs i x Z _ (y xs q) p
 ·have e:i=xs.length:=by omega
  subst e
  exact .inl ⟨⟨xs,q,Nat.le_refl _⟩,hd Z H p⟩
def PIfs (X:Cx)(ifs:List Expr)(t:TT):Prop:=
 ∀ (pins:List (Addr×Obj)) (s:Shared) (Z:St) (H:Hp) (Q:Bool->Hp->Prop),Inv X pins Z H s->t Z H Q →
  wpAny (model X.prog X.w) X.A (forIn ifs true λ c r=>if r=true then do let ok ← isTrue c X.env (eval c X.env);pure (ForInStep.yield ok) else pure (ForInStep.yield r)) (TP X pins Z Q) X.xe s
def a0k:TT:=λ _ H Q=>Q true H
theorem pif_nil {X:Cx}:PIfs X [] a0k:=λ pins s Z H Q I h=>by
 rw[List.forIn_nil]
 exact wpAny_pure ⟨H,I,h⟩
theorem pif_one {X:Cx}{c:Expr}{t:TT}(hc:PT X c t):PIfs X [c] t:=λ pins s Z H Q I h=>by
 rw[List.forIn_cons,if_pos rfl]
 refine wpAny_bind (wpAny_bind (thn (hc pins s Z H Q I h) λ b s1 q=>?_))
 refine wpAny_pure ?_
 dsimp only
 rw[List.forIn_nil]
 exact wpAny_pure q
inductive FreeOk (X:Cx) (scope:Scope) (cl:List (Str×Addr)):List (Str×Nat)->Prop where
 | nil:FreeOk X scope cl []
 | cons {x:Str}{j:Nat}{fr:List (Str×Nat)} (h1:X.N[j]?=some x) (h2:X.env.kindOf x=some .cell) (h3:(relabel scope X.env).names.lookup x=some .cell) (h4:cl.lookup x=X.env.cells.lookup x) (r:FreeOk X scope cl fr):FreeOk X scope cl ((x,j)::fr)
theorem FreeOk.get {X:Cx}{scope:Scope}{cl:List (Str×Addr)}:∀ {fr:List (Str×Nat)},FreeOk X scope cl fr->∀ {k:Nat}{q:Str×Nat},fr[k]?=some q →
  X.N[q.2]?=some q.1/\X.env.kindOf q.1=some .cell/\(relabel scope X.env).names.lookup q.1=some .cell/\cl.lookup q.1=X.env.cells.lookup q.1
 | _,.nil,_,_,h=>by simp at h
 | _,.cons h1 h2 h3 h4 r,0,q,h=>by
  simp at h
  subst h
  exact⟨h1,h2,h3,h4⟩
 | _,.cons _ _ _ _ r,k + 1,q,h=>r.get (k:=k) (by simpa using h)
structure CDyn where
 fp:List Addr
 pins:List (Addr×Obj)
 s:Shared
 H:Hp
 C:Addr
def k7 (X:Cx)(tn:List Str)(fr:List (Str×Nat))(scope:Scope)(cl:List (Str×Addr))(d:CDyn):Cx where
 prog:=X.prog
 w:=X.w
 K:=X.K
 mg:=X.mg
 base:=X.base
 A:=X.A
 N:=tn++fr.map (·.1)
 s₀:=d.s
 H₀:=d.H
 env:=compEnvC scope cl d.C X.env
 outer:=X.stack
 stack:=X.stack
 ex:=d.fp
 fn:=λ _=>false
 calm:=X.calm
 pn:=X.pn++d.pins
 xe:=λ _ _=>False
def inn (tn:List Str)(fr:List (Str×Nat))(Z:St):St:=tn.map (λ _=>none)++fr.map λ q=>(Z[q.2]?).join
def U8 (n:Nat)(g:TG):Prop:=∀ v Z H Q,g v Z H Q->g v Z H λ Z' H'=>Q Z' H'/\Z'.drop n=Z.drop n
def a3L (n:Nat)(g:TGs):Prop:=∀ v Z H Q,g v Z H Q->g v Z H λ Z' H'=>Q Z' H'/\Z'.drop n=Z.drop n
theorem kg_name {n i:Nat}(h:i < n:=by decide):U8 n (a8 i):=λ v Z H Q q=>⟨q,List.drop_set_of_lt h⟩
theorem kg_nil {n:Nat}:a3L n gNil:=λ v Z H Q ⟨e,q⟩=>⟨e,q,rfl⟩
theorem kg_tup {n k:Nat}{t:TGs}(h:a3L n t):U8 n (O3 k t):=λ v Z H Q ⟨a,xs,e,hr,hl,q⟩=>⟨a,xs,e,hr,hl,h _ _ _ _ q⟩
def tComp (wi:TI)(tn:List Str)(fr:List (Str×Nat))(g:TG)(tt:TT)(te:TE):TE:=λ Z H Q=>wi Z H λ J H1=>∀ p,H1 p=none →
 ∃ W:Nat->Nat->Hp->Prop,(∃ m,W 0 m (upd H1 p (.lst [])))/\∀ i m G,W i m G →
  (J.stop i G/\Q (.ref p) G)\/(J.go i G/\∃ N:Hp->Prop,(∀ G',N G'->∃ m',m' < m/\W (i + 1) m' G')/\∀ x G',J.yld i G x G' →
   g x (inn tn fr Z) G' λ σ2 G2=>tt σ2 G2 λ b G3=>br b (te σ2 G3 λ y G4=>∃ ys,G4 p=some (.lst ys)/\ys.length < sizeLine/\N (upd G4 p (.lst (ys++[y])))) (N G3))
section
variable {prog:Program}{w:World}{A:Around}{R:Result->Shared->Prop}{s:Shared}
theorem a4I {elt target iter:Expr}{ifs:List Expr}{scope:Scope}{pos:Pos}{it acc:Value}{env:Env}(I:Nat->Shared->Prop)
  (turn:∀ n s,I n s->wpAny (model prog w) A (pyNext it) (λ r s₁=>match r with
   | none=>R (.ok .next) s₁
   | some v=>wpAny (model prog w) A (letOwnedTupleGo target it v) (λ _ s₀=>wpAny (model prog w) A (assign target env v) (λ _ s₂=>
     wpAny (model prog w) A (forIn ifs true λ c r=>if r=true then do let ok ← isTrue c env (eval c env);pure (ForInStep.yield ok) else pure (ForInStep.yield r)) (λ ok s₃=>
      if ok=true then wpAny (model prog w) A (eval elt env) (λ x s₄=>
       wpAny (model prog w) A (call (.builtin "list.append") [acc,x]) (λ _ s₅=>∃ m,m < n/\I m s₅) (λ _ _=>False) s₄) (λ _ _=>False) s₃
      else ∃ m,m < n/\I m s₃) (λ _ _=>False) s₂) (λ _ _=>False) s₀) (λ _ _=>False) s₁) (λ _ _=>False) s)
  (n:Nat)(h:I n s):
  codeAny (model prog w) A (.compLoop (.ListComp elt [⟨target,iter,ifs,0⟩] scope pos) 0 it acc env) R s:=by
 refine codeAny_loop rfl I (λ n s hI=>?_) n h
 show wpAny _ A ((compTurn (.ListComp elt [⟨target,iter,ifs,0⟩] scope pos) 0 it acc env).onRaise (λ x=>do noteFrame x env;theTreesLotGoes x)) _ _ s
 refine wpAny_noted ?_
 rw[compTurn_list]
 refine wpAny_bind (wpAny_standAt (wpAny_bind (wpAny_mono (turn n s hI) (λ r s₁ h₁=>?_) λ _ _ z=>z.elim)))
 cases r with
 | none=>exact wpAny_pure h₁
 | some v=>
  refine wpAny_bind (wpAny_mono h₁ (λ _ s₀ h₀=>?_) λ _ _ z=>z.elim)
  refine wpAny_bind (wpAny_mono h₀ (λ _ s₂ h₂=>wpAny_bind (wpAny_mono h₂ (λ ok s₃ h₃=>?_) λ _ _ z=>z.elim)) λ _ _ z=>z.elim)
  cases ok with
  | false=>exact wpAny_pure ⟨rfl,h₃⟩
  | true=>
   exact wpAny_bind (wpAny_bind (wpAny_mono h₃ (λ x s₄ h₄=>wpAny_bind (wpAny_mono h₄ (λ _ s₅ h₅=>wpAny_pure (wpAny_pure ⟨rfl,h₅⟩)) λ _ _ z=>z.elim)) λ _ _ z=>z.elim))
end
section
variable {X:Cx}{elt tg iter:Expr}{ifs:List Expr}{scope:Scope}{pos:Pos}{tn:List Str}{fr:List (Str×Nat)}{cl:List (Str×Addr)}{wi:TI}{g:TG}{tt:TT}{te:TE}
structure CompOk (X:Cx) (scope:Scope) (tn:List Str) (fr:List (Str×Nat)) (cl:List (Str×Addr)):Prop where
 clos:closureFor scope X.env=pure cl
 kind:scope.kind=.function
 nocell:∀ y∈scope.names,y.2≠.cell
 names:∀ y∈scope.names,y.2=.local->scope.names.lookup y.1=some .local
 free:FreeOk X scope cl fr
 has:∀ x,((relabel scope X.env).names.lookup x=some .cell\/(relabel scope X.env).names.lookup x=some .free)->∃ c,cl.lookup x=some c
 sub:∀ x c,cl.lookup x=some c->X.env.cells.lookup x=some c
theorem a3c {RR:Value->Addr->Result->Shared->Prop}{pins:List (Addr×Obj)}{s:Shared}{Z:St}{H:Hp}{Q:VK}(hc:X.calm=true)(ok:CompOk X scope tn fr cl)(kg:U8 tn.length g)(hi:PI X tg iter wi)
  (hg:∀ d,PG (k7 X tn fr scope cl d) tg g)(ht:∀ d,PIfs (k7 X tn fr scope cl d) ifs tt)(he:∀ d,PE (k7 X tn fr scope cl d) elt te)(I:Inv X pins Z H s)(h:tComp wi tn fr g tt te Z H Q)
  (hRR:∀ (p C:Addr) (G:Hp) (s':Shared),Inv X pins Z G s'->FpOk X pins G C->(∃ m,s'.heap.Ns C m)->Q (.ref p) G->RR (.ref p) C (.ok .next) s'):
  wpAny (model X.prog X.w) X.A (eval iter X.env) (λ x s₁=>wpAny (model X.prog X.w) X.A (pyIter x) (λ it s₂=>wpAny (model X.prog X.w) X.A (newList []) (λ acc s₃=>
   wpAny (model X.prog X.w) X.A (newFunctionEnv scope X.env.globals cl [] X.env.qual none .none (some X.env)) (λ cenv s₄=>
    codeAny (model X.prog X.w) X.A (.compStart (.ListComp elt [⟨tg,iter,ifs,0⟩] scope pos) 0 it acc { cenv with scope:=relabel scope X.env }) (RR acc cenv.locals) s₄) X.xe s₃) X.xe s₂) X.xe s₁) X.xe s:=by
 refine thn (hi pins s Z H _ I h) λ v s1 h1=>thn h1 λ itv s2 h2=>?_
 obtain⟨it,fp,tk,J,H2,e,I2,T,st2,f2,hq⟩:=h2
 subst e
 refine wpAny_newObj_type (wpAny_newFunctionEnv ok.nocell (by intro y hy;simp at hy) (λ h₁ hns₁ hsb₁=>?_) ok.kind)
 dsimp only at hns₁ hsb₁ ⊢
 generalize hH2:s2.heap.push { cls:=.type "list",dict:=none,data:=.seq ([]:List Value).toArray }=HH at hns₁ hsb₁ ⊢
 have hC:HH.objs.size=s2.heap.objs.size + 1:=by rw[<- hH2,Heap.size_push]
 have hDC:s2.heap.objs.size≠HH.objs.size:=by rw[hC];exact Nat.ne_of_lt (Nat.lt_succ_self _)
 have hCle:s2.heap.objs.size<=HH.objs.size:=by rw[hC];exact Nat.le_succ _
 have f8:∀ b,b < s2.heap.objs.size->b≠HH.objs.size:=λ b hb=>by rw[hC];exact Nat.ne_of_lt (Nat.lt_succ_of_lt hb)
 have old:∀ b o,s2.heap.get? b=some o->h₁.get? b=some o:=λ b o e=>hsb₁.extBut b o (f8 b (Heap.lt_size e)) (Heap.get?_push_of_some _ (hH2 ▸ Heap.get?_push_of_some _ e))
 have hacc:h₁.get? s2.heap.objs.size=some { cls:=.type "list",data:=.seq ([]:List Value).toArray }:=hsb₁.extBut _ _ hDC (Heap.get?_push_of_some _ (hH2 ▸ Heap.get?_push_size _ rfl))
 generalize hp:s2.heap.objs.size=p at hDC hCle hacc
 generalize hCC:HH.objs.size=C at hDC hCle f8 hns₁
 have hnp:H2 p=none:=I2.hok.fresh (by rw[<- hp];exact Nat.le_refl _)
 have hnC:H2 C=none:=I2.hok.fresh (by rw[hp];exact hCle)
 obtain⟨W,⟨m0,w0⟩,turn⟩:=hq p hnp
 have lt2:∀ b o,s2.heap.get? b=some o->b≠C:=λ b o e=>f8 b (Heap.lt_size e)
 have ok':(k7 X tn fr scope cl ⟨fp,pins,s2,H2,C⟩).Ok:=by
  refine⟨I2.ok.mod,ok.kind,I2.ok.glob,I2.ok.blt,(by show s2.heap.objs.size<=C;rw[hp];exact hCle),λ x y c h1 h2=>I2.ok.inj x y c (ok.sub x c h1) (ok.sub y c h2),ok.has,λ x c z=>absurd z (by simp[k7]),I2.ok.hd,I2.ok.frames,.inl rfl,λ b hb=>⟨?_,λ x c h=>(f2 b hb).2.2.2.2.1 x c (ok.sub x c h)⟩,I2.bs,
   Nat.le_trans I2.ok.bsz I2.sz,λ b o e hb=>?_,λ b hb hf=>?_,I2.stack,I2.stkFree⟩
  ·obtain⟨o,e,_⟩:=T.obj 0 _ st2 b hb
   exact lt2 b o e
  ·rcases (f2 b hb).2.2.2.1 with z | z
   ·exact I2.ok.noex b o e z
   ·have:=Nat.lt_of_lt_of_le (Heap.lt_size e) (Nat.le_trans I2.ok.bsz z)
    exact absurd this (Nat.lt_irrefl _)
  ·rcases List.mem_cons.mp (I2.stkSub b hf) with z | z
   ·exact(f2 b hb).2.1 z
   ·exact(f2 b hb).2.2.1 z
 have new:ObjOk X.prog X.w (upd H2 p (.lst [])) h₁ p (.lst []):=⟨Nat.zero_le _,[],0,.nil,hacc⟩
 have J0:∀ tk',Inv (k7 X tn fr scope cl ⟨fp,pins,s2,H2,C⟩) [] (inn tn fr Z) (upd H2 p (.lst [])) { s2 with heap:=h₁,toks:=tk' }:=λ tk'=>by
  refine⟨ok',rfl,I2.bare,Un.laid old (by rw[<- hp];exact Nat.le_refl _) hnp,⟨_,hns₁,λ i x v h1 h2 h3=>?_⟩,λ x c h=>?_,?_,λ x c h=>?_,λ q hq=>?_,I2.hok.laid old (by rw[<- hp];exact Nat.le_refl _) new,?_⟩
  ·-- a name from around
   have h2':(tn.map (λ _=>(none:Option V))++fr.map λ q=>(Z[q.2]?).join)[i]?=some (some v):=h2
   have h1':(tn++fr.map (·.1))[i]?=some x:=h1
   by_cases hi:i < tn.length
   ·rw[List.getElem?_append_left (by simpa using hi),List.getElem?_map]at h2'
    cases e:tn[i]? with
    | none=>rw[e]at h2';cases h2'
    | some a=>rw[e]at h2';cases h2'
   ·rw[List.getElem?_append_right (by simpa using hi),List.length_map,List.getElem?_map]at h2'
    rw[List.getElem?_append_right (by omega),List.getElem?_map]at h1'
    cases e:fr[i - tn.length]? with
    | none=>rw[e]at h2';cases h2'
    | some q=>
     rw[e]at h1' h2'
     have e1:q.1=x:=Option.some.inj h1'
     have e2:(Z[q.2]?).join=some v:=Option.some.inj h2'
     have e3:Z[q.2]?=some (some v):=by
      cases z:Z[q.2]? with
      | none=>rw[z]at e2;cases e2
      | some o=>rw[z]at e2;exact congrArg some e2
     obtain⟨g1,g2,g3,g4⟩:=ok.free.get e
     obtain⟨m,hn,hl⟩:=I2.loc
     obtain⟨u,ru,lk⟩:=hl q.2 q.1 v g1 e3 (.inr (.inl g2))
     refine⟨u,ru,.inr ⟨.inl (by rw[<- e1];exact g3),?_⟩⟩
     rcases lk with⟨z,_⟩ | ⟨_,c,hcl,hcell⟩
     ·rw[g2]at z;cases z
     ·obtain⟨o,ho,hd⟩:=hcell
      exact⟨c,by rw[<- e1];exact g4.trans hcl,o,old c o ho,hd⟩
  ·obtain⟨v,o,ho,hd⟩:=I2.cell x c (ok.sub x c h)
   exact⟨v,o,old c o ho,hd⟩
  ·show upd H2 p (.lst []) C=none
   rw[a5 (Ne.symm hDC)]
   exact hnC
  ·obtain⟨v,o,ho,hd⟩:=I2.cell x c (ok.sub x c h)
   show upd H2 p (.lst []) c=none
   rw[a5 (Nat.ne_of_lt (by rw[<- hp];exact Heap.lt_size ho))]
   exact I2.freeC x c (ok.sub x c h)
  ·have hq':q∈X.pn++pins:=by simpa[k7] using hq
   obtain⟨e,n,ne,nf,d⟩:=I2.pin q hq'
   refine⟨old _ _ e,?_,lt2 _ _ e,λ hf=>?_,d⟩
   ·show upd H2 p (.lst []) q.1=none
    rw[a5 (Nat.ne_of_lt (by rw[<- hp];exact Heap.lt_size e))]
    exact n
   ·rcases List.mem_cons.mp (I2.stkSub _ hf) with z | z
    ·exact ne z
    ·exact nf z
  ·show(inn tn fr Z).length=(tn++fr.map (·.1)).length
   unfold inn
   simp
 have stat:∀ {G:Hp},(∀ b∈fp,G b=none)->∀ b∈fp,FpOk (k7 X tn fr scope cl ⟨fp,pins,s2,H2,C⟩) [] G b:=λ {G} hn b hb=>by
  obtain⟨f0,f1,f3,f4,f5,f6⟩:=f2 b hb
  obtain⟨o,e,_⟩:=T.obj 0 _ st2 b hb
  refine⟨hn b hb,lt2 b o e,λ hf=>?_,.inl hb,λ x c h=>f5 x c (ok.sub x c h),λ q hq=>f6 q (by simpa[k7] using hq)⟩
  rcases List.mem_cons.mp (I2.stkSub _ hf) with z | z
  ·exact f1 z
  ·exact f3 z
 have wk:∀ {σ9:St},σ9.drop tn.length=(inn tn fr Z).drop tn.length->∀ (i:Nat) (v:V),(inn tn fr Z)[i]?=some (some v)->σ9[i]?=some (some v):=λ {σ9} hd i v h=>by
  by_cases hi:i < tn.length
  ·have h':(tn.map (λ _=>(none:Option V))++fr.map λ q=>(Z[q.2]?).join)[i]?=some (some v):=h
   rw[List.getElem?_append_left (by simpa using hi),List.getElem?_map]at h'
   cases e:tn[i]? with
   | none=>rw[e]at h';cases h'
   | some a=>rw[e]at h';cases h'
  ·have e1:((inn tn fr Z).drop tn.length)[i - tn.length]?=some (some v):=by
    rw[List.getElem?_drop]
    rw[show tn.length + (i - tn.length)=i by omega]
    exact h
   rw[<- hd,List.getElem?_drop,show tn.length + (i - tn.length)=i by omega]at e1
   exact e1
 have loop:∀ tk',codeAny (model X.prog X.w) X.A (.compLoop (.ListComp elt [⟨tg,iter,ifs,0⟩] scope pos) 0 (.ref it) (.ref p) (compEnvC scope cl C X.env)) (RR (.ref p) C) { s2 with heap:=h₁,toks:=tk' }:=λ tk'=>by
  refine a4I (λ n s'=>∃ i G,Inv (k7 X tn fr scope cl ⟨fp,pins,s2,H2,C⟩) [] (inn tn fr Z) G s'/\tk i s'.heap/\(∀ b∈fp,G b=none)/\W i n G) ?_ m0
   ⟨0,_,J0 tk',T.keep 0 _ _ st2 λ b _ o e=>old b o e,λ b hb=>?_,w0⟩
  ·rintro n s3 ⟨i,G,I3,st3,fr3,w3⟩
   rcases turn i n G w3 with⟨stop,qn⟩ | ⟨go,N,hN,step⟩
   ·refine thn (T.done (k7 X tn fr scope cl ⟨fp,pins,s2,H2,C⟩) rfl rfl rfl hc i [] s3 _ G _ I3 (stat fr3) st3 stop) λ r s4 ⟨hr,I4⟩=>?_
    subst hr
    obtain⟨m,hm,_⟩:=I4.loc
    refine hRR p C G s4 ?_ ?_ ⟨m,hm⟩ qn
    ·exact I2.call' (ch:=fp) I4.os I4.base I4.hok I4.bare λ b hb=>⟨(f2 b hb).2.2.2.1,(f2 b hb).2.1,(f2 b hb).2.2.2.2.1,(f2 b hb).2.2.2.2.2⟩
    ·exact I2.fpOk (by rw[hp];exact hCle) I4.free
   ·refine thn (T.item (k7 X tn fr scope cl ⟨fp,pins,s2,H2,C⟩) rfl rfl rfl hc i [] s3 _ G _ I3 (stat fr3) st3 go) λ r s4 ⟨u,hr,h4⟩=>?_
    subst hr
    refine thn h4 λ _ s5 ⟨x,H5,I5,r5,y5,st5,fr5⟩=>?_
    have I5':=I5.pinned (stat fr5) (T.obj _ _ st5)
    refine thn (hg _ _ s5 _ H5 x u _ I5' r5 (kg _ _ _ _ (step x H5 y5))) λ _ s6 ⟨σ6,H6,I6,q6,k6⟩=>?_
    have again:∀ {H9:Hp}{s9:Shared},Inv (k7 X tn fr scope cl ⟨fp,pins,s2,H2,C⟩) ([]++a1p fp s5.heap) σ6 H9 s9->N H9->∃ m,m < n/\∃ i G,Inv (k7 X tn fr scope cl ⟨fp,pins,s2,H2,C⟩) [] (inn tn fr Z) G s9/\tk i s9.heap/\(∀ b∈fp,G b=none)/\W i m G:=λ {H9 s9} I9 n9=>by
     obtain⟨m',hm,w9⟩:=hN H9 n9
     refine⟨m',hm,i + 1,H9,?_,T.keep _ _ _ st5 λ b hb o e=>(I9.pin (b,o) (List.mem_append_right _ (List.mem_append_right _ (M1 hb e)))).1,λ b hb=>?_,w9⟩
     ·refine(I9.unpinned).weak ?_ (wk k6)
      rw[I9.len,I3.len]
     ·obtain⟨o,e,d⟩:=T.obj _ _ st5 b hb
      exact(I9.pin (b,o) (List.mem_append_right _ (List.mem_append_right _ (M1 hb e)))).2.1
    refine thn (ht _ _ s6 σ6 H6 _ I6 q6) λ b s7 ⟨H7,I7,q7⟩=>?_
    cases b with
    | false=>
     rw[if_neg Bool.false_ne_true]
     rw[a1v]at q7
     exact again I7 q7
    | true=>
     rw[if_pos rfl]
     rw[a3J]at q7
     refine thn (he _ _ s7 σ6 H7 _ I7 q7) λ y s8 ⟨yv,H8,I8,r8,ys,hp8,hl8,n8⟩=>?_
     refine thn (a2Z _ s8 σ6 H8 (.ref p) [yv] (.ref p) [y] (λ _ H9=>N H9) I8 rfl (.cons r8 .nil) ⟨p,ys,yv,rfl,rfl,hp8,hl8,n8⟩) λ _ s9 ⟨v9,H9,I9,r9,q9⟩=>?_
     exact again I9 q9
  ·obtain⟨o,e,_⟩:=T.obj 0 _ st2 b hb
   rw[a5 (Nat.ne_of_lt (by rw[<- hp];exact Heap.lt_size e))]
   exact(f2 b hb).1
 subst hp
 subst hCC
 exact codeAny_compStart_list (loop _) (T.self _ _ _ _ _ (T.keep 0 _ _ st2 λ b _ o e=>old b o e) (loop _))
theorem pe_comp (hc:X.calm=true)(ok:CompOk X scope tn fr cl)(kg:U8 tn.length g)(hi:PI X tg iter wi)
  (hg:∀ d,PG (k7 X tn fr scope cl d) tg g)(ht:∀ d,PIfs (k7 X tn fr scope cl d) ifs tt)(he:∀ d,PE (k7 X tn fr scope cl d) elt te)
  (hs:∀ x,foldedSetIterable iter X.env x=pure x:=by intro _;rfl):PE X (.ListComp elt [⟨tg,iter,ifs,0⟩] scope pos) (tComp wi tn fr g tt te):=by
 intro pins s Z H Q I h
 rw[eval_ListComp]
 refine wpAny_comprehension_free (use:=none) rfl hs ok.clos ok.kind ok.names (a3c (RR:=λ acc C=>compPost (model X.prog X.w) X.A X.xe none (EP X pins Z Q) acc C) hc ok kg hi hg ht he I h ?_)
 intro p C G s' I' f m q
 obtain⟨m,hm⟩:=m
 refine⟨m,hm,λ h' hs'=>⟨.ref p,G,?_,rfl,q⟩⟩
 exact I'.turned (it:=C) (h':=h') (t':=s'.toks) (λ b o hb e=>hs'.extBut b o hb e) f.1 f.2.1 f.2.2.2.1 f.2.2.2.2.1 f.2.2.2.2.2
end
theorem comp_str {z:Str}{g:TG}{tt:TT}{te:TE}{τ:St}{p:Addr}{H1:Hp}{Q:VK}(f:Nat->Option V)(hz:z.length < sizeLine)
  (turn:∀ (i c:Nat),z.cps[i]?=some c->∀ (G:Hp) (k:Option V->Hp->Prop),k (f c) G->g (.str ⟨#[c]⟩) τ G λ σ2 G2=>tt σ2 G2 λ b G3=>br b (te σ2 G3 λ y G4=>k (some y) G4) (k none G3))
  (fin:Q (.ref p) (upd H1 p (.lst (z.cps.toList.filterMap f)))):
  ∃ W:Nat->Nat->Hp->Prop,(∃ m,W 0 m (upd H1 p (.lst [])))/\∀ i m G,W i m G →
  ((Its z).stop i G/\Q (.ref p) G)\/((Its z).go i G/\∃ N:Hp->Prop,(∀ G',N G'->∃ m',m' < m/\W (i + 1) m' G')/\∀ x G',(Its z).yld i G x G' →
   g x τ G' λ σ2 G2=>tt σ2 G2 λ b G3=>br b (te σ2 G3 λ y G4=>∃ ys,G4 p=some (.lst ys)/\ys.length < sizeLine/\N (upd G4 p (.lst (ys++[y])))) (N G3)):=by
 have hzl:z.cps.toList.length=z.length:=by simp[Str.length]
 refine⟨λ i m G=>m=z.length - i/\i<=z.length/\G=upd H1 p (.lst ((z.cps.toList.take i).filterMap f)),⟨z.length,by simp,Nat.zero_le _,by simp⟩,?_⟩
 rintro i m G ⟨rfl,hi,rfl⟩
 by_cases hlt:i < z.length
 ·refine .inr ⟨hlt,λ G'=>G'=upd H1 p (.lst ((z.cps.toList.take (i + 1)).filterMap f)),λ G' e=>⟨z.length - (i + 1),by omega,rfl,hlt,e⟩,λ x G' y=>?_⟩
  obtain⟨e,c,hc,ex⟩:=y
  subst e ex
  have hc':z.cps.toList[i]?=some c:=by simpa using hc
  have et:(z.cps.toList.take (i + 1)).filterMap f=(z.cps.toList.take i).filterMap f++(f c).toList:=by
   rw[List.take_add_one,hc',List.filterMap_append]
   cases e:f c <;> simp[e]
  have hlen:((z.cps.toList.take i).filterMap f).length < sizeLine:=Nat.lt_of_le_of_lt (Nat.le_trans (List.length_filterMap_le _ _) (by rw[List.length_take];exact Nat.min_le_right _ _)) (by rw[hzl];exact hz)
  refine turn i c hc _ (λ o G'=>match o with | some y=>∃ ys,G' p=some (.lst ys)/\ys.length < sizeLine/\upd G' p (.lst (ys++[y]))=upd H1 p (.lst ((z.cps.toList.take (i + 1)).filterMap f)) | none=>G'=upd H1 p (.lst ((z.cps.toList.take (i + 1)).filterMap f))) ?_
  rw[et]
  cases f c with
  | some y=>exact⟨_,a6,hlen,by rw[a0Y];simp⟩
  | none=>simp
 ·have e:i=z.length:=by omega
  subst e
  refine .inl ⟨Nat.le_refl _,?_⟩
  rw[<- hzl,List.take_length]
  exact fin
theorem W9 (a b:Str):(a++b).cps.toList=a.cps.toList++b.cps.toList:=by
 show(a.cps++b.cps).toList=_
 simp
theorem app_len (a b:Str):(a++b).length=a.length + b.length:=by
 show(a.cps++b.cps).size=_
 simp[Str.length]
section
variable {X:Cx}{CX:CXT}{k:Nat}{f:Addr}{fd:FuncData}{st:Stmt}{ps:List Str}{sp:Sp}{x:Str}{p pos:Pos}{e:Expr}{es:List Expr}{t:TA}
end
end L2
namespace Tv
open PySem PySem.Spec PyProof.Rows L2
abbrev St:=L2.St
section
variable {X:Cx}
theorem PE.imp {e:Expr}{t u:TE}(h:PE X e t)(i:∀ Z H Q,u Z H Q->t Z H Q):PE X e u:=λ pins s Z H Q I q=>h pins s Z H Q I (i Z H Q q)
theorem PT.imp {e:Expr}{t u:TT}(h:PT X e t)(i:∀ Z H Q,u Z H Q->t Z H Q):PT X e u:=λ pins s Z H Q I q=>h pins s Z H Q I (i Z H Q q)
theorem OpR.imp {f:Value->Value->Sem Value}{r r':R2}(h:OpR X f r)(i:∀ x y H Q,r' x y H Q->r x y H Q):OpR X f r':=λ pins s Z H x y v u Q I rx ry q=>h pins s Z H x y v u Q I rx ry (i x y H Q q)
theorem CallR.imp {f:Value}{r r':List V->Hp->VK->Prop}(h:CallR X f r)(i:∀ xs H Q,r' xs H Q->r xs H Q):CallR X f r':=λ pins s Z H xs us Q I rx q=>h pins s Z H xs us Q I rx (i xs H Q q)
theorem IxR.imp {r r':R2}(h:IxR X r)(i:∀ x y H Q,r' x y H Q->r x y H Q):IxR X r':=λ value slice pins s Z H x y v u Q I rx ry q=>h value slice pins s Z H x y v u Q I rx ry (i x y H Q q)
def xE:TE:=λ _ _ _=>False
def xT:TT:=λ _ _ _=>False
def xS:TS:=λ _ _ _=>False
def xA:TA:=λ _ _ _=>False
def xG:TG:=λ _ _ _ _=>False
def xR:R2:=λ _ _ _ _=>False
theorem y9 {e:Expr}:PE X e xE:=λ _ _ _ _ _ _ h=>h.elim
theorem pt_x {e:Expr}:PT X e xT:=λ _ _ _ _ _ _ h=>h.elim
theorem ps_x {e:Stmt}:PS X e xS:=λ _ _ _ _ _ _ h=>h.elim
theorem pa_x {e:List Expr}:PA X e xA:=λ _ _ _ _ _ _ _ h=>h.elim
theorem pg_x {e:Expr}:PG X e xG:=λ _ _ _ _ _ _ _ _ _ h=>h.elim
theorem op_x {f:Value->Value->Sem Value}:OpR X f xR:=λ _ _ _ _ _ _ _ _ _ _ _ _ h=>h.elim
def gv (i:Nat):TE:=λ Z H Q=>match Z[i]? with | some (some v)=>Q v H | _=>False
theorem pe_gv {i:Nat}{x:Str}{pos:Pos}(hN:X.N[i]?=some x)(hv:Vis X.env.scope x)(hd:(x==("__debug__" : Str))=false)(hcd:(x==("__classdict__" : Str))=false):PE X (.Name x pos) (gv i):=
 PE.imp (pe_var hN hv hd hcd) λ Z H Q h=>by
  unfold gv at h
  split at h
  ·exact⟨_,by assumption,h⟩
  ·exact h.elim
def z8:List Str->Str->Option Nat
 | [],_=>none
 | y::r,x=>if y=x then some 0 else(z8 r x).map (· + 1)
theorem A6:∀ {N:List Str}{x:Str}{i:Nat},z8 N x=some i->N[i]?=some x
 | [],_,_,h=>by simp[z8]at h
 | y::r,x,i,h=>by
  unfold z8 at h
  split at h
  ·rename_i e
   cases h
   simp[e]
  ·cases e:z8 r x with
   | none=>rw[e]at h;cases h
   | some j=>
    rw[e]at h
    cases h
    simpa using A6 e
@[irreducible] def newO (H:Hp)(o:HO)(Q:VK):Prop:=∀ p,H p=none->Q (.ref p) (upd H p o)
theorem a3M {H:Hp}{o:HO}{Q:VK}:newO H o Q=∀ p,H p=none->Q (.ref p) (upd H p o):=by unfold newO;rfl
theorem newO.at {H:Hp}{o:HO}{Q:VK}(h:newO H o Q):∀ p,H p=none->Q (.ref p) (upd H p o):=by
 rw[a3M]at h
 exact h
theorem b6 {H:Hp}{o:HO}{Q:VK}(h:∀ p G,H p=none->Same H G->G p=some o->Q (.ref p) G):newO H o Q:=by
 rw[a3M]
 exact λ p hp=>h p _ hp (p7 hp) a6
theorem new_u {H:Hp}{o:HO}{Q:VK}(h:∀ p,H p=none->Q (.ref p) (upd H p o)):newO H o Q:=by
 rw[a3M]
 exact h
@[irreducible] def addH (l b:Addr)(H:Hp)(Q:VK):Prop:=match H l,H b with
 | some (.lst xs),some (.lst ys)=>xs.length + ys.length<=sizeLine/\newO H (.lst (xs++ys)) Q
 | _,_=>False
def o8:R2:=λ x y H Q=>match x,y with
 | .int i,.int j=>Q (.int (i + j)) H
 | .str a,.str b=>a.length + b.length<=sizeLine/\Q (.str (a++b)) H
 | .ref l,.ref b=>addH l b H Q
 | _,_=>False
theorem op_addG:OpR X (binaryOp .Add) o8:=OpR.imp (OpR.or op_add (OpR.or a5G op_cat)) λ x y H Q h=>by
 unfold o8 at h
 split at h
 ·exact .inl ⟨_,_,rfl,rfl,h⟩
 ·exact .inr (.inl ⟨_,_,rfl,rfl,h⟩)
 ·unfold addH at h
  split at h
  ·exact .inr (.inr ⟨_,_,_,_,rfl,rfl,by assumption,by assumption,h.1,h.2.at⟩)
  ·exact h.elim
 ·exact h.elim
def subG:R2:=λ x y H Q=>match x,y with
 | .int i,.int j=>Q (.int (i - j)) H
 | _,_=>False
theorem op_subG:OpR X (binaryOp .Sub) subG:=OpR.imp op_sub λ x y H Q h=>by
 unfold subG at h
 split at h
 ·exact⟨_,_,rfl,rfl,h⟩
 ·exact h.elim
def CMulW (i j:Int):Prop:=CMul i j\/IntMulOk i j
theorem op_mulW:OpR X (binaryOp .Mult) (rI CMulW λ i j=>.int (i * j)):=opI λ _ _ _ _ _ _ _ hc q=>mul_int q (hc.elim CMul.ok id)
def U9:R2:=λ x y H Q=>match x,y with
 | .int i,.int j=>CMulW i j/\Q (.int (i * j)) H
 | .str z,.int n=>(0 < z.length/\0<=n/\n < 2 ^ 31/\n.toNat * z.length<=sizeLine)/\Q (.str (repS z n.toNat)) H
 | .ref l,.int k=>match H l with
  | some (.lst xs)=>(-(2 ^ 63)<=k/\k < 2 ^ 63/\xs.length * k.toNat<=sizeLine)/\newO H (.lst (List.replicate k.toNat xs).flatten) Q
  | _=>False
 | _,_=>False
theorem op_mulG:OpR X (binaryOp .Mult) U9:=OpR.imp (OpR.or op_mulW (OpR.or a5P op_rep)) λ x y H Q h=>by
 unfold U9 at h
 split at h
 ·exact .inl ⟨_,_,rfl,rfl,h⟩
 ·obtain⟨⟨h1,h2,h3,h4⟩,q⟩:=h
  exact .inr (.inl ⟨_,_,rfl,rfl,h1,h2,h3,h4,q⟩)
 ·split at h
  ·obtain⟨⟨h1,h2,h3⟩,q⟩:=h
   exact .inr (.inr ⟨_,_,_,rfl,rfl,by assumption,h1,h2,h3,q.at⟩)
  ·exact h.elim
 ·exact h.elim
def B8:R2:=λ x y H Q=>match x,y with
 | .int i,.int j=>(0 < j/\j < 2 ^ 200)/\Q (.int (i / j)) H
 | _,_=>False
theorem log_small {j:Int}(h0:0 < j)(h:j < 2 ^ 200):j.natAbs.log2 < 9000:=by
 have h1:j.natAbs≠0:=by omega
 have h2:j.natAbs < 2 ^ 200:=by
  have e:((j.natAbs:Nat):Int)=j:=by omega
  have h3:((j.natAbs:Nat):Int) < ((2 ^ 200:Nat):Int):=by rw[e];exact h
  exact Int.ofNat_lt.mp h3
 have h3:=(Nat.log2_lt h1).mpr h2
 omega
theorem op_fdivG:OpR X (binaryOp .FloorDiv) B8:=by
 intro pins s Z H x y v u Q I rx ry h
 unfold B8 at h
 split at h
 ·obtain⟨⟨hj,hj2⟩,q⟩:=h
  obtain⟨t,rfl⟩:=rx
  obtain⟨t',rfl⟩:=ry
  rename_i i j
  exact floordiv_int (by omega) (by rw[Int.fdiv_eq_ediv_of_nonneg i (by omega)];exact⟨.int (i / j),H,I.tok _,⟨_,rfl⟩,q⟩) (.inl (PyProof.noPylong_of_log2 (log_small hj hj2)))
 ·exact h.elim
def z9:R2:=λ x y H Q=>match x,y with
 | .int i,.int j=>0 < j/\Q (.int (i % j)) H
 | _,_=>False
theorem op_modG:OpR X (binaryOp .Mod) z9:=OpR.imp op_mod λ x y H Q h=>by
 unfold z9 at h
 split at h
 ·exact⟨_,_,rfl,rfl,h⟩
 ·exact h.elim
def powG:R2:=λ x y H Q=>match x,y with
 | .int i,.int j=>CPow i j/\Q (.int (i ^ j.toNat)) H
 | _,_=>False
theorem op_powG:OpR X (binaryOp .Pow) powG:=OpR.imp op_pow λ x y H Q h=>by
 unfold powG at h
 split at h
 ·exact⟨_,_,rfl,rfl,h⟩
 ·exact h.elim
def binG:Operator->R2
 | .Add=>o8 | .Sub=>subG | .Mult=>U9 | .FloorDiv=>B8 | .Mod=>z9 | .Pow=>powG | _=>xR
theorem op_binG:∀ op,OpR X (binaryOp op) (binG op)
 | .Add=>op_addG | .Sub=>op_subG | .Mult=>op_mulG | .FloorDiv=>op_fdivG | .Mod=>op_modG | .Pow=>op_powG
 | .MatMult=>op_x | .Div=>op_x | .LShift=>op_x | .RShift=>op_x | .BitOr=>op_x | .BitXor=>op_x | .BitAnd=>op_x
end
def rdD:Nat->Hp->V->Option PyData
 | _,_,.non=>some .none
 | _,_,.bl b=>some (.bool b)
 | _,_,.int i=>some (.int i)
 | _,_,.str x=>some (.str x)
 | n + 1,H,.ref a=>match H a with
  | some (.lst xs)=>(xs.mapM (rdD n H)).map .list
  | some (.tup xs)=>(xs.mapM (rdD n H)).map .tuple
  | _=>none
 | _,_,_=>none
theorem mapM_cons {α β:Type}{f:α->Option β}{x:α}{xs:List α}:(x::xs).mapM f=(f x).bind λ y=>(xs.mapM f).bind λ ys=>some (y::ys):=by
 simp[List.mapM_cons]
theorem q8 {α β:Type}{f:α->Option β}:∀ {xs:List α}{ys:List β},xs.mapM f=some ys->ys.length=xs.length/\∀ (i:Nat) x,xs[i]?=some x->∃ y,ys[i]?=some y/\f x=some y
 | [],ys,h=>by
  simp at h
  subst h
  exact⟨rfl,λ i x e=>by simp at e⟩
 | x::xs,ys,h=>by
  rw[mapM_cons]at h
  cases e:f x with
  | none=>rw[e]at h;cases h
  | some y=>
   cases e2:xs.mapM f with
   | none=>rw[e,e2]at h;cases h
   | some r=>
    rw[e,e2]at h
    cases h
    obtain⟨h1,h2⟩:=q8 e2
    refine⟨by simp[h1],λ i z hz=>?_⟩
    cases i with
    | zero=>
     simp at hz
     subst hz
     exact⟨y,rfl,e⟩
    | succ i=>exact h2 i z (by simpa using hz)
theorem mapM_same {α β:Type}{f g:α->Option β}(fg:∀ x y,f x=some y->g x=some y):∀ {xs:List α}{ys:List β},xs.mapM f=some ys->xs.mapM g=some ys
 | [],ys,h=>by simpa using h
 | x::xs,ys,h=>by
  rw[mapM_cons]at h ⊢
  cases e:f x with
  | none=>rw[e]at h;cases h
  | some y=>
   cases e2:xs.mapM f with
   | none=>rw[e,e2]at h;cases h
   | some r=>
    rw[e,e2]at h
    rw[fg x y e,mapM_same fg e2]
    exact h
theorem K1:∀ {ds es:List PyData},ds.length=es.length->PyData.eqvAll ds es=(List.range ds.length).all λ j=>PyData.eqv (ds.getD j .none) (es.getD j .none)
 | [],[],_=>rfl
 | [],_::_,h=>by simp at h
 | _::_,[],h=>by simp at h
 | d::ds,e::es,h=>by
  show(PyData.eqv d e&&PyData.eqvAll ds es)=_
  rw[K1 (by simpa using h),List.length_cons,List.range_succ_eq_map,List.all_cons,List.all_map]
  rfl
theorem K2:∀ {ds es:List PyData},ds.length≠es.length->PyData.eqvAll ds es=false
 | [],[],h=>absurd rfl h
 | [],_::_,_=>rfl
 | _::_,[],_=>rfl
 | d::ds,e::es,h=>by
  show(PyData.eqv d e&&PyData.eqvAll ds es)=_
  rw[K2 (by simpa using h),Bool.and_false]
theorem a0B {f:V->Option PyData}(hf:∀ x d,f x=some d->PyData.eqv d d=true):∀ {xs:List V}{ds:List PyData},xs.mapM f=some ds->PyData.eqvAll ds ds=true
 | [],ds,h=>by simp at h;subst h;rfl
 | x::xs,ds,h=>by
  rw[mapM_cons]at h
  cases e:f x with
  | none=>rw[e]at h;cases h
  | some y=>
   cases e2:xs.mapM f with
   | none=>rw[e,e2]at h;cases h
   | some r=>
    rw[e,e2]at h
    cases h
    show(PyData.eqv y y&&PyData.eqvAll r r)=true
    rw[hf x y e,a0B hf e2]
    rfl
theorem a4J {H:Hp}:∀ (n:Nat) (x:V) (d:PyData),rdD n H x=some d->PyData.eqv d d=true
 | n,.non,d,h=>by cases n <;> (cases h;rfl)
 | n,.bl b,d,h=>by cases n <;> (cases h;exact beq_self_eq_true b)
 | n,.int b,d,h=>by cases n <;> (cases h;exact beq_self_eq_true b)
 | n,.str b,d,h=>by cases n <;> (cases h;exact beq_self_eq_true b)
 | n,.byt b,d,h=>by cases n <;> cases h
 | n,.flt b,d,h=>by cases n <;> cases h
 | n,.ty b,d,h=>by cases n <;> cases h
 | 0,.ref a,d,h=>by cases h
 | n + 1,.ref a,d,h=>by
  unfold rdD at h
  cases e:H a with
  | none=>rw[e]at h;cases h
  | some o=>
   rw[e]at h
   cases o <;> first | (cases h;done) | skip
   all_goals
    rename_i xs
    simp only at h
    cases e2:xs.mapM (rdD n H) with
    | none=>rw[e2]at h;cases h
    | some ds=>
     rw[e2]at h
     cases h
     exact a0B (a4J n) e2
def flatD:V->PyData
 | .non=>.none
 | .bl b=>.bool b
 | .int i=>.int i
 | .str z=>.str z
 | _=>.none
section
variable {X:Cx}{pins:List (Addr×Obj)}{Z:St}{H:Hp}{s:Shared}
theorem A7 (I:Inv X pins Z H s){a:Addr}{xs:List V}(e:H a=some (.lst xs)):∃ its:List Value,Vals xs its/\s.heap.IsList a its.toArray:=by
 obtain⟨its,r,p,_⟩:=I.list (.inl (.inl e))
 exact⟨its,r,p.isList⟩
theorem J6 (I:Inv X pins Z H s){a:Addr}{xs:List V}(e:H a=some (.tup xs)):∃ its:List Value,Vals xs its/\s.heap.IsTuple a its.toArray:=by
 obtain⟨its,r,p,_⟩:=I.tuple (.inl (.inl e))
 exact⟨its,r,p⟩
theorem u0 (A:Around):A.in1.units=A.units + 1:=rfl
theorem eqAt_fs {A:Around}{x:V}{u:Value}{a:Addr}(rx:RelV x u)(fx:a1u x=true)(hu:A.units < cLine)(h:(∃ its,s.heap.IsList a its)\/∃ its,s.heap.IsTuple a its):SeqAt.EqAt A s u (.ref a) false/\SeqAt.EqAt A s (.ref a) u false:=by
 cases x with
 | non=>
  cases rx
  rcases h with⟨its,h⟩ | ⟨its,h⟩
  ·exact⟨SeqAt.EqAt.none_list h hu,SeqAt.EqAt.list_none h hu⟩
  ·exact⟨SeqAt.EqAt.none_tuple h hu,SeqAt.EqAt.tuple_none h hu⟩
 | bl b=>
  cases rx
  rcases h with⟨its,h⟩ | ⟨its,h⟩
  ·exact⟨SeqAt.EqAt.bool_list b h hu,SeqAt.EqAt.list_bool b h hu⟩
  ·exact⟨SeqAt.EqAt.bool_tuple b h hu,SeqAt.EqAt.tuple_bool b h hu⟩
 | int i=>
  obtain⟨t,rfl⟩:=rx
  rcases h with⟨its,h⟩ | ⟨its,h⟩
  ·exact⟨SeqAt.EqAt.int_list i t h hu,SeqAt.EqAt.list_int i t h hu⟩
  ·exact⟨SeqAt.EqAt.int_tuple i t h hu,SeqAt.EqAt.tuple_int i t h hu⟩
 | str i=>
  obtain⟨t,rfl⟩:=rx
  rcases h with⟨its,h⟩ | ⟨its,h⟩
  ·exact⟨SeqAt.EqAt.str_list i t h hu,SeqAt.EqAt.list_str i t h hu⟩
  ·exact⟨SeqAt.EqAt.str_tuple i t h hu,SeqAt.EqAt.tuple_str i t h hu⟩
 | _=>cases fx
theorem M2 {n:Nat}{a:Addr}{d:PyData}(h:rdD n H (.ref a)=some d):∃ m,n=m + 1/\((∃ xs ds,H a=some (.lst xs)/\xs.mapM (rdD m H)=some ds/\d=.list ds)\/∃ xs ds,H a=some (.tup xs)/\xs.mapM (rdD m H)=some ds/\d=.tuple ds):=by
 cases n with
 | zero=>cases h
 | succ m=>
  refine⟨m,rfl,?_⟩
  unfold rdD at h
  cases e:H a with
  | none=>rw[e]at h;cases h
  | some o=>
   rw[e]at h
   cases o <;> first | (cases h;done) | skip
   ·rename_i xs
    simp only at h
    cases e2:xs.mapM (rdD m H) with
    | none=>rw[e2]at h;cases h
    | some ds=>rw[e2]at h;cases h;exact .inl ⟨xs,ds,rfl,e2,rfl⟩
   ·rename_i xs
    simp only at h
    cases e2:xs.mapM (rdD m H) with
    | none=>rw[e2]at h;cases h
    | some ds=>rw[e2]at h;cases h;exact .inr ⟨xs,ds,rfl,e2,rfl⟩
theorem B9 {n:Nat}{x:V}{d:PyData}(h:rdD n H x=some d)(hx:∀ a,x≠.ref a):a1u x=true/\d=flatD x:=by
 cases x with
 | ref a=>exact absurd rfl (hx a)
 | _=>cases n <;> first | (cases h;exact⟨rfl,rfl⟩) | cases h
end
end Tv
namespace Tv
open PySem PySem.Spec PySem.Calls PyProof.Rows L2
section
variable {prog:Program}{w:World}{K:Type}[DecidableEq K]{knd:HeapKind prog w K}{A:Around}{E:Value->Shared->Prop}{s:Shared}
theorem a1z {nm:String}{a b:Addr}{xs ys:List (K×Addr×Value)}{Q:Bool->Shared->Prop}(ha:(a==sysModules)=false)(hb:(b==sysModules)=false)(hu:knd.room A)
  (da:s.heap.DictOfH knd a xs)(db:s.heap.DictOfH knd b ys)(hl:xs.length=ys.length)(hit:∀ x∈xs,(∃ (j:Nat) (p:Addr×Value),ys[j]?=some (x.1,p))/\∀ (j:Nat) (p:Addr×Value),ys[j]?=some (x.1,p)->SeqAt.EqAt A s x.2.2 p.2 true)(h:Q true s):
  wpAny (model prog w) A (Builtin.Dict.samePairs nm a b) Q E s:=by
 obtain⟨oa,es,ep,hoa,_,hda,hea,hia,_⟩:=da
 obtain⟨ob,es',ep',hob,_,hdb,heb,hib,hnb⟩:=db
 have hla:xs.length=es.size:=by rw[<- Array.length_toList,hea,List.length_map]
 have hlb:ys.length=es'.size:=by rw[<- Array.length_toList,heb,List.length_map]
 unfold Builtin.Dict.samePairs Builtin.Dict.showsAll
 rw[if_neg (show ¬ (a==sysModules)=true by rw[ha];exact Bool.false_ne_true),if_neg (show ¬ (b==sysModules)=true by rw[hb];exact Bool.false_ne_true)]
 refine wpAny_bind (wpAny_pure (wpAny_bind (wpAny_pure ?_)))
 refine wpAny_bind (wpAny_dictEntries hoa hda ?_)
 dsimp only
 refine wpAny_bind (wpAny_dictEntries hob hdb ?_)
 have hsz:es.size=es'.size:=by omega
 rw[if_neg (by rw[hsz];simp)]
 refine wpAny_bind (wpAny_dictEpoch hoa hda ?_)
 refine wpAny_bind ?_
 rw[Std.Legacy.Range.forIn_eq_forIn_range']
 simp only[Std.Legacy.Range.size,Nat.sub_zero,Nat.add_sub_cancel,Nat.div_one]
 refine wpAny_forIn_list _
  (λ rest q s'=>s'=s/\q=(none,())/\∃ i,rest=List.range' i (es.size - i)/\i<=es.size)
  _ ?_ ?_ _ _ ⟨rfl,rfl,0,by simp,Nat.zero_le _⟩
 ·rintro x rest q s' ⟨rfl,rfl,i,hr,hi⟩
  have hlt:i < es.size:=by
   rcases Nat.lt_or_ge i es.size with h | h
   ·exact h
   ·rw[Nat.sub_eq_zero_of_le h]at hr;simp at hr
  obtain⟨rfl,hrest⟩:x=i/\rest=List.range' (i + 1) (es.size - (i + 1)):=by
   have e:es.size - i=(es.size - (i + 1)) + 1:=by omega
   rw[e,List.range'_succ]at hr
   injection hr with h1 h2
   exact⟨h1,h2⟩
  refine wpAny_bind (wpAny_dictEntries hoa hda ?_)
  rw[Array.getElem?_eq_getElem hlt]
  have hlt':x < xs.length:=by rw[hla];exact hlt
  have ent:es[x]=entryOfKey knd xs[x]:=by
   have h1:es.toList[x]?=some es[x]:=by rw[Array.getElem?_toList,Array.getElem?_eq_getElem hlt]
   rw[hea,List.getElem?_map,List.getElem?_eq_getElem hlt']at h1
   exact(Option.some.inj h1).symm
  have hxm:xs[x]∈xs:=List.getElem_mem hlt'
  obtain⟨hex,hall⟩:=hit _ hxm
  show wpAny _ _ (holding [es[x].key,es[x].val] _ >>= _) _ _ _
  rw[ent]
  refine wpAny_bind (wpAny_holding (wpAny_bind (wpAny_dictFind_heap hu (hia _ hxm) hob hdb heb hib hnb (λ hn=>?_) λ j p hj=>?_)))
  ·obtain⟨j,p,hj⟩:=hex
   exact(hn j p hj).elim
  ·have hjl:j < es'.size:=by rw[<- hlb];exact(Zg hj).1
   have ent':es'[j]=entryOfKey knd (xs[x].1,p):=by
    have h1:es'.toList[j]?=some es'[j]:=by rw[Array.getElem?_toList,Array.getElem?_eq_getElem hjl]
    rw[heb,List.getElem?_map,hj]at h1
    exact(Option.some.inj h1).symm
   refine wpAny_bind (wpAny_dictEntries hob hdb ?_)
   rw[Array.getElem?_eq_getElem hjl,ent']
   refine wpAny_holding (hall j p hj prog w _ _ ?_)
   show wpAny _ _ (if (!true)=true then _ else _) _ _ _
   rw[if_neg (by decide)]
   refine wpAny_bind (wpAny_dictEpoch hoa hda ?_)
   rw[if_neg (by simp)]
   exact wpAny_pure ⟨rfl,rfl,x + 1,hrest,hlt⟩
 ·rintro q s' ⟨rfl,rfl,i,hr,hi⟩
  exact wpAny_pure h
theorem eq_dictH {a b:Addr}{xs ys:List (K×Addr×Value)}{Q:Value->Shared->Prop}(ha:(a==sysModules)=false)(hb:(b==sysModules)=false)(hu:knd.room A.in1)(hun:A.units < cLine)
  (da:s.heap.DictOfH knd a xs)(db:s.heap.DictOfH knd b ys)(hl:xs.length=ys.length)(hit:∀ x∈xs,(∃ (j:Nat) (p:Addr×Value),ys[j]?=some (x.1,p))/\∀ (j:Nat) (p:Addr×Value),ys[j]?=some (x.1,p)->SeqAt.EqAt A.in1 s x.2.2 p.2 true)(h:Q (.bool true) s):
  wpAny (model prog w) A (compareOp .Eq (.ref a) (.ref b)) Q E s:=by
 refine wpAny_richCompare_same_room (op:=.Eq) da.typeIs db.typeIs PySem.F.slot_dict_eq (wpAny_call_entry PySem.F.slot_dict_eq da.typeIs PySem.F.entry_dict_eq ?_ (PySem.F.args_dict_eq_2 _ _)) hun
 show wpAny _ _ (Builtin.Dict.dictSlotArgs "__eq__" ⟨[.ref a,.ref b],[]⟩ >>= _) _ _ s
 refine wpAny_bind ?_
 unfold Builtin.Dict.dictSlotArgs
 refine wpAny_bind (wpAny_notOrdered_dict da.typeIs ?_)
 show wpAny _ _ (pure (Value.ref a,Value.ref b)) _ _ s
 refine wpAny_pure ?_
 refine wpAny_bind (wpAny_isInstance (T := "dict") db.typeIs PySem.F.sub_dict_dict ?_)
 simp only[Bool.not_true,Bool.false_eq_true,if_false]
 refine wpAny_bind (wpAny_pure (wpAny_bind (wpAny_pure ?_)))
 refine wpAny_bind (a1z ha hb hu da db hl hit ?_)
 refine wpAny_pure ⟨_,rfl,?_,?_⟩
 ·exact λ x=>nomatch x
 ·simpa using h
theorem ne_dictH {a b:Addr}{xs ys:List (K×Addr×Value)}{Q:Value->Shared->Prop}(ha:(a==sysModules)=false)(hb:(b==sysModules)=false)(hu:knd.room A.in1)(hun:A.units < cLine)
  (da:s.heap.DictOfH knd a xs)(db:s.heap.DictOfH knd b ys)(hl:xs.length=ys.length)(hit:∀ x∈xs,(∃ (j:Nat) (p:Addr×Value),ys[j]?=some (x.1,p))/\∀ (j:Nat) (p:Addr×Value),ys[j]?=some (x.1,p)->SeqAt.EqAt A.in1 s x.2.2 p.2 true)(h:Q (.bool false) s):
  wpAny (model prog w) A (compareOp .NotEq (.ref a) (.ref b)) Q E s:=by
 refine wpAny_richCompare_same_room (op:=.NotEq) da.typeIs db.typeIs PySem.F.slot_dict_ne (wpAny_call_entry PySem.F.slot_dict_ne da.typeIs PySem.F.entry_dict_ne ?_ (PySem.F.args_dict_ne_2 _ _)) hun
 show wpAny _ _ (Builtin.Dict.dictSlotArgs "__ne__" ⟨[.ref a,.ref b],[]⟩ >>= _) _ _ s
 refine wpAny_bind ?_
 unfold Builtin.Dict.dictSlotArgs
 refine wpAny_bind (wpAny_notOrdered_dict da.typeIs ?_)
 show wpAny _ _ (pure (Value.ref a,Value.ref b)) _ _ s
 refine wpAny_pure ?_
 refine wpAny_bind (wpAny_isInstance (T := "dict") db.typeIs PySem.F.sub_dict_dict ?_)
 simp only[Bool.not_true,Bool.false_eq_true,if_false]
 refine wpAny_bind (wpAny_pure (wpAny_bind (wpAny_pure ?_)))
 refine wpAny_bind (a1z ha hb hu da db hl hit ?_)
 refine wpAny_pure ⟨_,rfl,?_,?_⟩
 ·exact λ x=>nomatch x
 ·simpa using h
def eqDT (x y:V)(H:Hp)(Q:VK):Prop:=∃ (p q:Addr) (kvs lvs:List (List Key×V)),x=.ref p/\y=.ref q/\H p=some (.dT kvs)/\H q=some (.dT lvs)/\kvs.length=lvs.length/\(∀ k v,(k,v)∈kvs->∃ n,v=.int n/\(k,.int n)∈lvs/\∀ v',(k,v')∈lvs->v'=.int n)/\Q (.bl true) H
end
section
variable {X:Cx}{pins:List (Addr×Obj)}{Z:St}{H:Hp}{s:Shared}
theorem F1 {α:Type}{xs:List α}{i:Nat}{x d:α}(h:xs[i]?=some x):xs.getD i d=x:=by
 simp[List.getD,h]
theorem y6 (x:V):(∃ a,x=.ref a)\/∀ a,x≠.ref a:=by
 cases x <;> first | exact .inl ⟨_,rfl⟩ | exact .inr λ a h=>by cases h
theorem a1A (I:Inv X pins Z H s):∀ (n:Nat) (A:Around) (x y:V) (u v:Value) (d e:PyData),rdD n H x=some d->rdD n H y=some e->RelV x u->RelV y v->A.units + n < cLine->SeqAt.EqAt A s u v (PyData.eqv d e):=by
 intro n
 induction n with
 | zero=>
  intro A x y u v d e hx hy rx ry hu
  rcases y6 x with⟨a,rfl⟩ | nx
  ·cases hx
  rcases y6 y with⟨a,rfl⟩ | ny
  ·cases hy
  obtain⟨fx,rfl⟩:=B9 hx nx
  obtain⟨fy,rfl⟩:=B9 hy ny
  have:=eqAt_V (A:=A) (s:=s) rx ry fx fy
  cases x <;> cases y <;> first | (cases fx;done) | (cases fy;done) | exact this
 | succ n ih=>
  intro A x y u v d e hx hy rx ry hu
  have hu':A.units < cLine:=by omega
  rcases y6 x with⟨a,rfl⟩ | nx
  ·obtain⟨m,em,hx'⟩:=M2 hx
   cases em
   cases rx
   rcases y6 y with⟨b,rfl⟩ | ny
   ·obtain⟨m',em',hy'⟩:=M2 hy
    cases em'
    cases ry
    by_cases hab:a=b
    ·subst hab
     rw[hx]at hy
     cases hy
     rw[a4J _ _ _ hx]
     exact SeqAt.EqAt.same _
    ·rcases hx' with⟨xs,ds,ha,hd,rfl⟩ | ⟨xs,ds,ha,hd,rfl⟩
     ·obtain⟨its,r1,l1⟩:=A7 I ha
      obtain⟨q1,q2⟩:=q8 hd
      rcases hy' with⟨ys,es,hb,he,rfl⟩ | ⟨ys,es,hb,he,rfl⟩
      ·obtain⟨jts,r2,l2⟩:=A7 I hb
       obtain⟨p1,p2⟩:=q8 he
       have e1:=r1.length
       have e2:=r2.length
       show SeqAt.EqAt A s _ _ (PyData.eqvAll ds es)
       by_cases hl:its.length=jts.length
       ·have ez:PyData.eqvAll ds es=(List.range its.toArray.size).all λ j=>PyData.eqv (ds.getD j .none) (es.getD j .none):=by
         rw[K1 (by omega)]
         congr 2
         simp
         omega
        rw[ez]
        refine SeqAt.EqAt.of_refs hab (SeqAt.RcAt.lists l1 l2 (by simpa using hl) hu' λ j j1 j2=>?_)
        have j1':j < xs.length:=by simpa[e1] using j1
        have j2':j < ys.length:=by simpa[e2] using j2
        obtain⟨y1,g1,k1⟩:=q2 j xs[j] (by simp[j1'])
        obtain⟨y2,g2,k2⟩:=p2 j ys[j] (by simp[j2'])
        obtain⟨u1,w1,z1⟩:=r1.get (i:=j) (x:=xs[j]) (by simp[j1'])
        obtain⟨u2,w2,z2⟩:=r2.get (i:=j) (x:=ys[j]) (by simp[j2'])
        rw[F1 g1,F1 g2]
        have o1:its.toArray[j]=u1:=by
         obtain⟨_,o⟩:=Zg w1
         simpa using o
        have o2:jts.toArray[j]=u2:=by
         obtain⟨_,o⟩:=Zg w2
         simpa using o
        rw[o1,o2]
        exact ih A.in1 _ _ _ _ _ _ k1 k2 z1 z2 (by rw[u0];omega)
       ·rw[K2 (by omega)]
        exact SeqAt.EqAt.of_refs hab (SeqAt.RcAt.lists_lengths l1 l2 (by simpa using hl) hu')
      ·obtain⟨jts,r2,l2⟩:=J6 I hb
       exact SeqAt.EqAt.list_tuple l1 l2 hu'
     ·obtain⟨its,r1,l1⟩:=J6 I ha
      obtain⟨q1,q2⟩:=q8 hd
      rcases hy' with⟨ys,es,hb,he,rfl⟩ | ⟨ys,es,hb,he,rfl⟩
      ·obtain⟨jts,r2,l2⟩:=A7 I hb
       exact SeqAt.EqAt.tuple_list l1 l2 hu'
      ·obtain⟨jts,r2,l2⟩:=J6 I hb
       obtain⟨p1,p2⟩:=q8 he
       have e1:=r1.length
       have e2:=r2.length
       show SeqAt.EqAt A s _ _ (PyData.eqvAll ds es)
       have ez:PyData.eqvAll ds es=((List.range (min its.toArray.size jts.toArray.size)).all (λ j=>PyData.eqv (ds.getD j .none) (es.getD j .none))&&its.toArray.size==jts.toArray.size):=by
        by_cases hl:its.length=jts.length
        ·rw[K1 (by omega)]
         have:(its.toArray.size==jts.toArray.size)=true:=by simpa using hl
         rw[this,Bool.and_true]
         congr 2
         simp
         omega
        ·rw[K2 (by omega)]
         have:(its.toArray.size==jts.toArray.size)=false:=by simpa using hl
         rw[this,Bool.and_false]
       rw[ez]
       refine SeqAt.EqAt.of_refs hab (SeqAt.RcAt.tuples l1 l2 hu' λ j j1 j2=>?_)
       have j1':j < xs.length:=by simpa[e1] using j1
       have j2':j < ys.length:=by simpa[e2] using j2
       obtain⟨y1,g1,k1⟩:=q2 j xs[j] (by simp[j1'])
       obtain⟨y2,g2,k2⟩:=p2 j ys[j] (by simp[j2'])
       obtain⟨u1,w1,z1⟩:=r1.get (i:=j) (x:=xs[j]) (by simp[j1'])
       obtain⟨u2,w2,z2⟩:=r2.get (i:=j) (x:=ys[j]) (by simp[j2'])
       rw[F1 g1,F1 g2]
       have o1:its.toArray[j]=u1:=by
        obtain⟨_,o⟩:=Zg w1
        simpa using o
       have o2:jts.toArray[j]=u2:=by
        obtain⟨_,o⟩:=Zg w2
        simpa using o
       rw[o1,o2]
       exact ih A.in1 _ _ _ _ _ _ k1 k2 z1 z2 (by rw[u0];omega)
   ·obtain⟨fy,rfl⟩:=B9 hy ny
    have hs:(∃ its,s.heap.IsList a its)\/∃ its,s.heap.IsTuple a its:=by
     rcases hx' with⟨xs,ds,ha,_,_⟩ | ⟨xs,ds,ha,_,_⟩
     ·obtain⟨its,_,l⟩:=A7 I ha;exact .inl ⟨_,l⟩
     ·obtain⟨its,_,l⟩:=J6 I ha;exact .inr ⟨_,l⟩
    have z:=(eqAt_fs ry fy hu' hs).2
    rcases hx' with⟨xs,ds,ha,hd,rfl⟩ | ⟨xs,ds,ha,hd,rfl⟩ <;> (cases y <;> first | (cases fy;done) | exact z)
  ·obtain⟨fx,rfl⟩:=B9 hx nx
   rcases y6 y with⟨b,rfl⟩ | ny
   ·obtain⟨m',em',hy'⟩:=M2 hy
    cases em'
    cases ry
    have hs:(∃ its,s.heap.IsList b its)\/∃ its,s.heap.IsTuple b its:=by
     rcases hy' with⟨xs,ds,ha,_,_⟩ | ⟨xs,ds,ha,_,_⟩
     ·obtain⟨its,_,l⟩:=A7 I ha;exact .inl ⟨_,l⟩
     ·obtain⟨its,_,l⟩:=J6 I ha;exact .inr ⟨_,l⟩
    have z:=(eqAt_fs rx fx hu' hs).1
    rcases hy' with⟨xs,ds,ha,hd,rfl⟩ | ⟨xs,ds,ha,hd,rfl⟩ <;> (cases x <;> first | (cases fx;done) | exact z)
   ·obtain⟨fy,rfl⟩:=B9 hy ny
    have:=eqAt_V (A:=A) (s:=s) rx ry fx fy
    cases x <;> cases y <;> first | (cases fx;done) | (cases fy;done) | exact this
theorem rc_flat {A:Around}{x y:V}{u v:Value}(rx:RelV x u)(ry:RelV y v)(fx:a1u x=true)(fy:a1u y=true):SeqAt.RcAt A s u v (eqV x y)/\SeqAt.RcNeAt A s u v (!eqV x y):=by
 cases x with
 | non=>
  cases rx
  cases y with
  | non=>
   cases ry
   exact⟨SeqAt.RcAt.none_none,SeqAt.RcNeAt.none_none⟩
  | bl c=>
   cases ry
   exact⟨SeqAt.RcAt.none_bool _,SeqAt.RcNeAt.none_bool _⟩
  | int c=>
   obtain⟨t2,rfl⟩:=ry
   exact⟨SeqAt.RcAt.none_int _ _,SeqAt.RcNeAt.none_int _ _⟩
  | str c=>
   obtain⟨t2,rfl⟩:=ry
   exact⟨SeqAt.RcAt.none_str _ _,SeqAt.RcNeAt.none_str _ _⟩
  | _=>cases fy
 | bl a=>
  cases rx
  cases y with
  | non=>
   cases ry
   exact⟨SeqAt.RcAt.bool_none _,SeqAt.RcNeAt.bool_none _⟩
  | bl c=>
   cases ry
   exact⟨SeqAt.RcAt.bool_bool _ _,SeqAt.RcNeAt.bool_bool _ _⟩
  | int c=>
   obtain⟨t2,rfl⟩:=ry
   exact⟨SeqAt.RcAt.bool_int _ _ _,SeqAt.RcNeAt.bool_int _ _ _⟩
  | str c=>
   obtain⟨t2,rfl⟩:=ry
   exact⟨SeqAt.RcAt.bool_str _ _ _,SeqAt.RcNeAt.bool_str _ _ _⟩
  | _=>cases fy
 | int a=>
  obtain⟨t1,rfl⟩:=rx
  cases y with
  | non=>
   cases ry
   exact⟨SeqAt.RcAt.int_none _ _,SeqAt.RcNeAt.int_none _ _⟩
  | bl c=>
   cases ry
   exact⟨SeqAt.RcAt.int_bool _ _ _,SeqAt.RcNeAt.int_bool _ _ _⟩
  | int c=>
   obtain⟨t2,rfl⟩:=ry
   exact⟨SeqAt.RcAt.int_int _ _ _ _,SeqAt.RcNeAt.int_int _ _ _ _⟩
  | str c=>
   obtain⟨t2,rfl⟩:=ry
   exact⟨SeqAt.RcAt.int_str _ _ _ _,SeqAt.RcNeAt.int_str _ _ _ _⟩
  | _=>cases fy
 | str a=>
  obtain⟨t1,rfl⟩:=rx
  cases y with
  | non=>
   cases ry
   exact⟨SeqAt.RcAt.str_none _ _,SeqAt.RcNeAt.str_none _ _⟩
  | bl c=>
   cases ry
   exact⟨SeqAt.RcAt.str_bool _ _ _,SeqAt.RcNeAt.str_bool _ _ _⟩
  | int c=>
   obtain⟨t2,rfl⟩:=ry
   exact⟨SeqAt.RcAt.str_int _ _ _ _,SeqAt.RcNeAt.str_int _ _ _ _⟩
  | str c=>
   obtain⟨t2,rfl⟩:=ry
   exact⟨SeqAt.RcAt.str_str _ _ _ _,SeqAt.RcNeAt.str_str _ _ _ _⟩
  | _=>cases fy
 | _=>cases fx
theorem rc_fs {A:Around}{x:V}{u:Value}{a:Addr}(rx:RelV x u)(fx:a1u x=true)(hu:A.units < cLine)(h:(∃ its,s.heap.IsList a its)\/∃ its,s.heap.IsTuple a its):
  (SeqAt.RcAt A s u (.ref a) false/\SeqAt.RcNeAt A s u (.ref a) true)/\SeqAt.RcAt A s (.ref a) u false/\SeqAt.RcNeAt A s (.ref a) u true:=by
 cases x with
 | non=>
  cases rx
  rcases h with⟨its,h⟩ | ⟨its,h⟩
  ·exact⟨⟨SeqAt.RcAt.none_list h hu,SeqAt.RcNeAt.none_list h hu⟩,SeqAt.RcAt.list_none h hu,SeqAt.RcNeAt.list_none h hu⟩
  ·exact⟨⟨SeqAt.RcAt.none_tuple h hu,SeqAt.RcNeAt.none_tuple h hu⟩,SeqAt.RcAt.tuple_none h hu,SeqAt.RcNeAt.tuple_none h hu⟩
 | bl a=>
  cases rx
  rcases h with⟨its,h⟩ | ⟨its,h⟩
  ·exact⟨⟨SeqAt.RcAt.bool_list _ h hu,SeqAt.RcNeAt.bool_list _ h hu⟩,SeqAt.RcAt.list_bool _ h hu,SeqAt.RcNeAt.list_bool _ h hu⟩
  ·exact⟨⟨SeqAt.RcAt.bool_tuple _ h hu,SeqAt.RcNeAt.bool_tuple _ h hu⟩,SeqAt.RcAt.tuple_bool _ h hu,SeqAt.RcNeAt.tuple_bool _ h hu⟩
 | int a=>
  obtain⟨t1,rfl⟩:=rx
  rcases h with⟨its,h⟩ | ⟨its,h⟩
  ·exact⟨⟨SeqAt.RcAt.int_list _ _ h hu,SeqAt.RcNeAt.int_list _ _ h hu⟩,SeqAt.RcAt.list_int _ _ h hu,SeqAt.RcNeAt.list_int _ _ h hu⟩
  ·exact⟨⟨SeqAt.RcAt.int_tuple _ _ h hu,SeqAt.RcNeAt.int_tuple _ _ h hu⟩,SeqAt.RcAt.tuple_int _ _ h hu,SeqAt.RcNeAt.tuple_int _ _ h hu⟩
 | str a=>
  obtain⟨t1,rfl⟩:=rx
  rcases h with⟨its,h⟩ | ⟨its,h⟩
  ·exact⟨⟨SeqAt.RcAt.str_list _ _ h hu,SeqAt.RcNeAt.str_list _ _ h hu⟩,SeqAt.RcAt.list_str _ _ h hu,SeqAt.RcNeAt.list_str _ _ h hu⟩
  ·exact⟨⟨SeqAt.RcAt.str_tuple _ _ h hu,SeqAt.RcNeAt.str_tuple _ _ h hu⟩,SeqAt.RcAt.tuple_str _ _ h hu,SeqAt.RcNeAt.tuple_str _ _ h hu⟩
 | _=>cases fx
theorem rcAt_D (I:Inv X pins Z H s){n:Nat}{A:Around}{x y:V}{u v:Value}{d e:PyData}(hx:rdD n H x=some d)(hy:rdD n H y=some e)(rx:RelV x u)(ry:RelV y v)(hu:A.units + n < cLine):
  SeqAt.RcAt A s u v (PyData.eqv d e)/\SeqAt.RcNeAt A s u v (!PyData.eqv d e):=by
 have hu':A.units < cLine:=by omega
 have seq:∀ {a:Addr}{d:PyData},rdD n H (.ref a)=some d->(∃ its,s.heap.IsList a its)\/∃ its,s.heap.IsTuple a its:=λ {a d} h=>by
  obtain⟨m,em,h'⟩:=M2 h
  rcases h' with⟨xs,ds,ha,_,_⟩ | ⟨xs,ds,ha,_,_⟩
  ·obtain⟨its,_,l⟩:=A7 I ha;exact .inl ⟨_,l⟩
  ·obtain⟨its,_,l⟩:=J6 I ha;exact .inr ⟨_,l⟩
 have sd:∀ {a:Addr}{d:PyData},rdD n H (.ref a)=some d->(∃ ds,d=.list ds)\/∃ ds,d=.tuple ds:=λ {a d} h=>by
  obtain⟨m,em,h'⟩:=M2 h
  rcases h' with⟨xs,ds,_,_,e⟩ | ⟨xs,ds,_,_,e⟩
  ·exact .inl ⟨ds,e⟩
  ·exact .inr ⟨ds,e⟩
 rcases y6 x with⟨a,rfl⟩ | nx
 ·rcases y6 y with⟨b,rfl⟩ | ny
  ·cases rx
   cases ry
   obtain⟨m,em,hx'⟩:=M2 hx
   obtain⟨m',em',hy'⟩:=M2 hy
   subst em
   cases em'
   rcases hx' with⟨xs,ds,ha,hd,rfl⟩ | ⟨xs,ds,ha,hd,rfl⟩
   ·obtain⟨its,r1,l1⟩:=A7 I ha
    obtain⟨q1,q2⟩:=q8 hd
    rcases hy' with⟨ys,es,hb,he,rfl⟩ | ⟨ys,es,hb,he,rfl⟩
    ·obtain⟨jts,r2,l2⟩:=A7 I hb
     obtain⟨p1,p2⟩:=q8 he
     have e1:=r1.length
     have e2:=r2.length
     show SeqAt.RcAt A s _ _ (PyData.eqvAll ds es)/\SeqAt.RcNeAt A s _ _ (!PyData.eqvAll ds es)
     by_cases hl:its.length=jts.length
     ·have ez:PyData.eqvAll ds es=(List.range its.toArray.size).all λ j=>PyData.eqv (ds.getD j .none) (es.getD j .none):=by
       rw[K1 (by omega)]
       congr 2
       simp
       omega
      rw[ez]
      have each:∀ j (j1:j < its.toArray.size) (j2:j < jts.toArray.size),SeqAt.EqAt A.in1 s its.toArray[j] jts.toArray[j] (PyData.eqv (ds.getD j .none) (es.getD j .none)):=λ j j1 j2=>by
       have j1':j < xs.length:=by simpa[e1] using j1
       have j2':j < ys.length:=by simpa[e2] using j2
       obtain⟨y1,g1,k1⟩:=q2 j xs[j] (by simp[j1'])
       obtain⟨y2,g2,k2⟩:=p2 j ys[j] (by simp[j2'])
       obtain⟨u1,w1,z1⟩:=r1.get (i:=j) (x:=xs[j]) (by simp[j1'])
       obtain⟨u2,w2,z2⟩:=r2.get (i:=j) (x:=ys[j]) (by simp[j2'])
       rw[F1 g1,F1 g2]
       have o1:its.toArray[j]=u1:=by
        obtain⟨_,o⟩:=Zg w1
        simpa using o
       have o2:jts.toArray[j]=u2:=by
        obtain⟨_,o⟩:=Zg w2
        simpa using o
       rw[o1,o2]
       exact a1A I m A.in1 _ _ _ _ _ _ k1 k2 z1 z2 (by rw[u0];omega)
      exact⟨SeqAt.RcAt.lists l1 l2 (by simpa using hl) hu' each,SeqAt.RcNeAt.lists l1 l2 (by simpa using hl) hu' each⟩
     ·rw[K2 (by omega)]
      exact⟨SeqAt.RcAt.lists_lengths l1 l2 (by simpa using hl) hu',SeqAt.RcNeAt.lists_lengths l1 l2 (by simpa using hl) hu'⟩
    ·obtain⟨jts,r2,l2⟩:=J6 I hb
     exact⟨SeqAt.RcAt.list_tuple l1 l2 hu',SeqAt.RcNeAt.list_tuple l1 l2 hu'⟩
   ·obtain⟨its,r1,l1⟩:=J6 I ha
    obtain⟨q1,q2⟩:=q8 hd
    rcases hy' with⟨ys,es,hb,he,rfl⟩ | ⟨ys,es,hb,he,rfl⟩
    ·obtain⟨jts,r2,l2⟩:=A7 I hb
     exact⟨SeqAt.RcAt.tuple_list l1 l2 hu',SeqAt.RcNeAt.tuple_list l1 l2 hu'⟩
    ·obtain⟨jts,r2,l2⟩:=J6 I hb
     obtain⟨p1,p2⟩:=q8 he
     have e1:=r1.length
     have e2:=r2.length
     show SeqAt.RcAt A s _ _ (PyData.eqvAll ds es)/\SeqAt.RcNeAt A s _ _ (!PyData.eqvAll ds es)
     have ez:PyData.eqvAll ds es=((List.range (min its.toArray.size jts.toArray.size)).all (λ j=>PyData.eqv (ds.getD j .none) (es.getD j .none))&&its.toArray.size==jts.toArray.size):=by
      by_cases hl:its.length=jts.length
      ·rw[K1 (by omega)]
       have:(its.toArray.size==jts.toArray.size)=true:=by simpa using hl
       rw[this,Bool.and_true]
       congr 2
       simp
       omega
      ·rw[K2 (by omega)]
       have:(its.toArray.size==jts.toArray.size)=false:=by simpa using hl
       rw[this,Bool.and_false]
     rw[ez]
     have each:∀ j (j1:j < its.toArray.size) (j2:j < jts.toArray.size),SeqAt.EqAt A.in1 s its.toArray[j] jts.toArray[j] (PyData.eqv (ds.getD j .none) (es.getD j .none)):=λ j j1 j2=>by
      have j1':j < xs.length:=by simpa[e1] using j1
      have j2':j < ys.length:=by simpa[e2] using j2
      obtain⟨y1,g1,k1⟩:=q2 j xs[j] (by simp[j1'])
      obtain⟨y2,g2,k2⟩:=p2 j ys[j] (by simp[j2'])
      obtain⟨u1,w1,z1⟩:=r1.get (i:=j) (x:=xs[j]) (by simp[j1'])
      obtain⟨u2,w2,z2⟩:=r2.get (i:=j) (x:=ys[j]) (by simp[j2'])
      rw[F1 g1,F1 g2]
      have o1:its.toArray[j]=u1:=by
       obtain⟨_,o⟩:=Zg w1
       simpa using o
      have o2:jts.toArray[j]=u2:=by
       obtain⟨_,o⟩:=Zg w2
       simpa using o
      rw[o1,o2]
      exact a1A I m A.in1 _ _ _ _ _ _ k1 k2 z1 z2 (by rw[u0];omega)
     exact⟨SeqAt.RcAt.tuples l1 l2 hu' each,SeqAt.RcNeAt.tuples l1 l2 hu' each⟩
  ·obtain⟨fy,rfl⟩:=B9 hy ny
   have z:=(rc_fs (A:=A) ry fy hu' (seq hx)).2
   cases rx
   rcases sd hx with⟨ds,rfl⟩ | ⟨ds,rfl⟩ <;> (cases y <;> first | (cases fy;done) | exact z)
 ·obtain⟨fx,rfl⟩:=B9 hx nx
  rcases y6 y with⟨b,rfl⟩ | ny
  ·cases ry
   have z:=(rc_fs rx fx hu' (seq hy)).1
   rcases sd hy with⟨ds,rfl⟩ | ⟨ds,rfl⟩ <;> (cases x <;> first | (cases fx;done) | exact z)
  ·obtain⟨fy,rfl⟩:=B9 hy ny
   have:=rc_flat (A:=A) (s:=s) rx ry fx fy
   cases x <;> cases y <;> first | (cases fx;done) | (cases fy;done) | exact this
def isRf:V->Bool
 | .ref _=>true
 | _=>false
def eqD (x y:V)(H:Hp)(Q:VK):Prop:=match rdD 8 H x,rdD 8 H y with
 | some d,some e=>Q (.bl (PyData.eqv d e)) H
 | _,_=>False
inductive EqT (H:Hp):Nat->V->V->Prop where
 | same (n:Nat) (a:Addr):EqT H n (.ref a) (.ref a)
 | data {n:Nat}{x y:V}{d e:PyData} (hx:rdD n H x=some d) (hy:rdD n H y=some e) (h:PyData.eqv d e=true):EqT H n x y
 | lst {n:Nat}{p q:Addr}{xs ys:List V} (hne:p≠q) (hp:H p=some (.lst xs)) (hq:H q=some (.lst ys)) (hl:xs.length=ys.length) (he:∀ (i:Nat) x y,xs[i]?=some x->ys[i]?=some y->EqT H n x y):EqT H (n + 1) (.ref p) (.ref q)
theorem list_T (I:Inv X pins Z H s){A:Around}{p q:Addr}{xs ys:List V}(hp:H p=some (.lst xs))(hq:H q=some (.lst ys))(hl:xs.length=ys.length)(hu:A.units < cLine)
  (he:∀ (i:Nat) x y u v,xs[i]?=some x->ys[i]?=some y->RelV x u->RelV y v->SeqAt.EqAt A.in1 s u v true):SeqAt.RcAt A s (.ref p) (.ref q) true/\SeqAt.RcNeAt A s (.ref p) (.ref q) false:=by
 obtain⟨its,r1,l1⟩:=A7 I hp
 obtain⟨jts,r2,l2⟩:=A7 I hq
 have e1:=r1.length
 have e2:=r2.length
 have each:∀ j (j1:j < its.toArray.size) (j2:j < jts.toArray.size),SeqAt.EqAt A.in1 s its.toArray[j] jts.toArray[j] ((λ _:Nat=>true) j):=λ j j1 j2=>by
  have j1':j < xs.length:=by simpa[e1] using j1
  have j2':j < ys.length:=by simpa[e2] using j2
  obtain⟨u1,w1,z1⟩:=r1.get (i:=j) (x:=xs[j]) (by simp[j1'])
  obtain⟨u2,w2,z2⟩:=r2.get (i:=j) (x:=ys[j]) (by simp[j2'])
  have o1:its.toArray[j]=u1:=by
   obtain⟨_,o⟩:=Zg w1
   simpa using o
  have o2:jts.toArray[j]=u2:=by
   obtain⟨_,o⟩:=Zg w2
   simpa using o
  rw[o1,o2]
  exact he j xs[j] ys[j] u1 u2 (by simp[j1']) (by simp[j2']) z1 z2
 have all:(List.range its.toArray.size).all (λ _:Nat=>true)=true:=by simp
 have a:=SeqAt.RcAt.lists l1 l2 (by simp;omega) hu each
 have b:=SeqAt.RcNeAt.lists l1 l2 (by simp;omega) hu each
 rw[all]at a b
 exact⟨a,b⟩
theorem eqT_at (I:Inv X pins Z H s):∀ {n:Nat}{x y:V},EqT H n x y->∀ {A:Around}{u v:Value},RelV x u->RelV y v->A.units + n < cLine->SeqAt.EqAt A s u v true:=λ {n x y} h=>by
 induction h with
 | same n a=>
  intro A u v ru rv hu
  cases ru
  cases rv
  exact SeqAt.EqAt.same _
 | data hx hy h=>
  intro A u v ru rv hu
  have:=a1A I _ A _ _ _ _ _ _ hx hy ru rv hu
  rw[h]at this
  exact this
 | lst hne hp hq hl he ih=>
  intro A u v ru rv hu
  cases ru
  cases rv
  exact SeqAt.EqAt.of_refs hne (list_T I hp hq hl (by omega) λ i x y u v h1 h2 r1 r2=>ih i x y h1 h2 r1 r2 (by rw[u0];omega)).1
def eqL (x y:V)(H:Hp)(Q:VK):Prop:=∃ (p q:Addr) (xs ys:List V),x=.ref p/\y=.ref q/\H p=some (.lst xs)/\H q=some (.lst ys)/\xs.length=ys.length/\(∀ (i:Nat) x y,xs[i]?=some x->ys[i]?=some y->EqT H 8 x y)/\Q (.bl true) H
@[irreducible] def eqH (x y:V)(H:Hp)(Q:VK):Prop:=eqD x y H Q\/eqL x y H Q\/eqDT x y H Q
def eqG:R2:=λ x y H Q=>match isRf x||isRf y with
 | true=>eqH x y H Q
 | false=>eqD x y H Q
theorem eqG_D {x y:V}{H:Hp}{Q:VK}(h:eqG x y H Q):eqD x y H Q\/eqL x y H Q\/eqDT x y H Q:=by
 unfold eqG at h
 split at h
 ·unfold eqH at h
  exact h
 ·exact .inl h
def neG:R2:=λ x y H Q=>eqG x y H λ v H1=>match v with
 | .bl b=>Q (.bl (!b)) H1
 | _=>False
theorem Paired.at1 {α β:Type}{F:α->β->Prop}:∀ {l:List α}{m:List β},Paired F l m->∀ {i:Nat}{a:α},l[i]?=some a->∃ b,m[i]?=some b/\F a b
 | _,_,.nil,i,a,h=>by simp at h
 | _,_,.cons r t,0,a,h=>by cases h;exact⟨_,rfl,r⟩
 | _,_,.cons r t,i + 1,a,h=>Paired.at1 t h
theorem Paired.at2 {α β:Type}{F:α->β->Prop}:∀ {l:List α}{m:List β},Paired F l m->∀ {i:Nat}{b:β},m[i]?=some b->∃ a,l[i]?=some a/\F a b
 | _,_,.nil,i,a,h=>by simp at h
 | _,_,.cons r t,0,a,h=>by cases h;exact⟨_,rfl,r⟩
 | _,_,.cons r t,i + 1,a,h=>Paired.at2 t h
theorem dict_T {k:Nat}(hr:Room k X.A)(I:Inv X pins Z H s){p q:Addr}{kvs lvs:List (List Key×V)}(hp:H p=some (.dT kvs))(hq:H q=some (.dT lvs))(hl:kvs.length=lvs.length)
  (he:∀ k v,(k,v)∈kvs->∃ n,v=.int n/\(k,.int n)∈lvs/\∀ v',(k,v')∈lvs->v'=.int n):
  (∀ (Q:Value->Shared->Prop) (E:Value->Shared->Prop),Q (.bool true) s->wpAny (model X.prog X.w) X.A (compareOp .Eq (.ref p) (.ref q)) Q E s) ∧
  ∀ (Q:Value->Shared->Prop) (E:Value->Shared->Prop),Q (.bool false) s->wpAny (model X.prog X.w) X.A (compareOp .NotEq (.ref p) (.ref q)) Q E s:=by
 obtain⟨_,np,xs,rx,dx⟩:=dt_of I.hok hp
 obtain⟨_,nq,ys,ry,dy⟩:=dt_of I.hok hq
 have e1:=rx.length
 have e2:=ry.length
 have hit:∀ x∈xs,(∃ (j:Nat) (p:Addr×Value),ys[j]?=some (x.1,p))/\∀ (j:Nat) (p:Addr×Value),ys[j]?=some (x.1,p)->SeqAt.EqAt X.A.in1 s x.2.2 p.2 true:=λ x hx=>by
  obtain⟨i,hi⟩:=List.getElem?_of_mem hx
  obtain⟨a,ha,h1,_,h2⟩:=Paired.at2 rx hi
  obtain⟨k',v⟩:=a
  obtain⟨n,rfl,hm,hn⟩:=he k' v (List.mem_of_getElem? ha)
  refine⟨?_,λ j p hj=>?_⟩
  ·obtain⟨j,hj⟩:=List.getElem?_of_mem hm
   obtain⟨b,hb,g1,_,g2⟩:=Paired.at1 ry hj
   exact⟨j,b.2,by rw[hb,<- show k'=x.1 from h1,show k'=b.1 from g1]⟩
  ·obtain⟨b,hb,g1,_,g2⟩:=Paired.at2 ry hj
   obtain⟨k2,v2⟩:=b
   have ek:k2=k':=(show k2=x.1 from g1).trans (show k'=x.1 from h1).symm
   subst ek
   cases hn v2 (List.mem_of_getElem? hb)
   have:=a1A I 8 X.A.in1 (.int n) (.int n) _ _ (.int n) (.int n) rfl rfl h2 g2 (by rw[u0];have:=hr.un;omega)
   rwa [show PyData.eqv (.int n) (.int n)=true by simp[PyData.eqv]]at this
 exact⟨λ Q E h=>eq_dictH np nq (tupleKind_room_in1 (N1 hr)) (by have:=hr.un;omega) dx dy (by omega) hit h,λ Q E h=>ne_dictH np nq (tupleKind_room_in1 (N1 hr)) (by have:=hr.un;omega) dx dy (by omega) hit h⟩
theorem op_eqG {k:Nat}(hr:Room k X.A):OpR X (compareOp .Eq) eqG:=λ pins s Z H x y v u Q I rx ry h=>by
 rcases eqG_D h with h | ⟨p,q,xs,ys,rfl,rfl,hp,hq,hl,he,h⟩ | ⟨p,q,xs,ys,rfl,rfl,hp,hq,hl,he,h⟩
 ·unfold eqD at h
  split at h
  ·rename_i d e h1 h2
   exact(rcAt_D I h1 h2 rx ry (by have:=hr.un;omega)).1 X.prog X.w X.xe _ ⟨.bl _,H,I,rfl,h⟩
  ·exact h.elim
 ·cases rx
  cases ry
  exact(list_T I hp hq hl (by have:=hr.un;omega) λ i x y u v h1 h2 r1 r2=>eqT_at I (he i x y h1 h2) r1 r2 (by rw[u0];have:=hr.un;omega)).1 X.prog X.w X.xe _ ⟨.bl _,H,I,rfl,h⟩
 ·cases rx
  cases ry
  exact(dict_T hr I hp hq hl he).1 _ _ ⟨.bl _,H,I,rfl,h⟩
theorem op_neG {k:Nat}(hr:Room k X.A):OpR X (compareOp .NotEq) neG:=λ pins s Z H x y v u Q I rx ry h=>by
 rcases eqG_D h with h | ⟨p,q,xs,ys,rfl,rfl,hp,hq,hl,he,h⟩ | ⟨p,q,xs,ys,rfl,rfl,hp,hq,hl,he,h⟩
 ·unfold eqD at h
  split at h
  ·rename_i d e h1 h2
   exact(rcAt_D I h1 h2 rx ry (by have:=hr.un;omega)).2 X.prog X.w X.xe _ ⟨.bl _,H,I,rfl,h⟩
  ·exact h.elim
 ·cases rx
  cases ry
  exact(list_T I hp hq hl (by have:=hr.un;omega) λ i x y u v h1 h2 r1 r2=>eqT_at I (he i x y h1 h2) r1 r2 (by rw[u0];have:=hr.un;omega)).2 X.prog X.w X.xe _ ⟨.bl _,H,I,rfl,h⟩
 ·cases rx
  cases ry
  exact(dict_T hr I hp hq hl he).2 _ _ ⟨.bl _,H,I,rfl,h⟩
end
def O4:V->Option Key
 | .int i=>some (.inl i)
 | .str x=>some (.inr x)
 | _=>none
theorem X0 {x:V}{k:Key}(h:O4 x=some k):x=kV k:=by
 cases x <;> first | (cases h;rfl) | cases h
def A8 (xs:List V):Option (List Key):=xs.mapM O4
theorem D8:∀ {xs:List V}{ks:List Key},A8 xs=some ks->xs=ks.map kV
 | [],ks,h=>by
  unfold A8 at h
  simp at h
  subst h
  rfl
 | x::xs,ks,h=>by
  unfold A8 at h
  rw[mapM_cons]at h
  cases e:O4 x with
  | none=>rw[e]at h;cases h
  | some y=>
   cases e2:xs.mapM O4 with
   | none=>rw[e,e2]at h;cases h
   | some r=>
    rw[e,e2]at h
    cases h
    rw[List.map_cons,<- X0 e,<- D8 e2]
def pkOf (H:Hp):V->Option o9
 | .ref b=>match H b with
  | some (.tup [.ref t,.int c])=>match H t with
   | some (.tup xs)=>(A8 xs).map λ k=>(k,c)
   | _=>none
  | _=>none
 | _=>none
def PkAt (H:Hp)(b:Addr)(k:o9):Prop:=∃ t,H b=some (.tup [.ref t,.int k.2])/\H t=some (.tup (k.1.map kV))
theorem pkOf_at {H:Hp}{y:V}{k:o9}(h:pkOf H y=some k):∃ b,y=.ref b/\PkAt H b k:=by
 unfold pkOf at h
 split at h
 ·split at h
  ·split at h
   ·obtain⟨ks,e,rfl⟩:=Option.map_eq_some_iff.mp h
    refine⟨_,rfl,_,by assumption,?_⟩
    rw[<- D8 e]
    assumption
   ·cases h
  ·cases h
 ·cases h
abbrev KP (H:Hp):List (o9×V)->List (o9×Addr×Value)->Prop:=Paired λ p q=>p.1=q.1/\PkAt H q.2.1 p.1/\RelV p.2 q.2.2
section
variable {P:Program}{w:World}{H:Hp}{h:Heap}{a b:Addr}{kvs:List (o9×V)}{xs:List (o9×Addr×Value)}{k:o9}
theorem pk_of (ok:HOk P w H h)(e:PkAt H b k):(V8 P w).is h k b:=by
 obtain⟨t,e1,e2⟩:=e
 obtain⟨_,its,r,o,h1,h2,n,h3⟩:=(show ObjOk P w H h b (.tup [.ref t,.int k.2]) from ok b _ e1)
 obtain⟨u,us,rfl,r1,r2⟩:∃ u us,its=u::us/\RelV (.ref t) u/\Vals [.int k.2] us:=by
  cases r with
  | cons r1 r2=>exact⟨_,_,rfl,r1,r2⟩
 cases r1
 obtain⟨u2,rfl,tk,rfl⟩:=y8 r2
 exact⟨o,n,t,tk,h1,h2,h3,J5 ok e2⟩
theorem KP.val (r:KP H kvs xs)(k:o9):RelO (d6 kvs k) ((atKey xs k).map (·.2)):=by
 induction r with
 | nil=>exact True.intro
 | @cons p q ps qs h t ih=>
  obtain⟨h1,_,h2⟩:=h
  by_cases e:p.1=k
  ·have b:atKey (q::qs) k=some q.2:=by simp[atKey,List.find?_cons,h1.symm.trans e]
   rw[i5 e,b];exact h2
  ·have e':¬ q.1=k:=λ z=>e (h1.trans z)
   have b:atKey (q::qs) k=atKey qs k:=by simp[atKey,List.find?_cons,e']
   rw[g5 e,b];exact ih
theorem KP.repl (r:KP H kvs xs)(k:o9){y:V}{u:Value}(ry:RelV y u):KP H (kvs.map λ kv=>if kv.1=k then(kv.1,y) else kv) (xs.map (putAt k u)):=by
 induction r with
 | nil=>exact .nil
 | @cons p q ps qs h t ih=>
  rw[List.map_cons,List.map_cons]
  refine .cons ?_ ih
  obtain⟨h1,h2,h3⟩:=h
  unfold putAt
  by_cases e:p.1=k
  ·rw[if_pos e,if_pos (h1.symm.trans e)];exact⟨h1,h2,ry⟩
  ·rw[if_neg e,if_neg (λ z=>e (h1.trans z))];exact⟨h1,h2,h3⟩
theorem KP.put (r:KP H kvs xs){y:V}{u:Value}(hb:PkAt H b k)(ry:RelV y u):KP H (g0 kvs k y) (storedH xs k b u):=by
 have e:(kvs.any λ kv=>decide (kv.1=k))=(atKey xs k).isSome:=by rw[E1,(r.val k).isSome_eq,Option.isSome_map]
 unfold g0 storedH
 rw[e]
 by_cases q:(atKey xs k).isSome=true
 ·rw[if_pos q,if_pos q];exact r.repl k ry
 ·rw[if_neg q,if_neg q];exact Paired.snoc r ⟨rfl,hb,ry⟩
theorem dp_of (ok:HOk P w H h)(e:H a=some (.dP kvs)):kvs.length<=sizeLine/\(a==sysModules)=false/\∃ xs,KP H kvs xs/\h.DictOfH (V8 P w) a xs:=by
 obtain⟨z,y,xs,r,o,es,ep,h1,h2,h3,h4,h5⟩:=(show ObjOk P w H h a (.dP kvs) from ok a _ e)
 refine⟨z,y,xs,r,o,es,ep,h1,h2,h3,h4,λ x hx=>?_,h5⟩
 have all:∀ {l:List (o9×V)}{m:List (o9×Addr×Value)},KP H l m->∀ x∈m,(V8 P w).is h x.1 x.2.1:=by
  intro l m q
  induction q with
  | nil=>intro x hx;exact nomatch hx
  | @cons p q ps qs hq t ih=>
   intro x hx
   rcases List.mem_cons.mp hx with e | hx
   ·subst e
    exact pk_of ok (by rw[<- hq.1];exact hq.2.1)
   ·exact ih x hx
 exact all r x hx
end
section
variable {X:Cx}{pins:List (Addr×Obj)}{Z:St}{H:Hp}{s:Shared}{a b:Addr}{v:V}{r:Value}{kvs:List (o9×V)}{k:o9}{A:Around}{E:Value->Shared->Prop}
theorem hu2_of {A:Around}{k:Nat}(hr:Room k A):A.units + 2 < cLine:=by have:=hr.un;omega
theorem pk_room {A:Around}(hu:A.units + 2 < cLine):A.in1.units < cLine/\A.in1.in1.units < cLine:=by
 constructor <;> simp[Around.in1]at * <;> omega
theorem p_getItem {Q:Value->Shared->Prop}(hu:A.units + 2 < cLine)(I:Inv X pins Z H s)(e:H a=some (.dP kvs))(eb:PkAt H b k)(l:d6 kvs k=some v)(h:∀ w' s',Inv X pins Z H s'->RelV v w'->Q w' s'):
  wpAny (model X.prog X.w) A (getItem (.ref a) (.ref b)) Q E s:=by
 obtain⟨z,hd,xs,rel,dd⟩:=dp_of I.hok e
 obtain⟨w',hw,rw'⟩:=RelO.some_of (v:=v) (o:=(atKey xs k).map (·.2)) (by rw[<- l];exact rel.val k)
 obtain⟨p,hp,hp2⟩:=Option.map_eq_some_iff.mp hw
 refine wpAny_getItem_heap (pk_room hu) (pk_of I.hok eb) dd hp ?_
 rw[hp2]
 exact h w' _ (I.tok _) rw'
theorem p_setItem {Q:Unit->Shared->Prop}(hu:A.units + 2 < cLine)(I:Inv X pins Z H s)(e:H a=some (.dP kvs))(eb:PkAt H b k)(l:kvs.length < sizeLine)(rv:RelV v r)(h:∀ s',Inv X pins Z (upd H a (.dP (g0 kvs k v))) s'->Q () s'):
  wpAny (model X.prog X.w) A (setItem (.ref a) (.ref b) r) Q E s:=by
 obtain⟨z,hd,xs,rel,dd⟩:=dp_of I.hok e
 have hz:xs.length<=sizeLine:=by rw[<- Paired.length rel];exact z
 have hl:(g0 kvs k v).length<=sizeLine:=by have:=B7 kvs k v;omega
 refine wpAny_setItem_heap (hsz:=hz) (pk_room hu) (pk_of I.hok eb) dd λ h' dd' hs=>h _ ?_
 obtain⟨q,es,ep,hq,h2,h3,h4,_,h5⟩:=dd'
 have kt:∀ c ys,H c=some (.tup ys)->upd H a (.dP (g0 kvs k v)) c=some (.tup ys):=λ c ys ec=>by rw[a5 (ne_of ec e (λ z=>nomatch z))];exact ec
 exact W6 I (by rw[e];exact True.intro) hs ⟨q,hq⟩ ⟨hl,hd,_,Paired.mapP (rel.put eb rv) λ p q z=>⟨z.1,z.2.1.imp λ _ g=>⟨kt _ _ g.1,kt _ _ g.2⟩,z.2.2⟩,q,es,ep,hq,h2,h3,h4,h5⟩
end
def C0 (H:Hp)(a:Addr)(y:V):Option (Option V):=match H a with
 | some (.dK kvs)=>(O4 y).map (d6 kvs)
 | some (.frz _ (.dK kvs))=>(O4 y).map (d6 kvs)
 | some (.dT kvs)=>match y with
  | .ref b=>match H b with
   | some (.tup xs)=>(A8 xs).map (d6 kvs)
   | _=>none
  | _=>none
 | some (.frz _ (.dT kvs))=>match y with
  | .ref b=>match H b with
   | some (.tup xs)=>(A8 xs).map (d6 kvs)
   | _=>none
  | _=>none
 | _=>none
theorem D9 {H:Hp}{a:Addr}{y:V}{r:Option V}(h:C0 H a y=some r):DGet H a y r:=by
 unfold C0 at h
 split at h
 ·rename_i kvs e
  cases e2:O4 y with
  | none=>rw[e2]at h;cases h
  | some k=>rw[e2]at h;cases h;rw[X0 e2];exact DGet.k e
 ·rename_i ob kvs e
  cases e2:O4 y with
  | none=>rw[e2]at h;cases h
  | some k=>rw[e2]at h;cases h;rw[X0 e2];exact .inl ⟨_,_,.inr ⟨_,e⟩,rfl,rfl⟩
 ·rename_i kvs e
  split at h
  ·split at h
   ·rename_i xs e3
    cases e2:A8 xs with
    | none=>rw[e2]at h;cases h
    | some k=>rw[e2]at h;cases h;rw[D8 e2]at e3;exact DGet.t e e3
   ·cases h
  ·cases h
 ·rename_i ob kvs e
  split at h
  ·split at h
   ·rename_i xs e3
    cases e2:A8 xs with
    | none=>rw[e2]at h;cases h
    | some k=>rw[e2]at h;cases h;rw[D8 e2]at e3;exact .inr ⟨_,_,_,.inr ⟨_,e⟩,rfl,e3,rfl⟩
   ·cases h
  ·cases h
 ·cases h
section
variable {X:Cx}{pins:List (Addr×Obj)}{Z:St}{H:Hp}{s:Shared}
@[irreducible] def e8:R2:=λ x y H Q=>match x with
 | .str z=>match y with
  | .int i=>match atI z.cps.toList i with
   | some c=>z.length<=sizeLine/\Q (.str ⟨#[c]⟩) H
   | none=>False
  | _=>False
 | .ref p=>match H p with
  | some (.lst xs)=>match y with
   | .int i=>match atI xs i with
    | some v=>Q v H
    | none=>False
   | _=>False
  | some (.tup xs)=>match y with
   | .int i=>match atI xs i with
    | some v=>Q v H
    | none=>False
   | _=>False
  | some (.dP kvs)=>match pkOf H y with
   | some k=>match d6 kvs k with
    | some v=>Q v H
    | none=>False
   | none=>False
  | _=>match C0 H p y with
   | some (some v)=>Q v H
   | _=>False
 | _=>False
theorem ix_pair (hu:X.A.units + 2 < cLine):IxR X (λ x y H Q=>∃ a b kvs k v,x=.ref a/\y=.ref b/\H a=some (.dP kvs)/\PkAt H b k/\d6 kvs k=some v/\Q v H):=by
 intro value slice pins s Z H x y v u Q I rx ry h hs
 obtain⟨a,b,kvs,k,z,rfl,rfl,e,eb,l,q⟩:=h
 cases rx
 cases ry
 exact tail_any (let ⟨_,_,_,_,o,_,_,h1,h2,_⟩:=I.hok a _ e;⟨o,h1,h2.1⟩) PySem.F.slot_dict_getitem.lookup (p_getItem hu I e eb l λ w' s3 I3 rw'=>⟨z,H,I3,rw',q⟩) hs
theorem ix_dict (hu:X.A.units + 1 < cLine):IxR X (λ x y H Q=>∃ a v,x=.ref a/\DGet H a y (some v)/\Q v H):=by
 intro value slice pins s Z H x y v u Q I rx ry h hs
 obtain⟨a,z,rfl,g,q⟩:=h
 cases rx
 exact tail_any (a4x I g) PySem.F.slot_dict_getitem.lookup (a2V hu I g ry λ w' s3 I3 rw'=>⟨z,H,I3,rw',q⟩) hs
theorem ix_getG {k:Nat}(hr:Room k X.A):IxR X e8:=IxR.imp (IxR.or ix_list (IxR.or ix_tup (IxR.or ix_str (IxR.or (ix_dict (N1 hr)) (ix_pair (hu2_of hr)))))) λ x y H Q h=>by
 unfold e8 at h
 split at h
 ·split at h
  ·split at h
   ·exact .inr (.inr (.inl ⟨_,_,_,rfl,rfl,h.1,by assumption,h.2⟩))
   ·exact h.elim
  ·exact h.elim
 ·split at h
  ·split at h
   ·split at h
    ·exact .inl ⟨_,_,_,_,rfl,rfl,.inl (.inl (by assumption)),by assumption,h⟩
    ·exact h.elim
   ·exact h.elim
  ·split at h
   ·split at h
    ·exact .inr (.inl ⟨_,_,_,_,rfl,rfl,.inl (.inl (by assumption)),by assumption,h⟩)
    ·exact h.elim
   ·exact h.elim
  ·split at h
   ·split at h
    ·obtain⟨b,rfl,eb⟩:=pkOf_at ‹pkOf H y=some _›
     exact .inr (.inr (.inr (.inr ⟨_,b,_,_,_,rfl,rfl,by assumption,eb,by assumption,h⟩)))
    ·exact h.elim
   ·exact h.elim
  ·split at h
   ·exact .inr (.inr (.inr (.inl ⟨_,_,rfl,D9 (by assumption),h⟩)))
   ·exact h.elim
 ·exact h.elim
def a1B (H:Hp)(xs:List V):Option (List PyData):=xs.mapM (rdD 7 H)
@[irreducible] def inG (neg:Bool):R2:=λ x y H Q=>match y with
 | .ref p=>match H p with
  | some (.lst ys)=>match a1B H ys,rdD 7 H x with
   | some es,some d=>Q (.bl (neg ^^ es.any λ e=>PyData.eqv e d)) H
   | _,_=>False
  | some (.tup ys)=>match a1B H ys,rdD 7 H x with
   | some es,some d=>Q (.bl (neg ^^ es.any λ e=>PyData.eqv e d)) H
   | _,_=>False
  | _=>match C0 H p x with
   | some o=>Q (.bl (neg ^^ o.isSome)) H
   | _=>False
 | .str j=>match x with
  | .str i=>Q (.bl (neg ^^ !(Builtin.Str.occurrences j i 0 j.length 1).isEmpty)) H
  | _=>False
 | _=>False
theorem a0l {n:Nat}{d:PyData}{f:Value->Bool}:∀ {ys:List V}{us:List Value}{es:List PyData},Vals ys us->ys.mapM (rdD n H)=some es->(∀ y u e,RelV y u->rdD n H y=some e->f u=PyData.eqv e d)->us.any f=es.any λ e=>PyData.eqv e d
 | _,_,_,.nil,h,_=>by
  simp at h
  subst h
  rfl
 | y::ys,u::us,es,.cons r t,h,hf=>by
  rw[mapM_cons]at h
  cases e:rdD n H y with
  | none=>rw[e]at h;cases h
  | some z=>
   cases e2:ys.mapM (rdD n H) with
   | none=>rw[e,e2]at h;cases h
   | some r2=>
    rw[e,e2]at h
    cases h
    rw[List.any_cons,List.any_cons,hf y u z r e,a0l t e2 hf]
def K3 (n:Nat)(H:Hp)(d:PyData)(u:Value):Bool:=match absV u with
 | some y=>match rdD n H y with
  | some e=>PyData.eqv e d
  | none=>false
 | none=>false
theorem a1C {n:Nat}{d e:PyData}{y:V}{u:Value}(r:RelV y u)(h:rdD n H y=some e):K3 n H d u=PyData.eqv e d:=by
 unfold K3
 rw[r.abs]
 simp only[h]
theorem K4 {n:Nat}{d:PyData}{x:V}{v:Value}{A:Around}(I:Inv X pins Z H s)(hu:A.units + n < cLine)(hx:rdD n H x=some d)(rx:RelV x v):∀ {ys:List V}{us:List Value}{es:List PyData},Vals ys us->ys.mapM (rdD n H)=some es->∀ u∈us,SeqAt.EqAt A s u v (K3 n H d u)
 | _,_,_,.nil,_,u,h=>by cases h
 | y::ys,u::us,es,.cons r t,h,w,hw=>by
  rw[mapM_cons]at h
  cases e:rdD n H y with
  | none=>rw[e]at h;cases h
  | some z=>
   cases e2:ys.mapM (rdD n H) with
   | none=>rw[e,e2]at h;cases h
   | some r2=>
    rcases List.mem_cons.mp hw with rfl | hw
    ·rw[a1C r e]
     exact a1A I n A y x _ _ _ _ e hx r rx hu
    ·exact K4 I hu hx rx t e2 w hw
theorem in_D {k:Nat}(hr:Room k X.A){p:Addr}{ys:List V}{es:List PyData}{d:PyData}{x:V}{v:Value}{Q:VK}(I:Inv X pins Z H s)(hp:H p=some (.lst ys)\/H p=some (.tup ys))(he:a1B H ys=some es)(hx:rdD 7 H x=some d)(rx:RelV x v):
  (Q (.bl (es.any λ e=>PyData.eqv e d)) H->wpAny (model X.prog X.w) X.A (compareOp .In v (.ref p)) (EP X pins Z Q) X.xe s) ∧
  (Q (.bl (!es.any λ e=>PyData.eqv e d)) H->wpAny (model X.prog X.w) X.A (compareOp .NotIn v (.ref p)) (EP X pins Z Q) X.xe s):=by
 have hu:X.A.in1.units + 7 < cLine:=by
  have:=hr.un
  rw[u0]
  omega
 rcases hp with hp | hp
 ·obtain⟨its,r,l⟩:=A7 I hp
  have ea:its.toArray.any (K3 7 H d)=es.any λ e=>PyData.eqv e d:=by
   rw[show its.toArray.any (K3 7 H d)=its.any (K3 7 H d) by simp]
   exact a0l r he λ y u e ru hy=>a1C ru hy
  refine⟨λ q=>SeqAt.in_listAt (K3 7 H d) l (λ w hw=>K4 I hu hx rx r he w (by simpa using hw)) ⟨.bl _,H,I,rfl,?_⟩,λ q=>SeqAt.notIn_listAt (K3 7 H d) l (λ w hw=>K4 I hu hx rx r he w (by simpa using hw)) ⟨.bl _,H,I,rfl,?_⟩⟩ <;> (rw[ea];exact q)
 ·obtain⟨its,r,l⟩:=J6 I hp
  have ea:its.toArray.any (K3 7 H d)=es.any λ e=>PyData.eqv e d:=by
   rw[show its.toArray.any (K3 7 H d)=its.any (K3 7 H d) by simp]
   exact a0l r he λ y u e ru hy=>a1C ru hy
  refine⟨λ q=>SeqAt.in_tupleAt (K3 7 H d) l (λ w hw=>K4 I hu hx rx r he w (by simpa using hw)) ⟨.bl _,H,I,rfl,?_⟩,λ q=>SeqAt.notIn_tupleAt (K3 7 H d) l (λ w hw=>K4 I hu hx rx r he w (by simpa using hw)) ⟨.bl _,H,I,rfl,?_⟩⟩ <;> (rw[ea];exact q)
theorem op_inG {k:Nat}(hr:Room k X.A):OpR X (compareOp .In) (inG false):=λ pins s Z H x y v u Q I rx ry h=>by
 unfold inG at h
 simp only[Bool.false_bne]at h
 split at h
 ·cases ry
  split at h
  ·split at h
   ·exact(in_D hr I (.inl (by assumption)) (by assumption) (by assumption) rx).1 (by simpa using h)
   ·exact h.elim
  ·split at h
   ·exact(in_D hr I (.inr (by assumption)) (by assumption) (by assumption) rx).1 (by simpa using h)
   ·exact h.elim
  ·split at h
   ·exact d_in (N1 hr) I (D9 (by assumption)) rx λ s' I'=>⟨.bl _,H,I',rfl,by simpa using h⟩
   ·exact h.elim
 ·split at h
  ·exact op_in_str pins s Z H _ _ v u Q I rx ry ⟨_,_,rfl,rfl,by simpa using h⟩
  ·exact h.elim
 ·exact h.elim
theorem op_notInG {k:Nat}(hr:Room k X.A):OpR X (compareOp .NotIn) (inG true):=λ pins s Z H x y v u Q I rx ry h=>by
 unfold inG at h
 split at h
 ·cases ry
  split at h
  ·split at h
   ·exact(in_D hr I (.inl (by assumption)) (by assumption) (by assumption) rx).2 (by simpa using h)
   ·exact h.elim
  ·split at h
   ·exact(in_D hr I (.inr (by assumption)) (by assumption) (by assumption) rx).2 (by simpa using h)
   ·exact h.elim
  ·split at h
   ·exact d_notIn (N1 hr) I (D9 (by assumption)) rx λ s' I'=>⟨.bl _,H,I',rfl,by simpa using h⟩
   ·exact h.elim
 ·split at h
  ·exact a3F pins s Z H _ _ v u Q I rx ry ⟨_,_,rfl,rfl,by simpa using h⟩
  ·exact h.elim
 ·exact h.elim
def ltG:R2:=λ x y H Q=>match x,y with
 | .int i,.int j=>Q (.bl (decide (i < j))) H
 | .str i,.str j=>Q (.bl (decide (i.cps.toList < j.cps.toList))) H
 | _,_=>False
def leG:R2:=λ x y H Q=>match x,y with
 | .int i,.int j=>Q (.bl (decide (i<=j))) H
 | .str i,.str j=>Q (.bl (!decide (j.cps.toList < i.cps.toList))) H
 | _,_=>False
def gtG:R2:=λ x y H Q=>match x,y with
 | .int i,.int j=>Q (.bl (decide (j < i))) H
 | _,_=>False
def geG:R2:=λ x y H Q=>match x,y with
 | .int i,.int j=>Q (.bl (decide (j<=i))) H
 | _,_=>False
theorem op_ltG:OpR X (compareOp .Lt) ltG:=OpR.imp (OpR.or op_lt op_lt_str) λ x y H Q h=>by
 unfold ltG at h
 split at h
 ·exact .inl ⟨_,_,rfl,rfl,h⟩
 ·exact .inr ⟨_,_,rfl,rfl,h⟩
 ·exact h.elim
theorem op_leG:OpR X (compareOp .LtE) leG:=OpR.imp (OpR.or op_le op_le_str) λ x y H Q h=>by
 unfold leG at h
 split at h
 ·exact .inl ⟨_,_,rfl,rfl,h⟩
 ·exact .inr ⟨_,_,rfl,rfl,h⟩
 ·exact h.elim
theorem op_gtG:OpR X (compareOp .Gt) gtG:=OpR.imp op_gt λ x y H Q h=>by
 unfold gtG at h
 split at h
 ·exact⟨_,_,rfl,rfl,h⟩
 ·exact h.elim
theorem op_geG:OpR X (compareOp .GtE) geG:=OpR.imp op_ge λ x y H Q h=>by
 unfold geG at h
 split at h
 ·exact⟨_,_,rfl,rfl,h⟩
 ·exact h.elim
def isG (neg:Bool):R2:=λ x y H Q=>match y with
 | .non=>Q (.bl (neg ^^ decide (x=.non))) H
 | .bl b=>Q (.bl (neg ^^ decide (x=.bl b))) H
 | _=>False
end
section
variable {X:Cx}{pins:List (Addr×Obj)}{Z:St}{H:Hp}{s:Shared}
theorem op_isG:OpR X (compareOp .Is) (isG false):=λ pins s Z H x y v u Q I rx ry h=>by
 unfold isG at h
 split at h
 ·exact op_isN pins s Z H x _ v u Q I rx ry ⟨rfl,by simpa using h⟩
 ·rename_i b
  cases ry
  have e:(v==Value.bool b)=decide (x=.bl b):=by
   cases x <;> first
    | (cases rx;rfl)
    | (obtain⟨t,rfl⟩:=rx;rfl)
    | (cases rx;rename_i c;cases b <;> cases c <;> rfl)
  refine wpAny_is_plain (by cases x <;> first | (cases rx;rfl) | (obtain⟨t,rfl⟩:=rx;rfl)) ⟨.bl _,H,I,rfl,?_⟩
  rw[e]
  simpa using h
 ·exact h.elim
theorem op_isNotG:OpR X (compareOp .IsNot) (isG true):=λ pins s Z H x y v u Q I rx ry h=>by
 unfold isG at h
 split at h
 ·exact op_notN pins s Z H x _ v u Q I rx ry ⟨rfl,by simpa using h⟩
 ·rename_i b
  cases ry
  have e:(v==Value.bool b)=decide (x=.bl b):=by
   cases x <;> first
    | (cases rx;rfl)
    | (obtain⟨t,rfl⟩:=rx;rfl)
    | (cases rx;rename_i c;cases b <;> cases c <;> rfl)
  refine wpAny_isNot_plain (by cases x <;> first | (cases rx;rfl) | (obtain⟨t,rfl⟩:=rx;rfl)) ⟨.bl _,H,I,rfl,?_⟩
  rw[show(!(v==Value.bool b))=!decide (x=.bl b) by rw[e]]
  simpa using h
 ·exact h.elim
def cmpG:CmpOp->R2
 | .Eq=>eqG | .NotEq=>neG | .Lt=>ltG | .LtE=>leG | .Gt=>gtG | .GtE=>geG | .In=>inG false | .NotIn=>inG true | .Is=>isG false | .IsNot=>isG true
theorem x6 {k:Nat}(hr:Room k X.A):∀ op,OpR X (compareOp op) (cmpG op)
 | .Eq=>op_eqG hr | .NotEq=>op_neG hr | .Lt=>op_ltG | .LtE=>op_leG | .Gt=>op_gtG | .GtE=>op_geG | .In=>op_inG hr | .NotIn=>op_notInG hr | .Is=>op_isG | .IsNot=>op_isNotG
@[irreducible] def truH (p:Addr)(H:Hp)(Q:Bool->Hp->Prop):Prop:=match H p with
 | some (.lst xs)=>Q (!xs.isEmpty) H
 | some (.tup xs)=>Q (!xs.isEmpty) H
 | some (.dK kvs)=>Q (!kvs.isEmpty) H
 | _=>False
def truG (x:V)(H:Hp)(Q:Bool->Hp->Prop):Prop:=match x with
 | .non=>Q false H
 | .bl b=>Q b H
 | .int i=>Q (i != 0) H
 | .str y=>y.length<=sizeLine/\Q ((y.length:Int) != 0) H
 | .ref p=>truH p H Q
 | _=>False
theorem truG_of {x:V}{H:Hp}{Q:Bool->Hp->Prop}{K:PySem.W.Frag}(h:truG x H Q):∃ k,TruV K x H k/\Q k H:=by
 unfold truG at h
 split at h
 ·exact⟨_,rfl,h⟩
 ·exact⟨_,rfl,h⟩
 ·exact⟨_,rfl,h⟩
 ·exact⟨_,⟨h.1,rfl⟩,h.2⟩
 ·unfold truH at h
  split at h
  ·exact⟨_,.inl ⟨_,.inl (.inl (by assumption)),rfl⟩,h⟩
  ·exact⟨_,.inr (.inl ⟨_,.inl (.inl (by assumption)),rfl⟩),h⟩
  ·exact⟨_,.inr (.inr ⟨_,by assumption,rfl⟩),h⟩
  ·exact h.elim
 ·exact h.elim
def ptG (t:TE):TT:=λ Z H Q=>t Z H λ x H1=>truG x H1 Q
theorem pt_G {e:Expr}{t:TE}(h:PE X e t)(he:∀ whole,isTrue e X.env whole=(do let v ← whole;standAt e.pos;holding [v] (truthy v))):PT X e (ptG t):=by
 intro pins s Z H Q I q
 rw[he]
 refine wpAny_bind (thn (h pins s Z H _ I q) λ v s1 ⟨x,H1,I1,r1,q1⟩=>wpAny_bind (wpAny_standAt (wpAny_holding ?_)))
 exact tru_ok pins s1 Z H1 x v Q I1 r1 (truG_of q1)
end
def moE (t:TE):TE:=λ Z H Q=>∃ Q0:VK,t Z H Q0/\∀ v H',Q0 v H'->Q v H'
def moT (t:TT):TT:=λ Z H Q=>∃ Q0:Bool->Hp->Prop,t Z H Q0/\∀ v H',Q0 v H'->Q v H'
def moA (t:TA):TA:=λ Z H Q=>∃ Q0:List V->Hp->Prop,t Z H Q0/\∀ v H',Q0 v H'->Q v H'
section
variable {X:Cx}{e a b c o:Expr}{te ta tb tc to:TE}{t u:TT}{es:List Expr}{tas:TA}
theorem PE.mo (h:PE X e te):PE X e (moE te):=λ pins s Z H Q I ⟨Q0,q,i⟩=>thn (h pins s Z H Q0 I q) λ v s1 ⟨x,H1,I1,r1,q1⟩=>⟨x,H1,I1,r1,i x H1 q1⟩
theorem PT.mo (h:PT X e t):PT X e (moT t):=λ pins s Z H Q I ⟨Q0,q,i⟩=>thn (h pins s Z H Q0 I q) λ v s1 ⟨H1,I1,q1⟩=>⟨H1,I1,i v H1 q1⟩
theorem PA.mo (h:PA X es tas):PA X es (moA tas):=λ pos pins s Z H Q I ⟨Q0,q,i⟩=>thn (h pos pins s Z H Q0 I q) λ v s1 ⟨x,H1,I1,r1,q1⟩=>⟨x,H1,I1,r1,i x H1 q1⟩
def a1D (ta tb:TE):TE:=λ Z H Q=>ta Z H λ x H1=>match x with
 | .bl c=>br c (tb Z H1 Q) (Q (.bl false) H1)
 | _=>False
def tOrG (ta tb:TE):TE:=λ Z H Q=>ta Z H λ x H1=>match x with
 | .bl c=>br c (Q (.bl true) H1) (tb Z H1 Q)
 | _=>False
def tNotG (ta:TE):TE:=λ Z H Q=>ta Z H λ x H1=>match x with
 | .bl c=>Q (.bl (!c)) H1
 | _=>False
def tIfG (t:TT)(ta tb:TE):TE:=λ Z H Q=>t Z H λ c H1=>br c (ta Z H1 Q) (tb Z H1 Q)
variable {rest:List Expr}{pos:Pos}
theorem pe_andG (ha:PE X a ta)(hb:PE X (.BoolOp .And (b::rest) pos) tb):PE X (.BoolOp .And (a::b::rest) pos) (a1D ta tb):=
 PE.imp (pe_and (PE.mo ha) hb) λ Z H Q h=>⟨_,h,λ x H1 q=>by
  cases x <;> first | exact⟨_,rfl,A4 q⟩ | exact q.elim⟩
theorem pe_orG (ha:PE X a ta)(hb:PE X (.BoolOp .Or (b::rest) pos) tb):PE X (.BoolOp .Or (a::b::rest) pos) (tOrG ta tb):=
 PE.imp (pe_or (PE.mo ha) hb) λ Z H Q h=>⟨_,h,λ x H1 q=>by
  cases x <;> first | exact⟨_,rfl,A4 q⟩ | exact q.elim⟩
theorem pe_notG (ha:PE X a ta):PE X (.UnaryOp .Not a pos) (tNotG ta):=
 PE.imp (pe_not (PE.mo ha)) λ Z H Q h=>⟨_,h,λ x H1 q=>by
  cases x <;> first | exact⟨_,rfl,q⟩ | exact q.elim⟩
theorem pe_ifG (hc:PT X c t)(ha:PE X a ta)(hb:PE X b tb):PE X (.IfExp c a b pos) (tIfG t ta tb):=
 PE.imp (pe_ifExp (PT.mo hc) ha hb) λ Z H Q h=>⟨_,h,λ x H1 q=>A4 q⟩
def negG:V->Hp->VK->Prop:=λ x H Q=>match x with
 | .int i=>Q (.int (-i)) H
 | _=>False
theorem un_negG:UnR X (unaryOp .USub) negG:=λ pins s Z H x v Q I r h=>by
 cases x <;> first | exact un_neg pins s Z H _ v Q I r ⟨_,rfl,h⟩ | exact h.elim
def V0 (r r':R2)(ta tb tc:TE):TE:=λ Z H Q=>ta Z H λ x H1=>tb Z H1 λ y H2=>r x y H2 λ z H3=>match z with
 | .bl k=>br k (tc Z H3 λ w' H4=>r' y w' H4 Q) (Q (.bl false) H3)
 | _=>False
def moR (r:R2):R2:=λ x y H Q=>∃ Q0:VK,r x y H Q0/\∀ v H',Q0 v H'->Q v H'
theorem OpR.mo {f:Value->Value->Sem Value}{r:R2}(h:OpR X f r):OpR X f (moR r):=λ pins s Z H x y v u Q I rx ry ⟨Q0,q,i⟩=>thn (h pins s Z H x y v u Q0 I rx ry q) λ w' s1 ⟨z,H1,I1,r1,q1⟩=>⟨z,H1,I1,r1,i z H1 q1⟩
theorem pe_chainG {op op':CmpOp}{r r':R2}(ho:OpR X (compareOp op) r)(ho':OpR X (compareOp op') r')(ha:PE X a ta)(hb:PE X b tb)(hc:PE X c tc)(hm:lastMarks [op,op'] [b,c]=false):PE X (.Compare a [op,op'] [b,c] pos) (V0 r r' ta tb tc):=
 PE.imp (pe_chain (OpR.mo ho) ho' (PE.mo ha) (PE.mo hb) hc hm) λ Z H Q h=>⟨_,h,λ x H1 q=>⟨_,q,λ y H2 q2=>⟨_,q2,λ z H3 q3=>by
  cases z <;> first | exact⟨_,rfl,A4 q3⟩ | exact q3.elim⟩⟩⟩
def bT (t:TE):TT:=λ Z H Q=>t Z H λ x H1=>match x with
 | .bl k=>Q k H1
 | _=>False
theorem pt_cmpG {op:CmpOp}{r:R2}(ho:OpR X (compareOp op) r)(ha:PE X a ta)(hb:PE X b tb)(hm:behindInMarks op b=false):PT X (.Compare a [op] [b] pos) (bT (tOp r ta tb)):=
 PT.imp (pt_cmpR (OpR.mo ho) (PE.mo ha) (PE.mo hb) hm) λ Z H Q h=>⟨_,h,λ x H1 q=>⟨_,q,λ y H2 q2=>⟨_,q2,λ z H3 q3=>by
  cases z <;> first | exact⟨_,rfl,q3⟩ | exact q3.elim⟩⟩⟩
theorem pt_chainG {op op':CmpOp}{r r':R2}(ho:OpR X (compareOp op) r)(ho':OpR X (compareOp op') r')(ha:PE X a ta)(hb:PE X b tb)(hc:PE X c tc)(hm:lastMarks [op,op'] [b,c]=false):PT X (.Compare a [op,op'] [b,c] pos) (bT (V0 r r' ta tb tc)):=
 PT.imp (pt_chain (OpR.mo ho) (OpR.mo ho') (PE.mo ha) (PE.mo hb) (PE.mo hc) hm) λ Z H Q h=>⟨_,h,λ x H1 q=>⟨_,q,λ y H2 q2=>⟨_,q2,λ z H3 q3=>by
  cases z with
  | bl k=>
   refine⟨k,rfl,?_⟩
   have q3:=A4 q3
   cases k with
   | true=>exact⟨_,q3,λ w' H4 q4=>⟨_,q4,λ z' H5 q5=>by cases z' <;> first | exact⟨_,rfl,q5⟩ | exact q5.elim⟩⟩
   | false=>exact⟨false,rfl,q3⟩
  | _=>exact q3.elim⟩⟩⟩
def X1 (t u:TT):TT:=λ Z H Q=>t Z H λ c H1=>br c (u Z H1 Q) (Q false H1)
def tOrB (t u:TT):TT:=λ Z H Q=>t Z H λ c H1=>br c (Q true H1) (u Z H1 Q)
theorem pw_andB (ha:PT X a t)(hb:PW X (.BoolOp .And (b::rest) pos) u):PW X (.BoolOp .And (a::b::rest) pos) (X1 t u):=λ wh pins s Z H Q I h=>
 pw_and (PT.mo ha) hb wh pins s Z H Q I ⟨_,h,λ c H1 q=>A4 q⟩
theorem pw_orB (ha:PT X a t)(hb:PW X (.BoolOp .Or (b::rest) pos) u):PW X (.BoolOp .Or (a::b::rest) pos) (tOrB t u):=λ wh pins s Z H Q I h=>
 pw_or (PT.mo ha) hb wh pins s Z H Q I ⟨_,h,λ c H1 q=>A4 q⟩
@[irreducible] def fldK (cl:Addr)(f:Str)(x:V)(H1:Hp)(Q:VK):Prop:=match x with
 | .ref p=>match H1 p with
  | some (.ins C dx fs)=>C=cl/\match fs.lookup f with
   | some v=>Q v H1
   | none=>False
  | _=>False
 | _=>False
def A3 (cl:Addr)(f:Str)(to:TE):TE:=λ Z H Q=>to Z H λ x H1=>fldK cl f x H1 Q
theorem pe_fldG {cl:Addr}{f:Str}(cc:Cls X.K cl)(n:NoAttr X.K cl f)(ho:PE X o to)(hb:attributeBase o f X.env (eval o X.env)=eval o X.env):PE X (.Attribute o f pos) (A3 cl f to):=
 PE.imp (pe_fld0 cc n (PE.mo ho) hb) λ Z H Q h=>⟨_,h,λ x H1 q=>by
  unfold fldK at q
  split at q
  ·split at q
   ·obtain⟨rfl,q⟩:=q
    split at q
    ·exact⟨_,_,_,_,rfl,by assumption,by assumption,q⟩
    ·exact q.elim
   ·exact q.elim
  ·exact q.elim⟩
@[irreducible] def methK (cl:Addr)(m:Str)(x:V)(H1:Hp)(R:Prop):Prop:=match x with
 | .ref p=>match H1 p with
  | some (.ins C dx fs)=>C=cl/\fs.lookup m=none/\R
  | _=>False
 | _=>False
def i9 (cl:Addr)(m:Str)(sp:Sp)(E:XK)(to:TE)(t:TA):TE:=λ Z H Q=>to Z H λ x H1=>methK cl m x H1 (t Z H1 λ vs H2=>sp (x::(vs++[])) H2 Q E)
def w6:Expr->Bool
 | .Call (.Name id _) [] [] _=>id != "super"
 | _=>true
theorem F3 {f:Str}{env:Env}{w:Sem Value}(h:w6 o=true):attributeBase o f env w=w:=by
 unfold attributeBase
 split
 ·rename_i id _ _
  have h':(id != "super")=true:=h
  simp[h']
 ·rfl
end
def chain3 (r r' r'':R2)(ta tb tc td:TE):TE:=λ Z H Q=>ta Z H λ x H1=>tb Z H1 λ y H2=>r x y H2 λ z H3=>match z with
 | .bl k=>br k (tc Z H3 λ u H4=>r' y u H4 λ z' H5=>match z' with
  | .bl k'=>br k' (td Z H5 λ w' H6=>r'' u w' H6 Q) (Q (.bl false) H5)
  | _=>False) (Q (.bl false) H3)
 | _=>False
section
variable {X:Cx}{a b c d:Expr}{pos:Pos}{ta tb tc td:TE}{op op' op'':CmpOp}{r r' r'':R2}
theorem pe_chain3 (ho:OpR X (compareOp op) r)(ho':OpR X (compareOp op') r')(ho'':OpR X (compareOp op'') r'')(ha:PE X a ta)(hb:PE X b tb)(hc:PE X c tc)(hd:PE X d td)(hm:lastMarks [op,op',op''] [b,c,d]=false):PE X (.Compare a [op,op',op''] [b,c,d] pos) (chain3 r r' r'' ta tb tc td):=by
 intro pins s Z H Q I h
 refine Compare_chain (thn (ha pins s Z H _ I h) λ v s1 ⟨x,H1,I1,r1,q1⟩=>chain_link (thn (hb pins s1 Z H1 _ I1 q1) λ u s2 ⟨y,H2,I2,r2,q2⟩=>
  thn (ho pins s2 Z H2 x y v u _ I2 r1 r2 q2) λ e s3 ⟨z,H3,I3,r3,q3⟩=>?_)) hm
 cases z <;> first | exact q3.elim | skip
 rename_i k
 cases r3
 refine wpAny_truthy_bool ?_
 have q3:=A4 q3
 cases k with
 | false=>exact ite_ff ⟨.bl false,H3,I3,rfl,q3⟩
 | true=>
  refine ite_tt (chain_link (thn (hc pins s3 Z H3 _ I3 q3) λ u' s4 ⟨y',H4,I4,r4,q4⟩=>thn (ho' pins s4 Z H4 y y' u u' _ I4 r2 r4 q4) λ e' s5 ⟨z',H5,I5,r5,q5⟩=>?_))
  cases z' <;> first | exact q5.elim | skip
  rename_i k'
  cases r5
  refine wpAny_truthy_bool ?_
  have q5:=A4 q5
  cases k' with
  | false=>exact ite_ff ⟨.bl false,H5,I5,rfl,q5⟩
  | true=>exact ite_tt (chain_last (thn (hd pins s5 Z H5 _ I5 q5) λ w' s6 ⟨z6,H6,I6,r6,q6⟩=>ho'' pins s6 Z H6 y' z6 u' w' Q I6 r4 r6 q6))
theorem pt_chain3 (ho:OpR X (compareOp op) r)(ho':OpR X (compareOp op') r')(ho'':OpR X (compareOp op'') r'')(ha:PE X a ta)(hb:PE X b tb)(hc:PE X c tc)(hd:PE X d td)(hm:lastMarks [op,op',op''] [b,c,d]=false):PT X (.Compare a [op,op',op''] [b,c,d] pos) (bT (chain3 r r' r'' ta tb tc td)):=by
 intro pins s Z H Q I h
 refine isTrue_chain (thn (ha pins s Z H _ I h) λ v s1 ⟨x,H1,I1,r1,q1⟩=>test_link (thn (hb pins s1 Z H1 _ I1 q1) λ u s2 ⟨y,H2,I2,r2,q2⟩=>
  thn (ho pins s2 Z H2 x y v u _ I2 r1 r2 q2) λ e s3 ⟨z,H3,I3,r3,q3⟩=>?_)) hm
 cases z <;> first | exact q3.elim | skip
 rename_i k
 cases r3
 refine wpAny_truthy_bool ?_
 have q3:=A4 q3
 cases k with
 | false=>exact ite_ff ⟨H3,I3,q3⟩
 | true=>
  refine ite_tt (test_link (thn (hc pins s3 Z H3 _ I3 q3) λ u' s4 ⟨y',H4,I4,r4,q4⟩=>thn (ho' pins s4 Z H4 y y' u u' _ I4 r2 r4 q4) λ e' s5 ⟨z',H5,I5,r5,q5⟩=>?_))
  cases z' <;> first | exact q5.elim | skip
  rename_i k'
  cases r5
  refine wpAny_truthy_bool ?_
  have q5:=A4 q5
  cases k' with
  | false=>exact ite_ff ⟨H5,I5,q5⟩
  | true=>
   refine ite_tt (test_last (thn (hd pins s5 Z H5 _ I5 q5) λ w' s6 ⟨z6,H6,I6,r6,q6⟩=>thn (ho'' pins s6 Z H6 y' z6 u' w' _ I6 r4 r6 q6) λ e7 s7 ⟨z7,H7,I7,r7,q7⟩=>?_))
   cases z7 <;> first | exact q7.elim | skip
   cases r7
   exact wpAny_truthy_bool ⟨H7,I7,q7⟩
end
def dictO:HO->Bool
 | .dK _=>true
 | .dT _=>true
 | _=>false
abbrev Th:=Option (Addr×HO)
def NF (X:Cx)(a:Addr):Prop:=∀ o u,X.H₀ a≠some (.frz o u)
section
variable {X:Cx}{pins:List (Addr×Obj)}{Z:St}{H:Hp}{s:Shared}{a:Addr}{u:HO}{o:Obj}
theorem obj_at (hd:dictO u=true){P:Program}{w:World}{h:Heap}(x:ObjOk P w H h a u):∃ o,h.get? a=some o:=by
 cases u <;> first | (cases hd;done) | skip
 ·obtain⟨_,_,vs,_,ob,es,ep,e,_⟩:=x
  exact⟨ob,e⟩
 ·obtain⟨_,_,xs,_,ob,es,ep,e,_⟩:=x
  exact⟨ob,e⟩
theorem a4L {v u':HO}(I:Inv X pins Z H s)(h:H a=some v)(hv:∀ xs,v≠.tup xs)(ho:∀ b,v≠.own b)(hb:∀ ps,v≠.tbl ps)(nf:(∀ o u,v≠.frz o u)\/NF X a)(new:ObjOk X.prog X.w H s.heap a u'):Inv X pins Z (upd H a u') s:=by
 have ne:∀ b w,H b=some w->w≠v->b≠a:=λ b w e hw z=>by
  rw[z,h]at e
  cases e
  exact hw rfl
 have non:∀ b,H b=none->b≠a:=λ b e z=>by rw[z,h]at e;cases e
 have ou:∀ b c,H b=some (.own c)->upd H a u' b=some (.own c):=λ b c e=>by
  rw[a5 (ne b _ e λ z=>ho _ z.symm)]
  exact e
 have tu:∀ b xs,H b=some (.tup xs)->upd H a u' b=some (.tup xs):=λ b xs e=>by
  rw[a5 (ne b _ e λ z=>hv _ z.symm)]
  exact e
 refine⟨I.ok,I.os,I.bare,?_,I.loc,I.cell,?_,λ x c e=>?_,λ p hp=>?_,λ b w e=>?_,I.len⟩
 ·refine⟨I.base.keep,I.base.slot,λ b ob e n x=>?_,I.base.there,λ b xs e=>tu b xs (I.base.tups b xs e),λ b ob w e=>?_,λ b ps e=>?_⟩
  ·have:=I.base.free b ob e n x
   rw[a5 (non b this)]
   exact this
  ·have q:=I.base.frzs b ob w e
   by_cases z:b=a
   ·subst z
    rcases nf with nf | nf
    ·rw[h]at q
     cases q
     exact absurd rfl (nf _ _)
    ·exact absurd e (nf _ _)
   ·rw[a5 z]
    exact q
  ·obtain⟨more,q⟩:=I.base.tbls b ps e
   refine⟨more,?_⟩
   rw[a5 (ne b _ q λ z=>hb _ z.symm)]
   exact q
 ·rw[a5 (non _ I.free)]
  exact I.free
 ·rw[a5 (non _ (I.freeC x c e))]
  exact I.freeC x c e
 ·obtain⟨p1,p2,r⟩:=I.pin p hp
  refine⟨p1,?_,r⟩
  rw[a5 (non _ p2)]
  exact p2
 ·by_cases z:b=a
  ·subst z
   rw[a6]at e
   cases e
   exact new.stay (λ _ _ _ q=>q) (λ c q=>ou c _ q) tu
  ·rw[a5 z]at e
   exact(I.hok b w e).stay (λ _ _ _ q=>q) (λ c q=>ou c _ q) tu
theorem M3 (I:Inv X pins Z H s)(h:H a=some u)(hd:dictO u=true):NF X a/\∃ o,s.heap.get? a=some o/\Inv X pins Z (upd H a (.frz o u)) s:=by
 have ok:=I.hok a u h
 obtain⟨o,e⟩:=obj_at hd ok
 have nf:∀ o v,u≠.frz o v:=λ o v z=>by rw[z]at hd;cases hd
 refine⟨λ ob v z=>?_,o,e,?_⟩
 ·have:=I.base.frzs a ob v z
  rw[h]at this
  cases this
  exact nf _ _ rfl
 ·exact a4L I h (λ xs z=>by rw[z]at hd;cases hd) (λ xs z=>by rw[z]at hd;cases hd) (λ xs z=>by rw[z]at hd;cases hd) (.inl nf) ⟨e,ok⟩
theorem O5 (I:Inv X pins Z H s)(h:H a=some (.frz o u))(nf:NF X a):Inv X pins Z (upd H a u) s:=by
 obtain⟨_,ok⟩:=I.hok a _ h
 exact a4L I h (λ xs z=>by cases z) (λ xs z=>by cases z) (λ xs z=>by cases z) (.inr nf) ok
end
abbrev TI2:=St->Hp->(It->Hp->Th->Prop)->Prop
def PIE2 (X:Cx)(pins:List (Addr×Obj))(Z:St)(tg:Expr)(R:It->Hp->Th->Prop)(itv:Value)(s2:Shared):Prop:=∃ th:Th,(∀ a u,th=some (a,u)->NF X a)/\PIE X pins Z tg (λ J H=>R J H th) itv s2
def PI2 (X:Cx)(tg iter:Expr)(wi:TI2):Prop:=
 ∀ (pins:List (Addr×Obj)) (s:Shared) (Z:St) (H:Hp) (R:It->Hp->Th->Prop),Inv X pins Z H s->wi Z H R →
  wpAny (model X.prog X.w) X.A (eval iter X.env) (λ v s1=>wpAny (model X.prog X.w) X.A (pyIter v) (PIE2 X pins Z tg R) X.xe s1) X.xe s
def thD (th:Th)(D:Ends):Ends:=match th with
 | none=>D
 | some (a,u)=>⟨λ Z H=>(∃ o,H a=some (.frz o u))/\D.nx Z (upd H a u),λ v H=>(∃ o,H a=some (.frz o u))/\D.rt v (upd H a u),λ Z H=>(∃ o,H a=some (.frz o u))/\D.bk Z (upd H a u),λ Z H=>(∃ o,H a=some (.frz o u))/\D.ct Z (upd H a u)⟩
def thQ (th:Th)(Q:VK):VK:=match th with
 | none=>Q
 | some (a,u)=>λ v H=>(∃ o,H a=some (.frz o u))/\Q v (upd H a u)
@[irreducible] def E2 (J:It)(g:TG)(tb:TS)(D:Ends)(Z:St)(H:Hp):Prop:=∃ W:Nat->Nat->St->Hp->Prop,(∃ m,W 0 m Z H)/\∀ i m Z H,W i m Z H →
 (J.stop i H/\D.nx Z H)\/(J.go i H/\∃ N:St->Hp->Prop,(∀ Z' H',N Z' H'->∃ m',m' < m/\W (i + 1) m' Z' H')/\∀ x H',J.yld i H x H'->g x Z H' λ σ2 H2=>tb { D with nx:=N,ct:=N,bk:=D.nx } σ2 H2)
@[irreducible] def y7 (J:It)(tn:List Str)(fr:List (Str×Nat))(g:TG)(tt:TT)(te:TE)(Z:St)(H1:Hp)(Q:VK):Prop:=∀ p,H1 p=none →
 ∃ W:Nat->Nat->Hp->Prop,(∃ m,W 0 m (upd H1 p (.lst [])))/\∀ i m G,W i m G →
  (J.stop i G/\Q (.ref p) G)\/(J.go i G/\∃ N:Hp->Prop,(∀ G',N G'->∃ m',m' < m/\W (i + 1) m' G')/\∀ x G',J.yld i G x G' →
   g x (inn tn fr Z) G' λ σ2 G2=>tt σ2 G2 λ b G3=>br b (te σ2 G3 λ y G4=>∃ ys,G4 p=some (.lst ys)/\ys.length < sizeLine/\N (upd G4 p (.lst (ys++[y])))) (N G3))
@[irreducible] def v5 (wi:TI2)(g:TG)(tb:TS):TS:=λ D Z H=>wi Z H λ J H1 th=>E2 J g tb (thD th D) Z H1
@[irreducible] def o0 (wi:TI2)(tn:List Str)(fr:List (Str×Nat))(g:TG)(tt:TT)(te:TE):TE:=λ Z H Q=>wi Z H λ J H1 th=>y7 J tn fr g tt te Z H1 (thQ th Q)
theorem g8 {wi:TI2}{g:TG}{tb:TS}{D:Ends}{Z:St}{H:Hp}(h:wi Z H λ J H1 th=>E2 J g tb (thD th D) Z H1):v5 wi g tb D Z H:=by
 unfold v5
 exact h
theorem A0 {wi:TI2}{tn:List Str}{fr:List (Str×Nat)}{g:TG}{tt:TT}{te:TE}{Z:St}{H:Hp}{Q:VK}(h:wi Z H λ J H1 th=>y7 J tn fr g tt te Z H1 (thQ th Q)):o0 wi tn fr g tt te Z H Q:=by
 unfold o0
 exact h
def Ends.le (D D':Ends):Prop:=(∀ Z H,D.nx Z H->D'.nx Z H)/\(∀ v H,D.rt v H->D'.rt v H)/\(∀ Z H,D.bk Z H->D'.bk Z H)/\∀ Z H,D.ct Z H->D'.ct Z H
def moS (t:TS):TS:=λ D Z H=>∃ D0:Ends,t D0 Z H/\Ends.le D0 D
def moG (g:TG):TG:=λ v Z H Q=>∃ Q0:St->Hp->Prop,g v Z H Q0/\∀ Z' H',Q0 Z' H'->Q Z' H'
section
variable {X:Cx}{tg it:Expr}
theorem SP.le {pins:List (Addr×Obj)}{D D':Ends}{f:Flow}{s:Shared}(h:SP X pins D f s)(l:Ends.le D D'):SP X pins D' f s:=by
 cases f with
 | next=>obtain⟨Z,H,I,q⟩:=h;exact⟨Z,H,I,l.1 _ _ q⟩
 | brk=>obtain⟨Z,H,I,q⟩:=h;exact⟨Z,H,I,l.2.2.1 _ _ q⟩
 | cont=>obtain⟨Z,H,I,q⟩:=h;exact⟨Z,H,I,l.2.2.2 _ _ q⟩
 | ret u=>obtain⟨v,Z,H,I,r,q⟩:=h;exact⟨v,Z,H,I,r,l.2.1 _ _ q⟩
theorem PSs.mo {ss:List Stmt}{t:TS}(h:PSs X ss t):PSs X ss (moS t):=λ pins s Z H D I ⟨D0,q,l⟩=>thn (h pins s Z H D0 I q) λ f s' sp=>SP.le sp l
theorem PG.mo {g:TG}(h:PG X tg g):PG X tg (moG g):=λ pins s Z H v u Q I r ⟨Q0,q,l⟩=>thn (h pins s Z H v u Q0 I r q) λ _ s' ⟨Z',H',I',q'⟩=>⟨Z',H',I',l _ _ q'⟩
def anyD (X:Cx)(D:Ends):Ends:=⟨λ Z H=>D.nx Z H\/∃ a o u,NF X a/\H a=some (.frz o u)/\D.nx Z (upd H a u),λ v H=>D.rt v H\/∃ a o u,NF X a/\H a=some (.frz o u)/\D.rt v (upd H a u),
 λ Z H=>D.bk Z H\/∃ a o u,NF X a/\H a=some (.frz o u)/\D.bk Z (upd H a u),λ Z H=>D.ct Z H\/∃ a o u,NF X a/\H a=some (.frz o u)/\D.ct Z (upd H a u)⟩
theorem thD_any {th:Th}{D:Ends}(hn:∀ a u,th=some (a,u)->NF X a):Ends.le (thD th D) (anyD X D):=by
 cases th with
 | none=>exact⟨λ _ _ h=>.inl h,λ _ _ h=>.inl h,λ _ _ h=>.inl h,λ _ _ h=>.inl h⟩
 | some p=>
  obtain⟨a,u⟩:=p
  have nf:=hn a u rfl
  exact⟨λ _ _ ⟨⟨o,e⟩,h⟩=>.inr ⟨a,o,u,nf,e,h⟩,λ _ _ ⟨⟨o,e⟩,h⟩=>.inr ⟨a,o,u,nf,e,h⟩,λ _ _ ⟨⟨o,e⟩,h⟩=>.inr ⟨a,o,u,nf,e,h⟩,λ _ _ ⟨⟨o,e⟩,h⟩=>.inr ⟨a,o,u,nf,e,h⟩⟩
theorem SP.thaw {pins:List (Addr×Obj)}{D:Ends}{f:Flow}{s:Shared}(h:SP X pins (anyD X D) f s):SP X pins D f s:=by
 cases f with
 | next=>
  obtain⟨Z,H,I,q | ⟨a,o,u,nf,e,q⟩⟩:=h
  ·exact⟨Z,H,I,q⟩
  ·exact⟨Z,_,O5 I e nf,q⟩
 | brk=>
  obtain⟨Z,H,I,q | ⟨a,o,u,nf,e,q⟩⟩:=h
  ·exact⟨Z,H,I,q⟩
  ·exact⟨Z,_,O5 I e nf,q⟩
 | cont=>
  obtain⟨Z,H,I,q | ⟨a,o,u,nf,e,q⟩⟩:=h
  ·exact⟨Z,H,I,q⟩
  ·exact⟨Z,_,O5 I e nf,q⟩
 | ret v=>
  obtain⟨w,Z,H,I,r,q | ⟨a,o,u,nf,e,q⟩⟩:=h
  ·exact⟨w,Z,H,I,r,q⟩
  ·exact⟨w,Z,_,O5 I e nf,r,q⟩
def oldI (X:Cx)(wi:TI2):TI:=λ Z H R=>∃ R0:It->Hp->Th->Prop,wi Z H R0/\∀ J H1 th,(∀ a u,th=some (a,u)->NF X a)->R0 J H1 th->R J H1
theorem pi_old {wi:TI2}(h:PI2 X tg it wi):PI X tg it (oldI X wi):=λ pins s Z H R I ⟨R0,q,l⟩=>thn (h pins s Z H R0 I q) λ v s1 h1=>thn h1 λ itv s2 ⟨th,nf,a,b,c,d,e,f,g,i,j,k,m⟩=>⟨a,b,c,d,e,f,g,i,j,k,l _ _ _ nf m⟩
theorem ps_for2 {wi:TI2}{g:TG}{tb:TS}{body:List Stmt}{pos:Pos}(hp:PassesOwn (model X.prog X.w) X.A X.env X.xe)(hc:X.calm=true)(hi:PI2 X tg it wi)(hg:PG X tg g)(hb:PSs X body tb)
  (hs:∀ x,foldedSetIterable it X.env x=pure x):PS X (.For tg it body [] pos) (v5 wi g tb):=by
 intro pins s Z H D I h
 unfold v5 at h
 refine thn (ps_for hp hc (pi_old hi) (PG.mo hg) (PSs.mo hb) hs pins s Z H (anyD X D) I ⟨_,h,λ J H1 th nf q=>?_⟩) λ f s' sp=>SP.thaw sp
 have le:=thD_any (X:=X) (D:=D) nf
 unfold E2 at q
 obtain⟨W,h0,hs⟩:=q
 refine⟨W,h0,λ i m Z H w=>?_⟩
 rcases hs i m Z H w with⟨st,nx⟩ | ⟨go,N,hN,step⟩
 ·exact .inl ⟨st,le.1 _ _ nx⟩
 ·exact .inr ⟨go,N,hN,λ x H' y=>⟨_,step x H' y,λ σ2 H2 q=>⟨_,q,λ _ _ z=>z,le.2.1,le.1,λ _ _ z=>z⟩⟩⟩
def anyQ (X:Cx)(Q:VK):VK:=λ v H=>Q v H\/∃ a o u,NF X a/\H a=some (.frz o u)/\Q v (upd H a u)
theorem thQ_any {th:Th}{Q:VK}(hn:∀ a u,th=some (a,u)->NF X a):∀ v H,thQ th Q v H->anyQ X Q v H:=by
 cases th with
 | none=>exact λ _ _ h=>.inl h
 | some p=>
  obtain⟨a,u⟩:=p
  exact λ _ _ ⟨⟨o,e⟩,h⟩=>.inr ⟨a,o,u,hn a u rfl,e,h⟩
theorem a3d {wi:TI2}{tn:List Str}{fr:List (Str×Nat)}{g:TG}{tt:TT}{te:TE}{Z:St}{H:Hp}{Q:VK}(h:o0 wi tn fr g tt te Z H Q):tComp (oldI X wi) tn fr g tt te Z H (anyQ X Q):=by
 unfold o0 at h
 refine⟨_,h,λ J H1 th nf q=>?_⟩
 unfold y7 at q
 intro p hp
 obtain⟨W,h0,hs⟩:=q p hp
 refine⟨W,h0,λ i m G w=>?_⟩
 rcases hs i m G w with⟨st,q⟩ | r
 ·exact .inl ⟨st,thQ_any nf _ _ q⟩
 ·exact .inr r
end
def Itd (a:Addr)(o:Obj)(kvs:List (Key×V)):It:=⟨λ i H=>H a=some (.frz o (.dK kvs))/\i < kvs.length,λ i H x H'=>H'=H/\∃ k v,kvs[i]?=some (k,v)/\x=kV k,λ i H=>H a=some (.frz o (.dK kvs))/\kvs.length<=i⟩
def Itp (a:Addr)(o:Obj)(kvs:List (Key×V)):It:=⟨λ i H=>H a=some (.frz o (.dK kvs))/\i < kvs.length,λ i H x H'=>∃ k v t,kvs[i]?=some (k,v)/\x=.ref t/\H t=none/\H'=upd H t (.tup [kV k,v]),λ i H=>H a=some (.frz o (.dK kvs))/\kvs.length<=i⟩
theorem a3P {P:Program}{w:World}{k:Key}{v:Value}(h:(d2 P w).is k v=true):RelV (kV k) v:=by
 rcases j7 (show a1m k v=true from h) with⟨i,t,rfl,rfl⟩ | ⟨x,t,rfl,rfl⟩
 ·exact⟨t,rfl⟩
 ·exact⟨t,rfl⟩
theorem KV.get {kvs:List (Key×V)}{vs:List (Key×Value)}:KV kvs vs->∀ {i:Nat}{k:Key}{v:V},kvs[i]?=some (k,v)->∃ u,vs[i]?=some (k,u)/\RelV v u:=by
 intro r
 induction r with
 | nil=>intro i k v h;simp at h
 | cons h t ih=>
  intro i k v e
  cases i with
  | zero=>
   rename_i p b ps bs
   obtain⟨kb,ub⟩:=b
   obtain⟨kp,vp⟩:=p
   simp at e
   obtain⟨rfl,rfl⟩:=e
   obtain⟨e1,e2⟩:=h
   simp only at e1 e2
   subst e1
   exact⟨ub,rfl,e2⟩
  | succ i=>exact ih (by simpa using e)
section
variable {P:Program}{w:World}{K:PySem.W.Frag}{tg:Expr}
theorem a1E {h:Heap}{a:Addr}{o:Obj}{vs:List (Key×Value)}{ep:Nat}(e:h.get? a=some o)(d:h.DictAt (d2 P w) a vs ep):∀ h':Heap,h'.get? a=some o->h'.DictAt (d2 P w) a vs ep:=λ h' e'=>d.at' λ o' q=>by
 rw[e]at q
 cases q
 exact e'
theorem turn_dict (it a:Addr)(o:Obj){kvs:List (Key×V)}{vs:List (Key×Value)}{ep:Nat}(r:KV kvs vs)(hD:∀ h:Heap,h.get? a=some o->h.DictAt (d2 P w) a vs ep):
  Turn P w K tg (Itd a o kvs) [it] it (λ i h=>h.IsKeyIter it a i vs.length ep) where
 mem:=by simp
 obj:=λ i h st b hb=>by
  have e:b=it:=by simpa using hb
  subst e
  obtain⟨o,e,c,d⟩:=st
  exact⟨o,e,λ v z=>by rw[d]at z;cases z⟩
 keep:=λ i h h' st k=>st.at λ o e=>k it (by simp) o e
 item:=by
  intro X hP hw hK hc i pins s Z H E I hf st hg
  subst hP hw hK
  obtain⟨f0,f1,f2,f3,f4,f5⟩:=hf it (by simp)
  obtain⟨ha,hi⟩:=hg
  obtain⟨eo,_⟩:=I.hok a _ ha
  obtain⟨⟨k,v⟩,hx⟩:∃ p,kvs[i]?=some p:=⟨kvs[i],by simp[hi]⟩
  obtain⟨u,hu,ru⟩:=KV.get r hx
  refine wpAny_pyNext_dict_item st (hD _ eo) hu λ key h' hkey hit' hs'=>?_
  have I1:Inv X pins Z H { s with heap:=h' }:=I.turned (t':=s.toks) (λ b o hb e=>hs'.extBut b o hb e) f0 f1 f3 f4 f5
  obtain⟨ob,e,c,d⟩:=id hit'
  exact⟨key,rfl,a1o (s:={ s with heap:=h' }) e c d (by decide) ⟨kV k,H,I1,a3P hkey,⟨rfl,k,v,hx,rfl⟩,hit',λ b hb=>(hf b hb).1⟩⟩
 done:=by
  intro X hP hw hK hc i pins s Z H E I hf st hg
  subst hP hw hK
  obtain⟨f0,f1,f2,f3,f4,f5⟩:=hf it (by simp)
  obtain⟨ha,hi⟩:=hg
  obtain⟨eo,_⟩:=I.hok a _ ha
  have hl:=KV.length r
  exact wpAny_pyNext_dict_end (I.ok.hd hc) st (hD _ eo) (by simp;omega) λ h' eb=>⟨rfl,I.turned (t':=s.toks) (λ b o hb e=>eb b o hb e) f0 f1 f3 f4 f5⟩
 self:=λ _ _ _ _ _ st h=>wpAny_pyIter_keyiter st h
theorem a5X {es:List Expr}{k1:Nat}{pos:Pos}(it a:Addr)(o:Obj){kvs:List (Key×V)}{vs:List (Key×Value)}{ep:Nat}(r:KV kvs vs)(hD:∀ h:Heap,h.get? a=some o->h.DictAt (d2 P w) a vs ep):
  Turn P w K (.Tuple es k1 pos) (Itp a o kvs) [it] it (λ i h=>∃ ok ov,IsItemIter h it a i vs.length ep ok ov) where
 mem:=by simp
 obj:=λ i h st b hb=>by
  have e:b=it:=by simpa using hb
  subst e
  obtain⟨ok,ov,e⟩:=st
  exact⟨_,e,λ v z=>by cases z⟩
 keep:=λ i h h' ⟨ok,ov,e⟩ k=>⟨ok,ov,k it (by simp) _ e⟩
 item:=by
  intro X hP hw hK hc i pins s Z H E I hf st hg
  subst hP hw hK
  obtain⟨f0,f1,f2,f3,f4,f5⟩:=hf it (by simp)
  obtain⟨ha,hi⟩:=hg
  obtain⟨eo,_⟩:=I.hok a _ ha
  obtain⟨⟨k,v⟩,hx⟩:∃ p,kvs[i]?=some p:=⟨kvs[i],by simp[hi]⟩
  obtain⟨u,hu,ru⟩:=KV.get r hx
  obtain⟨ok,ov,st⟩:=st
  refine wpAny_pyNext_items_item st (hD _ eo) hu λ key h' hkey hit' ht hsz kp=>⟨_,rfl,?_⟩
  refine wpAny_letOwnedTupleGo_items hit' λ h2 hit2 sb=>?_
  have hT:s.heap.objs.size≠it:=Nat.ne_of_gt (Heap.lt_size st)
  have e2:h2.get? s.heap.objs.size=some { cls:=.type "tuple",data:=.seq #[key,u] }:=sb.extBut _ _ hT ht
  have I1:Inv X pins Z H { s with heap:=h2 }:=I.turned (t':=s.toks) (λ b o hb e=>sb.extBut b o hb (kp b o hb e)) f0 f1 f3 f4 f5
  have hn:H s.heap.objs.size=none:=I.hok.fresh (Nat.le_refl _)
  refine⟨.ref s.heap.objs.size,upd H s.heap.objs.size (.tup [kV k,v]),?_,rfl,⟨k,v,_,hx,rfl,hn,rfl⟩,⟨key,u,hit2⟩,λ b hb=>?_⟩
  ·have new:ObjOk X.prog X.w (upd H s.heap.objs.size (.tup [kV k,v])) h2 s.heap.objs.size (.tup [kV k,v]):=⟨by show 2<=sizeLine;decide,[key,u],.cons (a3P hkey) (.cons ru .nil),_,e2,rfl,_,rfl⟩
   refine⟨I1.ok,I1.os,I1.bare,?_,I1.loc,I1.cell,?_,λ x c e=>?_,λ p hp=>?_,λ b w e=>?_,I1.len⟩
   ·refine⟨I1.base.keep,I1.base.slot,λ b ob e n x=>?_,I1.base.there,λ b xs e=>?_,λ b ob w e=>?_,λ b ps e=>?_⟩
    ·have q:=I1.base.free b ob e n x
     by_cases z:b=s.heap.objs.size
     ·subst z
      exact absurd (Nat.lt_of_lt_of_le (Heap.lt_size e) I.sz) (Nat.lt_irrefl _)
     ·rw[a5 z]
      exact q
    ·have q:=I1.base.tups b xs e
     rw[a5 (c9 q hn)]
     exact q
    ·have q:=I1.base.frzs b ob w e
     rw[a5 (c9 q hn)]
     exact q
    ·obtain⟨more,q⟩:=I1.base.tbls b ps e
     exact⟨more,by rw[a5 (c9 q hn)];exact q⟩
   ·rw[a5 (Nat.ne_of_lt I.lt)]
    exact I1.free
   ·have:c≠s.heap.objs.size:=by
     obtain⟨v,ob,ho,_⟩:=I.cell x c e
     exact Nat.ne_of_lt (Heap.lt_size ho)
    rw[a5 this]
    exact I1.freeC x c e
   ·obtain⟨p1,p2,q⟩:=I1.pin p hp
    refine⟨p1,?_,q⟩
    have:p.1≠s.heap.objs.size:=Nat.ne_of_lt (Heap.lt_size (I.pin p hp).1)
    rw[a5 this]
    exact p2
   ·by_cases z:b=s.heap.objs.size
    ·subst z
     rw[a6]at e
     cases e
     exact new
    ·rw[a5 z]at e
     refine(I1.hok b w e).stay (λ _ _ _ q=>q) (λ c q=>?_) λ c xs q=>?_
     ·rw[a5 (c9 q hn)]
      exact q
     ·rw[a5 (c9 q hn)]
      exact q
  ·have e:b=it:=by simpa using hb
   subst e
   rw[a5 (Ne.symm hT)]
   exact f0
 done:=by
  intro X hP hw hK hc i pins s Z H E I hf st hg
  subst hP hw hK
  obtain⟨f0,f1,f2,f3,f4,f5⟩:=hf it (by simp)
  obtain⟨ha,hi⟩:=hg
  obtain⟨eo,_⟩:=I.hok a _ ha
  have hl:=KV.length r
  obtain⟨ok,ov,st⟩:=st
  exact wpAny_pyNext_items_end (I.ok.hd hc) st (hD _ eo) (by simp;omega) λ h' eb=>⟨rfl,I.turned (t':=s.toks) (λ b o hb e=>eb b o hb e) f0 f1 f3 f4 f5⟩
 self:=λ A i s Q E st h=>by
  obtain⟨ok,ov,st⟩:=st
  exact PySem.W.kcp_self st h
end
section
variable {X:Cx}{pins:List (Addr×Obj)}{Z:St}{H:Hp}{s:Shared}
theorem frz_at (I:Inv X pins Z H s){a:Addr}{o:Obj}{kvs:List (Key×V)}(h:H a=some (.frz o (.dK kvs))):(a==sysModules)=false/\kvs.length<=sizeLine/\s.heap.get? a=some o/\∃ vs ep,KV kvs vs/\s.heap.DictAt (d2 X.prog X.w) a vs ep:=by
 obtain⟨e,z,lo,vs,r,d⟩:=I.hok a _ h
 obtain⟨ep,d⟩:=d.dictAt
 exact⟨lo,z,e,vs,ep,r,d⟩
theorem keys_vals {kvs:List (Key×V)}{vs:List (Key×Value)}{us:List Value}(r:KV kvs vs)(hl:us.length=vs.length)(h:∀ (j:Nat) (u:Value),us[j]?=some u->∃ k x,vs[j]?=some (k,x)/\(d2 X.prog X.w).is k u=true):Vals (kvs.map λ kv=>kV kv.1) us:=by
 induction r generalizing us with
 | nil=>
  cases us with
  | nil=>exact .nil
  | cons a b=>simp at hl
 | cons hp t ih=>
  rename_i p b ps bs
  cases us with
  | nil=>simp at hl
  | cons u us=>
   obtain⟨k,x,e,hk⟩:=h 0 u rfl
   simp at e
   subst e
   rw[List.map_cons]
   refine .cons ?_ (ih (by simpa using hl) λ j w hj=>h (j + 1) w (by simpa using hj))
   rw[hp.1]
   exact a3P hk
theorem a3e (hc:X.calm=true)(I:Inv X pins Z H s){a:Addr}{kvs:List (Key×V)}(h:Rd H a (.dK kvs)){Q:VK}(q:newO H (.lst (kvs.map λ kv=>kV kv.1)) Q):wpAny (model X.prog X.w) X.A (call (.type "list") [.ref a]) (EP X pins Z Q) X.xe s:=by
 obtain⟨z,lo,vs,r,d⟩:=T3 I.hok h
 obtain⟨ep,d⟩:=d.dictAt
 have hl:=KV.length r
 refine PySem.W.kdl_call (PySem.W.kdl_dict (knd:=d2 X.prog X.w) (kvs:=vs) (ep:=ep) lo) (I.ok.hd hc) d (by rw[<- hl];exact z) λ h' tk acc' c' hk hD hacc=>?_
 have rv:Vals (kvs.map λ kv=>kV kv.1) acc'.toList:=keys_vals (X:=X) r (by rw[Array.length_toList];exact hacc.1) λ j u hu=>hacc.2 j u (by rw[<- Array.getElem?_toList];exact hu)
 refine⟨.ref s.heap.objs.size,_,I.laid (t':=tk) hk (Nat.le_refl _) (o:=.lst (kvs.map λ kv=>kV kv.1)) ?_,rfl,q.at _ (I.hok.fresh (Nat.le_refl _))⟩
 exact⟨by rw[List.length_map];exact z,acc'.toList,c',rv,by rw[Array.toArray_toList];exact hD⟩
theorem a5Y {z:Str}:∀ {us:List Value},us.length=z.cps.toList.length->(∀ (j:Nat) (u:Value),us[j]?=some u->∃ c t,z.cps.toList[j]?=some c/\u=.str ⟨#[c]⟩ t)->Vals (z.cps.toList.map λ c=>V.str ⟨#[c]⟩) us:=by
 generalize z.cps.toList=l
 induction l with
 | nil=>
  intro us hl h
  cases us with
  | nil=>exact .nil
  | cons a b=>simp at hl
 | cons c r ih=>
  intro us hl h
  cases us with
  | nil=>simp at hl
  | cons u us=>
   obtain⟨d,t,e,rfl⟩:=h 0 u rfl
   simp at e
   subst e
   exact .cons ⟨t,rfl⟩ (ih (by simpa using hl) λ j w hj=>h (j + 1) w (by simpa using hj))
theorem list_text (hc:X.calm=true)(I:Inv X pins Z H s){z:Str}{t:Tok}(hz:z.length<=sizeLine){Q:VK}(q:newO H (.lst (z.cps.toList.map λ c=>V.str ⟨#[c]⟩)) Q):wpAny (model X.prog X.w) X.A (call (.type "list") [.str z t]) (EP X pins Z Q) X.xe s:=by
 refine call_list_str (I.ok.hd hc) z t (λ h' tk acc' c' hk hD hacc=>?_) hz
 have rv:Vals (z.cps.toList.map λ c=>V.str ⟨#[c]⟩) acc'.toList:=a5Y (by rw[Array.length_toList,hacc.1];simp) λ j u hu=>by
  obtain⟨c,tk,hc,rfl⟩:=hacc.2 j u (by rw[<- Array.getElem?_toList];exact hu)
  exact⟨c,tk,by simpa using hc,rfl⟩
 refine⟨.ref s.heap.objs.size,_,I.laid (t':=tk) hk (Nat.le_refl _) (o:=.lst (z.cps.toList.map λ c=>V.str ⟨#[c]⟩)) ?_,rfl,q.at _ (I.hok.fresh (Nat.le_refl _))⟩
 exact⟨by rw[List.length_map,Array.length_toList];exact hz,acc'.toList,c',rv,by rw[Array.toArray_toList];exact hD⟩
def V1:List V->Option (List Str)
 | []=>some []
 | .str x::r=>match V1 r with
  | some l=>some (x::l)
  | none=>none
 | _=>none
theorem a1F:∀ {xs:List V}{us:List Value}{ys:List Str},Vals xs us->V1 xs=some ys->StrsAre us ys
 | _,_,_,.nil,h=>by cases h;exact .nil
 | x::r,u::us,ys,.cons h t,e=>by
  cases x <;> first | (cases e;done) | skip
  obtain⟨tk,rfl⟩:=h
  unfold V1 at e
  split at e
  ·cases e
   exact .cons _ _ (a1F t (by assumption))
  ·cases e
abbrev RM:=V->List V->Hp->VK->Prop
@[irreducible] def a3f:RM:=λ x vs H Q=>match x,vs with
 | .str sep,[.ref l]=>match H l with
  | some (.lst xs)=>match V1 xs with
   | some ys=>(ys.map (·.length)).sum + ys.length * sep.length<=16777216/\Q (.str (Txt.join sep ys)) H
   | none=>False
  | _=>False
 | _,_=>False
theorem mt_joinG:MtR X "str.join" a3f:=λ pins s Z H x xs v us Q I rx rs h=>by
 unfold a3f at h
 split at h
 ·split at h
  ·split at h
   ·rename_i sep l _ ys hl _ zs hz
    obtain⟨t,rfl⟩:=rx
    obtain⟨u,rfl,ru⟩:=y8 rs
    cases ru
    obtain⟨its,r,li⟩:=A7 I hl
    exact join_list li (by simpa using a1F r hz) h.1 λ t' k=>⟨.str _,H,I.tok k,⟨t',rfl⟩,h.2⟩
   ·exact h.elim
  ·exact h.elim
 ·exact h.elim
end
def RawD (h:Heap)(d:Addr)(es:Array DictEntry)(ep:Nat):Prop:=∃ o,h.get? d=some o/\o.ExactDict/\o.data=.dict es ep
section
variable {prog:Program}{w:World}{A:Around}{E:Value->Shared->Prop}{s:Shared}{d it:Addr}{es:Array DictEntry}{ep i:Nat}
theorem RawD.typeIs (r:RawD s.heap d es ep):s.TypeIs (.ref d) "dict" := by
 obtain⟨o,h1,h2,h3⟩:=r
 exact⟨o,h1,h2.1⟩
theorem a4M {Q:Value->Shared->Prop}(lo:(d==sysModules)=false)(r:RawD s.heap d es ep)
  (q:Q (.ref s.heap.objs.size) { s with heap:=s.heap.push { cls:=.type "dict_keyiterator",data:=.fields #[.ref d,.int 0 0,.int es.size 0,.int ep 0] } }):wpAny (model prog w) A (pyIter (.ref d)) Q E s:=by
 have ty:=r.typeIs
 obtain⟨o,h1,h2,h3⟩:=r
 refine wpAny_pyIter_slot ty F.slot_dict_iter (wpAny_call_entry F.slot_dict_iter ty F.entry_dict_iter ?_ (F.args_dict_iter_1 _))
 show wpAny _ _ (Builtin.Dict.dictSlotNone _ _ >>= _) _ _ s
 refine wpAny_bind (wpAny_bind (wpAny_notOrdered_dict ty (show wpAny _ _ (pure (Value.ref d)) _ _ s from wpAny_pure ?_)))
 show wpAny _ _ ((if (d==sysModules)=true then _ else _) >>= _) _ _ s
 rw[if_neg (by rw[lo];decide)]
 refine wpAny_bind (wpAny_pure (wpAny_bind (wpAny_dictEntries h1 h3 (wpAny_bind (wpAny_dictEpoch h1 h3 (wpAny_bind (wpAny_newObj_type (wpAny_pure ⟨_,rfl, "dict_keyiterator",_,⟨_,Heap.get?_push_size _ rfl,rfl⟩,F.slot_dict_keyiterator_next.lookup,?_⟩))))))))
 simpa[rawInt] using q
theorem a4N {e:DictEntry}{Q:Option Value->Shared->Prop}(k:s.heap.IsKeyIter it d i es.size ep)(r:RawD s.heap d es ep)(he:es[i]?=some e)
  (q:∀ h':Heap,h'.IsKeyIter it d (i + 1) es.size ep->Heap.SameBut it s.heap h'->Q (some e.key) { s with heap:=h' }):wpAny (model prog w) A (pyNext (.ref it)) Q E s:=by
 have ty:=k.typeIs
 obtain⟨o,k1,k2,k3⟩:=id k
 obtain⟨b,h1,h2,h3⟩:=r
 unfold pyNext
 refine wpAny_bind (wpAny_attempt (wpAny_callSpecial?_slot (name:=Str.ofString "__next__") ty F.slot_dict_keyiterator_next (wpAny_call_entry F.slot_dict_keyiterator_next ty F.entry_dict_keyiterator_next ?_ (F.args_dict_keyiterator_next_1 _))))
 refine wpAny_bind (wpAny_pure (wpAny_bind (wpAny_bind (wpAny_bind (wpAny_typeNameOfWhole_keyiter ty (wpAny_pure (wpAny_bind (wpAny_fieldsOf k1 k3 ?_))))))))
 rw[show Builtin.Dict_items.ownsTuple "dict_keyiterator" = false by decide]
 simp only[Bool.false_eq_true,if_false]
 show wpAny _ _ (if (Value.ref d==Value.none)=true then _ else _) _ _ s
 rw[if_neg (show ¬ ((Value.ref d==Value.none)=true) from Bool.false_ne_true)]
 refine wpAny_bind (wpAny_pure (wpAny_bind (wpAny_dictEntries h1 h3 ?_)))
 rw[if_neg (by simp)]
 refine wpAny_bind (wpAny_pure (wpAny_bind (wpAny_dictEpoch h1 h3 ?_)))
 rw[if_neg (by simp)]
 refine wpAny_pure ?_
 have hi:i < es.size:=(Array.getElem?_eq_some_iff.mp he).1
 simp only[show ¬ ((i:Int) < 0) from by omega,if_false,Int.toNat_natCast,he]
 refine wpAny_bind (wpAny_bind (wpAny_typeNameOfWhole_keyiter ty (wpAny_pure (wpAny_bind (wpAny_isOneOf_keyiter ty ?_)))))
 show wpAny _ _ (setField (.ref it) 1 (rawInt ((i:Int) + 1)) >>= _) _ _ s
 have k':(s.heap.update it (Obj.mapFields (·.setIfInBounds 1 (rawInt ((i:Int) + 1))))).IsKeyIter it d (i + 1) es.size ep:=⟨_,Heap.get?_update_self _ k1 (Obj.isFreed_of_fields (Obj.data_mapFields k3 _)),(Obj.cls_mapFields ..).trans k2,by rw[Obj.data_mapFields k3];simp[rawInt]⟩
 refine wpAny_bind (wpAny_setField k1 k3 (by simp) (wpAny_bind (wpAny_holding (wpAny_bind (wpAny_isOneOf_keyiter (s:={ s with heap:=s.heap.update it (Obj.mapFields (·.setIfInBounds 1 (rawInt ((i:Int) + 1)))) }) k'.typeIs ?_)))))
 show wpAny _ _ (pure e.key) _ _ _
 exact wpAny_pure (wpAny_pure ⟨_,rfl,wpAny_pure (q _ k' (Heap.SameBut.update ..))⟩)
theorem raw_end {Q:Option Value->Shared->Prop}(hh:A.handled=none)(k:s.heap.IsKeyIter it d i es.size ep)(r:RawD s.heap d es ep)(he:es.size<=i)
  (q:∀ h':Heap,Heap.ExtBut it s.heap h'->Q none { s with heap:=h' }):wpAny (model prog w) A (pyNext (.ref it)) Q E s:=by
 have ty:=k.typeIs
 obtain⟨o,k1,k2,k3⟩:=id k
 obtain⟨b,h1,h2,h3⟩:=r
 unfold pyNext
 refine wpAny_bind (wpAny_attempt (wpAny_callSpecial?_slot (name:=Str.ofString "__next__") ty F.slot_dict_keyiterator_next (wpAny_call_entry F.slot_dict_keyiterator_next ty F.entry_dict_keyiterator_next ?_ (F.args_dict_keyiterator_next_1 _))))
 refine wpAny_bind (wpAny_pure (wpAny_bind (wpAny_bind (wpAny_bind (wpAny_typeNameOfWhole_keyiter ty (wpAny_pure (wpAny_bind (wpAny_fieldsOf k1 k3 ?_))))))))
 rw[show Builtin.Dict_items.ownsTuple "dict_keyiterator" = false by decide]
 simp only[Bool.false_eq_true,if_false]
 show wpAny _ _ (if (Value.ref d==Value.none)=true then _ else _) _ _ s
 rw[if_neg (show ¬ ((Value.ref d==Value.none)=true) from Bool.false_ne_true)]
 refine wpAny_bind (wpAny_pure (wpAny_bind (wpAny_dictEntries h1 h3 ?_)))
 rw[if_neg (by simp)]
 refine wpAny_bind (wpAny_pure (wpAny_bind (wpAny_dictEpoch h1 h3 ?_)))
 rw[if_neg (by simp)]
 refine wpAny_pure ?_
 simp only[show ¬ ((i:Int) < 0) from by omega,if_false,Int.toNat_natCast,Array.getElem?_eq_none he]
 refine wpAny_bind (wpAny_bind (wpAny_typeNameOfWhole_keyiter ty (wpAny_pure ?_)))
 show wpAny _ _ (setField (.ref it) 0 .none >>= _) _ _ s
 refine wpAny_bind (wpAny_setField k1 k3 (by simp) ?_)
 show wpAny _ _ (newExc (.type "StopIteration") [] >>= _) _ _ _
 refine wpAny_bind ?_
 simp only[newExc,newTuple]
 refine wpAny_bind (wpAny_newObj_type (wpAny_bind (m:=firstArgMember _ _) (wpAny_of_eq (a:=Value.none) (by first | rfl | (simp only[firstArgMember];rfl)) (wpAny_newObj_type ?_ (by size_fits)))) (by size_fits))
 simp only[raiseNew]
 refine wpAny_bind (wpAny_handled ?_)
 rw[show A.in1.handled=none from hh]
 refine wpAny_bind (wpAny_pure (wpAny_throw ?_))
 refine wpAny_bind (wpAny_isInstance (T := "StopIteration") (b:=true) ⟨_,Heap.get?_push_size _ rfl,rfl⟩ isSubtype_stop ?_)
 exact wpAny_pure (q _ (((Heap.SameBut.update ..).extBut.push _).push _))
end
def Itdt (a:Addr)(o:Obj)(kvs:List (List Key×V)):It:=⟨λ i H=>H a=some (.frz o (.dT kvs))/\i < kvs.length,λ i H x H'=>H'=H/\∃ k v t,kvs[i]?=some (k,v)/\x=.ref t/\H t=some (.tup (k.map kV)),λ i H=>H a=some (.frz o (.dT kvs))/\kvs.length<=i⟩
theorem a1G {α β:Type}{R:α->β->Prop}{xs:List α}{ys:List β}(h:Paired R xs ys):∀ {i:Nat}{x:α},xs[i]?=some x->∃ y,ys[i]?=some y/\R x y:=by
 induction h with
 | nil=>intro i x e;simp at e
 | cons h t ih=>
  intro i x e
  cases i with
  | zero=>simp at e;subst e;exact⟨_,rfl,h⟩
  | succ i=>exact ih (by simpa using e)
section
variable {X:Cx}{pins:List (Addr×Obj)}{Z:St}{H:Hp}{s:Shared}
theorem a3Q (I:Inv X pins Z H s){a:Addr}{kvs:List (List Key×V)}(h:Rd H a (.dT kvs)):(a==sysModules)=false/\kvs.length<=sizeLine/\∃ (xs:List (List Key×Addr×Value)) (es:Array DictEntry) (ep:Nat),
  KT H kvs xs/\es.toList=xs.map (entryOfKey (tupleKind (d2 X.prog X.w)))/\RawD s.heap a es ep:=by
 have ok:ObjOk X.prog X.w H s.heap a (.dT kvs):=by
  rcases h with h | ⟨o,h⟩
  ·exact I.hok a _ h
  ·exact(I.hok a _ h).2
 obtain⟨z,lo,xs,pr,o,es,ep,e1,e2,e3,e4,_⟩:=ok
 exact⟨lo,z,xs,es,ep,pr,e4,o,e1,e2,e3⟩
end
theorem turn_dT {P:Program}{w:World}{K:PySem.W.Frag}{tg:Expr}(it a:Addr)(o:Obj){kvs:List (List Key×V)}{es:Array DictEntry}{ep:Nat}(hl:es.size=kvs.length)(ho:o.data=.dict es ep):
  Turn P w K tg (Itdt a o kvs) [it] it (λ i h=>h.IsKeyIter it a i es.size ep) where
 mem:=by simp
 obj:=λ i h st b hb=>by
  have e:b=it:=by simpa using hb
  subst e
  obtain⟨o,e,c,d⟩:=st
  exact⟨o,e,λ v z=>by rw[d]at z;cases z⟩
 keep:=λ i h h' st k=>st.at λ o e=>k it (by simp) o e
 item:=by
  intro X hP hw hK hc i pins s Z H E I hf st hg
  subst hP hw hK
  obtain⟨f0,f1,f2,f3,f4,f5⟩:=hf it (by simp)
  obtain⟨ha,hi⟩:=hg
  obtain⟨eo,_,_,xs,pr,o',es',ep',e1,e2,e3,e4,_⟩:=I.hok a _ ha
  rw[eo]at e1
  cases e1
  rw[ho]at e3
  cases e3
  obtain⟨⟨k,v⟩,hx⟩:∃ p,kvs[i]?=some p:=⟨kvs[i],by simp[hi]⟩
  obtain⟨⟨k',t,u⟩,hy,rk,rt,rv⟩:=a1G pr hx
  have he:es[i]?=some (entryOfKey (tupleKind (d2 X.prog X.w)) (k',t,u)):=by
   rw[<- Array.getElem?_toList,e4,List.getElem?_map,hy]
   rfl
  refine a4N st ⟨o,eo,e2,ho⟩ he λ h' st' sb=>?_
  have I1:Inv X pins Z H { s with heap:=h' }:=I.turned (t':=s.toks) (λ b o hb e=>sb.extBut b o hb e) f0 f1 f3 f4 f5
  obtain⟨ob,e,c,d⟩:=id st'
  exact⟨.ref t,rfl,a1o (s:={ s with heap:=h' }) e c d (by decide) ⟨.ref t,H,I1,rfl,⟨rfl,k,v,t,hx,rfl,rt⟩,st',λ b hb=>(hf b hb).1⟩⟩
 done:=by
  intro X hP hw hK hc i pins s Z H E I hf st hg
  subst hP hw hK
  obtain⟨f0,f1,f2,f3,f4,f5⟩:=hf it (by simp)
  obtain⟨ha,hi⟩:=hg
  obtain⟨eo,_,_,xs,pr,o',es',ep',e1,e2,e3,e4,_⟩:=I.hok a _ ha
  rw[eo]at e1
  cases e1
  exact raw_end (I.ok.hd hc) st ⟨o,eo,e2,ho⟩ (by rw[hl];exact hi) λ h' eb=>⟨rfl,I.turned (t':=s.toks) (λ b o hb e=>eb b o hb e) f0 f1 f3 f4 f5⟩
 self:=λ _ _ _ _ _ st h=>wpAny_pyIter_keyiter st h
section
variable {prog:Program}{w:World}{A:Around}{E:Value->Shared->Prop}{s:Shared}{d:Addr}{es:Array DictEntry}{ep:Nat}
theorem raw_len {Q:Value->Shared->Prop}(lo:(d==sysModules)=false)(r:RawD s.heap d es ep)(fit:(es.size:Int) < 2 ^ 63)(q:Q (.int es.size (s.toks + 1)) { s with toks:=s.toks + 1 + 1 }):wpAny (model prog w) A (call (.builtin "len") [.ref d]) Q E s:=by
 have ty:=r.typeIs
 have ml:MeetsIn prog w (Builtin.«dict.__len__» ⟨[.ref d],[]⟩) (λ _ R s=>∃ es ep,RawD s.heap d es ep/\R (.ok (.ret (.int es.size s.toks))) { s with toks:=s.toks + 1 }):=.of_wp λ A R s ⟨es,ep,⟨o,h1,h2,h3⟩,h⟩=>by
  show wpAny _ _ (dictSize d >>= _) _ _ s
  unfold dictSize
  refine wpAny_bind (wpAny_bind (wpAny_dictEntries h1 h3 (wpAny_pure ?_)))
  show wpAny _ _ (Builtin.Dict.pendingCount d >>= _) _ _ s
  refine wpAny_bind (wpAny_pendingCount_other lo (wpAny_ret_mkInt ?_))
  rw[Nat.add_zero]
  exact h
 refine Calls.call_function_entry kind_len plain_len entry_len (args_len1 _) ?_
 unfold Builtin.«len»
 refine wpAny_bind (m:=oneArg "len" _) (wpAny_pure (wpAny_bind (m:=callSpecial? (.ref d) (Str.ofString "__len__")) (wpAny_callSpecial?_slot (name:=Str.ofString "__len__") ty F.slot_dict_len (call_meetsIn F.slot_dict_len ty F.entry_dict_len (F.args_dict_len_1 _) ml ⟨es,ep,r,?_⟩))))
 show wpAny _ _ _ _ _ { s with toks:=s.toks + 1 }
 refine wpAny_bind (wpAny_holding (wpAny_pure (wpAny_bind (wpAny_letGo ?_))))
 show wpAny _ _ (if ((es.size:Nat):Int) < 0 then _ else _) _ _ _
 rw[if_neg (by omega)]
 show wpAny _ _ (if ((es.size:Nat):Int)≥2 ^ 63 then _ else _) _ _ _
 rw[if_neg (by omega)]
 exact wpAny_bind (wpAny_mkInt (wpAny_pure ⟨_,rfl,q⟩))
end
section
variable {X:Cx}
theorem call_lenT:CallR X (.builtin "len") (λ xs H Q=>∃ a kvs,xs=[V.ref a]/\Rd H a (.dT kvs)/\Q (.int kvs.length) H):=by
 intro pins s Z H xs us Q I r h
 obtain⟨a,kvs,rfl,ha,q⟩:=h
 obtain⟨u,rfl,ru⟩:=y8 r
 cases ru
 obtain⟨lo,z,xs,es,ep,pr,e4,rd⟩:=a3Q I ha
 have hl:es.size=kvs.length:=by
  rw[<- Array.length_toList,e4,List.length_map]
  exact(Paired.length pr).symm
 refine raw_len lo rd (by rw[hl];rw[sizeLine_eq]at z;omega) ⟨.int kvs.length,H,I.tok _,⟨_,by rw[hl]⟩,q⟩
def J7:List V->Option (List Int)
 | []=>some []
 | .int x::r=>match J7 r with
  | some l=>some (x::l)
  | none=>none
 | _=>none
theorem V2:∀ {xs:List V}{us:List Value}{ys:List Int},Vals xs us->J7 xs=some ys->IntsAre us ys
 | _,_,_,.nil,h=>by cases h;exact .nil
 | x::r,u::us,ys,.cons h t,e=>by
  cases x <;> first | (cases e;done) | skip
  obtain⟨tk,rfl⟩:=h
  unfold J7 at e
  split at e
  ·cases e
   exact .cons _ _ (V2 t (by assumption))
  ·cases e
@[irreducible] def sumG:List V->Hp->VK->Prop:=λ xs H Q=>match xs with
 | [.ref p]=>match H p with
  | some (.lst ys)=>match J7 ys with
   | some ns=>Q (.int ns.sum) H
   | none=>False
  | _=>False
 | _=>False
theorem call_sumG (hc:X.calm=true):CallR X (.builtin "sum") sumG:=λ pins s Z H xs us Q I r h=>by
 unfold sumG at h
 split at h
 ·rename_i p
  split at h
  ·rename_i ys e
   split at h
   ·rename_i ns en
    obtain⟨u,rfl,ru⟩:=y8 r
    cases ru
    obtain⟨its,rv,pl,hz⟩:=I.list (.inl (.inl e))
    have hi:=V2 rv en
    obtain⟨zs,hx⟩:=hi.allInts.items
    have hl':s.heap.IsList p (intItems zs):=hx ▸ pl.isList
    refine sum_intListG (I.ok.hd hc) hl' λ h' tk t' hk=>?_
    have e1:ns=zs.toList.map (·.1):=by
     rw[<- nums_intItems,<- hx]
     exact(show numsOf its.toArray.toList=ns from hi.numsOf).symm
    have e2:preSum (numAt zs) zs.size=ns.sum:=by rw[preSum_eq,List.take_of_length_le (by simp),e1]
    rw[e2]
    exact⟨.int ns.sum,H,I.kept (t':=tk) hk,⟨_,rfl⟩,h⟩
   ·exact h.elim
  ·exact h.elim
 ·exact h.elim
end
section
variable {prog:Program}{w:World}{A:Around}{E:Value->Shared->Prop}{s:Shared}{es:Array DictEntry}{ep i:Nat}{d it:Addr}
theorem RawD.at {h h':Heap}(r:RawD h d es ep)(k:∀ o,h.get? d=some o->h'.get? d=some o):RawD h' d es ep:=by
 obtain⟨o,z1,z2⟩:=r
 exact⟨o,k o z1,z2⟩
theorem raw_walks (hh:A.handled=none)(I:Addr)(hne:d≠I):Walks prog w A I [I,d] [I] es.size (λ i v=>∃ e,es[i]?=some e/\v=e.key) (λ i h=>h.IsKeyIter I d i es.size ep/\RawD h d es ep) where
 sub:=λ b hb=>by rw[List.mem_singleton.mp hb];simp
 frame:=λ _ _ _ st k=>⟨st.1.at λ o e=>k I (by simp) o e,st.2.at λ o e=>k d (by simp) o e⟩
 item:=λ i s Q E hi st q=>a4N st.1 st.2 (Array.getElem?_eq_getElem hi) λ h' st' sb=>q _ h' s.toks ⟨_,Array.getElem?_eq_getElem hi,rfl⟩ ⟨st',st.2.at λ o e=>sb.extBut d o hne e⟩ λ b o hb e=>sb.extBut b o (λ z=>hb (by simp[z])) e
 done:=λ s Q E st q=>raw_end hh st.1 st.2 (Nat.le_refl _) λ h' x=>q h' s.toks λ b o hb e=>x b o (λ z=>hb (by simp[z])) e
 self:=λ _ _ _ _ st q=>wpAny_pyIter_keyiter st.1 q
theorem raw_src (lo:(d==sysModules)=false):PySem.W.KdlSrc prog w "dict" d d es.size (λ i v=>∃ e,es[i]?=some e/\v=e.key) (λ h=>RawD h d es ep) where
 type:=λ _ r=>r.typeIs
 there:=λ _ r=>by obtain⟨o,z,_⟩:=r;exact⟨Heap.lt_size z,Heap.lt_size z⟩
 keep:=λ _ _ r k=>r.at λ o e=>k d (.inl rfl) o e
 notList:=by decide
 notTuple:=by decide
 hint:=λ _ _ _ _ r q=>PySem.W.kdl_hint_dict r.typeIs q
 iter:=λ _ s hh r=>⟨_,_,(λ _ _ q=>a4M lo r q),raw_walks hh _ (by obtain⟨o,z,_⟩:=r;exact Nat.ne_of_lt (Heap.lt_size z)),⟨⟨_,Heap.get?_push_size _ rfl,rfl,rfl⟩,r.at λ o e=>Heap.get?_push_of_some _ e⟩⟩
end
section
variable {X:Cx}{pins:List (Addr×Obj)}{Z:St}{H:Hp}{s:Shared}
abbrev KeysAt (H:Hp):List (List Key×V)->List Addr->Prop:=Paired λ kv t=>H t=some (.tup (kv.1.map kV))
@[irreducible] def a1c (kvs:List (List Key×V))(H:Hp)(Q:VK):Prop:=∀ ts,KeysAt H kvs ts->newO H (.lst (ts.map V.ref)) Q
theorem kt_keys:∀ {kvs:List (List Key×V)}{xs:List (List Key×Addr×Value)},KT H kvs xs->KeysAt H kvs (xs.map λ x=>x.2.1):=λ h=>by
 induction h with
 | nil=>exact .nil
 | cons h t ih=>exact .cons h.2.1 ih
theorem a3g:∀ (ts:List Addr) (us:List Value),us.length=ts.length->(∀ (j:Nat) (u:Value),us[j]?=some u->∃ t,ts[j]?=some t/\u=.ref t)->Vals (ts.map V.ref) us
 | [],[],_,_=>.nil
 | [],_::_,h,_=>by simp at h
 | _::_,[],h,_=>by simp at h
 | t::ts,u::us,hl,h=>by
  obtain⟨t',e,rfl⟩:=h 0 u rfl
  simp at e
  subst e
  exact .cons rfl (a3g ts us (by simpa using hl) λ j w hj=>h (j + 1) w (by simpa using hj))
theorem list_dT (hc:X.calm=true)(I:Inv X pins Z H s){a:Addr}{kvs:List (List Key×V)}(h:Rd H a (.dT kvs)){Q:VK}(q:a1c kvs H Q):wpAny (model X.prog X.w) X.A (call (.type "list") [.ref a]) (EP X pins Z Q) X.xe s:=by
 obtain⟨lo,z,xs,es,ep,kt,e4,r⟩:=a3Q I h
 have hl:es.size=xs.length:=by rw[<- Array.length_toList,e4,List.length_map]
 have hk:xs.length=kvs.length:=(Paired.length kt).symm
 unfold a1c at q
 refine PySem.W.kdl_call (raw_src (es:=es) (ep:=ep) lo) (I.ok.hd hc) r (by omega) λ h' tk acc c k hD ha=>?_
 have rv:Vals ((xs.map λ x=>x.2.1).map V.ref) acc.toList:=a3g _ _ (by rw[Array.length_toList,List.length_map,ha.1,hl]) λ j u hu=>by
  obtain⟨e,e1,rfl⟩:=ha.2 j u (by rw[<- Array.getElem?_toList];exact hu)
  rw[<- Array.getElem?_toList,e4,List.getElem?_map]at e1
  cases hx:xs[j]? with
  | none=>rw[hx]at e1;cases e1
  | some x=>
   rw[hx]at e1
   cases e1
   exact⟨x.2.1,by rw[List.getElem?_map,hx];rfl,rfl⟩
 refine⟨.ref s.heap.objs.size,_,I.laid (t':=tk) k (Nat.le_refl _) (o:=.lst ((xs.map λ x=>x.2.1).map V.ref)) ?_,rfl,(q _ (kt_keys kt)).at _ (I.hok.fresh (Nat.le_refl _))⟩
 exact⟨by rw[List.length_map,List.length_map,hk];exact z,acc.toList,c,rv,by rw[Array.toArray_toList];exact hD⟩
end
section
variable {prog:Program}{w:World}{K:Type}[DecidableEq K]{knd:HeapKind prog w K}{A:Around}{E:Value->Shared->Prop}{s:Shared}{d a:Addr}{k:K}{xs:List (K×Addr×Value)}
theorem sd_heap {v:Value}{Q:Value->Shared->Prop}(hu:knd.room A)(hkey:knd.is s.heap k a)(hm:s.heap.DictOfH knd d xs)(h1:∀ p,atKey xs k=some p->Q p.2 { s with toks:=s.toks + knd.draws k })
  (h2:atKey xs k=none->∀ h',h'.DictOfH knd d (storedH xs k a v)->Heap.SameBut d s.heap h'->Q v { s with heap:=h',toks:=s.toks + knd.draws k })(hsz:xs.length<=sizeLine):wpAny (model prog w) A (dictSetDefault d (.ref a) v) Q E s:=by
 obtain⟨o,es,ep,ho,hc,hd,he,his,hn⟩:=hm
 unfold dictSetDefault
 try with_reducible refine wpAny_holding ?_
 refine wpAny_bind (knd.pyHash hu hkey ?_)
 refine wpAny_bind (wpAny_dictFind_heap (s:={ s with toks:=s.toks + knd.draws k }) hu hkey ho hd he his hn ?_ ?_)
 ·intro hno
  have hnot:k∉xs.map (·.1):=not_mem_keys_of_get hno
  have nk:=atKey_none_of_get hno
  refine wpAny_bind (wpAny_rule (wpAny_bind (wpAny_updateDictKeys (hz:=by have e:=size_of_entries he;omega) (s:={ s with toks:=s.toks + knd.draws k }) ho hd (wpAny_pure (h2 nk _ ⟨_,_,ep + 1,Heap.get?_update_self _ ho (Obj.isFreed_of_dict (Obj.data_mapDictKeys hd _)),
   hc.mapDictKeys _,Obj.data_mapDictKeys hd _,?_,?_,?_⟩ (Heap.SameBut.update ..))))))
  ·rw[storedH_new nk]
   simp[he,entryOfKey]
  ·rw[storedH_new nk]
   intro x hx
   rcases List.mem_append.mp hx with hx | hx
   ·exact knd.keeps (his x hx) ho hd (Heap.SameBut.update ..)
   ·simp only[List.mem_singleton]at hx
    subst hx
    exact knd.keeps hkey ho hd (Heap.SameBut.update ..)
  ·rw[storedH_new nk]
   rw[List.map_append,List.nodup_append]
   refine⟨hn,by simp,?_⟩
   intro x hx y hy
   simp only[List.map_cons,List.map_nil,List.mem_singleton]at hy
   subst hy
   exact λ e=>hnot (e ▸ hx)
 ·intro j p hj
  refine wpAny_bind (wpAny_dictEntries (s:={ s with toks:=s.toks + knd.draws k }) ho hd ?_)
  rw[entry_at he j,hj]
  exact wpAny_bind (wpAny_rule (wpAny_pure (h1 _ (atKey_of_get hn hj))))
theorem meets_sd (hd:(d==sysModules)=false)(dflt:Value):MeetsIn prog w (Builtin.«dict.setdefault» ⟨[.ref d,.ref a,dflt],[]⟩) (λ A R s=>knd.room A.in1/\∃ k xs,knd.is s.heap k a/\s.heap.DictOfH knd d xs/\xs.length<=sizeLine ∧
   (∀ p,atKey xs k=some p->R (.ok (.ret p.2)) { s with toks:=s.toks + knd.draws k }) ∧
   (atKey xs k=none->∀ h',h'.DictOfH knd d (storedH xs k a dflt)->Heap.SameBut d s.heap h'->R (.ok (.ret dflt)) { s with heap:=h',toks:=s.toks + knd.draws k })):=
 .of_wp λ A R s ⟨hu,k,xs,hkey,hm,hz,h1,h2⟩=>by
  unfold Builtin.«dict.setdefault»
  refine wpAny_bind ?_
  unfold Builtin.Dict.keyAndDefault
  refine wpAny_bind (wpAny_notOrdered_dict hm.typeIs ?_)
  show wpAny _ _ (pure (d,Value.ref a,some dflt)) _ _ s
  refine wpAny_pure ?_
  show wpAny _ _ (if (d==sysModules)=true then _ else(dictSetDefault d (.ref a) dflt >>= _)) _ _ s
  rw[if_neg (by rw[hd];exact Bool.false_ne_true)]
  exact wpAny_bind (sd_heap hu hkey hm (λ p hp=>wpAny_pure ⟨p.2,rfl,h1 p hp⟩) (λ hn h' hm' hs'=>wpAny_pure ⟨dflt,rfl,h2 hn h' hm' hs'⟩) hz)
end
section
variable {X:Cx}{pins:List (Addr×Obj)}{Z:St}{H:Hp}{s:Shared}
theorem dt_put {a b:Addr}{k:List Key}{y:V}{u:Value}{kvs:List (List Key×V)}{xs:List (List Key×Addr×Value)}{h':Heap}{t':Nat}(I:Inv X pins Z H s)(e:H a=some (.dT kvs))(eb:H b=some (.tup (k.map kV)))(l:kvs.length < sizeLine)(hd:(a==sysModules)=false)(rel:KT H kvs xs)(rv:RelV y u)
  (dd':h'.DictOfH (tupleKind (d2 X.prog X.w)) a (storedH xs k b u))(hs:Heap.SameBut a s.heap h'):Inv X pins Z (upd H a (.dT (g0 kvs k y))) { s with heap:=h',toks:=t' }:=by
 have hl:(g0 kvs k y).length<=sizeLine:=by have:=B7 kvs k y;omega
 obtain⟨q,es,ep,hq,h2,h3,h4,_,h5⟩:=dd'
 refine W6 I (by rw[e];exact True.intro) hs ⟨q,hq⟩ ⟨hl,hd,_,(rel.put k eb rv).keeps λ c ys ec=>?_,q,es,ep,hq,h2,h3,h4,h5⟩
 rw[a5 (ne_of ec e (λ z=>nomatch z))]
 exact ec
@[irreducible] def sdG:RM:=λ x vs H Q=>match x,vs with
 | .ref a,[.ref b,z]=>match H a,H b with
  | some (.dT kvs),some (.tup xs)=>match A8 xs with
   | some k=>match d6 kvs k with
    | some v=>Q v H
    | none=>kvs.length < sizeLine/\Q z (upd H a (.dT (g0 kvs k z)))
   | none=>False
  | _,_=>False
 | _,_=>False
theorem mt_sdG {k:Nat}(hr:Room k X.A):MtR X "dict.setdefault" sdG:=λ pins s Z H x xs v us Q I rx rs h=>by
 unfold sdG at h
 split at h
 ·rename_i a b z
  split at h
  ·rename_i kvs ys ea eb
   split at h
   ·rename_i k ek
    cases rx
    obtain⟨u,u2,rfl,ru,ru2⟩:=a2O rs
    cases ru
    rw[D8 ek]at eb
    obtain⟨z0,hd,xs,rel,dd⟩:=T4 I.hok (.inl ea)
    have q:=rel.val k
    refine call_meetsIn F.slot_dict_setdefault dd.typeIs F.entry_dict_setdefault (F.args_dict_setdefault_3 _ _ _) (meets_sd hd u2) ⟨tupleKind_room_in1 (N1 hr),k,xs,J5 I.hok eb,dd,by rw[<- Paired.length rel];exact z0,λ p hp=>?_,λ hn h' dd' hs=>?_⟩
    ·rw[hp]at q
     split at h
     ·rename_i v ev
      rw[ev]at q
      exact⟨v,H,I.tok _,q,h⟩
     ·rename_i ev
      rw[ev]at q
      exact q.elim
    ·rw[hn]at q
     split at h
     ·rename_i v ev
      rw[ev]at q
      exact q.elim
     ·exact⟨z,_,dt_put I ea eb h.1 hd rel ru2 dd' hs,ru2,h.2⟩
   ·exact h.elim
  ·exact h.elim
 ·exact h.elim
def tDispT (tk tv:TE):TE:=λ Z H Q=>∀ p,H p=none->tk Z (upd H p (.dT [])) λ x H1=>tv Z H1 λ y H2=>∃ b ks,x=.ref b/\H2 p=some (.dT [])/\H2 b=some (.tup (ks.map kV))/\Q (.ref p) (upd H2 p (.dT [(ks,y)]))
theorem pe_dispT {k:Nat}(hr:Room k X.A){ke ve:Expr}{pos:Pos}{tk tv:TE}(hk:PE X ke tk)(hv:PE X ve tv):PE X (.Dict [some ke] [ve] pos) (tDispT tk tv):=by
 intro pins s Z H Q I q
 have hn:=I.hok.fresh (Nat.le_refl s.heap.objs.size)
 have I1:=I.laid (a:=s.heap.objs.size) (o:=.dT []) (h':=s.heap.push { cls:=.type "dict",data:=.dict #[] }) (t':=s.toks) (λ _ _ q=>Heap.get?_push_of_some _ q) (Nat.le_refl _) (a4z s.heap I.big)
 refine wpAny_Dict_any rfl rfl (λ z=>nomatch z) (by simp) (pairTrees_cons_walk (thn (hk pins _ Z _ _ I1 (q _ hn)) λ u s1 ⟨x,H1,I2,rx,q1⟩=>thn (hv pins s1 Z H1 _ I2 q1) λ w2 s2 ⟨y,H2,I3,ry,b,ks,ex,e,eb,q2⟩=>pairTrees_nil_walk ?_))
 subst ex
 cases rx
 unfold storeAll
 rw[List.forIn_cons]
 obtain⟨z,hd,xs,rel,dd⟩:=T4 I3.hok (.inl e)
 refine wpAny_bind (wpAny_bind (wpAny_dictSet_heap (hsz:=by rw[<- Paired.length rel];exact z) (show(tupleKind (d2 X.prog X.w)).room X.A from by have:=N1 hr;show X.A.units < cLine;omega) (J5 I3.hok eb) dd λ h' dd' hs=>wpAny_pure ?_))
 show wpAny _ _ (forIn [] PUnit.unit _) _ _ _
 rw[List.forIn_nil]
 exact wpAny_pure ⟨.ref _,_,dt_put I3 e eb (by rw[sizeLine_eq];decide) hd rel ry dd' hs,rfl,q2⟩
end
section
variable {X:Cx}
@[irreducible] def minH (p:Addr)(H:Hp)(Q:VK):Prop:=match H p with
 | some (.lst ys)=>match J7 ys with
  | some ns=>ns≠[]/\∀ n∈ns,(∀ m∈ns,n<=m)->Q (.int n) H
  | none=>False
 | _=>False
theorem min_i {p:Addr}{l:List Int}{ys:List V}{H:Hp}{Q:VK}(h:H p=some (.lst ys))(hi:J7 ys=some l)(hl:l≠[])(q:∀ n∈l,(∀ m∈l,n<=m)->Q (.int n) H):minH p H Q:=by
 unfold minH
 simp only[h,hi]
 exact⟨hl,q⟩
theorem call_minH (hc:X.calm=true):CallR X (.builtin "min") (λ xs H Q=>∃ p,xs=[.ref p]/\minH p H Q):=λ pins s Z H xs us Q I r h=>by
 obtain⟨p,rfl,h⟩:=h
 unfold minH at h
 split at h
 ·rename_i ys e
  split at h
  ·rename_i ns en
   obtain⟨u,rfl,ru⟩:=y8 r
   cases ru
   obtain⟨its,rv,pl,hz⟩:=I.list (.inl (.inl e))
   have hi:=V2 rv en
   obtain⟨zs,hx⟩:=hi.allInts.items
   have hl':s.heap.IsList p (intItems zs):=hx ▸ pl.isList
   have e1:ns=zs.toList.map (·.1):=by
    rw[<- nums_intItems,<- hx]
    exact(show numsOf its.toArray.toList=ns from hi.numsOf).symm
   have hne:0 < zs.size:=by
    rcases Nat.eq_zero_or_pos zs.size with z | z
    ·have:zs=#[]:=Array.eq_empty_of_size_eq_zero z
     rw[this]at e1
     exact(h.1 e1).elim
    ·exact z
   refine min_intList (I.ok.hd hc) hl' hne λ v h' tk hv hk=>?_
   obtain⟨b1,b2⟩:=argBest_lt (numAt zs) (zs.size - 1)
   obtain⟨t,rfl⟩:=intItems_at hv
   generalize argBest (λ i j=>decide (numAt zs i < numAt zs j)) (zs.size - 1)=k at *
   have num:∀ i,i < zs.size->numAt zs i∈ns:=λ i hi=>by
    rw[e1]
    refine List.mem_map.mpr ⟨zs[i],by simp,?_⟩
    unfold numAt
    simp[hi]
   refine⟨.int (numAt zs k),H,I.kept (t':=tk) hk,⟨_,rfl⟩,h.2 _ (num k (by omega)) λ m hm=>?_⟩
   rw[e1]at hm
   obtain⟨q,hq,rfl⟩:=List.mem_map.mp hm
   obtain⟨j,hj⟩:=List.mem_iff_getElem?.mp hq
   have hjl:=(Zg hj).1
   have hjl':j < zs.size:=by simpa using hjl
   have:numAt zs j=q.1:=by
    unfold numAt
    rw[<- Array.getElem?_toList,hj]
    rfl
   rw[<- this]
   exact b2 j (by omega)
  ·exact h.elim
 ·exact h.elim
end
section
variable {X:Cx}{o e:Expr}{es:List Expr}{to:TE}{t:TA}{pos apos cpos:Pos}
def p8:Expr->Bool
 | .Starred _ _=>true
 | _=>false
theorem j4 {env:Env}(h:p8 e=false):starEach (e::es) env=(false,eval e env)::starEach es env:=by
 cases e <;> first | rfl | cases h
theorem g9 {env:Env}:∀ {es:List Expr},es.any p8=false->(backTo pos (starEach es env)).any (·.1)=false/\(backTo pos (starEach es env)).all (λ x=>!x.1)=true
 | [],_=>⟨rfl,rfl⟩
 | e::es,h=>by
  rw[List.any_cons,Bool.or_eq_false_iff]at h
  obtain⟨i1,i2⟩:=g9 (env:=env) h.2
  rw[j4 h.1]
  exact⟨by simpa[backTo] using i1,by simpa[backTo] using i2⟩
@[irreducible] def lenH (p:Addr)(H:Hp)(Q:VK):Prop:=match H p with
 | some (.lst ys)=>Q (.int ys.length) H
 | some (.tup ys)=>Q (.int ys.length) H
 | some (.dK kvs)=>Q (.int kvs.length) H
 | some (.dT kvs)=>Q (.int kvs.length) H
 | some (.frz _ (.dT kvs))=>Q (.int kvs.length) H
 | _=>False
def a0m:List V->Hp->VK->Prop:=λ xs H Q=>match xs with
 | [.str z]=>z.length<=sizeLine/\Q (.int z.length) H
 | [.ref p]=>lenH p H Q
 | _=>False
theorem call_lenG:CallR X (.builtin "len") a0m:=CallR.imp (CallR.or a3I (CallR.or W7 (CallR.or call_lenD call_lenT))) λ xs H Q h=>by
 unfold a0m at h
 split at h
 ·exact .inl ⟨_,rfl,h⟩
 ·unfold lenH at h
  split at h
  ·exact .inr (.inl ⟨_,_,rfl,.inl (.inl (.inl (by assumption))),h⟩)
  ·exact .inr (.inl ⟨_,_,rfl,.inr (.inl (.inl (by assumption))),h⟩)
  ·exact .inr (.inr (.inl ⟨_,_,rfl,by assumption,h⟩))
  ·exact .inr (.inr (.inr ⟨_,_,rfl,.inl (by assumption),h⟩))
  ·exact .inr (.inr (.inr ⟨_,_,rfl,.inr ⟨_,by assumption⟩,h⟩))
  ·exact h.elim
 ·exact h.elim
def okTy (T:String):Bool:=["str", "int", "bool", "list", "tuple", "dict"].contains T
@[irreducible] def X2:List V->Hp->VK->Prop:=λ xs H Q=>match xs with
 | [x,.ty T]=>okTy T=true/\match w5 H x with
  | some S=>Q (.bl (A5 S T)) H
  | none=>False
 | _=>False
theorem call_isiG:CallR X (.builtin "isinstance") X2:=CallR.imp call_isi λ xs H Q h=>by
 unfold X2 at h
 split at h
 ·obtain⟨h1,h⟩:=h
  split at h
  ·exact⟨_,_,_,rfl,by assumption,by simpa[okTy] using h1,h⟩
  ·exact h.elim
 ·exact h.elim
def a0C:List V->Option (List Bool)
 | []=>some []
 | .bl b::r=>(a0C r).map (b::·)
 | _=>none
theorem a3h:∀ {xs:List V}{bs:List Bool},a0C xs=some bs->xs=bs.map V.bl
 | [],bs,h=>by cases h;rfl
 | x::r,bs,h=>by
  cases x <;> first | (cases h;done) | skip
  rename_i b
  unfold a0C at h
  cases e:a0C r with
  | none=>rw[e]at h;cases h
  | some cs=>rw[e]at h;cases h;rw[a3h e];rfl
@[irreducible] def allG:List V->Hp->VK->Prop:=λ xs H Q=>match xs with
 | [.ref p]=>match H p with
  | some (.lst ys)=>match a0C ys with
   | some bs=>Q (.bl (bs.all id)) H
   | none=>False
  | _=>False
 | _=>False
theorem call_allG (hc:X.calm=true):CallR X (.builtin "all") allG:=CallR.imp (call_all0 hc) λ xs H Q h=>by
 unfold allG at h
 split at h
 ·split at h
  ·split at h
   ·rename_i ys hy _ bs hb
    refine⟨_,bs,rfl,.inl ?_,h⟩
    rw[<- a3h hb]
    exact hy
   ·exact h.elim
  ·exact h.elim
 ·exact h.elim
def maxG:List V->Hp->VK->Prop:=λ xs H Q=>match xs with
 | [.int i,.int j]=>Q (.int (if j > i then j else i)) H
 | _=>False
theorem call_maxG (hc:X.calm=true):CallR X (.builtin "max") maxG:=CallR.imp (call_max2 hc) λ xs H Q h=>by
 unfold maxG at h
 split at h
 ·exact⟨_,_,rfl,h⟩
 ·exact h.elim
def minG:List V->Hp->VK->Prop:=λ xs H Q=>match xs with
 | [.int i,.int j]=>Q (.int (if j < i then j else i)) H
 | [.ref p]=>minH p H Q
 | _=>False
theorem call_minG (hc:X.calm=true):CallR X (.builtin "min") minG:=CallR.imp (CallR.or (call_min2 hc) (call_minH hc)) λ xs H Q h=>by
 unfold minG at h
 split at h
 ·exact .inl ⟨_,_,rfl,h⟩
 ·exact .inr ⟨_,rfl,h⟩
 ·exact h.elim
@[irreducible] def E3:List V->Hp->VK->Prop:=λ xs H Q=>match xs with
 | [.str z]=>z.length<=sizeLine/\newO H (.lst (z.cps.toList.map λ c=>V.str ⟨#[c]⟩)) Q
 | [.ref p]=>match H p with
  | some (.lst ys)=>newO H (.lst ys) Q
  | some (.tup ys)=>newO H (.lst ys) Q
  | some (.dK kvs)=>newO H (.lst (kvs.map λ kv=>kV kv.1)) Q
  | some (.frz _ (.dK kvs))=>newO H (.lst (kvs.map λ kv=>kV kv.1)) Q
  | some (.dT kvs)=>a1c kvs H Q
  | some (.frz _ (.dT kvs))=>a1c kvs H Q
  | _=>False
 | _=>False
theorem a6b (hc:X.calm=true):CallR X (.type "list") E3:=λ pins s Z H xs us Q I r h=>by
 unfold E3 at h
 split at h
 ·obtain⟨u,rfl,ru⟩:=y8 r
  obtain⟨t,rfl⟩:=ru
  exact list_text hc I h.1 h.2
 ·split at h
  ·exact W8 pins s Z H _ us Q I r ⟨_,_,rfl,.inl (.inl (.inl (by assumption))),h.at⟩
  ·exact W8 pins s Z H _ us Q I r ⟨_,_,rfl,.inr (.inl (.inl (by assumption))),h.at⟩
  ·obtain⟨u,rfl,ru⟩:=y8 r
   cases ru
   exact a3e hc I (.inl (by assumption)) h
  ·obtain⟨u,rfl,ru⟩:=y8 r
   cases ru
   exact a3e hc I (.inr ⟨_,by assumption⟩) h
  ·obtain⟨u,rfl,ru⟩:=y8 r
   cases ru
   exact list_dT hc I (.inl (by assumption)) h
  ·obtain⟨u,rfl,ru⟩:=y8 r
   cases ru
   exact list_dT hc I (.inr ⟨_,by assumption⟩) h
  ·exact h.elim
 ·exact h.elim
def bltF (x:Str):Option (String×(List V->Hp->VK->Prop)):=
 if x = "len" then some ("len",a0m) else if x = "isinstance" then some ("isinstance",X2) else if x = "all" then some ("all",allG)
 else if x = "max" then some ("max",maxG) else if x = "min" then some ("min",minG) else if x = "sum" then some ("sum",sumG) else none
def bltC (x:Str):Option (String×(List V->Hp->VK->Prop)):=
 if x = "list" then some ("list",E3) else none
theorem bltF_ok (hc:X.calm=true){x:Str}{i:String}{r:List V->Hp->VK->Prop}(h:bltF x=some (i,r)):CallR X (.builtin i) r/\bootBuiltins x=some (.builtin i)/\x ≠ "__name__" /\ (x==("__debug__" : Str))=false:=by
 unfold bltF at h
 split at h
 ·rename_i e;cases h;subst e;exact⟨call_lenG,by decide +kernel,by decide +kernel,by decide +kernel⟩
 split at h
 ·rename_i e;cases h;subst e;exact⟨call_isiG,by decide +kernel,by decide +kernel,by decide +kernel⟩
 split at h
 ·rename_i e;cases h;subst e;exact⟨call_allG hc,by decide +kernel,by decide +kernel,by decide +kernel⟩
 split at h
 ·rename_i e;cases h;subst e;exact⟨call_maxG hc,by decide +kernel,by decide +kernel,by decide +kernel⟩
 split at h
 ·rename_i e;cases h;subst e;exact⟨call_minG hc,by decide +kernel,by decide +kernel,by decide +kernel⟩
 split at h
 ·rename_i e;cases h;subst e;exact⟨call_sumG hc,by decide +kernel,by decide +kernel,by decide +kernel⟩
 cases h
theorem bltC_ok (hc:X.calm=true){x:Str}{i:String}{r:List V->Hp->VK->Prop}(h:bltC x=some (i,r)):CallR X (.type i) r/\bootBuiltins x=some (.type i)/\x ≠ "__name__" /\ (x==("__debug__" : Str))=false:=by
 unfold bltC at h
 split at h
 ·rename_i e;cases h;subst e;exact⟨a6b hc,by decide +kernel,by decide +kernel,by decide +kernel⟩
 cases h
def tyName (x:Str):Option String:=
 if x = "int" then some "int" else if x = "str" then some "str" else if x = "bool" then some "bool" else if x = "list" then some "list" else if x = "tuple" then some "tuple" else if x = "dict" then some "dict" else if x = "ValueError" then some "ValueError" else none
theorem tyName_ok {x:Str}{i:String}(h:tyName x=some i):bootBuiltins x=some (.type i)/\x ≠ "__name__" /\ (x==("__debug__" : Str))=false:=by
 unfold tyName at h
 repeat
  split at h
  ·rename_i e;cases h;subst e;exact⟨by decide +kernel,by decide +kernel,by decide +kernel⟩
 cases h
def tyB (H:Hp):V->Option String
 | .str _=>some "str"
 | .ref p=>match H p with
  | some (.lst _)=>some "list"
  | some (.dK _)=>some "dict"
  | some (.dT _)=>some "dict"
  | _=>none
 | _=>none
theorem tyB_ok {K:PySem.W.Frag}{H:Hp}{x:V}{T:String}(h:tyB H x=some T):tyV K T x H:=by
 unfold tyB at h
 split at h
 ·cases h;rfl
 ·split at h
  ·cases h;exact .inl ⟨rfl,_,.inl (.inl (by assumption))⟩
  ·cases h;exact .inr (.inr (.inl ⟨rfl,.inl ⟨_,by assumption⟩⟩))
  ·cases h;exact .inr (.inr (.inl ⟨rfl,.inr ⟨_,by assumption⟩⟩))
  ·cases h
 ·cases h
@[irreducible] def R4:RM:=λ x vs H Q=>match x,vs with
 | .ref l,[y]=>match H l with
  | some (.lst xs)=>xs.length < sizeLine/\Q .non (upd H l (.lst (xs++[y])))
  | _=>False
 | _,_=>False
theorem a6d:MtR X "list.append" R4:=λ pins s Z H x xs v us Q I rx rs h=>a2Z pins s Z H x xs v us Q I rx rs (by
 unfold R4 at h
 split at h
 ·split at h
  ·exact⟨_,_,_,rfl,rfl,by assumption,h⟩
  ·exact h.elim
 ·exact h.elim)
@[irreducible] def R5:RM:=λ x vs H Q=>match x,vs with
 | .ref l,[.ref b]=>match H l,H b with
  | some (.lst xs),some (.lst zs)=>xs.length + zs.length<=sizeLine/\Q .non (upd H l (.lst (xs++zs)))
  | _,_=>False
 | _,_=>False
theorem a6e:MtR X "list.extend" R5:=λ pins s Z H x xs v us Q I rx rs h=>mt_extend pins s Z H x xs v us Q I rx rs (by
 unfold R5 at h
 split at h
 ·split at h
  ·exact⟨_,_,_,_,rfl,rfl,by assumption,by assumption,h⟩
  ·exact h.elim
 ·exact h.elim)
@[irreducible] def a0D:RM:=λ x vs H Q=>match x,vs with
 | .ref a,[y]=>match C0 H a y with
  | some o=>Q (o.getD .non) H
  | none=>False
 | .ref a,[y,z]=>match C0 H a y with
  | some o=>Q (o.getD z) H
  | none=>False
 | _,_=>False
theorem mt_dgetG {k:Nat}(hr:Room k X.A):MtR X "dict.get" a0D:=λ pins s Z H x xs v us Q I rx rs h=>by
 unfold a0D at h
 split at h
 ·split at h
  ·rename_i a y _ o e
   cases rx
   obtain⟨u,rfl,ru⟩:=y8 rs
   exact d_get1 (N1 hr) I (D9 e) ru λ w' s' I' rw'=>⟨_,H,I',rw',h⟩
  ·exact h.elim
 ·split at h
  ·rename_i a y z _ o e
   cases rx
   obtain⟨u,u2,rfl,ru,ru2⟩:=a2O rs
   exact d_get2 (N1 hr) I (D9 e) ru ru2 λ w' s' I' rw'=>⟨_,H,I',rw',h⟩
  ·exact h.elim
 ·exact h.elim
def bmR (T:String)(m:Str):Option (String×RM):=
 if T = "list" then
  if m = "append" then some ("list.append",R4) else if m = "extend" then some ("list.extend",R5) else none
 else if T = "dict" then
  if m = "get" then some ("dict.get",a0D) else if m = "setdefault" then some ("dict.setdefault",sdG) else none
 else if T = "str" then
  if m = "join" then some ("str.join",a3f) else none
 else none
theorem bmR_ok {k:Nat}(hr:Room k X.A){T:String}{m:Str}{i:String}{r:RM}(h:bmR T m=some (i,r)):PlainAttrs T/\Slot T m i/\typeOf (.builtin i)=pure (.type "method_descriptor")/\MtR X i r:=by
 unfold bmR at h
 split at h
 ·rename_i eT
  subst eT
  split at h
  ·rename_i e;cases h;subst e;exact⟨PySem.F.plainAttrs_list,PySem.F.slot_list_append,PySem.F.type_list_append,a6d⟩
  split at h
  ·rename_i e;cases h;subst e;exact⟨PySem.F.plainAttrs_list,PySem.F.slot_list_extend,PySem.F.type_list_extend,a6e⟩
  cases h
 split at h
 ·rename_i eT
  subst eT
  split at h
  ·rename_i e;cases h;subst e;exact⟨PySem.F.plainAttrs_dict,PySem.F.slot_dict_get,PySem.F.type_dict_get,mt_dgetG hr⟩
  split at h
  ·rename_i e;cases h;subst e;exact⟨PySem.F.plainAttrs_dict,PySem.F.slot_dict_setdefault,PySem.F.type_dict_setdefault,mt_sdG hr⟩
  cases h
 split at h
 ·rename_i eT
  subst eT
  split at h
  ·rename_i e;cases h;subst e;exact⟨PySem.F.plainAttrs_str,PySem.F.slot_str_join,PySem.F.type_str_join,mt_joinG⟩
  cases h
 cases h
@[irreducible] def bmK (m:Str)(t:TA)(Z:St)(Q:VK)(x:V)(H1:Hp):Prop:=match tyB H1 x with
 | some T=>match bmR T m with
  | some (_,r)=>t Z H1 λ xs H2=>r x xs H2 Q
  | none=>False
 | none=>False
def O1 (m:Str)(to:TE)(t:TA):TE:=λ Z H Q=>to Z H (bmK m t Z Q)
theorem few_of {env:Env}(h:es.any p8=false)(hl:es.length < 29):((backTo cpos (starEach es env)).all (λ x=>!x.1)&&(backToKw cpos (keywordEach [] env)).all (λ x=>x.1.isSome)
   && decide (es.length + ([]:List Keyword).length + (if ([]:List Keyword).isEmpty then 0 else 1) < 30))=true:=by
 rw[(g9 (env:=env) h).2]
 have:decide (es.length + ([]:List Keyword).length + (if ([]:List Keyword).isEmpty then 0 else 1) < 30)=true:=by
  apply decide_eq_true
  simp
  omega
 rw[this]
 rfl
theorem pe_bmG {k:Nat}{m:Str}(hr:Room k X.A)(ho:PE X o to)(ha:PA X (e::es) t)(hb:w6 o=true)(hs:(e::es).any p8=false)(hl:(e::es).length < 29)(hline:(apos.endLine==cpos.line)=true):PE X (.Call (.Attribute o m apos) (e::es) [] cpos) (O1 m to t):=by
 intro pins s Z H Q I h
 refine wpAny_Call_method_late (F3 hb) (few_of hs hl) hline rfl (thn (ho pins s Z H _ I h) λ v s1 ⟨x,H1,I1,r1,q1⟩=>?_)
 unfold bmK at q1
 split at q1
 ·rename_i T eT
  split at q1
  ·rename_i i r eb
   obtain⟨pa,sl,hty,hm⟩:=bmR_ok hr eb
   obtain⟨h1,h2⟩:=tyV_is I1 r1 (tyB_ok (K:=X.K) eT)
   refine⟨T,i,pa,sl,hty,h1,h2,?_⟩
   have hA:=thn (ha cpos pins s1 Z H1 _ I1 q1) λ us s2 ⟨vs,H2,I2,r2,q2⟩=>hm pins s2 Z H2 x vs v us Q I2 r1 r2 q2
   have hs':=hs
   rw[List.any_cons,Bool.or_eq_false_iff]at hs'
   rw[j4 hs'.1]at hA ⊢
   exact Calls.callWith_builtin (by show(false||(backTo cpos (starEach es X.env)).any (·.1))=false;rw[(g9 hs'.2).1];rfl) (Calls.evalArgs_plain hA)
  ·exact q1.elim
 ·exact q1.elim
theorem pe_bmG0 {k:Nat}{m:Str}(hr:Room k X.A)(ho:PE X o to)(hb:w6 o=true)(hline:(apos.endLine==cpos.line)=true):PE X (.Call (.Attribute o m apos) [] [] cpos) (O1 m to a7):=by
 intro pins s Z H Q I h
 refine wpAny_Call_method0_late (F3 hb) hline (thn (ho pins s Z H _ I h) λ v s1 ⟨x,H1,I1,r1,q1⟩=>?_)
 unfold bmK at q1
 split at q1
 ·rename_i T eT
  split at q1
  ·rename_i i r eb
   obtain⟨pa,sl,hty,hm⟩:=bmR_ok hr eb
   obtain⟨h1,h2⟩:=tyV_is I1 r1 (tyB_ok (K:=X.K) eT)
   exact⟨T,i,pa,sl,hty,h1,h2,Calls.callWith_builtin rfl (PySem.evalArgs_none (hm pins s1 Z H1 x [] v [] Q I1 r1 .nil q1))⟩
  ·exact q1.elim
 ·exact q1.elim
theorem a3i {env:Env}{m:Str}(hb:w6 o=true)(hs:es.any p8=false)(hl:es.length < 29)(hline:(apos.endLine==cpos.line)=true):
  eval (.Call (.Attribute o m apos) es [] cpos) env=(do
   let ov ← eval o env
   standAt apos.atName
   let (f,first) ← holding [ov] (getMethod ov m (do return (← importBound o env).getD true))
   callWith cpos f first (backTo cpos (starEach es env)) (backToKw cpos (keywordEach [] env))):=by
 rw[arm_eval_Call,F3 hb]
 have hf:methodCallForm (es.length + ([]:List Keyword).length) (backTo cpos (starEach es env)) (backToKw cpos (keywordEach [] env))=true:=few_of hs hl
 simp only[methodCall,calleeOf,methodCallPos,hf,hline,if_true,Bool.not_true,Bool.false_or,pure_bind]
theorem a1H {cl:Addr}{m:Str}{sp:Sp}{E:XK}{Z:St}{H:Hp}{Q:VK}(h:i9 cl m sp E to t Z H Q):tMeth cl m sp [] E (moE to) t Z H Q:=⟨_,h,λ x H1 q=>by
 unfold methK at q
 split at q
 ·split at q
  ·obtain⟨rfl,q1,q2⟩:=q
   exact⟨_,_,_,rfl,by assumption,q1,q2⟩
  ·exact q.elim
 ·exact q.elim⟩
theorem pe_methG {k:Nat}{CX:CXT}{f cl:Addr}{fd:FuncData}{ps:List Str}{sp:Sp}{E:XK}{m:Str}(ho:PE X o to)(c:Cls X.K cl)(hm:Meth X.K cl m f)(F:FnOk X.prog X.w X.K X.mg X.base CX k f fd ps sp)(hr:Room k X.A)(b:Binds X.K fd ps [])(hx:C2 CX X E)(ha:PA X (e::es) t)
  (hb:w6 o=true)(hs:(e::es).any p8=false)(hl:(e::es).length < 29)(hline:(apos.endLine==cpos.line)=true):PE X (.Call (.Attribute o m apos) (e::es) [] cpos) (i9 cl m sp E to t):=by
 have hs':=hs
 rw[List.any_cons,Bool.or_eq_false_iff]at hs'
 exact PE.imp (pe_meth (PE.mo ho) c hm F hr b .nil hx ha (j4 hs'.1) (g9 hs'.2).1 (a3i hb hs hl hline)) λ Z H Q h=>a1H h
theorem pe_methG0 {k:Nat}{CX:CXT}{f cl:Addr}{fd:FuncData}{ps:List Str}{sp:Sp}{E:XK}{m:Str}(ho:PE X o to)(c:Cls X.K cl)(hm:Meth X.K cl m f)(F:FnOk X.prog X.w X.K X.mg X.base CX k f fd ps sp)(hr:Room k X.A)(b:Binds X.K fd ps [])(hx:C2 CX X E)
  (hb:w6 o=true)(hline:(apos.endLine==cpos.line)=true):PE X (.Call (.Attribute o m apos) [] [] cpos) (i9 cl m sp E to a7):=
 PE.imp (pe_meth0 (PE.mo ho) c hm F hr b .nil hx (a3i hb rfl (by decide) hline)) λ Z H Q h=>a1H h
@[irreducible] def A9:TSet:=λ o i v H Q=>match o with
 | .ref p=>match H p with
  | some (.lst xs)=>match i with
   | .int k=>match ixN xs.length k with
    | some j=>Q (upd H p (.lst (xs.set j v)))
    | none=>False
   | _=>False
  | some (.dK kvs)=>match O4 i with
   | some k=>kvs.length < sizeLine/\Q (upd H p (.dK (g0 kvs k v)))
   | none=>False
  | some (.dT kvs)=>match i with
   | .ref b=>match H b with
    | some (.tup xs)=>match A8 xs with
     | some k=>kvs.length < sizeLine/\Q (upd H p (.dT (g0 kvs k v)))
     | none=>False
    | _=>False
   | _=>False
  | some (.dP kvs)=>match pkOf H i with
   | some k=>kvs.length < sizeLine/\Q (upd H p (.dP (g0 kvs k v)))
   | none=>False
  | _=>False
 | _=>False
theorem set_G {k:Nat}(hr:Room k X.A):PSet X A9:=λ pins s Z H o i v ov iv u Q I ro ri rv h=>by
 unfold A9 at h
 split at h
 ·rename_i p
  split at h
  ·split at h
   ·split at h
    ·exact set_list pins s Z H _ _ v ov iv u Q I ro ri rv ⟨_,_,_,_,rfl,rfl,by assumption,by assumption,h⟩
    ·exact h.elim
   ·exact h.elim
  ·split at h
   ·rename_i kvs hp _ k' ek
    cases ro
    rw[X0 ek]at ri
    exact a2W (N1 hr) I (DPut.k hp h.1) ri rv λ s' I'=>⟨_,I',h.2⟩
   ·exact h.elim
  ·split at h
   ·split at h
    ·split at h
     ·rename_i kvs hp _ b _ xs hb _ k' ek
      cases ro
      rw[D8 ek]at hb
      exact a2W (N1 hr) I (DPut.t hp hb h.1) ri rv λ s' I'=>⟨_,I',h.2⟩
     ·exact h.elim
    ·exact h.elim
   ·exact h.elim
  ·split at h
   ·obtain⟨b,rfl,eb⟩:=pkOf_at ‹pkOf H i=some _›
    cases ro
    cases ri
    exact p_setItem (hu2_of hr) I (by assumption) eb h.1 rv λ s' I'=>⟨_,I',h.2⟩
   ·exact h.elim
  ·exact h.elim
 ·exact h.elim
@[irreducible] def dgG:V->V->Hp->VK->Prop:=λ o i H Q=>match o with
 | .ref p=>match C0 H p i with
  | some (some v)=>Q v H
  | _=>False
 | _=>False
theorem get_dG {k:Nat}(hr:Room k X.A):PGet X dgG:=λ pins s Z H o i ov iv Q I ro ri h=>by
 unfold dgG at h
 split at h
 ·split at h
  ·cases ro
   exact a2V (N1 hr) I (D9 (by assumption)) ri λ w' s' I' rw'=>⟨_,H,I',rw',h⟩
  ·exact h.elim
 ·exact h.elim
def ipAdd:TIp:=λ x y H Q=>match x,y with
 | .int i,.int j=>Q (.int (i + j)) H
 | .str a,.str b=>a.length + b.length<=sizeLine/\Q (.str (a++b)) H
 | _,_=>False
def ipSub:TIp:=λ x y H Q=>match x,y with
 | .int i,.int j=>Q (.int (i - j)) H
 | _,_=>False
def ipG:Operator->TIp
 | .Add=>ipAdd
 | .Sub=>ipSub
 | _=>λ _ _ _ _=>False
theorem ip_addG:PIp X .Add ipAdd:=λ pins s Z H x y v u Q I rx ry h=>by
 unfold ipAdd at h
 split at h
 ·exact ip_add pins s Z H _ _ v u Q I rx ry ⟨_,_,rfl,rfl,h⟩
 ·exact a4q pins s Z H _ _ v u Q I rx ry ⟨_,_,rfl,rfl,h⟩
 ·exact h.elim
theorem ip_subG:PIp X .Sub ipSub:=λ pins s Z H x y v u Q I rx ry h=>by
 unfold ipSub at h
 split at h
 ·exact ip_sub pins s Z H _ _ v u Q I rx ry ⟨_,_,rfl,rfl,h⟩
 ·exact h.elim
theorem ip_G:∀ op,PIp X op (ipG op)
 | .Add=>ip_addG
 | .Sub=>ip_subG
 | .Mult=>λ _ _ _ _ _ _ _ _ _ _ _ _ h=>h.elim
 | .FloorDiv=>λ _ _ _ _ _ _ _ _ _ _ _ _ h=>h.elim
 | .Mod=>λ _ _ _ _ _ _ _ _ _ _ _ _ h=>h.elim
 | .Pow=>λ _ _ _ _ _ _ _ _ _ _ _ _ h=>h.elim
 | .MatMult=>λ _ _ _ _ _ _ _ _ _ _ _ _ h=>h.elim
 | .Div=>λ _ _ _ _ _ _ _ _ _ _ _ _ h=>h.elim
 | .LShift=>λ _ _ _ _ _ _ _ _ _ _ _ _ h=>h.elim
 | .RShift=>λ _ _ _ _ _ _ _ _ _ _ _ _ h=>h.elim
 | .BitOr=>λ _ _ _ _ _ _ _ _ _ _ _ _ h=>h.elim
 | .BitXor=>λ _ _ _ _ _ _ _ _ _ _ _ _ h=>h.elim
 | .BitAnd=>λ _ _ _ _ _ _ _ _ _ _ _ _ h=>h.elim
end
def Itv (a:Addr)(xs:List V):It:=⟨λ i H=>H a=some (.lst xs)/\i < xs.length,λ i H x H'=>H'=H/\xs.reverse[i]?=some x,λ i _=>xs.length<=i⟩
theorem turn_rev {P:Program}{w:World}{K:PySem.W.Frag}{tg:Expr}(it a:Addr)(xs:List V):Turn P w K tg (Itv a xs) [it] it (λ i h=>i<=xs.length/\h.IsRevIter it a ((xs.length:Int) - 1 - i)) where
 mem:=by simp
 obj:=λ i h st b hb=>by
  have e:b=it:=by simpa using hb
  subst e
  obtain⟨_,o,e,c,d⟩:=st
  exact⟨o,e,λ v z=>by rw[d]at z;cases z⟩
 keep:=λ i h h' st k=>⟨st.1,st.2.at λ o e=>k it (by simp) o e⟩
 item:=by
  intro X hP hw hK hc i pins s Z H E I hf st hg
  subst hP hw hK
  obtain⟨ha,hi⟩:=hg
  obtain⟨its,rv,p,hz⟩:=I.list (.inl (.inl ha))
  have hl:=rv.length
  obtain⟨x,hx⟩:∃ x,xs[xs.length - 1 - i]?=some x:=⟨xs[xs.length - 1 - i],by simp⟩
  obtain⟨u,hu,ru⟩:=rv.get hx
  obtain⟨f0,f1,f2,f3,f4,f5⟩:=hf it (by simp)
  have ei:((xs.length:Int) - 1 - (i:Int))=((xs.length - 1 - i:Nat):Int):=by omega
  have st2:=st.2
  rw[ei]at st2
  refine wpAny_pyNext_rev_item st2 p.isList (x:=u) (by simpa using hu) λ h' st' sb=>?_
  have I1:Inv X pins Z H { s with heap:=h' }:=I.turned (t':=s.toks) (λ b o hb e=>(sb.2 b hb).trans e) f0 f1 f3 f4 f5
  obtain⟨o,e,c,d⟩:=id st'
  refine⟨u,rfl,a1o (s:={ s with heap:=h' }) e c d (by decide) ⟨x,H,I1,ru,⟨rfl,?_⟩,⟨by omega,?_⟩,λ b hb=>(hf b hb).1⟩⟩
  ·rw[List.getElem?_reverse (by omega)]
   exact hx
  ·have:((xs.length - 1 - i:Nat):Int) - 1=(xs.length:Int) - 1 - ((i + 1:Nat):Int):=by omega
   rw[<- this]
   exact st'
 done:=by
  intro X hP hw hK hc i pins s Z H E I hf st hg
  subst hP hw hK
  obtain⟨f0,f1,f2,f3,f4,f5⟩:=hf it (by simp)
  have hg:xs.length<=i:=hg
  have ei:((xs.length:Int) - 1 - (i:Int))=-1:=by have:=st.1;omega
  have st2:=st.2
  rw[ei]at st2
  exact wpAny_pyNext_rev_end (I.ok.hd hc) st2 λ h' eb=>⟨rfl,I.turned (t':=s.toks) (λ b o hb e=>eb b o hb e) f0 f1 f3 f4 f5⟩
 self:=λ _ _ _ _ _ st h=>wpAny_pyIter_revIter st.2 h
theorem T6:bootBuiltins "reversed" = some (.type "reversed"):=by first | rfl | kernel_rfl
@[irreducible] def revG (vs:List V)(H:Hp)(R:It->Hp->Th->Prop):Prop:=match vs with
 | [.ref a]=>match H a with
  | some (.lst xs)=>R (Itv a xs) H none
  | _=>False
 | _=>False
def iRevG (ta:TA):TI2:=λ Z H R=>ta Z H λ vs H1=>revG vs H1 R
section
variable {X:Cx}{tg:Expr}
theorem pi_rev {e:Expr}{es:List Expr}{ta:TA}{p pos:Pos}(hg:Gl X "reversed")(hm:X.mg "reversed" = none)(ha:PA X (e::es) ta)(hs:(e::es).any p8=false):PI2 X tg (.Call (.Name "reversed" p) (e::es) [] pos) (iRevG ta):=by
 rw[List.any_cons,Bool.or_eq_false_iff]at hs
 intro pins s Z H R I h
 refine Call_ (U6 I hg hm T6 (PyProof.Rows.callWith_type1 (thn (ha pos pins s Z H _ I h) λ us s1 ⟨vs,H1,I1,r1,q1⟩=>?_) (j4 hs.1) (g9 hs.2).1))
 replace q1:revG vs H1 R:=q1
 unfold revG at q1
 split at q1
 ·rename_i a
  split at q1
  ·rename_i xs e
   obtain⟨u,rfl,ru⟩:=y8 r1
   cases ru
   obtain⟨its,rv,p',hz⟩:=I1.list (.inl (.inl e))
   have hl:=rv.length
   refine call_reversed_list p'.isList ?_
   have st:(s1.heap.push (revObj a (((its.toArray.size:Nat):Int) - 1))).IsRevIter s1.heap.objs.size a (((its.toArray.size:Nat):Int) - 1):=⟨_,Heap.get?_push_size _ rfl,rfl,rfl⟩
   refine wpAny_pyIter_revIter st ⟨none,(λ _ _ e=>by cases e),s1.heap.objs.size,[s1.heap.objs.size],_,Itv a xs,H1,rfl,I1.kept (t':=s1.toks) λ b o e=>Heap.get?_push_of_some _ e,turn_rev _ a xs,⟨Nat.zero_le _,?_⟩,λ b hb=>?_,q1⟩
   ·have:(((its.toArray.size:Nat):Int) - 1)=(xs.length:Int) - 1 - ((0:Nat):Int):=by
     rw[List.size_toArray]
     omega
    rw[<- this]
    exact st
   ·have e:b=s1.heap.objs.size:=by simpa using hb
    subst e
    exact I1.fpOk (Nat.le_refl _) (I1.hok.fresh (Nat.le_refl _))
  ·exact q1.elim
 ·exact q1.elim
end
section
variable {X:Cx}{pins:List (Addr×Obj)}{Z:St}{H:Hp}{s:Shared}{h':Heap}
theorem inv_track {p:Addr}{o:HO}(I:Inv X pins Z H s)(hf:FpOk X pins H p)(hp:X.s₀.heap.objs.size<=p)(new:ObjOk X.prog X.w (upd H p o) s.heap p o):Inv X pins Z (upd H p o) s:=by
 obtain⟨f0,f1,f2,f3,f4,f5⟩:=hf
 refine⟨I.ok,I.os,I.bare,⟨I.base.keep,I.base.slot,λ b ob e n x=>?_,I.base.there,λ b xs e=>?_,λ b ob w e=>?_,λ b ps e=>?_⟩,I.loc,I.cell,?_,λ x c e=>?_,λ q hq=>?_,λ b u e=>?_,I.len⟩
 ·rw[a5 λ z=>by rw[z]at e;exact absurd (Nat.lt_of_lt_of_le (Heap.lt_size e) hp) (Nat.lt_irrefl _)]
  exact I.base.free b ob e n x
 ·have q:=I.base.tups b xs e
  rw[a5 (c9 q f0)]
  exact q
 ·have q:=I.base.frzs b ob w e
  rw[a5 (c9 q f0)]
  exact q
 ·obtain⟨more,q⟩:=I.base.tbls b ps e
  exact⟨more,by rw[a5 (c9 q f0)];exact q⟩
 ·rw[a5 (Ne.symm f1)]
  exact I.free
 ·rw[a5 (f4 x c e)]
  exact I.freeC x c e
 ·obtain⟨p1,p2,r⟩:=I.pin q hq
  refine⟨p1,?_,r⟩
  rw[a5 (f5 q hq)]
  exact p2
 ·by_cases z:b=p
  ·subst z
   rw[a6]at e
   cases e
   exact new
  ·rw[a5 z]at e
   exact(I.hok b u e).stay (λ c v _ q=>q) (λ c q=>by rw[a5 (c9 q f0)];exact q) λ c xs q=>by rw[a5 (c9 q f0)];exact q
end
section
variable {X:Cx}
end
section
variable {prog:Program}{w:World}{A:Around}{E:Value->Shared->Prop}{s:Shared}{d it S:Addr}{es:Array DictEntry}{ep i:Nat}
def WkAt (h:Heap)(it d:Addr)(i n ep:Nat)(f0 f1 ok ov:Value):Prop:=
 h.get? it=some { cls:=.type "dict_itemiterator",dict:=none,data:=.fields #[f0,f1,.ref d,.int i 0,.int n 0,.int ep 0,ok,ov],slots:=#[] }
theorem raw_items {v:Addr}{Q:Value->Shared->Prop}(hv:s.heap.IsItemsView v d)(r:RawD s.heap d es ep)
  (q:Q (.ref s.heap.objs.size) { s with heap:=s.heap.push { cls:=.type "dict_itemiterator",data:=.fields #[.none,.bool false,.ref d,.int 0 0,.int es.size 0,.int ep 0,.none,.none] } }):wpAny (model prog w) A (pyIter (.ref v)) Q E s:=by
 have ty:=hv.typeIs
 obtain⟨o,h1,h2,h3⟩:=r
 obtain⟨u,u1,u2,u3⟩:=hv
 refine wpAny_pyIter_slot ty F.slot_dict_items_iter (wpAny_call_entry F.slot_dict_items_iter ty F.entry_dict_items_iter ?_ (F.args_dict_items_iter_1 _))
 unfold Builtin.«dict_items.__iter__» Builtin.Dict_items.dictOf Builtin.Dict_items.newIterator
 refine wpAny_bind (wpAny_pure (wpAny_bind (wpAny_bind (wpAny_field u1 u3 (x:=.ref d) rfl (wpAny_pure (wpAny_bind (wpAny_bind (wpAny_dictEntries h1 h3 (wpAny_bind (wpAny_dictEpoch h1 h3 ?_))))))))))
 rw[show Builtin.Dict_items.ownsTuple "dict_itemiterator" = true by decide]
 simp only[if_true]
 refine wpAny_newObj_type (wpAny_pure ⟨_,rfl, "dict_itemiterator",_,⟨_,Heap.get?_push_size _ rfl,rfl⟩,F.slot_dict_itemiterator_next.lookup,?_⟩) (by simp only[sizeOk,Builtin.Dict_items.ownedTupleFields,List.size_toArray,List.length_append,List.length_cons,List.length_nil,sizeLine_eq];omega)
 simpa[rawInt,Builtin.Dict_items.ownedTupleFields] using q
end
section
variable {prog:Program}{w:World}{A:Around}{s:Shared}{R:Result->Shared->Prop}{es:Array DictEntry}{ep:Nat}
end
section
variable {prog:Program}{w:World}{A:Around}{E:Value->Shared->Prop}{s:Shared}{d it:Addr}{es:Array DictEntry}{ep i:Nat}{ok ov:Value}
theorem raw_pair1 {e:DictEntry}{Q:Option Value->Shared->Prop}(hit:WkAt s.heap it d i es.size ep .none (.bool false) ok ov)(r:RawD s.heap d es ep)(he:es[i]?=some e)
  (q:∀ h':Heap,WkAt h' it d (i + 1) es.size ep (rawInt s.heap.objs.size) (.bool false) e.key e.val->h'.get? s.heap.objs.size=some { cls:=.type "tuple",data:=.seq #[e.key,e.val] } →
   (∀ b o,b≠it->s.heap.get? b=some o->h'.get? b=some o)->Q (some (.ref s.heap.objs.size)) { s with heap:=h' }):wpAny (model prog w) A (pyNext (.ref it)) Q E s:=by
 obtain⟨hp,g,dr,tk,os⟩:=s
 obtain⟨b,h1,h2,h3⟩:=r
 have ty:Shared.TypeIs ⟨hp,g,dr,tk,os⟩ (.ref it) "dict_itemiterator" := ⟨_,hit,rfl⟩
 have hi:i < es.size:=(Array.getElem?_eq_some_iff.mp he).1
 unfold pyNext
 refine wpAny_bind (wpAny_attempt (wpAny_callSpecial?_slot (name:=Str.ofString "__next__") ty F.slot_dict_itemiterator_next (wpAny_call_entry F.slot_dict_itemiterator_next ty F.entry_dict_itemiterator_next ?_ (F.args_dict_itemiterator_next_1 _))))
 refine wpAny_bind (wpAny_pure (wpAny_bind (wpAny_bind (wpAny_bind (wpAny_typeNameOfWhole_itemiter ty (wpAny_pure (wpAny_bind (wpAny_fieldsOf hit rfl ?_))))))))
 rw[show Builtin.Dict_items.ownsTuple "dict_itemiterator" = true by decide]
 simp only[if_true]
 show wpAny _ _ (if (Value.ref d==Value.none)=true then _ else _) _ _ _
 rw[if_neg (show ¬ ((Value.ref d==Value.none)=true) from Bool.false_ne_true)]
 refine wpAny_bind (wpAny_pure (wpAny_bind (wpAny_dictEntries h1 h3 ?_)))
 rw[if_neg (by simp)]
 refine wpAny_bind (wpAny_pure (wpAny_bind (wpAny_dictEpoch h1 h3 ?_)))
 rw[if_neg (by simp)]
 refine wpAny_pure ?_
 simp only[show ¬ ((i:Int) < 0) from by omega,if_false,Int.toNat_natCast,he]
 refine wpAny_bind (wpAny_bind (wpAny_typeNameOfWhole_itemiter ty (wpAny_pure (wpAny_bind (wpAny_isOneOf_itemiter ty ?_)))))
 show wpAny _ _ (setField (.ref it) 3 (rawInt ((i:Int) + 1)) >>= _) _ _ (⟨hp,g,dr,tk,os⟩:Shared)
 refine wpAny_bind (wpAny_setField_rec hit (by simp) λ k1 e1 s1=>?_)
 replace s1:Heap.SameBut it hp k1:=s1
 replace e1:WkAt k1 it d (i + 1) es.size ep .none (.bool false) ok ov:=by
  have z:((i + 1:Nat):Int)=(i:Int) + 1:=by omega
  unfold WkAt
  rw[z]
  simpa[rawInt] using e1
 have ty1:Shared.TypeIs ⟨k1,g,dr,tk,os⟩ (.ref it) "dict_itemiterator" := ⟨_,e1,rfl⟩
 refine wpAny_bind (wpAny_holding (wpAny_bind (wpAny_isOneOf_itemiter ty1 (wpAny_bind (wpAny_isOneOf_itemiter ty1 ?_)))))
 show wpAny _ _ (Builtin.Dict_items.pairFromOwner (.ref it) 6 e.key e.val) _ _ (⟨k1,g,dr,tk,os⟩:Shared)
 unfold Builtin.Dict_items.pairFromOwner
 refine wpAny_bind (wpAny_newTuple ?_)
 have lt:it < hp.objs.size:=Heap.lt_size hit
 obtain⟨k2,k2e⟩:∃ k2,k2=k1.push { cls:=.type "tuple",data:=.seq #[e.key,e.val] }:=⟨_,rfl⟩
 have e2:WkAt k2 it d (i + 1) es.size ep .none (.bool false) ok ov:=by rw[k2e];exact Heap.get?_push_of_some _ e1
 have z1:k1.objs.size=hp.objs.size:=s1.1
 have t2:k2.get? hp.objs.size=some { cls:=.type "tuple",data:=.seq #[e.key,e.val] }:=by rw[k2e,<- z1];exact Heap.get?_push_size _ rfl
 have kp:∀ b o,b≠it->hp.get? b=some o->k2.get? b=some o:=λ b o n z=>by rw[k2e];exact Heap.get?_push_of_some _ (s1.extBut b o n z)
 show wpAny _ _ (Builtin.Dict_items.ownedTupleIsFree (.ref it) >>= _) _ _ (⟨k1.push { cls:=.type "tuple",data:=.seq #[e.key,e.val] },g,dr,tk,os⟩:Shared)
 rw[<- k2e,z1]
 clear k2e e1 s1 ty1 z1
 refine wpAny_bind ?_
 unfold Builtin.Dict_items.ownedTupleIsFree
 refine wpAny_bind (wpAny_field e2 rfl (x:=.none) rfl (wpAny_pure ?_))
 simp only[if_true]
 refine wpAny_bind (wpAny_field e2 rfl (x:=ok) rfl (wpAny_bind (wpAny_field e2 rfl (x:=ov) rfl (wpAny_bind (wpAny_setField_rec e2 (by simp) λ k3 e3 s3=>?_)))))
 replace e3:WkAt k3 it d (i + 1) es.size ep .none (.bool false) e.key ov:=e3
 refine wpAny_bind (wpAny_setField_rec e3 (by simp) λ k4 e4 s4=>?_)
 replace e4:WkAt k4 it d (i + 1) es.size ep .none (.bool false) e.key e.val:=e4
 refine wpAny_bind (wpAny_setField_rec e4 (by simp) λ k5 e5 s5=>?_)
 replace e5:WkAt k5 it d (i + 1) es.size ep (rawInt hp.objs.size) (.bool false) e.key e.val:=e5
 refine wpAny_bind (wpAny_setField_rec e5 (by simp) λ k6 e6 s6=>?_)
 replace e6:WkAt k6 it d (i + 1) es.size ep (rawInt hp.objs.size) (.bool false) e.key e.val:=e6
 have sb:Heap.SameBut it k2 k6:=((Heap.SameBut.trans s3 s4).trans s5).trans s6
 exact wpAny_bind (wpAny_letGo (wpAny_pure (wpAny_pure ⟨_,rfl,wpAny_pure (q k6 e6 (sb.extBut _ _ (Nat.ne_of_gt lt) t2) λ b o n z=>sb.extBut b o n (kp b o n z))⟩)))
theorem raw_end1 {Q:Option Value->Shared->Prop}(hh:A.handled=none)(hit:WkAt s.heap it d i es.size ep .none (.bool false) ok ov)(r:RawD s.heap d es ep)(he:es.size<=i)(q:∀ h':Heap,Heap.ExtBut it s.heap h'->Q none { s with heap:=h' }):wpAny (model prog w) A (pyNext (.ref it)) Q E s:=by
 obtain⟨b,h1,h2,h3⟩:=r
 have ty:s.TypeIs (.ref it) "dict_itemiterator" := ⟨_,hit,rfl⟩
 unfold pyNext
 refine wpAny_bind (wpAny_attempt (wpAny_callSpecial?_slot (name:=Str.ofString "__next__") ty F.slot_dict_itemiterator_next (wpAny_call_entry F.slot_dict_itemiterator_next ty F.entry_dict_itemiterator_next ?_ (F.args_dict_itemiterator_next_1 _))))
 refine wpAny_bind (wpAny_pure (wpAny_bind (wpAny_bind (wpAny_bind (wpAny_typeNameOfWhole_itemiter ty (wpAny_pure (wpAny_bind (wpAny_fieldsOf hit rfl ?_))))))))
 rw[show Builtin.Dict_items.ownsTuple "dict_itemiterator" = true by decide]
 simp only[if_true]
 show wpAny _ _ (if (Value.ref d==Value.none)=true then _ else _) _ _ _
 rw[if_neg (show ¬ ((Value.ref d==Value.none)=true) from Bool.false_ne_true)]
 refine wpAny_bind (wpAny_pure (wpAny_bind (wpAny_dictEntries h1 h3 ?_)))
 rw[if_neg (by simp)]
 refine wpAny_bind (wpAny_pure (wpAny_bind (wpAny_dictEpoch h1 h3 ?_)))
 rw[if_neg (by simp)]
 refine wpAny_pure ?_
 simp only[show ¬ ((i:Int) < 0) from by omega,if_false,Int.toNat_natCast,Array.getElem?_eq_none he]
 refine wpAny_bind (wpAny_bind (wpAny_typeNameOfWhole_itemiter ty (wpAny_pure ?_)))
 show wpAny _ _ (setField (.ref it) 2 .none >>= _) _ _ _
 refine wpAny_bind (wpAny_setField hit rfl (by simp) ?_)
 show wpAny _ _ (newExc (.type "StopIteration") [] >>= _) _ _ _
 refine wpAny_bind ?_
 simp only[newExc,newTuple]
 refine wpAny_bind (wpAny_newObj_type (wpAny_bind (m:=firstArgMember _ _) (wpAny_of_eq (a:=Value.none) (by first | rfl | (simp only[firstArgMember];rfl)) (wpAny_newObj_type ?_ (by size_fits)))) (by size_fits))
 simp only[raiseNew]
 refine wpAny_bind (wpAny_handled ?_)
 rw[show A.in1.handled=none from hh]
 refine wpAny_bind (wpAny_pure (wpAny_throw ?_))
 refine wpAny_bind (wpAny_isInstance (T := "StopIteration") (b:=true) ⟨_,Heap.get?_push_size _ rfl,rfl⟩ isSubtype_stop ?_)
 exact wpAny_pure (q _ (((Heap.SameBut.update ..).extBut.push _).push _))
theorem a6f (d:Addr)(hd:(d==sysModules)=false):MeetsIn prog w (Builtin.«dict.items» ⟨[.ref d],[]⟩) (λ _ R s=>s.TypeIs (.ref d) "dict" /\ R (.ok (.ret (.ref s.heap.objs.size))) { s with heap:=s.heap.push { cls:=.type "dict_items",data:=.fields #[.ref d] } }):=
 .of_wp λ A R s ⟨ty,h⟩=>by
  unfold Builtin.«dict.items» Builtin.Dict.noArgs
  refine wpAny_bind (wpAny_bind (wpAny_notOrdered_dict ty ?_))
  show wpAny _ _ (pure d) _ _ s
  refine wpAny_pure ?_
  show wpAny _ _ (Builtin.Dict.showsAll d >>= _) _ _ s
  unfold Builtin.Dict.showsAll
  rw[if_neg (by rw[hd];decide)]
  exact wpAny_bind (wpAny_pure (wpAny_bind (wpAny_newObj_type (wpAny_pure ⟨_,rfl,h⟩))))
end
def Itq (a:Addr)(o:Obj)(kvs:List (List Key×V)):It:=⟨λ i H=>H a=some (.frz o (.dT kvs))/\i < kvs.length,λ i H x H'=>∃ k v t p,kvs[i]?=some (k,v)/\x=.ref p/\H t=some (.tup (k.map kV))/\H p=none/\H'=upd H p (.tup [.ref t,v]),λ i H=>H a=some (.frz o (.dT kvs))/\kvs.length<=i⟩
theorem turn_itq {P:Program}{w:World}{K:PySem.W.Frag}{el:List Expr}{k1:Nat}{pos:Pos}(it a:Addr)(o:Obj){kvs:List (List Key×V)}{es:Array DictEntry}{ep:Nat}(hl:es.size=kvs.length)(ho:o.data=.dict es ep):
  Turn P w K (.Tuple el k1 pos) (Itq a o kvs) [it] it (λ i h=>∃ ok ov,WkAt h it a i es.size ep .none (.bool false) ok ov) where
 mem:=by simp
 obj:=λ i h st b hb=>by
  have e:b=it:=by simpa using hb
  subst e
  obtain⟨ok,ov,e⟩:=st
  exact⟨_,e,λ v z=>by cases z⟩
 keep:=λ i h h' ⟨ok,ov,e⟩ k=>⟨ok,ov,k it (by simp) _ e⟩
 item:=by
  intro X hP hw hK hc i pins s Z H E I hf st hg
  subst hP hw hK
  obtain⟨f0,f1,f2,f3,f4,f5⟩:=hf it (by simp)
  obtain⟨ha,hi⟩:=hg
  obtain⟨eo,_,_,xs,pr,o',es',ep',e1,e2,e3,e4,_⟩:=I.hok a _ ha
  rw[eo]at e1
  cases e1
  rw[ho]at e3
  cases e3
  obtain⟨⟨k,v⟩,hx⟩:∃ p,kvs[i]?=some p:=⟨kvs[i],by simp[hi]⟩
  obtain⟨⟨k',t,u⟩,hy,rk,rt,rv⟩:=a1G pr hx
  have he:es[i]?=some (entryOfKey (tupleKind (d2 X.prog X.w)) (k',t,u)):=by
   rw[<- Array.getElem?_toList,e4,List.getElem?_map,hy]
   rfl
  obtain⟨ok,ov,st⟩:=st
  refine raw_pair1 st ⟨o,eo,e2,ho⟩ he λ h' hit' ht kp=>⟨_,rfl,?_⟩
  refine wpAny_letOwnedTupleGo_items hit' λ h2 hit2 sb=>?_
  have hT:s.heap.objs.size≠it:=Nat.ne_of_gt (Heap.lt_size st)
  have e2:h2.get? s.heap.objs.size=some { cls:=.type "tuple",data:=.seq #[.ref t,u] }:=sb.extBut _ _ hT ht
  have I1:Inv X pins Z H { s with heap:=h2 }:=I.turned (t':=s.toks) (λ b o hb e=>sb.extBut b o hb (kp b o hb e)) f0 f1 f3 f4 f5
  have hn:H s.heap.objs.size=none:=I.hok.fresh (Nat.le_refl _)
  refine⟨.ref s.heap.objs.size,upd H s.heap.objs.size (.tup [.ref t,v]),inv_track I1 (I.fpOk (Nat.le_refl _) hn) I.sz ⟨by show 2<=sizeLine;decide,[.ref t,u],.cons rfl (.cons rv .nil),_,e2,rfl,_,rfl⟩,rfl,⟨k,v,t,_,hx,rfl,rt,hn,rfl⟩,⟨_,_,hit2⟩,λ b hb=>?_⟩
  have e:b=it:=by simpa using hb
  subst e
  rw[a5 (Ne.symm hT)]
  exact f0
 done:=by
  intro X hP hw hK hc i pins s Z H E I hf st hg
  subst hP hw hK
  obtain⟨f0,f1,f2,f3,f4,f5⟩:=hf it (by simp)
  obtain⟨ha,hi⟩:=hg
  obtain⟨eo,_,_,xs,pr,o',es',ep',e1,e2,e3,e4,_⟩:=I.hok a _ ha
  rw[eo]at e1
  cases e1
  obtain⟨ok,ov,st⟩:=st
  exact raw_end1 (I.ok.hd hc) st ⟨o,eo,e2,ho⟩ (by rw[hl];exact hi) λ h' eb=>⟨rfl,I.turned (t':=s.toks) (λ b o hb e=>eb b o hb e) f0 f1 f3 f4 f5⟩
 self:=λ A i s Q E st h=>by
  obtain⟨ok,ov,st⟩:=st
  exact PySem.W.kcp_self st h
section
variable {X:Cx}{tg:Expr}
def ItR (X:Cx)(tg:Expr)(r:V->Hp->(It->Hp->Th->Prop)->Prop):Prop:=
 ∀ (pins:List (Addr×Obj)) (s:Shared) (Z:St) (H:Hp) (x:V) (v:Value) (R:It->Hp->Th->Prop),Inv X pins Z H s->RelV x v->r x H R->wpAny (model X.prog X.w) X.A (pyIter v) (PIE2 X pins Z tg R) X.xe s
@[irreducible] def d9 (x:V)(H:Hp)(R:It->Hp->Th->Prop):Prop:=match x with
 | .str z=>R (Its z) H none
 | .ref a=>match H a with
  | some (.lst _)=>R (Itl0 a) H none
  | some (.tup _)=>R (Itt0 a) H none
  | some (.dK kvs)=>∀ o,R (Itd a o kvs) (upd H a (.frz o (.dK kvs))) (some (a,.dK kvs))
  | some (.frz o (.dK kvs))=>R (Itd a o kvs) H none
  | some (.dT kvs)=>∀ o,R (Itdt a o kvs) (upd H a (.frz o (.dT kvs))) (some (a,.dT kvs))
  | some (.frz o (.dT kvs))=>R (Itdt a o kvs) H none
  | _=>False
 | _=>False
theorem a1J {X:Cx}:∀ a u,(none:Th)=some (a,u)->NF X a:=λ _ _ e=>by cases e
theorem it_dict {pins:List (Addr×Obj)}{s:Shared}{Z:St}{H:Hp}{R:It->Hp->Th->Prop}{a:Addr}{o:Obj}{kvs:List (Key×V)}{th:Th}(nf:∀ a u,th=some (a,u)->NF X a)(I:Inv X pins Z H s)(e:H a=some (.frz o (.dK kvs)))(h:R (Itd a o kvs) H th):wpAny (model X.prog X.w) X.A (pyIter (.ref a)) (PIE2 X pins Z tg R) X.xe s:=by
 obtain⟨lo,_,eo,vs,ep,r,d⟩:=frz_at I e
 refine wpAny_pyIter_dict lo d ⟨th,nf,s.heap.objs.size,[s.heap.objs.size],_,Itd a o kvs,H,rfl,I.kept (t':=s.toks) λ b o e=>Heap.get?_push_of_some _ e,turn_dict s.heap.objs.size a o r (a1E eo d),⟨_,Heap.get?_push_size _ rfl,rfl,rfl⟩,λ b hb=>?_,h⟩
 have e:b=s.heap.objs.size:=by simpa using hb
 subst e
 exact I.fpOk (Nat.le_refl _) (I.hok.fresh (Nat.le_refl _))
theorem it_dT {pins:List (Addr×Obj)}{s:Shared}{Z:St}{H:Hp}{R:It->Hp->Th->Prop}{a:Addr}{o:Obj}{kvs:List (List Key×V)}{th:Th}(nf:∀ a u,th=some (a,u)->NF X a)(I:Inv X pins Z H s)(e:H a=some (.frz o (.dT kvs)))(h:R (Itdt a o kvs) H th):wpAny (model X.prog X.w) X.A (pyIter (.ref a)) (PIE2 X pins Z tg R) X.xe s:=by
 obtain⟨lo,_,xs,es,ep,pr,e4,r⟩:=a3Q I (.inr ⟨o,e⟩)
 obtain⟨o',r1,r2,r3⟩:=id r
 rw[(I.hok a _ e).1]at r1
 cases r1
 have hl:es.size=kvs.length:=by
  rw[<- Array.length_toList,e4,List.length_map]
  exact(Paired.length pr).symm
 refine a4M lo r ⟨th,nf,s.heap.objs.size,[s.heap.objs.size],_,Itdt a o kvs,H,rfl,I.kept (t':=s.toks) λ b o e=>Heap.get?_push_of_some _ e,turn_dT s.heap.objs.size a o hl r3,⟨_,Heap.get?_push_size _ rfl,rfl,rfl⟩,λ b hb=>?_,h⟩
 have e:b=s.heap.objs.size:=by simpa using hb
 subst e
 exact I.fpOk (Nat.le_refl _) (I.hok.fresh (Nat.le_refl _))
theorem it_G:ItR X tg d9:=λ pins s Z H x v R I r h=>by
 unfold d9 at h
 split at h
 ·rename_i z
  obtain⟨t,rfl⟩:=r
  have fin:∀ (o:Obj) (ty:String),ty = "str_ascii_iterator" \/ ty = "str_iterator" -> (s.heap.push o).IsStrIter s.heap.objs.size ty z t 0->PIE2 X pins Z tg R (.ref s.heap.objs.size) { s with heap:=s.heap.push o }:=λ o ty hty st=>by
   refine⟨none,a1J,s.heap.objs.size,[s.heap.objs.size],_,Its z,H,rfl,I.kept (t':=s.toks) λ b o e=>Heap.get?_push_of_some _ e,turn_str _ z t ty hty,st,λ b hb=>?_,h⟩
   have e:b=s.heap.objs.size:=by simpa using hb
   subst e
   exact I.fpOk (Nat.le_refl _) (I.hok.fresh (Nat.le_refl _))
  cases ha:z.cps.all (· < 128)
  ·exact wpAny_pyIter_wide ha (fin _ _ (.inr rfl) ⟨_,Heap.get?_push_size _ rfl,rfl,rfl⟩)
  ·exact wpAny_pyIter_ascii ha (fin _ _ (.inl rfl) ⟨_,Heap.get?_push_size _ rfl,rfl,rfl⟩)
 ·rename_i a
  cases r
  split at h
  ·rename_i xs e
   obtain⟨its,rv,p,hz⟩:=I.list (.inl (.inl e))
   refine wpAny_pyIter_list p.isList ⟨none,a1J,s.heap.objs.size,[s.heap.objs.size],_,Itl0 a,H,rfl,I.kept (t':=s.toks) λ b o e=>Heap.get?_push_of_some _ e,(turn_list (K:=X.K) a _).imp (λ i H ⟨xs,x,h1,h2⟩=>⟨xs,x,.inl h1,h2⟩) (λ i H x H' _ ⟨h1,h2⟩=>⟨h1,λ xs h=>h2 xs (.inl h)⟩) (λ i H ⟨xs,h1,h2⟩=>⟨xs,.inl h1,h2⟩),⟨_,Heap.get?_push_size _ rfl,rfl,rfl⟩,λ b hb=>?_,h⟩
   have e:b=s.heap.objs.size:=by simpa using hb
   subst e
   exact I.fpOk (Nat.le_refl _) (I.hok.fresh (Nat.le_refl _))
  ·rename_i xs e
   obtain⟨its,rv,p,hz⟩:=I.tuple (.inl (.inl e))
   refine wpAny_pyIter_tuple (show s.heap.IsTuple a its.toArray from p) ⟨none,a1J,s.heap.objs.size,[s.heap.objs.size],_,Itt0 a,H,rfl,I.kept (t':=s.toks) λ b o e=>Heap.get?_push_of_some _ e,(a5D (K:=X.K) a _).imp (λ i H ⟨xs,x,h1,h2⟩=>⟨xs,x,.inl h1,h2⟩) (λ i H x H' _ ⟨h1,h2⟩=>⟨h1,λ xs h=>h2 xs (.inl h)⟩) (λ i H ⟨xs,h1,h2⟩=>⟨xs,.inl h1,h2⟩),⟨_,Heap.get?_push_size _ rfl,rfl,rfl⟩,λ b hb=>?_,h⟩
   have e:b=s.heap.objs.size:=by simpa using hb
   subst e
   exact I.fpOk (Nat.le_refl _) (I.hok.fresh (Nat.le_refl _))
  ·rename_i kvs e
   obtain⟨nf,o,eo,I'⟩:=M3 I e rfl
   exact it_dict (th:=some (a,.dK kvs)) (λ b u z=>by cases z;exact nf) I' a6 (h o)
  ·rename_i o kvs e
   exact it_dict a1J I e h
  ·rename_i kvs e
   obtain⟨nf,o,eo,I'⟩:=M3 I e rfl
   exact it_dT (th:=some (a,.dT kvs)) (λ b u z=>by cases z;exact nf) I' a6 (h o)
  ·rename_i o kvs e
   exact it_dT a1J I e h
  ·exact h.elim
 ·exact h.elim
def iOf (r:V->Hp->(It->Hp->Th->Prop)->Prop)(te:TE):TI2:=λ Z H R=>te Z H λ x H1=>r x H1 R
theorem pi_of {r:V->Hp->(It->Hp->Th->Prop)->Prop}{e:Expr}{te:TE}(hr:ItR X tg r)(he:PE X e te):PI2 X tg e (iOf r te):=λ pins s Z H R I h=>
 thn (he pins s Z H _ I h) λ v s1 ⟨x,H1,I1,r1,q1⟩=>hr pins s1 Z H1 x v R I1 r1 q1
def xI2:TI2:=λ _ _ _=>False
theorem pi2_x {e:Expr}:PI2 X tg e xI2:=λ _ _ _ _ _ _ h=>h.elim
def rngG (vs:List V)(H:Hp)(R:It->Hp->Th->Prop):Prop:=match vs with
 | [.int j]=>(-(2 ^ 62)<=j/\j < 2 ^ 62)/\R (Itr 0 j.toNat) H none
 | [.int i,.int j]=>(-(2 ^ 62)<=i/\i < 2 ^ 62/\-(2 ^ 62)<=j/\j < 2 ^ 62)/\R (Itr i (j - i).toNat) H none
 | _=>False
def a3j (ta:TA):TI2:=λ Z H R=>ta Z H λ vs H1=>rngG vs H1 R
theorem a4R {pins:List (Addr×Obj)}{Z:St}{R:It->Hp->Th->Prop}{v:Value}{s:Shared}(h:PIE X pins Z tg (λ J H=>R J H none) v s):PIE2 X pins Z tg R v s:=⟨none,a1J,h⟩
theorem pi_rng {e:Expr}{es:List Expr}{ta:TA}{p pos:Pos}(hg:Gl X "range")(hm:X.mg "range" = none)(ha:PA X (e::es) ta)(hs:(e::es).any p8=false):PI2 X tg (.Call (.Name "range" p) (e::es) [] pos) (a3j ta):=by
 rw[List.any_cons,Bool.or_eq_false_iff]at hs
 intro pins s Z H R I h
 refine Call_ (U6 I hg hm boot_range (PyProof.Rows.callWith_type1 (thn (ha pos pins s Z H _ I h) λ us s1 ⟨vs,H1,I1,r1,q1⟩=>?_) (j4 hs.1) (g9 hs.2).1))
 have q1:rngG vs H1 R:=q1
 unfold rngG at q1
 split at q1
 ·obtain⟨⟨h1,h2⟩,q⟩:=q1
  obtain⟨u,rfl,ru⟩:=y8 r1
  obtain⟨t,rfl⟩:=ru
  exact call_range_1 (thn (a4p (tg:=tg) (R:=λ J H=>R J H none) I1 (by omega) (by omega) h1 h2 (by simpa using q)) λ _ _ z=>a4R z)
 ·obtain⟨⟨h1,h2,h3,h4⟩,q⟩:=q1
  obtain⟨u,u2,rfl,ru,ru2⟩:=a2O r1
  obtain⟨t,rfl⟩:=ru
  obtain⟨t',rfl⟩:=ru2
  exact call_range_2 (thn (a4p (tg:=tg) (R:=λ J H=>R J H none) I1 h1 h2 h3 h4 q) λ _ _ z=>a4R z)
 ·exact q1.elim
@[irreducible] def J8 (x:V)(H:Hp)(R:It->Hp->Th->Prop):Prop:=match x with
 | .ref a=>match H a with
  | some (.dK kvs)=>∀ o,R (Itp a o kvs) (upd H a (.frz o (.dK kvs))) (some (a,.dK kvs))
  | some (.frz o (.dK kvs))=>R (Itp a o kvs) H none
  | some (.dT kvs)=>∀ o,R (Itq a o kvs) (upd H a (.frz o (.dT kvs))) (some (a,.dT kvs))
  | _=>False
 | _=>False
theorem a4S {es:List Expr}{k1:Nat}{tp:Pos}{pins:List (Addr×Obj)}{s:Shared}{Z:St}{H:Hp}{R:It->Hp->Th->Prop}{a v:Addr}{o:Obj}{kvs:List (Key×V)}{th:Th}(nf:∀ a u,th=some (a,u)->NF X a)(I:Inv X pins Z H s)(e:H a=some (.frz o (.dK kvs)))(hv:s.heap.IsItemsView v a)(h:R (Itp a o kvs) H th):wpAny (model X.prog X.w) X.A (pyIter (.ref v)) (PIE2 X pins Z (.Tuple es k1 tp) R) X.xe s:=by
 obtain⟨lo,_,eo,vs,ep,r,d⟩:=frz_at I e
 refine wpAny_pyIter_items hv d ⟨th,nf,s.heap.objs.size,[s.heap.objs.size],_,Itp a o kvs,H,rfl,I.kept (t':=s.toks) λ b o e=>Heap.get?_push_of_some _ e,a5X s.heap.objs.size a o r (a1E eo d),⟨.none,.none,Heap.get?_push_size _ rfl⟩,λ b hb=>?_,h⟩
 have e:b=s.heap.objs.size:=by simpa using hb
 subst e
 exact I.fpOk (Nat.le_refl _) (I.hok.fresh (Nat.le_refl _))
theorem it_itq {el:List Expr}{k1:Nat}{tp:Pos}{pins:List (Addr×Obj)}{s:Shared}{Z:St}{H:Hp}{R:It->Hp->Th->Prop}{a v:Addr}{o:Obj}{kvs:List (List Key×V)}{th:Th}(nf:∀ a u,th=some (a,u)->NF X a)(I:Inv X pins Z H s)(e:H a=some (.frz o (.dT kvs)))(hv:s.heap.IsItemsView v a)(h:R (Itq a o kvs) H th):wpAny (model X.prog X.w) X.A (pyIter (.ref v)) (PIE2 X pins Z (.Tuple el k1 tp) R) X.xe s:=by
 obtain⟨lo,_,xs,es,ep,pr,e4,r⟩:=a3Q I (.inr ⟨o,e⟩)
 obtain⟨o',r1,r2,r3⟩:=id r
 rw[(I.hok a _ e).1]at r1
 cases r1
 have hl:es.size=kvs.length:=by
  rw[<- Array.length_toList,e4,List.length_map]
  exact(Paired.length pr).symm
 refine raw_items hv r ⟨th,nf,s.heap.objs.size,[s.heap.objs.size],_,Itq a o kvs,H,rfl,I.kept (t':=s.toks) λ b o e=>Heap.get?_push_of_some _ e,turn_itq s.heap.objs.size a o hl r3,⟨.none,.none,Heap.get?_push_size _ rfl⟩,λ b hb=>?_,h⟩
 have e:b=s.heap.objs.size:=by simpa using hb
 subst e
 exact I.fpOk (Nat.le_refl _) (I.hok.fresh (Nat.le_refl _))
theorem pi_items {d:Expr}{td:TE}{es:List Expr}{k1:Nat}{tp apos cpos:Pos}(hd:PE X d td)(hb:w6 d=true)(hline:(apos.endLine==cpos.line)=true):PI2 X (.Tuple es k1 tp) (.Call (.Attribute d "items" apos) [] [] cpos) (iOf J8 td):=by
 intro pins s Z H R I h
 refine wpAny_Call_method0_late (F3 hb) hline (thn (hd pins s Z H _ I h) λ v s1 ⟨x,H1,I1,r1,q1⟩=>?_)
 replace q1:J8 x H1 R:=q1
 have go:∀ a:Addr,x=.ref a->(s1.TypeIs (.ref a) "dict" /\ (∀ b,Value.ref a=.ref b->∃ ob,s1.heap.get? b=some ob/\ob.dict=none)/\(a==sysModules)=false)->(∀ s2,Inv X pins Z H1 s2->s2.heap.IsItemsView s1.heap.objs.size a->wpAny (model X.prog X.w) X.A (pyIter (.ref s1.heap.objs.size)) (PIE2 X pins Z (.Tuple es k1 tp) R) X.xe s2) →
   ∃ T id,PlainAttrs T/\Slot T "items" id/\typeOf (.builtin id)=pure (.type "method_descriptor")/\s1.TypeIs v T/\(∀ a,v=.ref a->∃ ob,s1.heap.get? a=some ob/\ob.dict=none) ∧
    wpAny (model X.prog X.w) X.A (callWith cpos (.builtin id) [v] (backTo cpos (starEach [] X.env)) (backToKw cpos (keywordEach [] X.env))) (λ v s1=>wpAny (model X.prog X.w) X.A (pyIter v) (PIE2 X pins Z (.Tuple es k1 tp) R) X.xe s1) X.xe s1:=λ a ea hk next=>by
  subst ea
  cases r1
  obtain⟨ty,nd,lo⟩:=hk
  refine⟨"dict", "dict.items",PySem.F.plainAttrs_dict,PySem.F.slot_dict_items,PySem.F.type_dict_items,ty,nd,Calls.callWith_builtin rfl (PySem.evalArgs_none ?_)⟩
  refine call_meetsIn PySem.F.slot_dict_items ty PySem.F.entry_dict_items (PySem.F.args_dict_items_1 _) (a6f a lo) ⟨ty,?_⟩
  exact next _ (I1.kept (t':=s1.toks) λ b o e=>Heap.get?_push_of_some _ e) ⟨_,Heap.get?_push_size _ rfl,rfl,rfl⟩
 unfold J8 at q1
 split at q1
 ·rename_i a
  split at q1
  ·rename_i kvs e
   refine go a rfl (isD_at I1 (.inl ⟨kvs,.inl e⟩)) λ s2 I2 hv=>?_
   obtain⟨nf,o,eo,I'⟩:=M3 I2 e rfl
   exact a4S (th:=some (a,.dK kvs)) (λ b u z=>by cases z;exact nf) I' a6 hv (q1 o)
  ·rename_i o kvs e
   exact go a rfl (isD_at I1 (.inl ⟨kvs,.inr ⟨o,e⟩⟩)) λ s2 I2 hv=>a4S a1J I2 e hv q1
  ·rename_i kvs e
   refine go a rfl (isD_at I1 (.inr ⟨kvs,.inl e⟩)) λ s2 I2 hv=>?_
   obtain⟨nf,o,eo,I'⟩:=M3 I2 e rfl
   exact it_itq (th:=some (a,.dT kvs)) (λ b u z=>by cases z;exact nf) I' a6 hv (q1 o)
  ·exact q1.elim
 ·exact q1.elim
structure Cfg where
 K:PySem.W.Frag
 N:List Str
 names:List (Str×NameKind)
 fns:List (Str×Sp)
 fnd:List (Str×Sp×List V)
 mks:List (Str×Addr×Sp)
 mts:List (Str×Addr×Sp)
 fld:List (Str×Addr)
 glo:List (Str×V)
 nog:List Str
 scr:List Str
 E:XK
 fvs:List (Addr×Sp)
structure Fits (CX:CXT) (k:Nat) (X:Cx) (C:Cfg):Prop where
 K:X.K=C.K
 N:X.N=C.N
 nd:C.N.Nodup
 names:X.env.scope.names=C.names
 kind:X.env.scope.kind=.function
 calm:X.calm=true
 room:Room (k + 1) X.A
 pass:C2 CX X C.E
 no:∀ (o:List Env) (H:Hp) (s:Shared) (e:Value) (s':Shared),CX o H s E0 e s'->False
 fns:∀ x sp,C.fns.lookup x=some sp->∃ f fd ps,FnOk X.prog X.w X.K X.mg X.base CX k f fd ps sp/\X.mg x=some (.ref f)/\PySem.W.keepIn X.K (.ref f)=true/\Binds X.K fd ps []
 fnd:∀ x sp dv,C.fnd.lookup x=some (sp,dv)->∃ f fd ps ds,FnOk X.prog X.w X.K X.mg X.base CX k f fd ps sp/\X.mg x=some (.ref f)/\PySem.W.keepIn X.K (.ref f)=true/\Binds X.K fd ps ds/\Vals dv ds
 mks:∀ x cl sp,C.mks.lookup x=some (cl,sp)->∃ f fd ps,Mk X.K cl f/\FnOk X.prog X.w X.K X.mg X.base CX k f fd ps sp/\X.mg x=some (.ref cl)/\Binds X.K fd ps []
 mts:∀ m cl sp,C.mts.lookup m=some (cl,sp)->∃ f fd ps,Cls X.K cl/\Meth X.K cl m f/\FnOk X.prog X.w X.K X.mg X.base CX k f fd ps sp/\Binds X.K fd ps []
 fld:∀ f cl,C.fld.lookup f=some cl->Cls X.K cl/\NoAttr X.K cl f
 glo:∀ x v,C.glo.lookup x=some v->∃ u,X.mg x=some u/\RelV v u
 nog:∀ x∈C.nog,X.mg x=none
 fvs:∀ p∈C.fvs,∃ fd ps,FnOk X.prog X.w X.K X.mg X.base CX k p.1 fd ps p.2/\PySem.W.keepIn X.K (.ref p.1)=true/\Binds X.K fd ps []
def a3R (x:Str):Bool:=!(x==("__debug__" : Str))&&!(x==("__classdict__" : Str))
def nameG (C:Cfg)(x:Str):TE:=match a3R x with
 | true=>match C.names.lookup x with
  | some .globalImplicit=>match C.glo.lookup x with
   | some v=>tC v
   | none=>match C.nog.contains x,tyName x with
    | true,some T=>tC (.ty T)
    | _,_=>xE
  | some .local=>match z8 C.N x with
   | some i=>gv i
   | none=>xE
  | some .cell=>match z8 C.N x with
   | some i=>gv i
   | none=>xE
  | _=>xE
 | false=>xE
section
variable {CX:CXT}{k:Nat}{C:Cfg}
theorem a1K (F:Fits CX k X C)(x:Str)(pos:Pos):PE X (.Name x pos) (nameG C x):=by
 unfold nameG
 split
 ·rename_i ok
  simp only[a3R,Bool.and_eq_true,Bool.not_eq_true']at ok
  split
  ·rename_i e
   have hg:Gl X x:=by
    show X.env.scope.names.lookup x=_
    rw[F.names]
    exact e
   split
   ·rename_i v ev
    obtain⟨u,hm,r⟩:=F.glo x v ev
    exact pe_glob hg hm r ok.1
   ·split
    ·rename_i h1 h2
     obtain⟨b1,b2,b3⟩:=tyName_ok h2
     exact pe_bltn hg (F.nog x (by simpa using h1)) b1 rfl b2 b3
    ·exact y9
  ·rename_i e
   split
   ·rename_i i ei
    exact pe_gv (by rw[F.N];exact A6 ei) (.inl (by rw[F.names];exact e)) ok.1 ok.2
   ·exact y9
  ·rename_i e
   split
   ·rename_i i ei
    exact pe_gv (by rw[F.N];exact A6 ei) (.inr (.inl (by rw[F.names];exact e))) ok.1 ok.2
   ·exact y9
  ·exact y9
 ·exact y9
end
end
section
variable {prog:Program}{w:World}{A:Around}{E:Value->Shared->Prop}{s:Shared}{es:Array DictEntry}{ep:Nat}{r d:Addr}
end
section
variable {X:Cx}{pins:List (Addr×Obj)}{Z:St}{s0 s:Shared}
end
theorem a6g:typeLookup (.type "list_reverseiterator") "__len__" = pure none:=by
 rw[typeLookup_type,builtinLookup_eq_fast]
 kernel_rfl
theorem lri_hint:typeLookup (.type "list_reverseiterator") "__length_hint__" = pure (some (.builtin "list_reverseiterator.__length_hint__")):=by
 rw[typeLookup_type,builtinLookup_eq_fast]
 kernel_rfl
section
variable {prog:Program}{w:World}{A:Around}{E:Value->Shared->Prop}{s:Shared}
theorem hint_rev {r:Addr}{Q:Bool->Shared->Prop}(ty:s.TypeIs (.ref r) "list_reverseiterator")(h:Q false s):wpAny (model prog w) A (Builtin.List.listLengthHint (.ref r)) Q E s:=by
 unfold Builtin.List.listLengthHint
 refine wpAny_bind (wpAny_specialOf ty a6g ?_)
 show wpAny _ _ (specialOf (.ref r) (Str.ofString "__length_hint__") >>= _) _ _ _
 refine wpAny_bind (wpAny_specialOf ty lri_hint ?_)
 generalize hi:("list_reverseiterator.__length_hint__" : String)=j
 wp_delta
 rw[show splitId j=some ("list_reverseiterator", "__length_hint__") from by subst hi;decide +kernel]
 subst hi
 refine wpAny_bind (wpAny_isInstance (b:=true) (T := "list_reverseiterator") ty (by rw[isSubtype_type];kernel_rfl) ?_)
 refine wpAny_ite_split (λ z=>absurd z (by decide)) λ _=>?_
 refine wpAny_ite_split (λ _=>?_) λ z=>absurd (by decide +kernel) z
 refine wpAny_ite_split (λ z=>absurd z (by decide)) λ _=>?_
 exact wpAny_pure h
def RevP (items:Array Value):Nat->Value->Prop:=λ i v=>items[items.size - 1 - i]?=some v
theorem a6h {R:Result->Shared->Prop}{it l S:Addr}{items:Array Value}{c₀:Nat}(hh:A.handled=none)(hit:s.heap.IsRevIter it l ((items.size:Int) - 1))(hl:s.heap.IsList l items)(hne:l≠it)(h1:S≠it)(h2:S≠l)(hn:items.size<=sizeLine)
  (hS:s.heap.get? S=some { cls:=.type "list",data:=.seq #[] c₀ })
  (hR:∀ h' tk acc c,(∀ b o,b≠S->b≠it->s.heap.get? b=some o->h'.get? b=some o)->h'.get? S=some { cls:=.type "list",dict:=none,data:=.seq acc c,slots:=#[] }->ItemsOf (RevP items) acc items.size->R (.ok (.ret .none)) { s with heap:=h',toks:=tk }):
  wpAny (model prog w) A.in1 (Builtin.List.listExtendWith (.ref S) (.ref it) .none) (λ fin s'=>match fin with
   | .done f=>R (.ok f) s'
   | .again c'=>c'.quiet=true/\codeAny (model prog w) A c' R s') (λ e s'=>R (.error e) s') s:=by
 have Wk:=Walks.listRev (prog:=prog) (w:=w) (A:=A.in1) hh it l hne items
 have hSf:S∉[it,l]:=by
  simp only[List.mem_cons,List.not_mem_nil,or_false,not_or]
  exact⟨h1,h2⟩
 unfold Builtin.List.listExtendWith
 refine wpAny_bind (wpAny_typeOf hit.typeIs ?_)
 have e1:Builtin.List.listSameRef (.ref S) (.ref it)=false:=by simp[Builtin.List.listSameRef,h1]
 have e2:(Value.type "list_reverseiterator" == Value.type "list")=false/\(Value.type "list_reverseiterator" == Value.type "tuple")=false:=by decide
 simp only[e1,e2.1,e2.2,Bool.or_false,Bool.false_eq_true,if_false]
 refine wpAny_bind (wpAny_pyIter_revIter hit ?_)
 refine wpAny_bind (wpAny_holding (hint_rev hit.typeIs ?_))
 have loop:∀ (h:Heap) (c₁ tk:Nat),h.IsRevIter it l ((items.size:Int) - 1)->h.IsList l items->(∀ b o,b≠S->s.heap.get? b=some o->h.get? b=some o)->h.get? S=some { cls:=.type "list",data:=.seq #[] c₁ } →
   codeAny (model prog w) A (.builtin "list.extend.loop" ⟨[.ref S,.ref it,.none],[]⟩) R { s with heap:=h,toks:=tk }:=by
  intro h c₁ tk k1 k2 k3 k4
  refine codeAny_extend_loopS Wk.toS hn S hSf .none items.size 0 _ #[] c₁ rfl (Nat.zero_le _) ⟨Nat.zero_le _,by simpa using k1,k2⟩ k4 (ItemsOf.nil _) λ s' acc c hm g1 g2=>?_
  rw[Moved.eq_with hm]
  refine hR s'.heap s'.toks acc c (λ b o b1 b2 e=>hm.heap b o (λ z=>?_) (k3 b o b1 e)) g1 g2
  rcases List.mem_cons.mp z with z | z
  ·exact b1 z
  ·exact b2 (List.mem_singleton.mp z)
 refine wpAny_ite_split (λ z=>absurd z (by decide)) λ _=>wpAny_pure ⟨plainId_quiet PySem.F.plain_extend_loop _,loop s.heap c₀ s.toks hit hl (λ _ _ _ e=>e) hS⟩
theorem rev_list {Q:Value->Shared->Prop}{it l:Addr}{items:Array Value}(hh:A.handled=none)(hit:s.heap.IsRevIter it l ((items.size:Int) - 1))(hl:s.heap.IsList l items)(hne:l≠it)(hn:items.size<=sizeLine)
  (hQ:∀ h' tk acc c,(∀ b o,b≠it->s.heap.get? b=some o->h'.get? b=some o)->h'.get? s.heap.objs.size=some { cls:=.type "list",dict:=none,data:=.seq acc c,slots:=#[] }->ItemsOf (RevP items) acc items.size->Q (.ref s.heap.objs.size) { s with heap:=h',toks:=tk }):
  wpAny (model prog w) A (call (.type "list") [.ref it]) Q E s:=by
 refine callType_codes (Q₁:=λ o s₁=>o=.ref s.heap.objs.size/\s₁={ s with heap:=s.heap.push { cls:=.type "list",data:=.seq #[] } }) PySem.F.called_list (PySem.F.typeCall_list_1 _) PySem.F.entry_list_init (code_list_new _ ⟨rfl,rfl⟩) λ o s₁ hz=>?_
 obtain⟨rfl,rfl⟩:=hz
 have l1:it < s.heap.objs.size:=by obtain⟨o,ho,_⟩:=id hit;exact Heap.lt_size ho
 have l2:l < s.heap.objs.size:=by obtain⟨o,ho,_⟩:=id hl;exact Heap.lt_size ho
 have hS:(s.heap.push { cls:=.type "list",data:=.seq #[] }).get? s.heap.objs.size=some { cls:=.type "list",data:=.seq #[] }:=Heap.get?_push_size _ rfl
 have k:∀ b o,s.heap.get? b=some o->(s.heap.push { cls:=.type "list",data:=.seq #[] }).get? b=some o:=λ b o e=>Heap.get?_push_of_some _ e
 generalize s.heap.push { cls:=.type "list",data:=.seq #[] }=h₁ at hS k ⊢
 refine⟨⟨_,hS,rfl⟩,PySem.F.args_list_init_2 _ _,?_⟩
 show wpAny _ _ (Builtin.List.listItems (.ref s.heap.objs.size) >>= λ old=>Builtin.List.listUpdate (.ref s.heap.objs.size) (λ _=>#[]) >>= λ _=>letGo old.toList.reverse >>= λ _=>Builtin.List.listExtendWith (.ref s.heap.objs.size) (.ref it) .none) _ _ { s with heap:=h₁ }
 refine wpAny_bind ?_
 unfold Builtin.List.listItems
 refine wpAny_bind (wpAny_seqItems hS rfl (wpAny_pure ?_))
 refine wpAny_bind (show wpAny _ _ (updateSeq s.heap.objs.size λ _=>#[]) _ _ _ from wpAny_updateSeq hS rfl ?_)
 have hS₂:=Heap.get?_update_self (Obj.mapSeq λ _=>(#[]:Array Value)) hS rfl
 refine wpAny_bind (wpAny_letGo ?_)
 have k2:∀ b o,b≠s.heap.objs.size->h₁.get? b=some o->(h₁.update s.heap.objs.size (Obj.mapSeq λ _=>(#[]:Array Value))).get? b=some o:=λ b o hb e=>(Heap.get?_update_other _ _ (Ne.symm hb)).trans e
 have q1:it≠s.heap.objs.size:=Nat.ne_of_lt l1
 have q2:l≠s.heap.objs.size:=Nat.ne_of_lt l2
 refine a6h (A:=A.in1) (s:={ s with heap:=h₁.update s.heap.objs.size (Obj.mapSeq λ _=>(#[]:Array Value)) }) hh (hit.at λ o e=>k2 _ _ q1 (k _ _ e)) (hl.at λ o e=>k2 _ _ q2 (k _ _ e)) hne (Ne.symm q1) (Ne.symm q2) hn hS₂ λ h' tk acc c kk g1 g2=>?_
 exact⟨rfl,hQ h' tk acc c (λ b o hb e=>kk b o (Nat.ne_of_lt (Heap.lt_size e)) hb (k2 _ _ (Nat.ne_of_lt (Heap.lt_size e)) (k _ _ e))) g1 g2⟩
end
@[irreducible] def a1L (vs:List V)(H:Hp)(Q:VK):Prop:=match vs with
 | [.ref a]=>match H a with
  | some (.lst xs)=>newO H (.lst xs.reverse) Q
  | _=>False
 | _=>False
theorem lstRev_i {a:Addr}{xs:List V}{H:Hp}{Q:VK}(h:H a=some (.lst xs))(q:newO H (.lst xs.reverse) Q):a1L [.ref a] H Q:=by
 unfold a1L
 simp only[h]
 exact q
def a1M (ta:TA):TE:=λ Z H Q=>ta Z H λ vs H1=>a1L vs H1 Q
section
variable {X:Cx}
theorem a6i {e:Expr}{es:List Expr}{ta:TA}{p p2 pos2 pos:Pos}(hc:X.calm=true)(hg:Gl X "list")(hm:X.mg "list" = none)(hg2:Gl X "reversed")(hm2:X.mg "reversed" = none)(ha:PA X (e::es) ta)(hs:(e::es).any p8=false):
  PE X (.Call (.Name "list" p) [.Call (.Name "reversed" p2) (e::es) [] pos2] [] pos) (a1M ta):=by
 rw[List.any_cons,Bool.or_eq_false_iff]at hs
 intro pins s Z H Q I h
 refine Call_ (U6 I hg hm (u:=.type "list") (by first | rfl | kernel_rfl) (PyProof.Rows.callWith_type1 (Calls.spliced_cons (Q:=λ us s1=>wpAny (model X.prog X.w) X.A (call (.type "list") us) (EP X pins Z Q) X.xe s1) ?_) rfl rfl))
 refine Call_ (U6 I hg2 hm2 T6 (PyProof.Rows.callWith_type1 (thn (ha pos2 pins s Z H _ I h) λ us s1 ⟨vs,H1,I1,r1,q1⟩=>?_) (j4 hs.1) (g9 hs.2).1))
 replace q1:a1L vs H1 Q:=q1
 unfold a1L at q1
 split at q1
 ·rename_i a
  split at q1
  ·rename_i xs ex
   obtain⟨u,rfl,ru⟩:=y8 r1
   cases ru
   obtain⟨its,rv,p',hz⟩:=I1.list (.inl (.inl ex))
   have hl:=rv.length
   refine call_reversed_list p'.isList (Calls.spliced_nil ?_)
   have la:a < s1.heap.objs.size:=by obtain⟨o,ho,_⟩:=id p'.isList;exact Heap.lt_size ho
   have st:(s1.heap.push (revObj a (((its.toArray.size:Nat):Int) - 1))).IsRevIter s1.heap.objs.size a (((its.toArray.size:Nat):Int) - 1):=⟨_,Heap.get?_push_size _ rfl,rfl,rfl⟩
   refine rev_list (s:={ s1 with heap:=s1.heap.push (revObj a (((its.toArray.size:Nat):Int) - 1)) }) (items:=its.toArray) (I.ok.hd hc) st (p'.isList.at λ o e=>Heap.get?_push_of_some _ e) (Nat.ne_of_lt la) (by rw[List.size_toArray];omega) λ h' tk acc c k g1 g2=>?_
   have kk:∀ b o,s1.heap.get? b=some o->h'.get? b=some o:=λ b o e=>k b o (Nat.ne_of_lt (Heap.lt_size e)) (Heap.get?_push_of_some _ e)
   have ea:acc.toList=its.reverse:=by
    refine List.ext_getElem? λ i=>?_
    have g21:acc.size=its.toArray.size:=g2.1
    by_cases hi:i < its.length
    ·have hi2:i < acc.size:=by rw[g21,List.size_toArray];exact hi
     have:=g2.2 i acc[i] (by simp[hi2])
     unfold RevP at this
     rw[List.getElem?_reverse hi,Array.getElem?_toList,Array.getElem?_eq_getElem hi2,<- this]
     simp
    ·rw[List.getElem?_eq_none (by rw[Array.length_toList,g21,List.size_toArray];omega),List.getElem?_eq_none (by rw[List.length_reverse];omega)]
   have sz1:s1.heap.objs.size<=(s1.heap.push (revObj a (((its.toArray.size:Nat):Int) - 1))).objs.size:=by rw[Heap.size_push];omega
   refine⟨.ref _,_,I1.laid (t':=tk) (o:=.lst xs.reverse) kk sz1 ?_,rfl,q1.at _ (I1.hok.fresh sz1)⟩
   refine⟨by rw[List.length_reverse];exact hz,_,c,rv.reverse,?_⟩
   rw[<- ea,Array.toArray_toList]
   exact g1
  ·exact q1.elim
 ·exact q1.elim
end
structure W where
 E:Cfg->Expr->TE
 T:Cfg->Expr->TT
 S:Cfg->Stmt->TS
def wA (w:W)(C:Cfg):List Expr->TA
 | []=>a7
 | e::es=>match p8 e with
  | true=>xA
  | false=>a0 (w.E C e) (wA w C es)
def constG:Const->TE
 | .int i=>tC (.int i)
 | .bool b=>tC (.bl b)
 | .none=>tC .non
 | .str x=>tC (.str x)
 | _=>xE
def andG (w:W)(C:Cfg):List Expr->TE
 | []=>xE
 | [a]=>w.E C a
 | a::r=>a1D (w.E C a) (andG w C r)
def orG (w:W)(C:Cfg):List Expr->TE
 | []=>xE
 | [a]=>w.E C a
 | a::r=>tOrG (w.E C a) (orG w C r)
def andB (w:W)(C:Cfg):List Expr->TT
 | []=>xT
 | [a]=>w.T C a
 | a::r=>X1 (w.T C a) (andB w C r)
def orB (w:W)(C:Cfg):List Expr->TT
 | []=>xT
 | [a]=>w.T C a
 | a::r=>tOrB (w.T C a) (orB w C r)
def a1N:Expr->Bool
 | .Set _ _ _=>true
 | _=>false
def a1d:Expr->Bool
 | .Slice _ _ _ _=>true
 | _=>false
def a0n:Expr->Bool
 | .ListComp _ _ _ _=>true
 | .SetComp _ _ _ _=>true
 | .DictComp _ _ _ _ _=>true
 | _=>false
def isScr (C:Cfg):Expr->Bool
 | .Name x _=>C.scr.contains x
 | _=>false
def cmpE (w:W)(C:Cfg)(a:Expr):List CmpOp->List Expr->TE
 | [op],[b]=>match a1N b with
  | false=>tOp (cmpG op) (w.E C a) (w.E C b)
  | true=>xE
 | [op,op'],[b,c]=>match a1N c with
  | false=>V0 (cmpG op) (cmpG op') (w.E C a) (w.E C b) (w.E C c)
  | true=>xE
 | [op,op',op''],[b,c,d]=>match a1N d with
  | false=>chain3 (cmpG op) (cmpG op') (cmpG op'') (w.E C a) (w.E C b) (w.E C c) (w.E C d)
  | true=>xE
 | _,_=>xE
def a3k (t:TE):TO:=λ Z H Q=>t Z H λ x H1=>match x with
 | .int i=>Q (some i) H1
 | _=>False
def poG (w:W)(C:Cfg):Option Expr->TO
 | none=>a1b
 | some e=>a3k (w.E C e)
@[irreducible] def slH (a:Addr)(lo hi:Option Int)(H:Hp)(Q:VK):Prop:=match H a with
 | some (.lst xs)=>newO H (.lst (a0i xs lo hi)) Q
 | _=>False
def slG:V->Option Int->Option Int->Hp->VK->Prop:=λ x lo hi H Q=>match x with
 | .str z=>z.length<=sizeLine/\Q (.str (Txt.slice z lo hi)) H
 | .ref a=>slH a lo hi H Q
 | _=>False
def lenS (K:PySem.W.Frag):List V->Hp->VK->Prop:=λ xs H Q=>∃ p ys,xs=[.ref p]/\SqL K H p ys/\Q (.int ys.length) H
def a3S (fvs:List (Addr×Sp))(E:XK)(tf:TE)(ta:TA):TE:=λ Z H Q=>tf Z H λ x H1=>∃ p∈fvs,x=.ref p.1/\ta Z H1 λ vs H2=>p.2 (vs++[]) H2 Q E
def revOf (x:Str):List Expr->Option (List Expr)
 | [.Call (.Name y _) es [] _]=>if x = "list" /\ y = "reversed" /\ es.any p8=false then some es else none
 | _=>none
theorem revOf_is {x:Str}{es as:List Expr}(h:revOf x es=some as):x = "list" /\ ∃ p pos,es=[.Call (.Name "reversed" p) as [] pos]/\as.any p8=false:=by
 unfold revOf at h
 split at h
 ·split at h
  ·rename_i c
   cases h
   obtain⟨c1,c2,c3⟩:=c
   subst c2
   exact⟨c1,_,_,rfl,c3⟩
  ·cases h
 ·cases h
def callG (w:W)(C:Cfg)(x:Str)(es:List Expr):TE:=match a3R x,C.names.lookup x,es.any p8 with
 | true,some .globalImplicit,false=>match C.fns.lookup x with
  | some sp=>d3 sp [] C.E (wA w C es)
  | none=>match C.fnd.lookup x with
    | some (sp,dv)=>d3 sp dv C.E (wA w C es)
    | none=>match C.mks.lookup x with
   | some (cl,sp)=>tMake cl sp [] C.E (wA w C es)
   | none=>match C.nog.contains x,es with
    | true,e::r=>match bltF x with
     | some (i,rd)=>match i == "len" && isScr C e&&r.isEmpty with
      | true=>tCB (lenS C.K) (wA w C (e::r))
      | false=>tCB rd (wA w C (e::r))
     | none=>match bltC x with
      | some (i,rd)=>match revOf x (e::r),C.names.lookup ("reversed" : Str),C.nog.contains ("reversed" : Str) with
        | some (a::as),some .globalImplicit,true=>a1M (wA w C (a::as))
        | _,_,_=>tCB rd (wA w C (e::r))
      | none=>xE
    | _,_=>xE
 | true,some .local,false=>match es with
  | []=>xE
  | _::_=>a3S C.fvs C.E (nameG C x) (wA w C es)
 | true,some .cell,false=>match es with
  | []=>xE
  | _::_=>a3S C.fvs C.E (nameG C x) (wA w C es)
 | _,_,_=>xE
def methG (w:W)(C:Cfg)(o:Expr)(m:Str)(apos cpos:Pos)(es:List Expr):TE:=match w6 o,es.any p8,decide (es.length < 29),(apos.endLine==cpos.line) with
 | true,false,true,true=>match C.mts.lookup m with
  | some (cl,sp)=>i9 cl m sp C.E (w.E C o) (wA w C es)
  | none=>O1 m (w.E C o) (wA w C es)
 | _,_,_,_=>xE
def N3 (C:Cfg)(x:Str):Option Nat:=match C.names.lookup x with
 | some .local=>z8 C.N x
 | some .cell=>z8 C.N x
 | _=>none
def gNm (C:Cfg)(x:Str):TG:=match N3 C x with
 | some i=>a8 i
 | none=>xG
def gNms (C:Cfg):List Expr->TGs
 | []=>gNil
 | .Name x _::r=>C7 (gNm C x) (gNms C r)
 | _::_=>λ _ _ _ _=>False
def wG (C:Cfg):Expr->TG
 | .Name x _=>gNm C x
 | .Tuple ts _ _=>O3 ts.length (gNms C ts)
 | _=>xG
def isTup:Expr->Bool
 | .Tuple _ _ _=>true
 | _=>false
def wI (w:W)(C:Cfg)(tg:Expr):Expr->TI2
 | .Call (.Name x _) (e::es) [] _=>match decide (x = "range"),C.names.lookup x,C.nog.contains x,(e::es).any p8 with
  | true,some .globalImplicit,true,false=>a3j (wA w C (e::es))
  | true,_,_,_=>xI2
  | false,_,_,_=>match decide (x = "reversed"),C.names.lookup x,C.nog.contains x,(e::es).any p8 with
   | true,some .globalImplicit,true,false=>iRevG (wA w C (e::es))
   | true,_,_,_=>xI2
   | false,_,_,_=>iOf d9 (callG w C x (e::es))
 | .Call (.Attribute d m apos) [] [] cpos=>match isTup tg&&decide (m = "items")&&w6 d&&(apos.endLine==cpos.line) with
  | true=>iOf J8 (w.E C d)
  | false=>iOf d9 (w.E C (.Call (.Attribute d m apos) [] [] cpos))
 | .Set _ _ _=>xI2
 | e=>iOf d9 (w.E C e)
def a0o (C:Cfg):List (Str×NameKind)->Option (List (Str×Nat))
 | []=>some []
 | (x,.free)::r=>match z8 C.N x,C.names.lookup x,a0o C r with
  | some j,some .cell,some l=>some ((x,j)::l)
  | _,_,_=>none
 | (_,.cell)::_=>none
 | _::r=>a0o C r
def relN (C:Cfg)(names:List (Str×NameKind)):List (Str×NameKind):=names.map λ (n,k)=>if (k==NameKind.free&&C.names.lookup n==some .cell)=true then(n,.cell) else(n,k)
def a3T:Expr->Option (List Str)
 | .Name x _=>some [x]
 | .Tuple ts _ _=>ts.mapM λ e=>match e with
  | .Name x _=>some x
  | _=>none
 | _=>none
def ifsG (w:W)(C:Cfg):List Expr->TT
 | []=>a0k
 | [c]=>w.T C c
 | _=>xT
def F4 (tn:List Str)(fr:List (Str×Nat))(names:List (Str×NameKind)):Bool:=
 decide (tn++fr.map (·.1)).Nodup&&(names.all λ y=>names.lookup y.1==some y.2)&&tn.all λ x=>names.lookup x==some .local
def N4 (C:Cfg)(tn:List Str)(fr:List (Str×Nat))(names:List (Str×NameKind)):Cfg:={ C with N:=tn++fr.map (·.1),names:=relN C names,E:=E0,scr:=[] }
def compG (w:W)(C:Cfg)(elt:Expr)(gens:List Comprehension)(scope:Scope):TE:=match gens with
 | [⟨tg,it,ifs,0⟩]=>match a3T tg,a0o C scope.names,scope.kind,a1N it with
  | some tn,some fr,.function,false=>match F4 tn fr scope.names with
   | true=>o0 (wI w C tg it) tn fr (wG (N4 C tn fr scope.names) tg) (ifsG w (N4 C tn fr scope.names) ifs) (w.E (N4 C tn fr scope.names) elt)
   | false=>xE
  | _,_,_,_=>xE
 | _=>xE
def j6 (t:TA):TE:=λ Z H Q=>t Z H λ xs H1=>xs.length<=sizeLine/\newO H1 (.lst xs) Q
def k9 (t:TA):TE:=λ Z H Q=>t Z H λ xs H1=>xs.length<=sizeLine/\newO H1 (.tup xs) Q
def rSlS (K:PySem.W.Frag):V->Option Int->Option Int->Hp->VK->Prop:=λ x lo hi H Q=>∃ a xs,x=.ref a/\SqL K H a xs/\newO H (.lst (a0i xs lo hi)) Q
def N5:TE:=λ _ H Q=>(newO H (.dP []) Q\/newO H (.dK []) Q)\/newO H (.dT []) Q
def a1O (w:W)(C:Cfg):List (Option Expr)->List Expr->Option (List (TE×TE))
 | [],[]=>some []
 | some k::ks,v::vs=>match a1O w C ks vs with
  | some l=>some ((w.E C k,w.E C v)::l)
  | none=>none
 | _,_=>none
def locK (C:Cfg):List (Option Expr)->Bool
 | [some (.Name x _)]=>(N3 C x).isSome
 | _=>false
def dispG (w:W)(C:Cfg)(ks:List (Option Expr))(vs:List Expr):TE:=match locK C ks,a1O w C ks vs,decide (ks.length<=15) with
 | true,some [(tk,tv)],_=>tDispT tk tv
 | false,some [],_=>N5
 | false,some l,true=>a2X l
 | _,_,_=>xE
def a3l (w:W)(C:Cfg)(e:Expr):TE:=match e with
 | .Constant c _ _=>constG c
 | .Name x _=>nameG C x
 | .BinOp a op b _=>tOp (binG op) (w.E C a) (w.E C b)
 | .UnaryOp .Not a _=>tNotG (w.E C a)
 | .UnaryOp .USub a _=>tUn negG (w.E C a)
 | .BoolOp .And es _=>andG w C es
 | .BoolOp .Or es _=>orG w C es
 | .Compare a ops bs _=>cmpE w C a ops bs
 | .IfExp c a b _=>tIfG (w.T C c) (w.E C a) (w.E C b)
 | .List es _=>j6 (wA w C es)
 | .Tuple es _ _=>k9 (wA w C es)
 | .Dict ks vs _=>dispG w C ks vs
 | .Subscript a (.Slice lo hi none _) _=>match isScr C a with
  | true=>tSl (rSlS C.K) (w.E C a) (poG w C lo) (poG w C hi)
  | false=>tSl slG (w.E C a) (poG w C lo) (poG w C hi)
 | .Subscript a b _=>match a1d b,isScr C a with
  | false,true=>tOp (rIxL C.K) (w.E C a) (w.E C b)
  | false,false=>tOp e8 (w.E C a) (w.E C b)
  | true,_=>xE
 | .Attribute o f _=>match C.fld.lookup f,w6 o with
  | some cl,true=>A3 cl f (w.E C o)
  | _,_=>xE
 | .Call (.Name x _) es [] _=>callG w C x es
 | .Call (.Attribute o m apos) es [] cpos=>methG w C o m apos cpos es
 | .ListComp elt gens scope _=>compG w C elt gens scope
 | _=>xE
def stepT (w:W)(C:Cfg)(e:Expr):TT:=match e with
 | .UnaryOp .Not a _=>J4 (w.T C a)
 | .UnaryOp _ _ _=>xT
 | .BoolOp .And es _=>andB w C es
 | .BoolOp .Or es _=>orB w C es
 | .IfExp _ _ _ _=>xT
 | .Compare a ops bs _=>bT (cmpE w C a ops bs)
 | e=>ptG (a3l w C e)
def wSs (w:W)(C:Cfg):List Stmt->TS
 | []=>g6
 | [s]=>w.S C s
 | s::r=>b7 (w.S C s) (wSs w C r)
def sIf (c:TT)(t u:TS):TS:=λ D Z H=>c Z H λ b H1=>br b (t D Z H1) (u D Z H1)
@[irreducible] def x9 (c:TT)(tb:TS):TS:=λ D Z H=>∃ W:Nat->St->Hp->Prop,(∃ m,W m Z H)/\∀ m Z H,W m Z H →
 c Z H λ b H1=>br b (∃ N:St->Hp->Prop,(∀ Z' H',N Z' H'->∃ m',m' < m/\W m' Z' H')/\tb { D with nx:=N,ct:=N,bk:=D.nx } Z H1) (D.nx Z H1)
def isDoc:Expr->Bool
 | .Constant (.str _) _ _=>true
 | _=>false
@[irreducible] def sfH (cl:Addr)(f:Str)(p:Addr)(y:V)(Z:St)(H2:Hp)(N:St->Hp->Prop):Prop:=match H2 p with
 | some (.ins C dx fs)=>C=cl/\fs.length < 1000/\N Z (upd H2 p (.ins C dx (l8 f y fs)))
 | _=>False
def a1P (cl:Addr)(f:Str)(to te:TE):TS:=λ D Z H=>te Z H λ y H1=>to Z H1 λ x H2=>match x with
 | .ref p=>sfH cl f p y Z H2 D.nx
 | _=>False
def asgG (w:W)(C:Cfg)(tg e:Expr):TS:=match tg with
 | .Name x _=>match N3 C x with
  | some i=>d7 (w.E C e) (a8 i)
  | none=>xS
 | .Subscript o i _=>match a1d i,a0n e with
  | false,false=>d7 (w.E C e) (W0 (w.E C o) (w.E C i) A9)
  | _,_=>xS
 | .Attribute o f _=>match C.fld.lookup f,a0n e with
  | some cl,false=>a1P cl f (w.E C o) (w.E C e)
  | _,_=>xS
 | _=>xS
def augG (w:W)(C:Cfg)(tg:Expr)(op:Operator)(e:Expr):TS:=match tg with
 | .Name x _=>match N3 C x with
  | some i=>tAug i (w.E C e) (ipG op)
  | none=>xS
 | .Subscript o i _=>match a1d i with
  | false=>tAugS (w.E C o) (w.E C i) (w.E C e) dgG (ipG op) A9
  | true=>xS
 | _=>xS
def stepS (w:W)(C:Cfg)(s:Stmt):TS:=match s with
 | .Expr e _=>match isDoc e,a0n e with
  | true,_=>g6
  | false,false=>K0 (w.E C e)
  | _,_=>xS
 | .Return (some e) _=>f9 (w.E C e)
 | .Return none _=>tRetN
 | .Pass _=>g6
 | .If c a b _=>sIf (w.T C c) (wSs w C a) (wSs w C b)
 | .While c body [] _=>x9 (w.T C c) (wSs w C body)
 | .For tg it body [] _=>match a1N it with
  | false=>v5 (wI w C tg it) (wG C tg) (wSs w C body)
  | true=>xS
 | .Assign [tg] e _=>asgG w C tg e
 | .AugAssign tg op e _=>augG w C tg op e
 | _=>xS
def step (w:W):W:=⟨a3l w,stepT w,stepS w⟩
def wp:Nat->W
 | 0=>⟨λ _ _=>xE,λ _ _=>xT,λ _ _=>xS⟩
 | n + 1=>step (wp n)
structure Snd (w:W):Prop where
 E:∀ {CX:CXT}{k:Nat}{X:Cx}{C:Cfg},Fits CX k X C->∀ e,PE X e (w.E C e)
 T:∀ {CX:CXT}{k:Nat}{X:Cx}{C:Cfg},Fits CX k X C->∀ e,PT X e (w.T C e)
 A:∀ {CX:CXT}{k:Nat}{X:Cx}{C:Cfg},Fits CX k X C->(∀ x,X.fn x=true)->∀ (x:Str) (i:Nat) (pos' pos:Pos) (e:Expr),N3 C x=some i->PS X (.Assign [.Name x pos'] e pos) (d7 (w.E C e) (a8 i))
 S:∀ {CX:CXT}{k:Nat}{X:Cx}{C:Cfg},Fits CX k X C->PassesOwn (model X.prog X.w) X.A X.env X.xe->(∀ x,X.fn x=true)->∀ s,PS X s (w.S C s)
section
variable {CX:CXT}{k:Nat}{X:Cx}{C:Cfg}{w:W}
theorem C9 (hw:Snd w)(F:Fits CX k X C):∀ es,PA X es (wA w C es)
 | []=>pa_nil
 | e::es=>by
  unfold wA
  split
  ·exact pa_x
  ·rename_i h
   exact pa_cons (hw.E F e) (C9 hw F es) (j4 h)
theorem constG_ok {j:Nat}{pos:Pos}:∀ c,PE X (.Constant c j pos) (constG c)
 | .int _=>pe_int
 | .bool _=>pe_bl
 | .none=>pe_non
 | .str _=>pe_str
 | .float _=>y9
 | .complex _ _=>y9
 | .bytes _=>y9
 | .ellipsis=>y9
theorem andG_ok (hw:Snd w)(F:Fits CX k X C){pos:Pos}:∀ es,PE X (.BoolOp .And es pos) (andG w C es)
 | []=>y9
 | [a]=>pe_one (hw.E F a)
 | a::b::r=>pe_andG (hw.E F a) (andG_ok hw F (b::r))
theorem orG_ok (hw:Snd w)(F:Fits CX k X C){pos:Pos}:∀ es,PE X (.BoolOp .Or es pos) (orG w C es)
 | []=>y9
 | [a]=>pe_one (hw.E F a)
 | a::b::r=>pe_orG (hw.E F a) (orG_ok hw F (b::r))
theorem pw_x {e:Expr}:PW X e xT:=λ _ _ _ _ _ _ _ h=>h.elim
theorem andB_ok (hw:Snd w)(F:Fits CX k X C){pos:Pos}:∀ es,PW X (.BoolOp .And es pos) (andB w C es)
 | []=>pw_x
 | [a]=>pw_and1 (hw.T F a)
 | a::b::r=>pw_andB (hw.T F a) (andB_ok hw F (b::r))
theorem orB_ok (hw:Snd w)(F:Fits CX k X C){pos:Pos}:∀ es,PW X (.BoolOp .Or es pos) (orB w C es)
 | []=>pw_x
 | [a]=>pw_or1 (hw.T F a)
 | a::b::r=>pw_orB (hw.T F a) (orB_ok hw F (b::r))
theorem R6 {op:CmpOp}{b:Expr}(h:a1N b=false):behindInMarks op b=false:=by
 cases b <;> first | rfl | cases h
theorem cmpE_ok (hw:Snd w)(F:Fits CX k X C){a:Expr}{ops:List CmpOp}{bs:List Expr}{pos:Pos}:PE X (.Compare a ops bs pos) (cmpE w C a ops bs):=by
 unfold cmpE
 split
 ·split
  ·exact pe_cmpR (x6 F.room _) (hw.E F _) (hw.E F _) (R6 (by assumption))
  ·exact y9
 ·split
  ·exact pe_chainG (x6 F.room _) (x6 F.room _) (hw.E F _) (hw.E F _) (hw.E F _) (R6 (by assumption))
  ·exact y9
 ·split
  ·exact pe_chain3 (x6 F.room _) (x6 F.room _) (x6 F.room _) (hw.E F _) (hw.E F _) (hw.E F _) (hw.E F _) (R6 (by assumption))
  ·exact y9
 ·exact y9
theorem pt_bx {e:Expr}:PT X e (bT xE):=λ _ _ _ _ _ _ h=>h.elim
theorem cmpT_ok (hw:Snd w)(F:Fits CX k X C){a:Expr}{ops:List CmpOp}{bs:List Expr}{pos:Pos}:PT X (.Compare a ops bs pos) (bT (cmpE w C a ops bs)):=by
 unfold cmpE
 split
 ·split
  ·exact pt_cmpG (x6 F.room _) (hw.E F _) (hw.E F _) (R6 (by assumption))
  ·exact pt_bx
 ·split
  ·exact pt_chainG (x6 F.room _) (x6 F.room _) (hw.E F _) (hw.E F _) (hw.E F _) (R6 (by assumption))
  ·exact pt_bx
 ·split
  ·exact pt_chain3 (x6 F.room _) (x6 F.room _) (x6 F.room _) (hw.E F _) (hw.E F _) (hw.E F _) (hw.E F _) (R6 (by assumption))
  ·exact pt_bx
 ·exact pt_bx
theorem po_G {e:Expr}{t:TE}(h:PE X e t):PO X (some e) (a3k t):=λ pins s Z H Q I q=>po_some (PE.mo h) pins s Z H Q I ⟨_,q,λ x H1 q1=>by
 cases x <;> first | exact⟨_,rfl,q1⟩ | exact q1.elim⟩
theorem a3U (hw:Snd w)(F:Fits CX k X C):∀ o,PO X o (poG w C o)
 | none=>po_none
 | some e=>po_G (hw.E F e)
theorem sl_G:SlR X slG:=λ pins s Z H x v vl vu lo hi sl Q I rx hs pl pu h=>by
 unfold slG at h
 split at h
 ·exact sl_str pins s Z H _ v vl vu lo hi sl Q I rx hs pl pu ⟨_,rfl,h.1,h.2⟩
 ·unfold slH at h
  split at h
  ·exact sl_list pins s Z H _ v vl vu lo hi sl Q I rx hs pl pu ⟨_,_,rfl,.inl (.inl (by assumption)),h.at⟩
  ·exact h.elim
 ·exact h.elim
theorem gl_of (F:Fits CX k X C){x:Str}(h:C.names.lookup x=some .globalImplicit):Gl X x:=by
 show X.env.scope.names.lookup x=_
 rw[F.names]
 exact h
theorem call_lenS (F:Fits CX k X C):CallR X (.builtin "len") (lenS C.K):=CallR.imp W7 λ xs H Q ⟨p,ys,e,h,q⟩=>⟨p,ys,e,.inl (by rw[F.K];exact h),q⟩
theorem a4W (F:Fits CX k X C){x:Str}{e:Expr}{es:List Expr}{p pos:Pos}{tf:TE}{ta:TA}(hf:PE X (.Name x p) tf)(ha:PA X (e::es) ta)(hs:(e::es).any p8=false):PE X (.Call (.Name x p) (e::es) [] pos) (a3S C.fvs C.E tf ta):=by
 rw[List.any_cons,Bool.or_eq_false_iff]at hs
 intro pins s Z H Q I h
 refine wpAny_Call_Name_kw (thn (hf pins s Z H _ I h) λ v s1 ⟨y,H1,I1,r1,p',hp,ey,q1⟩=>?_)
 subst ey
 cases r1
 obtain⟨fd,ps,G,hk,hb⟩:=F.fvs p' hp
 refine PySem.W.callWith_K (h₀:=X.base) I1.ok.mod.kin hk (thn (ha pos pins s1 Z H1 _ I1 q1) λ us s2 ⟨vs,H2,I2,r2,q2⟩=>⟨I2.kIn,?_⟩) (j4 hs.1) (g9 hs.2).1
 exact a1s G (F.room.mono (Nat.le_succ _)) hb .nil F.pass I2 r2 q2
theorem a4X (hw:Snd w)(F:Fits CX k X C){x:Str}{es:List Expr}{p pos:Pos}:PE X (.Call (.Name x p) es [] pos) (callG w C x es):=by
 unfold callG
 split
 ·rename_i ok e hs
  simp only[a3R,Bool.and_eq_true,Bool.not_eq_true']at ok
  have hg:=gl_of F e
  split
  ·rename_i sp ef
   obtain⟨f,fd,ps,G,hm,hk,hb⟩:=F.fns x sp ef
   cases es with
   | nil=>exact a4s G (F.room.mono (Nat.le_succ _)) hg hm hk hb .nil F.pass ok.1
   | cons a r=>
    have hs':=hs
    rw[List.any_cons,Bool.or_eq_false_iff]at hs'
    exact pe_call G (F.room.mono (Nat.le_succ _)) hg hm hk hb .nil F.pass (C9 hw F _) ok.1 (j4 hs'.1) (g9 hs'.2).1
  ·split
   ·rename_i sp dv ef
    obtain⟨f,fd,ps,ds,G,hm,hk,hb,hd⟩:=F.fnd x sp dv ef
    cases es with
    | nil=>exact a4s G (F.room.mono (Nat.le_succ _)) hg hm hk hb hd F.pass ok.1
    | cons a r=>
     have hs':=hs
     rw[List.any_cons,Bool.or_eq_false_iff]at hs'
     exact pe_call G (F.room.mono (Nat.le_succ _)) hg hm hk hb hd F.pass (C9 hw F _) ok.1 (j4 hs'.1) (g9 hs'.2).1
   split
   ·rename_i cl sp ef
    obtain⟨f,fd,ps,M,G,hm,hb⟩:=F.mks x cl sp ef
    cases es with
    | nil=>exact pe_make0 M G F.room hg hm hb .nil F.pass ok.1
    | cons a r=>
     have hs':=hs
     rw[List.any_cons,Bool.or_eq_false_iff]at hs'
     exact pe_make M G F.room hg hm hb .nil F.pass (C9 hw F _) ok.1 (j4 hs'.1) (g9 hs'.2).1
   ·split
    ·rename_i a r hn
     have hm:=F.nog x (by simpa using hn)
     have hs':=hs
     rw[List.any_cons,Bool.or_eq_false_iff]at hs'
     split
     ·rename_i i rd eb
      obtain⟨c1,c2,c3,c4⟩:=bltF_ok F.calm eb
      split
      ·rename_i hc
       simp only[Bool.and_eq_true]at hc
       have ei:i = "len" := by simpa using hc.1.1
       subst ei
       exact a4v (call_lenS F) hg hm c2 (C9 hw F _) c3 c4 (j4 hs'.1) (g9 hs'.2).1
      ·exact a4v c1 hg hm c2 (C9 hw F _) c3 c4 (j4 hs'.1) (g9 hs'.2).1
     ·split
      ·rename_i i rd eb
       obtain⟨c1,c2,c3,c4⟩:=bltC_ok F.calm eb
       skip
       ·split
        ·rename_i b bs er hl hc
         obtain⟨rfl,q1,q2,he,h1⟩:=revOf_is er
         rw[he]
         exact a6i F.calm hg hm (gl_of F hl) (F.nog _ (by simpa using hc)) (C9 hw F _) h1
        ·exact pe_callTy c1 hg hm c2 (C9 hw F _) c3 c4 (j4 hs'.1) (g9 hs'.2).1
      ·exact y9
    ·exact y9
 ·rename_i ok e hs
  cases es with
  | nil=>exact y9
  | cons a r=>exact a4W F (a1K F _ _) (C9 hw F _) hs
 ·rename_i ok e hs
  cases es with
  | nil=>exact y9
  | cons a r=>exact a4W F (a1K F _ _) (C9 hw F _) hs
 ·exact y9
theorem methG_ok (hw:Snd w)(F:Fits CX k X C){o:Expr}{m:Str}{es:List Expr}{apos cpos:Pos}:PE X (.Call (.Attribute o m apos) es [] cpos) (methG w C o m apos cpos es):=by
 unfold methG
 split
 ·rename_i h1 h2 h3 h4
  have h3':es.length < 29:=of_decide_eq_true h3
  split
  ·rename_i cl sp em
   obtain⟨f,fd,ps,cc,mm,G,hb⟩:=F.mts m cl sp em
   cases es with
   | nil=>exact pe_methG0 (hw.E F o) cc mm G (F.room.mono (Nat.le_succ _)) hb F.pass h1 h4
   | cons a r=>exact pe_methG (hw.E F o) cc mm G (F.room.mono (Nat.le_succ _)) hb F.pass (C9 hw F _) h1 h2 h3' h4
  ·cases es with
   | nil=>exact pe_bmG0 F.room (hw.E F o) h1 h4
   | cons a r=>exact pe_bmG F.room (hw.E F o) (C9 hw F _) h1 h2 h3' h4
 ·exact y9
theorem a1Q (F:Fits CX k X C){x:Str}{i:Nat}(h:N3 C x=some i):X.N[i]?=some x/\Loc X.env.scope x/\(X.env.scope.names.lookup x=some .local\/C.names.lookup x=some .cell):=by
 unfold N3 at h
 split at h
 ·rename_i e
  have e':X.env.scope.names.lookup x=some .local:=by rw[F.names];exact e
  exact⟨by rw[F.N];exact A6 h,.inl e',.inl e'⟩
 ·rename_i e
  have e':X.env.scope.names.lookup x=some .cell:=by rw[F.names];exact e
  exact⟨by rw[F.N];exact A6 h,.inr e',.inr e⟩
 ·cases h
theorem a3V (F:Fits CX k X C):X.N.Nodup:=by rw[F.N];exact F.nd
theorem gNm_ok (F:Fits CX k X C){x:Str}{pos:Pos}(hx:C.names.lookup x=some .cell->X.fn x=true):PG X (.Name x pos) (gNm C x):=by
 unfold gNm
 split
 ·rename_i i ei
  obtain⟨h1,h2,h3⟩:=a1Q F ei
  exact pg_name (a3V F) h1 h2 (h3.elim .inr λ z=>.inl (hx z))
 ·exact pg_x
theorem gNms_ok (F:Fits CX k X C):∀ ts:List Expr,(∀ x pos,Expr.Name x pos∈ts->C.names.lookup x=some .cell->X.fn x=true)->PGs X ts (gNms C ts)
 | [],_=>pgs_nil
 | e::r,h=>by
  cases e with
  | Name x pos=>exact pgs_cons (gNm_ok F (h x pos (by simp))) (gNms_ok F r λ y q hy=>h y q (List.mem_cons_of_mem _ hy))
  | _=>exact λ _ _ _ _ _ _ _ _ _ z=>z.elim
theorem a1R {C:Cfg}{env:Env}:∀ {ts:List Expr},(∀ v Z H Q,gNms C ts v Z H Q->False)\/((assignEach ts env).length=ts.length/\(assignEach ts env).findIdx? (·.1)=none)
 | []=>.inr ⟨rfl,rfl⟩
 | e::r=>by
  cases e with
  | Name x pos=>
   rcases a1R (C:=C) (env:=env) (ts:=r) with h | ⟨h1,h2⟩
   ·exact .inl λ v Z H Q ⟨a,b,e,q⟩=>by
     unfold gNm at q
     cases hsl:N3 C x with
     | none=>rw[hsl]at q;exact q
     | some i=>rw[hsl]at q;exact h _ _ _ _ q
   ·refine .inr ⟨?_,?_⟩
    ·show((false,_)::assignEach r env).length=_
     simp[h1]
    ·show List.findIdx? _ ((false,_)::assignEach r env)=none
     simp[List.findIdx?_cons,h2]
  | _=>exact .inl λ v Z H Q z=>z
theorem gTup_ok (F:Fits CX k X C){ts:List Expr}{j:Nat}{pos:Pos}(h:∀ x pos,Expr.Name x pos∈ts->C.names.lookup x=some .cell->X.fn x=true):PG X (.Tuple ts j pos) (O3 ts.length (gNms C ts)):=by
 rcases a1R (C:=C) (env:=X.env) (ts:=ts) with z | ⟨h1,h2⟩
 ·exact λ pins s Z H v u Q I r ⟨a,xs,e,hr,hl,q⟩=>(z _ _ _ _ q).elim
 ·exact pg_tup0 F.calm (gNms_ok F ts h) h1 h2
end
def O2 (env:Env):List (Str×NameKind)->List (Str×Addr)->List (Str×Addr)
 | [],acc=>acc
 | (x,.free)::r,acc=>O2 env r ((x,(env.cells.lookup x).getD 0)::acc)
 | (_,_)::r,acc=>O2 env r acc
theorem clos_of {env:Env}:∀ {names:List (Str×NameKind)}{acc:List (Str×Addr)},(∀ x,(x,NameKind.free)∈names->∃ c,env.cells.lookup x=some c) →
  (forIn names acc (λ (p:Str×NameKind) (r:List (Str×Addr))=>if (p.2==.free)=true then do let c ← cellOf env p.1;pure (ForInStep.yield ((p.1,c)::r)) else pure (ForInStep.yield r)):Sem (List (Str×Addr)))=pure (O2 env names acc)
 | [],acc,_=>by rw[List.forIn_nil];rfl
 | (x,kd)::r,acc,h=>by
  rw[List.forIn_cons]
  have ih:=λ acc=>clos_of (env:=env) (names:=r) (acc:=acc) λ y hy=>h y (List.mem_cons_of_mem _ hy)
  cases kd with
  | free=>
   obtain⟨c,hc⟩:=h x (by simp)
   have e1:cellOf env x=pure c:=by unfold cellOf;rw[hc]
   simp only[beq_self_eq_true,if_true,e1,pure_bind]
   rw[ih]
   show _=pure (O2 env r ((x,(env.cells.lookup x).getD 0)::acc))
   rw[hc]
   rfl
  | «local»=>simpa[O2] using ih acc
  | cell=>simpa[O2] using ih acc
  | globalExplicit=>simpa[O2] using ih acc
  | globalImplicit=>simpa[O2] using ih acc
theorem a0Q {scope:Scope}{env:Env}(h:∀ x,(x,NameKind.free)∈scope.names->∃ c,env.cells.lookup x=some c):closureFor scope env=pure (O2 env scope.names []):=by
 have:=clos_of (env:=env) (names:=scope.names) (acc:=[]) h
 unfold closureFor
 simpa using this
theorem a1S {env:Env}:∀ {names:List (Str×NameKind)}{acc:List (Str×Addr)}{p:Str×Addr},p∈O2 env names acc->p∈acc\/((p.1,NameKind.free)∈names/\p.2=(env.cells.lookup p.1).getD 0)
 | [],acc,p,h=>.inl h
 | (x,kd)::r,acc,p,h=>by
  cases kd with
  | free=>
   rcases a1S (names:=r) h with h | ⟨h1,h2⟩
   ·rcases List.mem_cons.mp h with rfl | h
    ·exact .inr ⟨by simp,rfl⟩
    ·exact .inl h
   ·exact .inr ⟨List.mem_cons_of_mem _ h1,h2⟩
  | _=>
   rcases a1S (names:=r) h with h | ⟨h1,h2⟩
   ·exact .inl h
   ·exact .inr ⟨List.mem_cons_of_mem _ h1,h2⟩
theorem a1T {env:Env}:∀ {names:List (Str×NameKind)}{acc:List (Str×Addr)}{p:Str×Addr},p∈acc->p∈O2 env names acc
 | [],acc,p,h=>h
 | (x,kd)::r,acc,p,h=>by
  cases kd with
  | free=>exact a1T (names:=r) (List.mem_cons_of_mem _ h)
  | _=>exact a1T (names:=r) h
theorem a4Y {env:Env}:∀ {names:List (Str×NameKind)}{acc:List (Str×Addr)}{x:Str},(x,NameKind.free)∈names->∃ c,(x,c)∈O2 env names acc
 | (y,kd)::r,acc,x,h=>by
  rcases List.mem_cons.mp h with e | h2
  ·cases e
   exact⟨_,a1T (names:=r) (List.mem_cons_self)⟩
  ·cases kd <;> exact a4Y (names:=r) h2
theorem C3 {α β:Type}[BEq α][LawfulBEq α]:∀ {l:List (α×β)}{a:α}{b:β},l.lookup a=some b->(a,b)∈l
 | (x,y)::r,a,b,h=>by
  rw[List.lookup_cons]at h
  split at h
  ·rename_i e
   cases h
   have:=eq_of_beq e
   subst this
   simp
  ·exact List.mem_cons_of_mem _ (C3 h)
theorem T7 {α β:Type}[BEq α][LawfulBEq α]:∀ {l:List (α×β)}{a:α}{b:β},(a,b)∈l->∃ c,l.lookup a=some c
 | (x,y)::r,a,b,h=>by
  rw[List.lookup_cons]
  split
  ·exact⟨_,rfl⟩
  ·rename_i ne
   rcases List.mem_cons.mp h with e | h
   ·cases e
    simp at ne
   ·exact T7 h
section
variable {CX:CXT}{k:Nat}{X:Cx}{C:Cfg}{w:W}{scope:Scope}{tn:List Str}{fr:List (Str×Nat)}
theorem a3W (F:Fits CX k X C):(relabel scope X.env).names=relN C scope.names:=by
 unfold relabel relN
 simp only
 apply List.map_congr_left
 rintro⟨n,kd⟩ _
 have e1:(X.env.scope.kind==ScopeKind.function)=true:=by rw[F.kind];rfl
 have e2:X.env.kindOf n=C.names.lookup n:=by show X.env.scope.names.lookup n=_;rw[F.names]
 simp only[e1,e2,Bool.and_true]
theorem a0E {names:List (Str×NameKind)}{x:Str}:∀ {kd:NameKind},names.lookup x=some kd->(relN C names).lookup x=some (if (kd==NameKind.free&&C.names.lookup x==some .cell)=true then .cell else kd):=by
 induction names with
 | nil=>intro kd h;cases h
 | cons p r ih=>
  intro kd h
  obtain⟨n,q⟩:=p
  rw[List.lookup_cons]at h
  unfold relN
  rw[List.map_cons,List.lookup_cons]
  split at h
  ·rename_i e
   cases h
   have e':=eq_of_beq e
   subst e'
   by_cases hc:(kd==NameKind.free&&C.names.lookup x==some .cell)=true
   ·simp only[hc,if_true,beq_self_eq_true]
   ·simp only[hc,if_false,beq_self_eq_true,Bool.false_eq_true]
  ·rename_i ne
   have e1:(x==(if (q==NameKind.free&&C.names.lookup n==some .cell)=true then(n,NameKind.cell) else(n,q)).1)=false:=by
    split <;> simpa using ne
   simp only[e1]
   exact ih h
theorem a0p:∀ {names:List (Str×NameKind)}{fr:List (Str×Nat)},a0o C names=some fr->(∀ y∈names,y.2≠.cell)/\(∀ x,(x,NameKind.free)∈names->C.names.lookup x=some .cell) ∧
  ∀ q∈fr,z8 C.N q.1=some q.2/\C.names.lookup q.1=some .cell/\(q.1,NameKind.free)∈names
 | [],fr,h=>by
  cases h
  exact⟨λ y hy=>by simp at hy,λ x hx=>by simp at hx,λ q hq=>by simp at hq⟩
 | (x,kd)::r,fr,h=>by
  cases kd with
  | free=>
   unfold a0o at h
   split at h
   ·rename_i j l e1 e2 e3
    cases h
    obtain⟨i1,i2,i3⟩:=a0p e3
    refine⟨λ y hy=>?_,λ z hz=>?_,λ q hq=>?_⟩
    ·rcases List.mem_cons.mp hy with rfl | hy
     ·simp
     ·exact i1 y hy
    ·rcases List.mem_cons.mp hz with e | hz
     ·cases e;exact e2
     ·exact i2 z hz
    ·rcases List.mem_cons.mp hq with rfl | hq
     ·exact⟨e1,e2,by simp⟩
     ·obtain⟨a,b,c⟩:=i3 q hq
      exact⟨a,b,List.mem_cons_of_mem _ c⟩
   ·cases h
  | cell=>cases h
  | _=>
   obtain⟨i1,i2,i3⟩:=a0p (names:=r) (fr:=fr) h
   refine⟨λ y hy=>?_,λ z hz=>?_,λ q hq=>?_⟩
   ·rcases List.mem_cons.mp hy with rfl | hy
    ·simp
    ·exact i1 y hy
   ·rcases List.mem_cons.mp hz with e | hz
    ·cases e
    ·exact i2 z hz
   ·obtain⟨a,b,c⟩:=i3 q hq
    exact⟨a,b,List.mem_cons_of_mem _ c⟩
theorem a3m (F:Fits CX k X C)(ok:X.Ok)(hf:a0o C scope.names=some fr)(hk:scope.kind=.function)(hb:F4 tn fr scope.names=true):CompOk X scope tn fr (O2 X.env scope.names []):=by
 obtain⟨f1,f2,f3⟩:=a0p hf
 simp only[F4,Bool.and_eq_true]at hb
 obtain⟨⟨b1,b2⟩,b3⟩:=hb
 have b2':∀ y∈scope.names,scope.names.lookup y.1=some y.2:=λ y hy=>by simpa using List.all_eq_true.mp b2 y hy
 have kx:∀ x,X.env.kindOf x=C.names.lookup x:=λ x=>by show X.env.scope.names.lookup x=_;rw[F.names]
 have hc:∀ x,(x,NameKind.free)∈scope.names->∃ c,X.env.cells.lookup x=some c:=λ x hx=>ok.has x (.inl (by rw[kx];exact f2 x hx))
 have sub:∀ x c,(O2 X.env scope.names []).lookup x=some c->X.env.cells.lookup x=some c:=λ x c h=>by
  rcases a1S (C3 h) with z | ⟨h1,h2⟩
  ·simp at z
  ·obtain⟨c',hc'⟩:=hc x h1
   simp only at h2
   rw[hc']at h2
   simp only[Option.getD_some]at h2
   rw[h2]
   exact hc'
 have has:∀ x,(x,NameKind.free)∈scope.names->∃ c,(O2 X.env scope.names []).lookup x=some c:=λ x hx=>by
  obtain⟨c,h⟩:=a4Y (env:=X.env) (acc:=[]) hx
  exact T7 h
 refine⟨a0Q hc,hk,f1,λ y hy hl=>by rw[b2' y hy,hl],?_,λ x hx=>?_,sub⟩
 ·-- the free names
  have:∀ l:List (Str×Nat),(∀ q∈l,q∈fr)->FreeOk X scope (O2 X.env scope.names []) l:=by
   intro l
   induction l with
   | nil=>exact λ _=>.nil
   | cons q r ih=>
    intro h
    obtain⟨x,j⟩:=q
    obtain⟨a,b,c⟩:=f3 (x,j) (h _ (by simp))
    refine .cons (by rw[F.N];exact A6 a) (by rw[kx];exact b) ?_ ?_ (ih λ q hq=>h q (List.mem_cons_of_mem _ hq))
    ·rw[a3W F,a0E (b2' _ c)]
     simp[b]
    ·obtain⟨cc,e⟩:=has x c
     rw[e,sub x cc e]
  exact this fr λ q hq=>hq
 ·rw[a3W F]at hx
  have hin:(x,NameKind.free)∈scope.names:=by
   have:∃ kd,(relN C scope.names).lookup x=some kd/\(kd=.cell\/kd=.free):=by
    rcases hx with h | h
    ·exact⟨_,h,.inl rfl⟩
    ·exact⟨_,h,.inr rfl⟩
   obtain⟨kd,h1,h2⟩:=this
   have hm:=C3 h1
   unfold relN at hm
   obtain⟨⟨n,q⟩,hm1,hm2⟩:=List.mem_map.mp hm
   simp only at hm2
   split at hm2
   ·rename_i hcond
    cases hm2
    have:q=.free:=by
     simp only[Bool.and_eq_true]at hcond
     exact eq_of_beq hcond.1
    subst this
    exact hm1
   ·cases hm2
    rcases h2 with rfl | rfl
    ·exact absurd rfl (f1 _ hm1)
    ·exact hm1
  exact has x hin
theorem R7 (F:Fits CX k X C)(hk:scope.kind=.function)(hb:F4 tn fr scope.names=true)(cl:List (Str×Addr))(d:CDyn):Fits CX k (k7 X tn fr scope cl d) (N4 C tn fr scope.names) where
 K:=F.K
 N:=rfl
 nd:=by
  simp only[F4,Bool.and_eq_true]at hb
  exact of_decide_eq_true hb.1.1
 names:=a3W F
 kind:=hk
 calm:=F.calm
 room:=F.room
 pass:=λ pins Z H s e s' I h=>(F.no _ _ _ _ _ h).elim
 no:=F.no
 fns:=F.fns
 fnd:=F.fnd
 mks:=F.mks
 mts:=F.mts
 fld:=F.fld
 glo:=F.glo
 nog:=F.nog
 fvs:=F.fvs
theorem a0q:∀ {tn l:List Str}{x:Str}{i:Nat},x∈tn->z8 (tn++l) x=some i->i < tn.length
 | y::r,l,x,i,hx,h=>by
  rw[List.cons_append]at h
  unfold z8 at h
  split at h
  ·cases h
   simp
  ·rename_i ne
   rcases List.mem_cons.mp hx with e | hx
   ·exact absurd e.symm ne
   ·cases e:z8 (r++l) x with
    | none=>rw[e]at h;cases h
    | some j=>
     rw[e]at h
     cases h
     have:=a0q hx e
     simp
     omega
theorem a4Z {x:Str}{i:Nat}(hx:x∈tn)(h:N3 (N4 C tn fr scope.names) x=some i):i < tn.length:=by
 unfold N3 at h
 split at h
 ·exact a0q hx h
 ·exact a0q hx h
 ·cases h
theorem kg_Nm {x:Str}(hx:x∈tn):U8 tn.length (gNm (N4 C tn fr scope.names) x):=by
 unfold gNm
 split
 ·rename_i e
  exact kg_name (a4Z hx e)
 ·exact λ v Z H Q h=>h.elim
theorem kg_Nms:∀ {ts:List Expr},(∀ x pos,Expr.Name x pos∈ts->x∈tn)->a3L tn.length (gNms (N4 C tn fr scope.names) ts)
 | [],_=>kg_nil
 | e::r,h=>by
  cases e with
  | Name x pos=>
   intro vs Z H Q ⟨v,q,e,g⟩
   refine⟨v,q,e,?_⟩
   have hx:=h x pos (by simp)
   have ih:=kg_Nms (ts:=r) λ y p hy=>h y p (List.mem_cons_of_mem _ hy)
   unfold gNm at g ⊢
   cases e2:N3 (N4 C tn fr scope.names) x with
   | none=>rw[e2]at g;exact g.elim
   | some i=>
    rw[e2]at g
    have:=ih _ _ _ _ g
    have e3:(Z.set i (some v)).drop tn.length=Z.drop tn.length:=List.drop_set_of_lt (a4Z hx e2)
    rw[e3]at this
    exact this
  | _=>exact λ vs Z H Q z=>z.elim
theorem a5a {α β:Type}{f:α->Option β}:∀ {xs:List α}{ys:List β}{x:α}{y:β},xs.mapM f=some ys->x∈xs->f x=some y->y∈ys
 | a::r,ys,x,y,h,hx,hf=>by
  rw[mapM_cons]at h
  cases e:f a with
  | none=>rw[e]at h;cases h
  | some z=>
   cases e2:r.mapM f with
   | none=>rw[e,e2]at h;cases h
   | some q=>
    rw[e,e2]at h
    cases h
    rcases List.mem_cons.mp hx with rfl | hx
    ·rw[e]at hf;cases hf;simp
    ·exact List.mem_cons_of_mem _ (a5a e2 hx hf)
end
section
variable {CX:CXT}{k:Nat}{X:Cx}{C:Cfg}{w:W}
theorem a0r {it:Expr}{env:Env}(h:a1N it=false):∀ x,foldedSetIterable it env x=pure x:=λ x=>by
 cases it <;> first | rfl | cases h
theorem wI_ok (hw:Snd w)(F:Fits CX k X C){tg:Expr}:∀ it,PI2 X tg it (wI w C tg it):=λ it=>by
 unfold wI
 split
 ·rename_i x p e es pos
  split
  ·rename_i h1 h2 h3 h4
   have ex:x = "range" := of_decide_eq_true h1
   subst ex
   exact pi_rng (gl_of F h2) (F.nog _ (by simpa using h3)) (C9 hw F _) h4
  ·exact pi2_x
  ·split
   ·rename_i h1 h2 h3 h4
    have ex:x = "reversed" := of_decide_eq_true h1
    subst ex
    exact pi_rev (gl_of F h2) (F.nog _ (by simpa using h3)) (C9 hw F _) h4
   ·exact pi2_x
   ·exact pi_of it_G (a4X hw F)
 ·split
  ·rename_i h
   simp only[Bool.and_eq_true]at h
   obtain⟨⟨⟨h1,h2⟩,h3⟩,h4⟩:=h
   have ex:=of_decide_eq_true h2
   subst ex
   cases tg <;> first | (cases h1;done) | skip
   exact pi_items (hw.E F _) h3 h4
  ·exact pi_of it_G (hw.E F _)
 ·exact pi2_x
 ·exact pi_of it_G (hw.E F _)
theorem ep_thaw {pins:List (Addr×Obj)}{Z:St}{Q:VK}{v:Value}{s:Shared}(h:EP X pins Z (anyQ X Q) v s):EP X pins Z Q v s:=by
 obtain⟨x,H,I,r,q | ⟨a,o,u,nf,e,q⟩⟩:=h
 ·exact⟨x,H,I,r,q⟩
 ·exact⟨x,_,O5 I e nf,r,q⟩
theorem ifsG_ok (hw:Snd w)(F:Fits CX k X C):∀ ifs,PIfs X ifs (ifsG w C ifs)
 | []=>pif_nil
 | [c]=>pif_one (hw.T F c)
 | _::_::_=>λ _ _ _ _ _ _ h=>h.elim
theorem block_tg {scope:Scope}{tn:List Str}{fr:List (Str×Nat)}(hb:F4 tn fr scope.names=true){x:Str}(hx:x∈tn):(relN C scope.names).lookup x=some .local:=by
 simp only[F4,Bool.and_eq_true]at hb
 have:=List.all_eq_true.mp hb.2 x hx
 rw[a0E (kd:=.local) (by simpa using this)]
 rfl
theorem tg_in {tg:Expr}{tn:List Str}(h:a3T tg=some tn):(∀ x pos,tg=.Name x pos->x∈tn)/\∀ ts j pos,tg=.Tuple ts j pos->∀ x p,Expr.Name x p∈ts->x∈tn:=by
 refine⟨λ x pos e=>?_,λ ts j pos e x p hx=>?_⟩
 ·subst e
  cases h
  simp
 ·subst e
  exact a5a h hx rfl
theorem tg_ok {scope:Scope}{tn:List Str}{fr:List (Str×Nat)}{tg:Expr}(F:Fits CX k X C)(hk:scope.kind=.function)(hb:F4 tn fr scope.names=true)(ht:a3T tg=some tn)(cl:List (Str×Addr)):
  (∀ d,PG (k7 X tn fr scope cl d) tg (wG (N4 C tn fr scope.names) tg))/\U8 tn.length (wG (N4 C tn fr scope.names) tg):=by
 obtain⟨t1,t2⟩:=tg_in ht
 have nc:∀ x,x∈tn->(N4 C tn fr scope.names).names.lookup x=some .cell->False:=λ x hx h=>by
  rw[show(N4 C tn fr scope.names).names.lookup x=some .local from block_tg hb hx]at h
  cases h
 cases tg with
 | Name x pos=>exact⟨λ d=>gNm_ok (R7 F hk hb cl d) λ h=>(nc x (t1 x pos rfl) h).elim,kg_Nm (t1 x pos rfl)⟩
 | Tuple ts j pos=>exact⟨λ d=>gTup_ok (R7 F hk hb cl d) λ x p hx h=>(nc x (t2 ts j pos rfl x p hx) h).elim,kg_tup (kg_Nms (t2 ts j pos rfl))⟩
 | _=>cases ht
theorem compG_ok (hw:Snd w)(F:Fits CX k X C){elt:Expr}{gens:List Comprehension}{scope:Scope}{pos:Pos}:PE X (.ListComp elt gens scope pos) (compG w C elt gens scope):=by
 unfold compG
 split
 ·rename_i tg it ifs
  split
  ·rename_i tn fr e1 e2 e3 e4
   split
   ·rename_i hb
    intro pins s Z H Q I h
    obtain⟨g1,g2⟩:=tg_ok F e3 hb e1 (O2 X.env scope.names [])
    exact thn (pe_comp F.calm (a3m F I.ok e2 e3 hb) g2 (pi_old (wI_ok hw F it)) g1 (λ d=>ifsG_ok hw (R7 F e3 hb _ d) ifs) (λ d=>hw.E (R7 F e3 hb _ d) elt) (a0r e4) pins s Z H (anyQ X Q) I (a3d h)) λ _ _ z=>ep_thaw z
   ·exact y9
  ·exact y9
 ·exact y9
theorem ps_setC {x:Str}{pos' pos cpos:Pos}{elt tg it:Expr}{ifs:List Expr}{scope:Scope}{tn:List Str}{fr:List (Str×Nat)}{wi:TI}{g:TG}{tt:TT}{te:TE}{cl:List (Str×Addr)}{i:Nat}
  (hc:X.calm=true)(ok:CompOk X scope tn fr cl)(kg:U8 tn.length g)(hi:PI X tg it wi)
  (hg:∀ d,PG (k7 X tn fr scope cl d) tg g)(ht:∀ d,PIfs (k7 X tn fr scope cl d) ifs tt)(he:∀ d,PE (k7 X tn fr scope cl d) elt te)(hs:∀ x,foldedSetIterable it X.env x=pure x)
  (hN:X.N.Nodup)(hx:X.N[i]?=some x)(hl:Loc X.env.scope x)(hf:X.fn x=true)(sw:swapsWith (.ListComp elt [⟨tg,it,ifs,0⟩] scope cpos) (some (.Name x pos')) pos.line X.env=pure true)
  {pins:List (Addr×Obj)}{s:Shared}{Z:St}{H:Hp}{D:Ends}(I:Inv X pins Z H s)(h:tComp wi tn fr g tt te Z H λ v H1=>D.nx (Z.set i (some v)) H1):
  wpAny (model X.prog X.w) X.A (exec (.Assign [.Name x pos'] (.ListComp elt [⟨tg,it,ifs,0⟩] scope cpos) pos) X.env) (SP X pins D) X.xe s:=by
 rw[exec_Assign_Name_used x pos' _ pos sw]
 refine wpAny_bind (wpAny_standAt ?_)
 show wpAny _ _ (evalThenUse (.ListComp elt [⟨tg,it,ifs,0⟩] scope cpos) X.env (assign (.Name x pos') X.env) >>= λ _=>pure Flow.next) _ _ _
 refine wpAny_bind ?_
 show wpAny _ _ (comprehension (.ListComp elt [⟨tg,it,ifs,0⟩] scope cpos) scope X.env _ (newList []) false (eval it X.env) (some (assign (.Name x pos') X.env)) >>= λ _=>pure ()) _ _ _
 refine wpAny_bind ?_
 refine wpAny_comprehension_free (use:=some (assign (.Name x pos') X.env)) rfl hs ok.clos ok.kind ok.names (a3c (RR:=λ acc Cc=>compPost (model X.prog X.w) X.A X.xe (some (assign (.Name x pos') X.env)) _ acc Cc) hc ok kg hi hg ht he I h ?_)
 intro p Cc G s' I' f m q
 obtain⟨m,hm⟩:=m
 show wpAny _ _ (assign (.Name x pos') X.env (.ref p)) _ _ _
 show wpAny _ _ (do standAt pos';bindName X.env x (.ref p)) _ _ _
 refine wpAny_bind (wpAny_standAt ?_)
 refine bindName_ ?_
 refine a2N I' hN hx hl (v:=.ref p) rfl (λ s'' I'' ⟨a,sb,ha⟩=>?_) (.inl hf)
 have hne:Cc≠a:=by
  rcases ha with rfl | ha
  ·exact f.2.1
  ·exact λ e=>f.2.2.2.2.1 _ _ ha e.symm
 refine⟨m,hm.sameBut sb hne,λ h' hs'=>?_⟩
 refine wpAny_pure (wpAny_pure ?_)
 refine⟨_,G,?_,q⟩
 exact I''.turned (it:=Cc) (h':=h') (t':=s''.toks) (λ b o hb e=>hs'.extBut b o hb e) f.1 f.2.1 f.2.2.2.1 f.2.2.2.2.1 f.2.2.2.2.2
end
section
variable {CX:CXT}{k:Nat}{X:Cx}{C:Cfg}{w:W}
theorem R8 {e:Expr}{t:Option Expr}{n:Nat}{env:Env}(h:a0n e=false):swapsWith e t n env=pure false:=by
 cases e <;> first | rfl | cases h
theorem sole_not {e t:Expr}{n:Nat}{env:Env}(h:a0n e=false):swapsWithSole [t] e n env=pure false:=by
 show swapsWith e (some t) n env=pure false
 exact R8 h
theorem a5b {b:Expr}(h:a1d b=false):PlainIx b:=λ o i=>by
 cases b <;> first | rfl | cases h
theorem sl_scr:SlR X (rSlS X.K):=λ pins s Z H x v vl vu lo hi sl Q I rx hs pl pu ⟨a,xs,e,h,q⟩=>sl_list pins s Z H x v vl vu lo hi sl Q I rx hs pl pu ⟨a,xs,e,h,q.at⟩
theorem a0s (hw:Snd w)(F:Fits CX k X C){pos:Pos}:∀ {ks:List (Option Expr)}{vs:List Expr}{l:List (TE×TE)},a1O w C ks vs=some l->PPs X pos ks vs l/\ks.all (·.isSome)=true/\ks.length=vs.length/\ks.length=l.length
 | [],[],l,h=>by cases h;exact⟨pps_nil,rfl,rfl,rfl⟩
 | [],_::_,l,h=>by cases h
 | none::_,[],l,h=>by cases h
 | none::_,_::_,l,h=>by cases h
 | some _::_,[],l,h=>by cases h
 | some e::ks,v::vs,l,h=>by
  unfold a1O at h
  split at h
  ·rename_i r er
   cases h
   obtain⟨i1,i2,i3,i4⟩:=a0s hw F (pos:=pos) er
   exact⟨pps_cons (hw.E F e) (hw.E F v) i1,by simpa using i2,by simp[i3],by simp[i4]⟩
  ·cases h
def tDNewP:TE:=λ _ H Q=>∀ p,H p=none->Q (.ref p) (upd H p (.dP []))
theorem dp_empty {P:Program}{w:World}{H:Hp}(h:Heap)(hb:sysModules < h.objs.size):ObjOk P w H (h.push { cls:=.type "dict",data:=.dict #[] }) h.objs.size (.dP []):=
 ⟨Nat.zero_le _,beq_eq_false_iff_ne.mpr (Ne.symm (Nat.ne_of_lt hb)),[],.nil,_,#[],0,Heap.get?_push_size _ rfl,⟨rfl,rfl,rfl⟩,rfl,rfl,List.nodup_nil⟩
theorem pe_dnewP {pos:Pos}:PE X (.Dict [] [] pos) tDNewP:=λ pins s Z H Q I h=>
 wpAny_Dict_empty ⟨.ref s.heap.objs.size,_,I.laid (a:=s.heap.objs.size) (o:=.dP []) (t':=s.toks) (λ _ _ q=>Heap.get?_push_of_some _ q) (Nat.le_refl _) (dp_empty s.heap I.big),rfl,h _ (I.hok.fresh (Nat.le_refl _))⟩
theorem pe_dnew {pos:Pos}:PE X (.Dict [] [] pos) N5:=λ pins s Z H Q I h=>h.elim (λ h=>h.elim (λ h=>pe_dnewP pins s Z H Q I h.at) (λ h=>pe_dnewK pins s Z H Q I h.at)) (λ h=>pe_dnewT pins s Z H Q I h.at)
theorem dispG_ok (hw:Snd w)(F:Fits CX k X C){ks:List (Option Expr)}{vs:List Expr}{pos:Pos}:PE X (.Dict ks vs pos) (dispG w C ks vs):=by
 unfold dispG
 split
 ·rename_i tk tv h0 h
  unfold locK at h0
  split at h0
  ·cases vs with
   | nil=>cases h
   | cons v vs=>
    unfold a1O at h
    cases vs with
    | nil=>cases h;exact pe_dispT F.room (hw.E F _) (hw.E F _)
    | cons v2 vs=>cases h
  ·cases h0
 ·rename_i h
  obtain⟨i1,i2,i3,i4⟩:=a0s hw F (pos:=pos) h
  have:ks=[]:=List.length_eq_zero_iff.mp (by rw[i4];rfl)
  subst this
  have:vs=[]:=List.length_eq_zero_iff.mp (by rw[<- i3];rfl)
  subst this
  exact pe_dnew
 ·rename_i l hl _ h1 h2
  obtain⟨i1,i2,i3,i4⟩:=a0s hw F (pos:=pos) h1
  refine pe_disp i1 i2 i3 (λ e=>?_) (of_decide_eq_true h2)
  subst e
  have:l=[]:=List.length_eq_zero_iff.mp (by rw[<- i4];rfl)
  subst this
  exact hl rfl
 ·exact y9
theorem a1U (hw:Snd w)(F:Fits CX k X C):∀ e,PE X e (a3l w C e):=λ e=>by
 unfold a3l
 split
 ·exact constG_ok _
 ·exact a1K F _ _
 ·exact pe_op (op_binG _) (hw.E F _) (hw.E F _)
 ·exact pe_notG (hw.E F _)
 ·exact pe_un un_negG (hw.E F _)
 ·exact andG_ok hw F _
 ·exact orG_ok hw F _
 ·exact cmpE_ok hw F
 ·exact pe_ifG (hw.T F _) (hw.E F _) (hw.E F _)
 ·exact PE.imp (pe_lst (PA.mo (C9 hw F _))) λ Z H Q h=>⟨_,h,λ xs H1 q=>⟨q.1,q.2.at⟩⟩
 ·exact PE.imp (pe_tup (PA.mo (C9 hw F _))) λ Z H Q h=>⟨_,h,λ xs H1 q=>⟨q.1,q.2.at⟩⟩
 ·exact dispG_ok hw F
 ·split
  ·rw[<- F.K]
   exact a4B sl_scr (hw.E F _) (a3U hw F _) (a3U hw F _)
  ·exact a4B sl_G (hw.E F _) (a3U hw F _) (a3U hw F _)
 ·split
  ·rename_i h1 h2
   rw[<- F.K]
   exact pe_ix ix_list (hw.E F _) (hw.E F _) (a5b h1)
  ·rename_i h1 h2
   exact pe_ix (ix_getG F.room) (hw.E F _) (hw.E F _) (a5b h1)
  ·exact y9
 ·split
  ·rename_i cl e1 e2
   obtain⟨c,n⟩:=F.fld _ cl e1
   exact pe_fldG c n (hw.E F _) (F3 e2)
  ·exact y9
 ·exact a4X hw F
 ·exact methG_ok hw F
 ·exact compG_ok hw F
 ·exact y9
theorem stepT_ok (hw:Snd w)(F:Fits CX k X C):∀ e,PT X e (stepT w C e):=λ e=>by
 cases e with
 | UnaryOp op a pos=>cases op <;> first | exact pt_not (hw.T F a) | exact pt_x
 | BoolOp op es pos=>cases op <;> first | exact(andB_ok hw F es).pt | exact(orB_ok hw F es).pt
 | IfExp a b c pos=>exact pt_x
 | Compare a ops bs pos=>exact cmpT_ok hw F
 | _=>exact pt_G (a1U hw F _) λ _=>rfl
theorem stepA_ok (hw:Snd w)(F:Fits CX k X C)(hf:∀ x,X.fn x=true)(x:Str)(i:Nat)(pos' pos:Pos)(e:Expr)(ei:N3 C x=some i):PS X (.Assign [.Name x pos'] e pos) (d7 (a3l w C e) (a8 i)):=by
 obtain⟨h1,h2,h3⟩:=a1Q F ei
 have plain:∀ {e:Expr},swapsWith e (some (.Name x pos')) pos.line X.env=pure false->PS X (.Assign [.Name x pos'] e pos) (d7 (a3l w C e) (a8 i)):=λ {e} h=>ps_set (a3V F) h1 h2 (a1U hw F e) h (.inl (hf x))
 cases e with
 | ListComp elt gens scope cpos=>
  cases hb:(X.env.blockKind==.function&&X.env.kindOf x==some .local&&pos'.line==(Expr.ListComp elt gens scope cpos).pos.line&&!(scope.names.any λ (n,k)=>n==x&&(k==.local||k==.cell))) with
  | false=>exact plain (by show pure _=_;rw[hb])
  | true=>
   show PS X _ (d7 (compG w C elt gens scope) (a8 i))
   unfold compG
   split
   ·rename_i tg it ifs
    split
    ·rename_i tn fr e1 e2 e3 e4
     split
     ·rename_i hb2
      intro pins s Z H D I h
      obtain⟨g1,g2⟩:=tg_ok F e3 hb2 e1 (O2 X.env scope.names [])
      exact thn (ps_setC (D:=anyD X D) F.calm (a3m F I.ok e2 e3 hb2) g2 (pi_old (wI_ok hw F it)) g1 (λ d=>ifsG_ok hw (R7 F e3 hb2 _ d) ifs) (λ d=>hw.E (R7 F e3 hb2 _ d) elt) (a0r e4) (a3V F) h1 h2 (hf x) (by show pure _=_;rw[hb]) I (a3d h)) λ _ _ z=>SP.thaw z
     ·exact λ _ _ _ _ _ _ h=>h.elim
    ·exact λ _ _ _ _ _ _ h=>h.elim
   ·exact λ _ _ _ _ _ _ h=>h.elim
 | SetComp a g sc p=>exact λ _ _ _ _ _ _ h=>h.elim
 | DictComp a b g sc p=>exact λ _ _ _ _ _ _ h=>h.elim
 | _=>exact plain (R8 rfl)
theorem ps_ifG {c:Expr}{a b:List Stmt}{tc:TT}{t u:TS}{pos:Pos}(hc:PT X c tc)(ha:PSs X a t)(hb:PSs X b u):PS X (.If c a b pos) (sIf tc t u):=λ pins s Z H D I h=>
 ps_if (PT.mo hc) ha hb pins s Z H D I ⟨_,h,λ d H1 q=>A4 q⟩
theorem ps_whileG {c:Expr}{body:List Stmt}{tc:TT}{tb:TS}{pos:Pos}(hp:PassesOwn (model X.prog X.w) X.A X.env X.xe)(hc:PT X c tc)(hb:PSs X body tb):PS X (.While c body [] pos) (x9 tc tb):=λ pins s Z H D I h=>by
 unfold x9 at h
 obtain⟨W,h0,hs⟩:=h
 exact ps_while hp (PT.mo hc) hb pins s Z H D I ⟨W,h0,λ m Z H w=>⟨_,hs m Z H w,λ d H1 q=>A4 q⟩⟩
theorem a0t (hw:∀ s,PS X s (w.S C s)):∀ ss,PSs X ss (wSs w C ss)
 | []=>pss_nil
 | [s]=>pss_one (hw s)
 | s::t::r=>pss_cons (hw s) (a0t hw (t::r))
theorem ps_fldG {cl:Addr}{f:Str}{o e:Expr}{to te:TE}{pos pos':Pos}(c:Cls X.K cl)(n:NoAttr X.K cl f)(ho:PE X o to)(he:PE X e te)(hs:a0n e=false):PS X (.Assign [.Attribute o f pos'] e pos) (a1P cl f to te):=λ pins s Z H D I h=>
 ps_fld (PE.mo ho) (PE.mo he) (R8 hs) pins s Z H D I ⟨_,h,λ y H1 q=>⟨_,q,λ x H2 q2=>by
  split at q2
  ·unfold sfH at q2
   split at q2
   ·obtain⟨rfl,q3,q4⟩:=q2
    exact⟨_,_,_,_,rfl,by assumption,c,n,q3,q4⟩
   ·exact q2.elim
  ·exact q2.elim⟩⟩
theorem asgG_ok (hw:Snd w)(F:Fits CX k X C)(hf:∀ x,X.fn x=true){tg e:Expr}{pos:Pos}:PS X (.Assign [tg] e pos) (asgG w C tg e):=by
 unfold asgG
 split
 ·split
  ·exact hw.A F hf _ _ _ _ _ (by assumption)
  ·exact ps_x
 ·rename_i o i p
  split
  ·rename_i h1 h2
   exact ps_asg (hw.E F _) (pg_sub (hw.E F _) (hw.E F _) (set_G F.room) (by intro v;cases i <;> first | rfl | cases h1)) (sole_not h2) (by cases e <;> rfl) rfl
  ·exact ps_x
 ·rename_i o f p
  split
  ·rename_i cl e1 e2
   obtain⟨c,n⟩:=F.fld f cl e1
   exact ps_fldG c n (hw.E F _) (hw.E F _) e2
  ·exact ps_x
 ·exact ps_x
theorem augG_ok (hw:Snd w)(F:Fits CX k X C)(hf:∀ x,X.fn x=true){tg e:Expr}{op:Operator}{pos:Pos}:PS X (.AugAssign tg op e pos) (augG w C tg op e):=by
 unfold augG
 split
 ·split
  ·rename_i i ei
   obtain⟨h1,h2,h3⟩:=a1Q F ei
   exact ps_aug (a3V F) h1 h2 (hw.E F _) (ip_G op) (.inl (hf _))
  ·exact ps_x
 ·rename_i o i p
  split
  ·rename_i h1
   exact ps_augS (hw.E F _) (hw.E F _) (get_dG F.room) (hw.E F _) (ip_G op) (set_G F.room) (λ _ _ _=>by cases i <;> first | rfl | cases h1)
  ·exact ps_x
 ·exact ps_x
theorem wG_ok (F:Fits CX k X C)(hf:∀ x,X.fn x=true):∀ tg,PG X tg (wG C tg):=λ tg=>by
 cases tg with
 | Name x pos=>exact gNm_ok F λ _=>hf x
 | Tuple ts j pos=>exact gTup_ok F λ x _ _ _=>hf x
 | _=>exact pg_x
theorem stepS_ok (hw:Snd w)(F:Fits CX k X C)(hp:PassesOwn (model X.prog X.w) X.A X.env X.xe)(hf:∀ x,X.fn x=true):∀ s,PS X s (stepS w C s):=λ s=>by
 unfold stepS
 split
 ·rename_i e p
  split
  ·rename_i h
   cases e with
   | Constant c j q=>cases c <;> first | exact ps_doc | cases h
   | _=>cases h
  ·rename_i h1 h2
   exact ps_expr (hw.E F _) (R8 h2)
  ·exact ps_x
 ·exact ps_ret (hw.E F _)
 ·exact ps_retN
 ·exact ps_pass
 ·exact ps_ifG (hw.T F _) (a0t (hw.S F hp hf) _) (a0t (hw.S F hp hf) _)
 ·exact ps_whileG hp (hw.T F _) (a0t (hw.S F hp hf) _)
 ·split
  ·rename_i h
   exact ps_for2 hp F.calm (wI_ok hw F _) (wG_ok F hf _) (a0t (hw.S F hp hf) _) (a0r h)
  ·exact ps_x
 ·exact asgG_ok hw F hf
 ·exact augG_ok hw F hf
 ·exact ps_x
theorem wp_ok:∀ n,Snd (wp n)
 | 0=>⟨λ _ _=>y9,λ _ _=>pt_x,λ _ _ _ _ _ _ _ _ _ _ _ _ _ _ h=>h.elim,λ _ _ _ _=>ps_x⟩
 | n + 1=>⟨a1U (wp_ok n),stepT_ok (wp_ok n),stepA_ok (wp_ok n),stepS_ok (wp_ok n)⟩
end
structure Tabs where
 fns:List (Str×Sp):=[]
 fnd:List (Str×Sp×List V):=[]
 mks:List (Str×Addr×Sp):=[]
 mts:List (Str×Addr×Sp):=[]
 fld:List (Str×Addr):=[]
 glo:List (Str×V):=[]
 nog:List Str:=[]
 scr:List Str:=[]
 fvs:List (Addr×Sp):=[]
def cfg (T:Tabs)(K:PySem.W.Frag)(N:List Str)(names:List (Str×NameKind))(E:XK):Cfg:=⟨K,N,names,T.fns,T.fnd,T.mks,T.mts,T.fld,T.glo,T.nog,T.scr,E,T.fvs⟩
structure Lib (P:Program) (w:World) (K:PySem.W.Frag) (mg:Str->Option Value) (base:Heap) (CX:CXT) (k:Nat) (T:Tabs):Prop where
 fns:∀ x sp,T.fns.lookup x=some sp->∃ f fd ps,FnOk P w K mg base CX k f fd ps sp/\mg x=some (.ref f)/\PySem.W.keepIn K (.ref f)=true/\Binds K fd ps []
 fnd:∀ x sp dv,T.fnd.lookup x=some (sp,dv)->∃ f fd ps ds,FnOk P w K mg base CX k f fd ps sp/\mg x=some (.ref f)/\PySem.W.keepIn K (.ref f)=true/\Binds K fd ps ds/\Vals dv ds
 mks:∀ x cl sp,T.mks.lookup x=some (cl,sp)->∃ f fd ps,Mk K cl f/\FnOk P w K mg base CX k f fd ps sp/\mg x=some (.ref cl)/\Binds K fd ps []
 mts:∀ m cl sp,T.mts.lookup m=some (cl,sp)->∃ f fd ps,Cls K cl/\Meth K cl m f/\FnOk P w K mg base CX k f fd ps sp/\Binds K fd ps []
 fld:∀ f cl,T.fld.lookup f=some cl->Cls K cl/\NoAttr K cl f
 glo:∀ x v,T.glo.lookup x=some v->∃ u,mg x=some u/\RelV v u
 nog:∀ x∈T.nog,mg x=none
 fvs:∀ p∈T.fvs,∃ fd ps,FnOk P w K mg base CX k p.1 fd ps p.2/\PySem.W.keepIn K (.ref p.1)=true/\Binds K fd ps []
section
variable {P:Program}{w:World}{K:PySem.W.Frag}{mg:Str->Option Value}{base:Heap}{CX:CXT}{k:Nat}{T:Tabs}
theorem fn_wpD (n:Nat){x qual:Str}{st:Stmt}{f:Addr}{N ps:List Str}{sp:Sp}{oc dV kV doc pm cdv ct:Value}{od an:Option Addr}{osl:Array (Option Value)}(lk:K.lookup f=some ⟨oc,od,.func (PySem.W.fnOf x qual (F0 st) (a9 st) (a4 st) dV kV doc pm an cdv ct),osl⟩)(hcd:PySem.W.codeIn K cdv qual=true)(S:FnScope N ps (a4 st))(L:Lib P w K mg base CX0 k T)
  (len:∀ vs H Q E,sp vs H Q E->vs.length=ps.length){t:TS}(ht:wSs (wp n) (cfg T K N (a4 st).names E0) (a9 st)=t)
  (hb:∀ vs H Q E,sp vs H Q E->t { nx:=λ _ H'=>Q .non H',rt:=Q } (start N vs) H):FnOk P w K mg base CX0 (k + 2) f (PySem.W.fnOf x qual (F0 st) (a9 st) (a4 st) dV kV doc pm an cdv ct) ps sp:=by
 refine fn_of (k:=k + 1) lk hcd S len λ A outer s H vs Q E hr h=>⟨t,?_,hb vs H Q E h⟩
 refine PSs.nox ?_
 rw[<- ht]
 have Ft:Fits CX0 k (cxOf CX0 P w K mg base N qual (a4 st) f cdv A outer s H E).nox (cfg T K N (a4 st).names E0):={
  K:=rfl,N:=rfl,nd:=S.nd,names:=rfl,kind:=S.kind,calm:=rfl,room:=hr,pass:=pass0,no:=λ _ _ _ _ _ h=>h,
  fns:=L.fns,fnd:=L.fnd,mks:=L.mks,mts:=L.mts,fld:=L.fld,glo:=L.glo,nog:=L.nog,fvs:=L.fvs }
 exact a0t (λ s=>(wp_ok n).S Ft PassesOwn.never (λ _=>rfl) s) _
theorem fn_wp (n:Nat){x qual:Str}{st:Stmt}{f:Addr}{fd:FuncData}{N ps:List Str}{sp:Sp}(F:Fun K x qual st f fd)(S:FnScope N ps (a4 st))(L:Lib P w K mg base CX0 k T)
  (len:∀ vs H Q E,sp vs H Q E->vs.length=ps.length){t:TS}(ht:wSs (wp n) (cfg T K N (a4 st).names E0) (a9 st)=t)
  (hb:∀ vs H Q E,sp vs H Q E->t { nx:=λ _ H'=>Q .non H',rt:=Q } (start N vs) H):FnOk P w K mg base CX0 (k + 2) f fd ps sp:=by
 obtain⟨oc,od,kV,doc,pm,an,cdv,ct,osl,rfl,lk,hcd⟩:=F.ex
 exact fn_wpD n lk hcd S L len ht hb
end
theorem g7 {a:Addr}{xs:List V}{g:TG}{tb:TS}{D:Ends}{Z:St}{H:Hp}(Pv:Nat->St->Hp->Prop)(h0:Pv 0 Z H)(hl:∀ i Z H,i<=xs.length->Pv i Z H->H a=some (.lst xs))
  (hs:∀ i x Z H,xs[i]?=some x->Pv i Z H->g x Z H λ σ2 H2=>tb { D with nx:=Pv (i + 1),ct:=Pv (i + 1),bk:=D.nx } σ2 H2)(hd:∀ Z H,Pv xs.length Z H->D.nx Z H):E2 (Itl0 a) g tb D Z H:=by
 unfold E2
 exact for_list0 Pv h0 (λ i Z H hi p=>.inl (hl i Z H hi p)) hs hd
theorem X3 {lo:Int}{n:Nat}{g:TG}{tb:TS}{D:Ends}{Z:St}{H:Hp}(Pv:Nat->St->Hp->Prop)(h0:Pv 0 Z H)
  (hs:∀ i Z H,i < n->Pv i Z H->g (.int (lo + i)) Z H λ σ2 H2=>tb { D with nx:=Pv (i + 1),ct:=Pv (i + 1),bk:=D.nx } σ2 H2)(hd:∀ Z H,Pv n Z H->D.nx Z H):E2 (Itr lo n) g tb D Z H:=by
 unfold E2
 exact for_range Pv h0 hs hd
theorem comp_txt {z:Str}{tn:List Str}{fr:List (Str×Nat)}{g:TG}{tt:TT}{te:TE}{Z:St}{H:Hp}{Q:VK}(f:Nat->Option V)(hz:z.length < sizeLine)
  (turn:∀ (i c:Nat),z.cps[i]?=some c->∀ (G:Hp) (k:Option V->Hp->Prop),k (f c) G->g (.str ⟨#[c]⟩) (inn tn fr Z) G λ σ2 G2=>tt σ2 G2 λ b G3=>br b (te σ2 G3 λ y G4=>k (some y) G4) (k none G3))
  (fin:∀ p,H p=none->Q (.ref p) (upd H p (.lst (z.cps.toList.filterMap f)))):y7 (Its z) tn fr g tt te Z H Q:=by
 unfold y7
 intro p hp
 exact comp_str f hz turn (fin p hp)
theorem one_lt (a b:Nat):(([b]:List Nat) < [a])↔b < a:=by
 rw[List.cons_lt_cons_iff]
 constructor
 ·rintro(h | ⟨_,h⟩)
  ·exact h
  ·exact absurd h (List.not_lt_nil _)
 ·exact .inl
theorem le_one (a b:Nat):(!decide (([b]:List Nat) < [a]))=decide (a<=b):=by
 by_cases h:a<=b
 ·rw[decide_eq_true h,decide_eq_false (by rw[one_lt];omega)]
  rfl
 ·rw[decide_eq_false h,decide_eq_true (by rw[one_lt];omega)]
  rfl
theorem all_i {p:Addr}{ys:List V}{bs:List Bool}{H:Hp}{Q:VK}(h:H p=some (.lst ys))(hb:a0C ys=some bs)(q:Q (.bl (bs.all id)) H):allG [.ref p] H Q:=by
 unfold allG
 simp only[h,hb]
 exact q
theorem a1e {α:Type}(f:α->Bool):∀ l:List α,a0C (l.map λ c=>V.bl (f c))=some (l.map f)
 | []=>rfl
 | a::r=>by
  rw[List.map_cons,List.map_cons]
  show(a0C (r.map λ c=>V.bl (f c))).map (f a::·)=_
  rw[a1e f r]
  rfl
def lowB (c:Nat):Bool:=decide (97<=c)&&decide (c<=122)
def X4 (z:Str):Bool:=decide (1<=z.length)&&decide (z.length<=8)&&!(z==("all" : Str))&&z.cps.toList.all lowB
def nameV:V->Bool
 | .str z=>X4 z
 | _=>false
theorem kind_str {H:Hp}{x:V}(h:w5 H x=some "str"):∃ z,x=.str z:=by
 cases x with
 | str z=>exact⟨z,rfl⟩
 | ref a=>
  unfold w5 at h
  simp only at h
  split at h <;> first | (cases h;done) | (simp at h)
 | _=>first | (cases h;done) | (simp[w5]at h)
theorem X5 {T S:String}{x:V}{H:Hp}{Q:VK}(hT:okTy T=true)(hk:w5 H x=some S)(q:Q (.bl (A5 S T)) H):X2 [x,.ty T] H Q:=by
 unfold X2
 refine⟨hT,?_⟩
 rw[hk]
 exact q
theorem iterS_i {z:Str}{H:Hp}{R:It->Hp->Th->Prop}(q:R (Its z) H none):d9 (.str z) H R:=by
 unfold d9
 exact q
theorem a5e {H:Hp}{p:Addr}{xs:List V}(h:H p=some (.lst xs)):w5 H (.ref p)=some "list" := by
 unfold w5
 simp only[h]
theorem kind_tup {H:Hp}{p:Addr}{xs:List V}(h:H p=some (.tup xs)):w5 H (.ref p)=some "tuple" := by
 unfold w5
 simp only[h]
def a1V:TS:=
 (f9 (a1D (tCB X2 (a0 (gv 0) (a0 (tC (.ty "int")) a7))) (tNotG (tCB X2 (a0 (gv 0) (a0 (tC (.ty "bool")) a7))))))
theorem a6k {x:V}{S:String}{H:Hp}{D:Ends}(hk:w5 H x=some S)(q:D.rt (.bl (A5 S "int" && !A5 S "bool")) H):a1V D [some x] H:=by
 refine X5 rfl hk (C8 (λ h=>?_) (λ h=>?_))
 ·refine X5 rfl hk ?_
  rw[h]at q
  exact q
 ·rw[h]at q
  exact q
def a3n:TS:=
 (b7 (sIf (tOrB (J4 (ptG (tCB X2 (a0 (gv 0) (a0 (tC (.ty "str")) a7))))) (J4 (bT (V0 leG leG (tC (.int 1)) (tCB a0m (a0 (gv 0) a7)) (tC (.int 8))))))
  (f9 (tC (.bl false)))
  g6)
 (f9 (a1D (tOp neG (gv 0) (tC (.str "all"))) (tCB allG (a0 (o0 (iOf d9 (gv 0)) ["sign"] [] (a8 0) a0k (V0 leG leG (tC (.str "a")) (gv 0) (tC (.str "z")))) a7)))))
theorem r_is_name {x:V}{S:String}{H:Hp}{D:Ends}(hk:w5 H x=some S)(hz:∀ z,x=.str z->z.length < sizeLine)(q:∀ H',Same H H'->D.rt (.bl (nameV x)) H'):a3n D [some x] H:=by
 refine X5 rfl hk ?_
 have q0:=q H (Same.refl H)
 by_cases hS:S = "str"
 ·subst hS
  obtain⟨z,rfl⟩:=kind_str hk
  have hz:=hz z rfl
  have hn:nameV (.str z)=(decide (1<=z.length)&&decide (z.length<=8)&&!(z==("all" : Str))&&z.cps.toList.all lowB):=rfl
  refine i8 rfl ⟨Nat.le_of_lt hz,?_⟩
  refine a0j (λ h1=>?_) (λ h1=>?_)
  ·refine br_not (a0j (λ h2=>?_) (λ h2=>?_))
   ·refine br_not (C8 (λ h3=>?_) (λ h3=>?_))
    ·rw[hn,show(z==("all" : Str))=true from h3]at q0
     have q0:D.rt (.bl false) H:=by simpa using q0
     exact q0
    ·refine A0 (iterS_i (comp_txt (λ c=>some (.bl (lowB c))) hz ?_ ?_))
     ·intro i c hc G k' hk'
      refine m5 rfl ?_
      have e1:(!decide (([c]:List Nat) < ("a" : Str).cps.toList))=decide (97<=c):=le_one 97 c
      have e2:(!decide (("z" : Str).cps.toList < ([c]:List Nat)))=decide (c<=122):=le_one c 122
      refine C8 (λ h4=>?_) (λ h4=>?_)
      ·have h4:decide (97<=c)=true:=e1 ▸ h4
       have e3:lowB c=decide (c<=122):=by
        unfold lowB
        rw[h4,Bool.true_and]
       rw[e3,<- e2]at hk'
       exact hk'
      ·have h4:decide (97<=c)=false:=e1 ▸ h4
       have e3:lowB c=false:=by
        unfold lowB
        rw[h4,Bool.false_and]
       rw[e3]at hk'
       exact hk'
     ·intro p hp
      have q1:=q (upd H p (.lst (z.cps.toList.filterMap λ c=>some (V.bl (lowB c))))) (p7 hp)
      refine all_i a6 (bs:=z.cps.toList.map lowB) ?_ ?_
      ·rw[List.filterMap_eq_map']
       exact a1e lowB _
      ·rw[hn,decide_eq_true (show 1<=z.length by omega),decide_eq_true (show z.length<=8 by omega),show(z==("all" : Str))=false from h3]at q1
       rw[List.all_map]
       simpa using q1
   ·rw[hn,decide_eq_false (show ¬ z.length<=8 by omega)]at q0
    have q0:D.rt (.bl false) H:=by simpa using q0
    exact q0
  ·rw[hn,decide_eq_false (show ¬ 1<=z.length by omega)]at q0
   have q0:D.rt (.bl false) H:=by simpa using q0
   exact m5 rfl q0
 ·have e:nameV x=false:=by
   cases x with
   | str z=>exact absurd (by cases hk;rfl) hS
   | _=>rfl
  rw[e]at q0
  have hi:A5 S "str" = false:=by
   unfold A5
   simp[hS]
  exact m5 (by rw[hi];rfl) (m5 rfl q0)
theorem a1W {z:Str}{i:Int}{c:Nat}{H:Hp}{Q:VK}(hc:atI z.cps.toList i=some c)(hz:z.length<=sizeLine)(q:Q (.str ⟨#[c]⟩) H):e8 (.str z) (.int i) H Q:=by
 unfold e8
 simp only[hc]
 exact⟨hz,q⟩
theorem C4 {p:Addr}{xs:List V}{i:Int}{v:V}{H:Hp}{Q:VK}(h:H p=some (.lst xs))(hv:atI xs i=some v)(q:Q v H):e8 (.ref p) (.int i) H Q:=by
 unfold e8
 simp only[h,hv]
 exact q
theorem h9 {p:Addr}{xs:List V}{i:Int}{v:V}{H:Hp}{Q:VK}(h:H p=some (.tup xs))(hv:atI xs i=some v)(q:Q v H):e8 (.ref p) (.int i) H Q:=by
 unfold e8
 simp only[h,hv]
 exact q
theorem V3 {p:Addr}{xs:List V}{H:Hp}{Q:VK}(h:H p=some (.lst xs))(q:Q (.int xs.length) H):lenH p H Q:=by
 unfold lenH
 simp only[h]
 exact q
theorem C5 {l b:Addr}{xs ys:List V}{H:Hp}{Q:VK}(hl:H l=some (.lst xs))(hb:H b=some (.lst ys))(hz:xs.length + ys.length<=sizeLine)(q:newO H (.lst (xs++ys)) Q):addH l b H Q:=by
 unfold addH
 simp only[hl,hb]
 exact⟨hz,q⟩
theorem f7 {a:Addr}{xs:List V}{H:Hp}{R:It->Hp->Th->Prop}(h:H a=some (.lst xs))(q:R (Itl0 a) H none):d9 (.ref a) H R:=by
 unfold d9
 simp only[h]
 exact q
theorem X6 {a:Addr}{xs:List V}{H:Hp}{R:It->Hp->Th->Prop}(h:H a=some (.tup xs))(q:R (Itt0 a) H none):d9 (.ref a) H R:=by
 unfold d9
 simp only[h]
 exact q
theorem eq_i {x y:V}{d e:PyData}{H:Hp}{Q:VK}(hx:rdD 8 H x=some d)(hy:rdD 8 H y=some e)(q:Q (.bl (PyData.eqv d e)) H):eqH x y H Q:=by
 unfold eqH eqD
 refine .inl ?_
 simp only[hx,hy]
 exact q
theorem eqDT_i {p q:Addr}{kvs lvs:List (List Key×V)}{H:Hp}{Q:VK}(hp:H p=some (.dT kvs))(hq:H q=some (.dT lvs))(hl:kvs.length=lvs.length)(he:∀ k v,(k,v)∈kvs->∃ n,v=.int n/\(k,.int n)∈lvs/\∀ v',(k,v')∈lvs->v'=.int n)(h:Q (.bl true) H):eqH (.ref p) (.ref q) H Q:=by
 unfold eqH
 exact .inr (.inr ⟨p,q,kvs,lvs,rfl,rfl,hp,hq,hl,he,h⟩)
theorem few {n:Nat}(h:Nat.ble n 1000=true):n<=sizeLine:=Nat.le_of_lt (small1000 (Nat.le_of_ble_eq_true h))
theorem us1 {us:List Value}(h:us.length=1):∃ a,us=[a]:=List.length_eq_one_iff.mp h
theorem us2 {us:List Value}(h:us.length=2):∃ a b,us=[a,b]:=by
 cases us with
 | nil=>cases h
 | cons a r=>
  obtain⟨b,rfl⟩:=us1 (us:=r) (by simpa using h)
  exact⟨a,b,rfl⟩
theorem us3 {us:List Value}(h:us.length=3):∃ a b c,us=[a,b,c]:=by
 cases us with
 | nil=>cases h
 | cons a r=>
  obtain⟨b,c,rfl⟩:=us2 (us:=r) (by simpa using h)
  exact⟨a,b,c,rfl⟩
theorem us4 {us:List Value}(h:us.length=4):∃ a b c d,us=[a,b,c,d]:=by
 cases us with
 | nil=>cases h
 | cons a r=>
  obtain⟨b,c,d,rfl⟩:=us3 (us:=r) (by simpa using h)
  exact⟨a,b,c,d,rfl⟩
def FnE (P:Program)(w:World)(K:PySem.W.Frag)(mg:Str->Option Value)(base:Heap)(CX:CXT)(k:Nat)(x:Str)(sp:Sp):Prop:=
 ∃ f fd ps,FnOk P w K mg base CX k f fd ps sp/\mg x=some (.ref f)/\PySem.W.keepIn K (.ref f)=true/\Binds K fd ps []
section
variable {P:Program}{w:World}{K:PySem.W.Frag}{mg:Str->Option Value}{base:Heap}{CX:CXT}{j k:Nat}{T:Tabs}{x:Str}{sp:Sp}
theorem FnE.mono (h:FnE P w K mg base CX j x sp)(hj:j<=k):FnE P w K mg base CX k x sp:=by
 obtain⟨f,fd,ps,F,r⟩:=h
 exact⟨f,fd,ps,F.mono hj,r⟩
inductive Ents {α:Type} (R:Str->α->Prop):List (Str×α)->Prop where
 | nil:Ents R []
 | cons {x:Str}{a:α}{r:List (Str×α)} (h:R x a) (t:Ents R r):Ents R ((x,a)::r)
theorem Ents.get {α:Type}{R:Str->α->Prop}:∀ {l:List (Str×α)},Ents R l->∀ x a,l.lookup x=some a->R x a
 | _,.nil,x,a,h=>by cases h
 | _,.cons h t,x,a,e=>by
  rw[List.lookup_cons]at e
  split at e
  ·rename_i q
   cases e
   have:=eq_of_beq q
   subst this
   exact h
  ·exact t.get x a e
structure DefAt (K:PySem.W.Frag) (mg:Str->Option Value) (x:Str) (st:Stmt) (ps:List Str) (f:Addr) (fd:FuncData):Prop where
 fn:Fun K x x st f fd
 b:Binds K fd ps []
 m:mg x=some (.ref f)
theorem DefAt.ok {st:Stmt}{N ps:List Str}{f:Addr}{fd:FuncData}(A:DefAt K mg x st ps f fd)(n:Nat)(S:FnScope N ps (a4 st))(L:Lib P w K mg base CX0 k T)
  (len:∀ vs H Q E,sp vs H Q E->vs.length=ps.length){t:TS}(ht:wSs (wp n) (cfg T K N (a4 st).names E0) (a9 st)=t)
  (hb:∀ vs H Q E,sp vs H Q E->t { nx:=λ _ H'=>Q .non H',rt:=Q } (start N vs) H):FnE P w K mg base CX0 (k + 2) x sp:=
 ⟨f,fd,ps,fn_wp n A.fn S L len ht hb,A.m,A.fn.kp,A.b⟩
def MtE (P:Program)(w:World)(K:PySem.W.Frag)(mg:Str->Option Value)(base:Heap)(CX:CXT)(k:Nat)(m:Str)(p:Addr×Sp):Prop:=
 ∃ f fd ps,Meth K p.1 m f/\FnOk P w K mg base CX k f fd ps p.2/\Binds K fd ps []
def MkE (P:Program)(w:World)(K:PySem.W.Frag)(mg:Str->Option Value)(base:Heap)(CX:CXT)(k:Nat)(x:Str)(p:Addr×Sp):Prop:=
 ∃ f fd ps,Mk K p.1 f/\FnOk P w K mg base CX k f fd ps p.2/\mg x=some (.ref p.1)/\Binds K fd ps []
theorem MtE.mono {p:Addr×Sp}(h:MtE P w K mg base CX j x p)(hj:j<=k):MtE P w K mg base CX k x p:=by
 obtain⟨f,fd,ps,M,F,r⟩:=h
 exact⟨f,fd,ps,M,F.mono hj,r⟩
theorem MkE.mono {p:Addr×Sp}(h:MkE P w K mg base CX j x p)(hj:j<=k):MkE P w K mg base CX k x p:=by
 obtain⟨f,fd,ps,M,F,r⟩:=h
 exact⟨f,fd,ps,M,F.mono hj,r⟩
theorem MtE.mk {cl:Addr}{m qual:Str}{st:Stmt}{N ps:List Str}{f:Addr}{fd:FuncData}(M:Meth K cl m f)(F:Fun K m qual st f fd)(b:Binds K fd ps [])(n:Nat)(S:FnScope N ps (a4 st))(L:Lib P w K mg base CX0 k T)
  (len:∀ vs H Q E,sp vs H Q E->vs.length=ps.length){t:TS}(ht:wSs (wp n) (cfg T K N (a4 st).names E0) (a9 st)=t)
  (hb:∀ vs H Q E,sp vs H Q E->t { nx:=λ _ H'=>Q .non H',rt:=Q } (start N vs) H):MtE P w K mg base CX0 (k + 2) m (cl,sp):=
 ⟨f,fd,ps,M,fn_wp n F S L len ht hb,b⟩
theorem MkE.mk {cl:Addr}{m qual:Str}{st:Stmt}{N ps:List Str}{f:Addr}{fd:FuncData}(M:Mk K cl f)(hx:mg x=some (.ref cl))(F:Fun K m qual st f fd)(b:Binds K fd ps [])(n:Nat)(S:FnScope N ps (a4 st))(L:Lib P w K mg base CX0 k T)
  (len:∀ vs H Q E,sp vs H Q E->vs.length=ps.length){t:TS}(ht:wSs (wp n) (cfg T K N (a4 st).names E0) (a9 st)=t)
  (hb:∀ vs H Q E,sp vs H Q E->t { nx:=λ _ H'=>Q .non H',rt:=Q } (start N vs) H):MkE P w K mg base CX0 (k + 2) x (cl,sp):=
 ⟨f,fd,ps,M,fn_wp n F S L len ht hb,hx,b⟩
def FvE (P:Program)(w:World)(K:PySem.W.Frag)(mg:Str->Option Value)(base:Heap)(CX:CXT)(k:Nat)(p:Addr×Sp):Prop:=
 ∃ fd ps,FnOk P w K mg base CX k p.1 fd ps p.2/\PySem.W.keepIn K (.ref p.1)=true/\Binds K fd ps []
end
section
variable {P:Program}{w:World}{K:PySem.W.Frag}{mg:Str->Option Value}{base:Heap}{CX:CXT}{k:Nat}{T:Tabs}{x:Str}{sp:Sp}
theorem FnE.val {a:Addr}(h:FnE P w K mg base CX k x sp)(m:mg x=some (.ref a)):FvE P w K mg base CX k (a,sp):=by
 obtain⟨f,fd,ps,F,hm,hk,hb⟩:=h
 rw[m]at hm
 cases hm
 exact⟨fd,ps,F,hk,hb⟩
def FdE (P:Program)(w:World)(K:PySem.W.Frag)(mg:Str->Option Value)(base:Heap)(CX:CXT)(k:Nat)(x:Str)(p:Sp×List V):Prop:=
 ∃ f fd ps ds,FnOk P w K mg base CX k f fd ps p.1/\mg x=some (.ref f)/\PySem.W.keepIn K (.ref f)=true/\Binds K fd ps ds/\Vals p.2 ds
theorem lib_gen (hd:Ents (FdE P w K mg base CX k) T.fnd)(h:Ents (FnE P w K mg base CX k) T.fns)(hm:Ents (MkE P w K mg base CX k) T.mks)(ht:Ents (λ m p=>Cls K p.1/\MtE P w K mg base CX k m p) T.mts)(hf:Ents (λ f cl=>Cls K cl/\NoAttr K cl f) T.fld)
  (hg:∀ x v,T.glo.lookup x=some v->∃ u,mg x=some u/\RelV v u)(hn:∀ x∈T.nog,mg x=none)(hv:∀ p∈T.fvs,FvE P w K mg base CX k p):Lib P w K mg base CX k T where
 fvs:=hv
 fns:=h.get
 fnd:=λ x sp dv e=>hd.get x (sp,dv) e
 mks:=λ x cl sp e=>hm.get x (cl,sp) e
 mts:=λ x cl sp e=>by
  obtain⟨c,f,fd,ps,M,F,b⟩:=ht.get x (cl,sp) e
  exact⟨f,fd,ps,c,M,F,b⟩
 fld:=λ x cl e=>hf.get x cl e
 glo:=hg
 nog:=hn
end
def xO (K:PySem.W.Frag)(a:Addr):Obj:=(K.lookup a).getD { cls:=.none }
def xF (K:PySem.W.Frag)(a:Addr):FuncData:=match (xO K a).data with
 | .func f=>f
 | _=>default
abbrev fdOf (K:PySem.W.Frag)(x qual:Str)(st:Stmt)(f:Addr):FuncData:=PySem.W.fnOf x qual (F0 st) (a9 st) (a4 st) .none (xF K f).kwdefaults (xF K f).doc (xF K f).pyModule (xF K f).annotations (xF K f).code (xF K f).closureTuple
abbrev DefIn (K:PySem.W.Frag)(x:Str)(st:Stmt)(f:Addr):Prop:=(PySem.W.nsIn K mainGlobals x,K.lookup f,PySem.W.codeIn K (xF K f).code x,PySem.W.keepIn K (.ref f))=(some (some (.ref f)),some ⟨(xO K f).cls,(xO K f).dict,.func (fdOf K x x st f),(xO K f).slots⟩,true,true)
abbrev MetIn (K:PySem.W.Frag)(C:Addr)(x qual:Str)(st:Stmt)(f:Addr):Prop:=(PySem.W.findIn K (.ref C) x,PySem.W.isFn K (.ref f),K.lookup f,PySem.W.codeIn K (xF K f).code qual,PySem.W.keepIn K (.ref f))=(some (some (.ref f)),true,some ⟨(xO K f).cls,(xO K f).dict,.func (fdOf K x qual st f),(xO K f).slots⟩,true,true)
abbrev ClsIn (K:PySem.W.Frag)(x:Str)(C:Addr):Prop:=(PySem.W.nsIn K mainGlobals x,PySem.W.plainGet K C Str.empty,PySem.W.hasDictIn K C,PySem.W.plainOver K C,PySem.W.findIn K (.ref C) "__setattr__",PySem.W.makesIn K C,PySem.W.keepIn K (.ref C))=(some (some (.ref C)),true,true,true,some (some (.builtin "object.__setattr__")),true,true)
section
variable {K:PySem.W.Frag}{mg:Str->Option Value}{h:Heap}{x qual:Str}{st:Stmt}{ps:List Str}{f C:Addr}
theorem DefIn.at (X:K.In h)(G:h.Ns mainGlobals mg)(l:DefIn K x st f)(hb:∀ (kV doc pm:Value) (an:Option Addr) (cdv ct:Value) (us:List Value),us.length=ps.length->bindArgs (PySem.W.fnOf x x (F0 st) (a9 st) (a4 st) .none kV doc pm an cdv ct) ⟨us,[]⟩=pure (ps.zip us)):DefAt K mg x st ps f (fdOf K x x st f):=by
 injection l with l1 l
 injection l with l2 l
 injection l with l3 l4
 have F:=fun_mk (st:=st) l2 l3 l4
 exact⟨F,F.binds hb,PySem.W.mg_of X G l1⟩
theorem DefIn.fn (l:DefIn K x st f):Fun K x x st f (fdOf K x x st f):=by
 injection l with l1 l
 injection l with l2 l
 injection l with l3 l4
 exact fun_mk (st:=st) l2 l3 l4
theorem DefIn.nm (X:K.In h)(G:h.Ns mainGlobals mg)(l:DefIn K x st f):mg x=some (.ref f):=PySem.W.mg_of X G (congrArg Prod.fst l)
theorem MetIn.fn (l:MetIn K C x qual st f):Fun K x qual st f (fdOf K x qual st f):=by
 injection l with l1 l
 injection l with l2 l
 injection l with l3 l
 injection l with l4 l5
 exact fun_mk (st:=st) l3 l4 l5
theorem MetIn.mt (l:MetIn K C x qual st f):Meth K C x f:=by
 injection l with l1 l
 injection l with l2 l
 injection l with l3 l
 injection l with l4 l5
 exact⟨l1,l2,l5⟩
theorem ClsIn.cl (l:ClsIn K x C):Cls K C:=by
 injection l with l1 l
 injection l with l2 l
 injection l with l3 l
 injection l with l4 l
 injection l with l5 l
 exact⟨l2,l3,l4,l5⟩
theorem ClsIn.nm (X:K.In h)(G:h.Ns mainGlobals mg)(l:ClsIn K x C):mg x=some (.ref C):=PySem.W.mg_of X G (congrArg Prod.fst l)
theorem MetIn.mk {y:Str}(c:ClsIn K y C)(l:MetIn K C "__init__" qual st f):Mk K C f:=by
 injection c with c1 c
 injection c with c2 c
 injection c with c3 c
 injection c with c4 c
 injection c with c5 c
 injection c with c6 c7
 exact⟨c6,l.mt.1,l.mt.2,c7⟩
end
section
variable {P:Program}{w:World}{K:PySem.W.Frag}{mg:Str->Option Value}{base h:Heap}{k:Nat}{T:Tabs}{x:Str}{st:Stmt}{N ps:List Str}{f T0:Addr}{sp:Sp}
end
namespace A
def sg {α:Type}:List α->(α->Int)->Int
 | [],_=>0
 | x::r,f=>f x + sg r f
section
variable {α β:Type}
theorem sg_append (l m:List α)(f:α->Int):sg (l++m) f=sg l f + sg m f:=by
 induction l with
 | nil=>simp[sg]
 | cons x r ih=>simp only[List.cons_append,sg,ih];omega
theorem l6 {l:List α}{f g:α->Int}(h:∀ x∈l,f x=g x):sg l f=sg l g:=by
 induction l with
 | nil=>rfl
 | cons x r ih=>simp only[sg];rw[h x (by simp),ih λ y hy=>h y (by simp[hy])]
theorem a0u (l:List β)(k:β->α)(f:α->Int):sg (l.map k) f=sg l λ x=>f (k x):=by
 induction l with
 | nil=>rfl
 | cons x r ih=>simp only[List.map_cons,sg,ih]
theorem sg_zero (l:List α):sg l (λ _=>0)=0:=by
 induction l with
 | nil=>rfl
 | cons x r ih=>simp only[sg,ih];omega
theorem m6 {l:List α}{f:α->Int}(h:∀ x∈l,f x=0):sg l f=0:=by rw[l6 h,sg_zero]
theorem a0v (l:List α)(f g:α->Int):sg l (λ x=>f x + g x)=sg l f + sg l g:=by
 induction l with
 | nil=>rfl
 | cons x r ih=>simp only[sg,ih];omega
theorem E4 (l:List α)(k:Int)(f:α->Int):sg l (λ x=>k * f x)=k * sg l f:=by
 induction l with
 | nil=>simp[sg]
 | cons x r ih=>simp only[sg,ih,Int.mul_add]
theorem sg_swap (l:List α)(m:List β)(f:α->β->Int):sg l (λ x=>sg m λ y=>f x y)=sg m λ y=>sg l λ x=>f x y:=by
 induction l with
 | nil=>simp only[sg];rw[sg_zero]
 | cons x r ih=>simp only[sg];rw[ih,a0v]
theorem V4 [DecidableEq α]{l:List α}(hd:l.Nodup){a:α}(ha:a∈l)(k:Int):sg l (λ x=>if x=a then k else 0)=k:=by
 induction l with
 | nil=>cases ha
 | cons x r ih=>
  rw[List.nodup_cons]at hd
  simp only[sg]
  rcases List.mem_cons.mp ha with rfl | h
  ·rw[if_pos rfl,m6 λ y hy=>if_neg λ (e:y=a)=>hd.1 (e ▸ hy)];omega
  ·rw[if_neg λ (e:x=a)=>hd.1 (e ▸ h),ih hd.2 h];omega
theorem a1f [DecidableEq α]{l:List α}{a:α}(ha:a∉l)(k:Int):sg l (λ x=>if x=a then k else 0)=0:=m6 λ x hx=>if_neg λ (e:x=a)=>ha (e ▸ hx)
end
inductive Sm (S:Type) where
 | dn (n c:S)
 | ac (n:S)
deriving DecidableEq
section
variable {S:Type}[BEq S][LawfulBEq S][DecidableEq S]
def bel (ps:List (S×S))(k:S):List S:=(ps.filter λ q=>q.2==k).map (·.1)
theorem mem_bel {ps:List (S×S)}{k m:S}:m∈bel ps k↔(m,k)∈ps:=by
 unfold bel
 rw[List.mem_map]
 constructor
 ·rintro⟨q,hq,rfl⟩
  obtain⟨h1,h2⟩:=List.mem_filter.mp hq
  have:=eq_of_beq h2
  subst this
  exact h1
 ·intro h
  exact⟨(m,k),List.mem_filter.mpr ⟨h,by simp⟩,rfl⟩
structure Gd (al:S) (ps:List (S×S)):Prop where
 one:1<=ps.length
 nd:(al::ps.map (·.1)).Nodup
 abv:∀ (i:Nat) q,ps[i]?=some q->q.2=al\/q.2∈(ps.take i).map (·.1)
variable {al:S}{ps:List (S×S)}{cs:List S}
theorem Gd.uniq (g:Gd al ps){m k k':S}(h:(m,k)∈ps)(h':(m,k')∈ps):k=k':=by
 have nd:=(List.nodup_cons.mp g.nd).2
 obtain⟨i,hi⟩:=List.mem_iff_getElem?.mp h
 obtain⟨j,hj⟩:=List.mem_iff_getElem?.mp h'
 have hi1:=(Zg hi).1
 have hj1:=(Zg hj).1
 have e:i=j:=by
  refine(List.getElem?_inj (l:=ps.map (·.1)) (by simpa using hi1) nd).mp ?_
  rw[List.getElem?_map,List.getElem?_map,hi,hj];rfl
 subst e
 rw[hi]at hj
 cases hj;rfl
theorem Gd.above_in (g:Gd al ps){m k:S}(h:(m,k)∈ps):k=al\/k∈ps.map (·.1):=by
 obtain⟨i,hi⟩:=List.mem_iff_getElem?.mp h
 rcases g.abv i _ hi with e | e
 ·exact .inl e
 ·obtain⟨q,hq,e⟩:=List.mem_map.mp e
  exact .inr (List.mem_map.mpr ⟨q,List.mem_of_mem_take hq,e⟩)
theorem Gd.not_self (g:Gd al ps){m:S}(h:(m,m)∈ps):False:=by
 have nd:=List.nodup_cons.mp g.nd
 obtain⟨i,hi⟩:=List.mem_iff_getElem?.mp h
 rcases g.abv i _ hi with e | e
 ·simp only at e
  exact nd.1 (List.mem_map.mpr ⟨_,h,e⟩)
 ·obtain⟨q,hq,e⟩:=List.mem_map.mp e
  obtain⟨j,hj⟩:=List.mem_iff_getElem?.mp hq
  have hjl:=(Zg hj).1
  rw[List.length_take]at hjl
  rw[List.getElem?_take_of_lt (by omega)]at hj
  have hi1:=(Zg hi).1
  have:j=i:=(List.getElem?_inj (l:=ps.map (·.1)) (by simp;omega) nd.2).mp (by rw[List.getElem?_map,List.getElem?_map,hi,hj];simp[e])
  omega
theorem Gd.not_al (g:Gd al ps){k:S}(h:(al,k)∈ps):False:=(List.nodup_cons.mp g.nd).1 (List.mem_map.mpr ⟨_,h,rfl⟩)
theorem Gd.al_above (g:Gd al ps):bel ps al≠[]:=λ e=>by
 have g1:=g.one
 have hq:=g.abv 0 ps[0] (by simp)
 simp only[List.take_zero,List.map_nil,List.not_mem_nil,or_false]at hq
 have:ps[0].1∈bel ps al:=mem_bel.mpr (by
  have:(ps[0].1,al)=ps[0]:=by rw[<- hq]
  rw[this]
  exact List.getElem_mem _)
 rw[e]at this
 cases this
theorem Gd.bel_nd (g:Gd al ps)(k:S):(bel ps k).Nodup:=by
 have nd:=(List.nodup_cons.mp g.nd).2
 unfold bel
 exact nd.sublist (List.Sublist.map _ List.filter_sublist)
def A2 (al:S)(ps:List (S×S))(cs:List S):Sm S->List ((S×S)×Int)
 | .dn n c=>((n,c),if c=al then -1 else 1)::(bel ps n).map λ m=>((m,c),-(if c=al then -1 else 1))
 | .ac n=>((n,al),if n=al then 1 else -1)::cs.map λ c=>((n,c),-(if n=al then 1 else -1))
def tot (l:List ((S×S)×Int))(a b:S):Int:=sg l λ p=>if p.1=(a,b) then p.2 else 0
inductive IsSm (al:S) (ps:List (S×S)) (cs:List S):Sm S->Prop where
 | dn (n c:S) (hn:n=al\/n∈ps.map (·.1)) (hb:bel ps n≠[]) (hc:c=al\/c∈cs):IsSm al ps cs (.dn n c)
 | ac (n:S) (hn:n=al\/(n∈ps.map (·.1)/\bel ps n=[])):IsSm al ps cs (.ac n)
theorem tot_dn (g:Gd al ps)(n c a b:S):tot (A2 al ps cs (.dn n c)) a b=if b=c then(if a=n then(if c=al then -1 else 1) else if (a,n)∈ps then -(if c=al then -1 else 1) else 0) else 0:=by
 unfold tot A2
 simp only[sg]
 rw[a0u]
 generalize hs:(if c=al then(-1:Int) else 1)=s
 by_cases hb:b=c
 ·subst hb
  rw[if_pos rfl]
  by_cases ha:a=n
  ·subst ha
   rw[if_pos rfl,if_pos rfl,m6 λ m hm=>?_]
   ·omega
   ·simp only[Prod.mk.injEq,and_true]
    rw[if_neg]
    rintro rfl
    exact g.not_self (mem_bel.mp hm)
  ·rw[if_neg ha,if_neg (show ¬ (n,b)=(a,b) by simp[Ne.symm ha])]
   have e:(λ m=>if ((m,b),-s).1=(a,b) then((m,b),-s).2 else 0)=λ m:S=>if m=a then -s else 0:=by
    funext m
    simp
   rw[e]
   by_cases hm:(a,n)∈ps
   ·rw[if_pos hm,V4 (g.bel_nd n) (mem_bel.mpr hm)];omega
   ·rw[if_neg hm,a1f λ h=>hm (mem_bel.mp h)];omega
 ·rw[if_neg hb,if_neg (by simp[Ne.symm hb]),m6 λ m hm=>if_neg (by simp[Ne.symm hb])]
  rfl
theorem tot_ac (hc:(cs++[al]).Nodup)(n a b:S):tot (A2 al ps cs (.ac n)) a b=if a=n then(if b=al then(if n=al then 1 else -1) else if b∈cs then -(if n=al then 1 else -1) else 0) else 0:=by
 unfold tot A2
 simp only[sg]
 rw[a0u]
 generalize hs:(if n=al then(1:Int) else -1)=s
 have hal:al∉cs:=λ h=>by
  rw[List.nodup_append]at hc
  exact hc.2.2 _ h _ (by simp) rfl
 have hnd:cs.Nodup:=(List.nodup_append.mp hc).1
 by_cases ha:a=n
 ·subst ha
  rw[if_pos rfl]
  have e:(λ m=>if ((a,m),-s).1=(a,b) then((a,m),-s).2 else 0)=λ m:S=>if m=b then -s else 0:=by
   funext m
   simp
  rw[e]
  by_cases hb:b=al
  ·subst hb
   rw[if_pos rfl,if_pos rfl,a1f hal];omega
  ·rw[if_neg hb,if_neg (show ¬ (a,al)=(a,b) by simp[Ne.symm hb])]
   by_cases hm:b∈cs
   ·rw[if_pos hm,V4 hnd hm];omega
   ·rw[if_neg hm,a1f hm];omega
 ·rw[if_neg ha,if_neg (by simp[Ne.symm ha]),m6 λ m hm=>if_neg (by simp[Ne.symm ha])]
  rfl
def upS (al:S)(ps:List (S×S))(a b:S):Sm S:=match ps.find? (λ q=>q.1==a) with
 | some q=>.dn q.2 b
 | none=>.ac al
def C6 (ps:List (S×S))(a b:S):Sm S:=if bel ps a=[] then .ac a else .dn a b
theorem V5 (g:Gd al ps){a k b:S}(h:(a,k)∈ps):upS al ps a b=.dn k b:=by
 unfold upS
 cases e:ps.find? (λ q=>q.1==a) with
 | none=>
  have:=List.find?_eq_none.mp e _ h
  simp at this
 | some q=>
  have h1:=List.find?_some e
  have h2:=List.mem_of_find?_eq_some e
  have h1:q.1=a:=eq_of_beq h1
  have:q=(a,q.2):=by rw[<- h1]
  rw[this]at h2
  show Sm.dn q.2 b=_
  rw[g.uniq h2 h]
theorem V6 (g:Gd al ps){b:S}:upS al ps al b=.ac al:=by
 unfold upS
 cases e:ps.find? (λ q=>q.1==al) with
 | none=>rfl
 | some q=>
  have h1:=List.find?_some e
  have h2:=List.mem_of_find?_eq_some e
  exact((List.nodup_cons.mp g.nd).1 (List.mem_map.mpr ⟨q,h2,eq_of_beq h1⟩)).elim
theorem a1g (g:Gd al ps){a:S}(h:a=al\/a∈ps.map (·.1)):a=al\/∃ k,(a,k)∈ps:=by
 rcases h with h | h
 ·exact .inl h
 ·obtain⟨q,hq,rfl⟩:=List.mem_map.mp h
  exact .inr ⟨q.2,hq⟩
theorem a5f (g:Gd al ps)(hc:(cs++[al]).Nodup){a b:S}(ha:a=al\/a∈ps.map (·.1))(hb:b=al\/b∈cs){one:Sm S}(h1:IsSm al ps cs one):
  tot (A2 al ps cs one) a b=(if b=al then -1 else 1) * ((if one=C6 ps a b then 1 else 0) - (if one=upS al ps a b then 1 else 0)):=by
 have hal:al∉cs:=λ h=>by
  rw[List.nodup_append]at hc
  exact hc.2.2 _ h _ (by simp) rfl
 cases h1 with
 | dn n c hn hbe hcc=>
  rw[tot_dn g]
  by_cases ebc:b=c
  ·subst ebc
   rw[if_pos rfl]
   by_cases ean:a=n
   ·subst ean
    rw[if_pos rfl]
    have e1:C6 ps a b=.dn a b:=by unfold C6;rw[if_neg hbe]
    have e2:upS al ps a b≠.dn a b:=λ e=>by
     rcases a1g g ha with rfl | ⟨k,hk⟩
     ·rw[V6 g]at e;cases e
     ·rw[V5 g hk]at e
      cases e
      exact g.not_self hk
    rw[e1,if_pos rfl,if_neg (Ne.symm e2)];split <;> omega
   ·rw[if_neg ean]
    have e1:(Sm.dn n b:Sm S)≠C6 ps a b:=λ e=>by
     unfold C6 at e
     split at e
     ·cases e
     ·cases e;exact ean rfl
    rw[if_neg e1]
    by_cases hm:(a,n)∈ps
    ·rw[if_pos hm,V5 g hm,if_pos rfl];split <;> omega
    ·rw[if_neg hm]
     have e2:(Sm.dn n b:Sm S)≠upS al ps a b:=λ e=>by
      rcases a1g g ha with rfl | ⟨k,hk⟩
      ·rw[V6 g]at e;cases e
      ·rw[V5 g hk]at e
       cases e
       exact hm hk
     rw[if_neg e2];split <;> omega
  ·rw[if_neg ebc]
   have e1:(Sm.dn n c:Sm S)≠C6 ps a b:=λ e=>by
    unfold C6 at e
    split at e
    ·cases e
    ·cases e;exact ebc rfl
   have e2:(Sm.dn n c:Sm S)≠upS al ps a b:=λ e=>by
    unfold upS at e
    split at e
    ·cases e;exact ebc rfl
    ·cases e
   rw[if_neg e1,if_neg e2];split <;> omega
 | ac n hn=>
  rw[tot_ac hc]
  by_cases ean:a=n
  ·subst ean
   rw[if_pos rfl]
   rcases hn with rfl | ⟨hn1,hn2⟩
   ·have e1:(Sm.ac a:Sm S)≠C6 ps a b:=λ e=>by
     unfold C6 at e
     rw[if_neg g.al_above]at e
     cases e
    rw[if_neg e1,V6 g,if_pos rfl,if_pos rfl]
    rcases hb with rfl | hb
    ·rw[if_pos rfl,if_pos rfl];omega
    ·have:b≠a:=λ e=>hal (e ▸ hb)
     rw[if_neg this,if_neg this,if_pos hb];omega
   ·have e1:C6 ps a b=.ac a:=by unfold C6;rw[if_pos hn2]
    have nal:a≠al:=λ e=>g.al_above (e ▸ hn2)
    have e2:(Sm.ac a:Sm S)≠upS al ps a b:=λ e=>by
     unfold upS at e
     split at e
     ·cases e
     ·cases e;exact nal rfl
    rw[e1,if_pos rfl,if_neg e2,if_neg nal]
    rcases hb with rfl | hb
    ·rw[if_pos rfl,if_pos rfl];omega
    ·have:b≠al:=λ e=>hal (e ▸ hb)
     rw[if_neg this,if_neg this,if_pos hb];omega
  ·rw[if_neg ean]
   have e1:(Sm.ac n:Sm S)≠C6 ps a b:=λ e=>by
    unfold C6 at e
    split at e
    ·cases e;exact ean rfl
    ·cases e
   have e2:(Sm.ac n:Sm S)≠upS al ps a b:=λ e=>by
    rcases a1g g ha with rfl | ⟨k,hk⟩
    ·rw[V6 g]at e;cases e;exact ean rfl
    ·rw[V5 g hk]at e;cases e
   rw[if_neg e1,if_neg e2];split <;> omega
def cnt (al:S)(ps:List (S×S))(cs:List S)(L:List (Sm S))(a b:S):Int:=sg L λ one=>tot (A2 al ps cs one) a b
theorem cnt_ends (g:Gd al ps)(hc:(cs++[al]).Nodup){a b:S}(ha:a=al\/a∈ps.map (·.1))(hb:b=al\/b∈cs){L:List (Sm S)}(hL:∀ one∈L,IsSm al ps cs one):
  cnt al ps cs L a b=(if b=al then -1 else 1) * ((sg L λ one=>if one=C6 ps a b then 1 else 0) - (sg L λ one=>if one=upS al ps a b then 1 else 0)):=by
 unfold cnt
 rw[l6 λ one h=>a5f g hc ha hb (hL one h),E4]
 congr 1
 have:=a0v L (λ one=>(if one=C6 ps a b then(1:Int) else 0)) (λ one=>-1 * (if one=upS al ps a b then(1:Int) else 0))
 rw[E4]at this
 have e:(λ one:Sm S=>(if one=C6 ps a b then(1:Int) else 0) - if one=upS al ps a b then 1 else 0)=λ one=>(if one=C6 ps a b then(1:Int) else 0) + -1 * (if one=upS al ps a b then(1:Int) else 0):=by
  funext one;omega
 rw[e,this];omega
theorem sg_at {P:List (S×S)}(hd:P.Nodup){p:S×S}(hp:p∈P)(k:Int)(T:S×S->Int):sg P (λ pl=>(if p=(pl.1,pl.2) then k else 0) * T pl)=k * T p:=by
 have e:(λ pl:S×S=>(if p=(pl.1,pl.2) then k else 0) * T pl)=λ pl=>if pl=p then k * T p else 0:=by
  funext pl
  by_cases h:pl=p
  ·subst h;simp
  ·rw[if_neg h,if_neg (λ z=>h (by rw[z])),Int.zero_mul]
 rw[e,V4 hd hp]
theorem tot_sum {P:List (S×S)}(hd:P.Nodup)(T:S×S->Int):∀ {l:List ((S×S)×Int)},(∀ p∈l,p.1∈P)->sg P (λ pl=>tot l pl.1 pl.2 * T pl)=sg l λ p=>p.2 * T p.1
 | [],_=>m6 λ _ _=>by simp[tot,sg]
 | p::l,h=>by
  have ih:=tot_sum hd T (l:=l) λ q hq=>h q (List.mem_cons_of_mem _ hq)
  simp only[sg]
  rw[<- ih,<- sg_at hd (h p (by simp)) p.2 T,<- a0v]
  refine l6 λ pl _=>?_
  show(_ + _) * _=_
  rw[Int.add_mul]
  rfl
theorem give_in (g:Gd al ps){one:Sm S}(h1:IsSm al ps cs one){p:(S×S)×Int}(hp:p∈A2 al ps cs one):(p.1.1=al\/p.1.1∈ps.map (·.1))/\(p.1.2=al\/p.1.2∈cs):=by
 cases h1 with
 | dn n c hn hb hcc=>
  rcases List.mem_cons.mp hp with rfl | hp
  ·exact⟨hn,hcc⟩
  ·obtain⟨m,hm,rfl⟩:=List.mem_map.mp hp
   exact⟨.inr (List.mem_map.mpr ⟨_,mem_bel.mp hm,rfl⟩),hcc⟩
 | ac n hn=>
  have hn':n=al\/n∈ps.map (·.1):=hn.imp id λ h=>h.1
  rcases List.mem_cons.mp hp with rfl | hp
  ·exact⟨hn',.inl rfl⟩
  ·obtain⟨c,hc,rfl⟩:=List.mem_map.mp hp
   exact⟨hn',.inr hc⟩
end
section
variable {S:Type}[BEq S][LawfulBEq S][DecidableEq S]{al:S}{ps:List (S×S)}{cs:List S}
def gP (al:S)(ps:List (S×S))(p:S×S):Sm S:=if p.2=al then upS al ps p.1 p.2 else C6 ps p.1 p.2
def gM (al:S)(ps:List (S×S))(p:S×S):Sm S:=if p.2=al then C6 ps p.1 p.2 else upS al ps p.1 p.2
def gW (al:S)(ps:List (S×S))(p:S×S)(w:Int):Sm S:=if w=1 then gP al ps p else gM al ps p
def IsPl (al:S)(ps:List (S×S))(cs:List S)(p:S×S):Prop:=(p.1=al\/p.1∈ps.map (·.1))/\(p.2=al\/p.2∈cs)
theorem al_out (hc:(cs++[al]).Nodup):al∉cs:=λ h=>by
 rw[List.nodup_append]at hc
 exact hc.2.2 _ h _ (by simp) rfl
theorem own_dn {n c:S}(h:bel ps n≠[]):C6 ps n c=.dn n c:=by unfold C6;rw[if_neg h]
theorem own_ac {n c:S}(h:bel ps n=[]):C6 ps n c=.ac n:=by unfold C6;rw[if_pos h]
theorem give_by (g:Gd al ps)(hc:(cs++[al]).Nodup){one:Sm S}(h1:IsSm al ps cs one){p:S×S}{w:Int}(h:(p,w)∈A2 al ps cs one):(w=1\/w=-1)/\one=gW al ps p w:=by
 have hal:=al_out hc
 cases h1 with
 | dn n c hn hb hcc=>
  unfold A2 at h
  rcases List.mem_cons.mp h with h | h
  ·cases h
   by_cases e:c=al
   ·rw[if_pos e]
    refine⟨.inr rfl,?_⟩
    unfold gW gM
    rw[if_neg (by decide),if_pos e,own_dn hb]
   ·rw[if_neg e]
    refine⟨.inl rfl,?_⟩
    unfold gW gP
    rw[if_pos rfl,if_neg e,own_dn hb]
  ·obtain⟨m,hm,e⟩:=List.mem_map.mp h
   cases e
   have hm:=mem_bel.mp hm
   by_cases e:c=al
   ·rw[if_pos e]
    refine⟨.inl rfl,?_⟩
    unfold gW gP
    rw[if_pos (by decide),if_pos e,V5 g hm]
   ·rw[if_neg e]
    refine⟨.inr rfl,?_⟩
    unfold gW gM
    rw[if_neg (by decide),if_neg e,V5 g hm]
 | ac n hn=>
  unfold A2 at h
  rcases List.mem_cons.mp h with h | h
  ·cases h
   by_cases e:n=al
   ·subst e
    rw[if_pos rfl]
    refine⟨.inl rfl,?_⟩
    unfold gW gP
    rw[if_pos rfl,if_pos rfl,V6 g]
   ·rw[if_neg e]
    refine⟨.inr rfl,?_⟩
    unfold gW gM
    rw[if_neg (by decide),if_pos rfl,own_ac (hn.resolve_left e).2]
  ·obtain⟨c,hm,e⟩:=List.mem_map.mp h
   cases e
   have ec:c≠al:=λ e=>hal (e ▸ hm)
   by_cases e:n=al
   ·subst e
    rw[if_pos rfl]
    refine⟨.inr rfl,?_⟩
    unfold gW gM
    rw[if_neg (by decide),if_neg ec,V6 g]
   ·rw[if_neg e]
    refine⟨.inl rfl,?_⟩
    unfold gW gP
    rw[if_pos (by decide),if_neg ec,own_ac (hn.resolve_left e).2]
theorem give_ac (n:S):A2 al ps cs (.ac n)=((n,al),if n=al then 1 else -1)::cs.map λ c=>((n,c),-(if n=al then 1 else -1)):=rfl
theorem up_sm (g:Gd al ps){p:S×S}(hp:IsPl al ps cs p):IsSm al ps cs (upS al ps p.1 p.2)/\(p,if p.2=al then 1 else -1)∈A2 al ps cs (upS al ps p.1 p.2):=by
 rcases a1g g hp.1 with e | ⟨k,hk⟩
 ·rw[e,V6 g]
  refine⟨.ac _ (.inl rfl),?_⟩
  rw[give_ac]
  rcases hp.2 with e2 | h2
  ·rw[if_pos e2,if_pos rfl]
   have:p=(al,al):=Prod.ext e e2
   rw[this]
   simp
  ·by_cases e2:p.2=al
   ·rw[if_pos e2,if_pos rfl]
    have:p=(al,al):=Prod.ext e e2
    rw[this]
    simp
   ·rw[if_neg e2,if_pos rfl]
    refine List.mem_cons_of_mem _ (List.mem_map.mpr ⟨p.2,h2,?_⟩)
    rw[<- e]
 ·rw[V5 g hk]
  have hm:=mem_bel.mpr hk
  refine⟨.dn _ _ (g.above_in hk) (λ z=>by rw[z]at hm;cases hm) hp.2,List.mem_cons_of_mem _ (List.mem_map.mpr ⟨p.1,hm,?_⟩)⟩
  by_cases e:p.2=al
  ·rw[if_pos e,if_pos e];simp
  ·rw[if_neg e,if_neg e]
theorem own_sm (g:Gd al ps)(hc:(cs++[al]).Nodup){p:S×S}(hp:IsPl al ps cs p):IsSm al ps cs (C6 ps p.1 p.2)/\(p,if p.2=al then -1 else 1)∈A2 al ps cs (C6 ps p.1 p.2):=by
 by_cases hb:bel ps p.1=[]
 ·rw[own_ac hb]
  have ne:p.1≠al:=λ e=>g.al_above (e ▸ hb)
  have hin:=hp.1.resolve_left ne
  refine⟨.ac _ (.inr ⟨hin,hb⟩),?_⟩
  rw[give_ac]
  rw[if_neg ne]
  by_cases e2:p.2=al
  ·rw[if_pos e2]
   have:p=(p.1,al):=by rw[<- e2]
   rw[this]
   simp
  ·rw[if_neg e2]
   exact List.mem_cons_of_mem _ (List.mem_map.mpr ⟨p.2,hp.2.resolve_left e2,by simp⟩)
 ·rw[own_dn hb]
  exact⟨.dn _ _ hp.1 hb hp.2,List.mem_cons_self ..⟩
theorem gP_sm (g:Gd al ps)(hc:(cs++[al]).Nodup){p:S×S}(hp:IsPl al ps cs p):IsSm al ps cs (gP al ps p)/\(p,1)∈A2 al ps cs (gP al ps p):=by
 unfold gP
 by_cases e:p.2=al
 ·have:=up_sm g hp
  rw[if_pos e]at this ⊢
  exact this
 ·have:=own_sm g hc hp
  rw[if_neg e]at this ⊢
  exact this
theorem gM_sm (g:Gd al ps)(hc:(cs++[al]).Nodup){p:S×S}(hp:IsPl al ps cs p):IsSm al ps cs (gM al ps p)/\(p,-1)∈A2 al ps cs (gM al ps p):=by
 unfold gM
 by_cases e:p.2=al
 ·have:=own_sm g hc hp
  rw[if_pos e]at this ⊢
  exact this
 ·have:=up_sm g hp
  rw[if_neg e]at this ⊢
  exact this
section
variable {V:Sm S->Prop}(cl:∀ p,IsPl al ps cs p->V (gP al ps p)->V (gM al ps p))
include cl
end
end
end A
section
variable {K:PySem.W.Frag}
def M4 (ns:List Int)(k:Int):Int:=if k < ns.length then ns.getD k.toNat 0 else 0
def d4 (K:PySem.W.Frag):Sp:=λ vs H Q _=>∃ (a:Addr) (ns:List Int) (k:Int),vs=[.ref a,.int k]/\SqL K H a (ns.map V.int)/\0<=k/\Q (.int (M4 ns k)) H
def T8 (K:PySem.W.Frag):TS:=
 (b7 (sIf (bT (tOp ltG (gv 1) (tCB (lenS K) (a0 (gv 0) a7))))
  (f9 (tOp (rIxL K) (gv 0) (gv 1)))
  g6)
 (f9 (tC (.int 0))))
theorem a2F {a:Addr}{ns:List Int}{k:Int}{H:Hp}{D:Ends}(hS:SqL K H a (ns.map V.int))(hk:0<=k)(q:D.rt (.int (M4 ns k)) H):T8 K D [some (.ref a),some (.int k)] H:=by
 refine⟨a,_,rfl,hS,?_⟩
 unfold M4 at q
 refine a0j (λ h=>?_) (λ h=>?_)
 ·rw[List.length_map]at h
  rw[if_pos h]at q
  obtain⟨j,rfl⟩:∃ j:Nat,k=j:=⟨k.toNat,by omega⟩
  have hj:j < ns.length:=by omega
  refine⟨a,_,j,.int ns[j],rfl,rfl,hS,D2 (by simp[hj]),?_⟩
  simpa[List.getD,hj] using q
 ·rw[List.length_map]at h
  rw[if_neg h]at q
  exact q
end
theorem sz:sizeLine=16777216:=sizeLine_eq
def M5:Sp:=λ vs H Q _=>∃ x S,vs=[x]/\w5 H x=some S/\(∀ z,x=.str z->z.length < sizeLine)/\∀ H',Same H H'->Q (.bl (nameV x)) H'
def F5:Sp:=λ vs H Q _=>∃ x S,vs=[x]/\w5 H x=some S/\Q (.bl (A5 S "int" && !A5 S "bool")) H
theorem a0w {a b:Int}(h0:0<=b)(h1:b < 2 ^ 64):CMulW a b:=.inl (.inr ⟨by omega,h1⟩)
def spLaw (K:PySem.W.Frag):Sp:=λ vs H Q _=>∃ (a:Addr) (ns:List Int),vs=[.ref a]/\SqL K H a (ns.map V.int)/\ns.length<=63/\∀ H',Q (.bl true) H'
theorem X7 {l:Addr}{xs:List V}{t:TA}{Z:St}{Q:VK}{H:Hp}(h:H l=some (.lst xs))(q:t Z H λ vs H2=>R4 (.ref l) vs H2 Q):bmK "append" t Z Q (.ref l) H:=by
 unfold bmK
 have:tyB H (.ref l)=some "list" := by unfold tyB;simp only[h]
 rw[this]
 exact q
theorem M6 {l:Addr}{xs:List V}{y:V}{Q:VK}{H:Hp}(h:H l=some (.lst xs))(hz:xs.length < sizeLine)(q:Q .non (upd H l (.lst (xs++[y])))):R4 (.ref l) [y] H Q:=by
 unfold R4
 simp only[h]
 exact⟨hz,q⟩
theorem join_i {z:Str}{t:TA}{Z:St}{Q:VK}{H:Hp}(q:t Z H λ vs H2=>a3f (.str z) vs H2 Q):bmK "join" t Z Q (.str z) H:=by
 unfold bmK
 exact q
theorem join_at {z:Str}{l:Addr}{xs:List V}{ys:List Str}{Q:VK}{H:Hp}(h:H l=some (.lst xs))(hy:V1 xs=some ys)(hz:(ys.map (·.length)).sum + ys.length * z.length<=16777216)(q:Q (.str (Txt.join z ys)) H):a3f (.str z) [.ref l] H Q:=by
 unfold a3f
 simp only[h,hy]
 exact⟨hz,q⟩
theorem D1 {cl:Addr}{f:Str}{p dx:Addr}{fs:List (Str×V)}{v:V}{H:Hp}{Q:VK}(h:H p=some (.ins cl dx fs))(hf:fs.lookup f=some v)(q:Q v H):fldK cl f (.ref p) H Q:=by
 unfold fldK
 simp only[h,hf]
 exact⟨trivial,q⟩
theorem k8 {cl:Addr}{m:Str}{p dx:Addr}{fs:List (Str×V)}{H:Hp}{R:Prop}(h:H p=some (.ins cl dx fs))(hf:fs.lookup m=none)(q:R):methK cl m (.ref p) H R:=by
 unfold methK
 simp only[h]
 exact⟨trivial,hf,q⟩
theorem sfl_i {cl:Addr}{f:Str}{p dx:Addr}{y:V}{fs:List (Str×V)}{Z:St}{H:Hp}{N:St->Hp->Prop}(h:H p=some (.ins cl dx fs))(hz:Nat.blt fs.length 1000=true)(q:N Z (upd H p (.ins cl dx (l8 f y fs)))):sfH cl f p y Z H N:=by
 unfold sfH
 simp only[h]
 exact⟨trivial,by simpa using hz,q⟩
theorem dispL_i {tk:TE}{Z:St}{H:Hp}{Q:VK}{x:V}{k:Key}(h1:∀ G R,R x G->tk Z G R)(hk:x=kV k)(h:∀ p b G,H p=none->H b=none->b≠p->Same H G->G p=some (.dK [(k,.ref b)])->G b=some (.lst [])->Q (.ref p) G):a2X [(tk,j6 a7)] Z H Q:=by
 intro p hp
 refine h1 _ _ ⟨few rfl,new_u λ b hb=>⟨?_,[(k,.ref b)],by rw[hk];rfl,by show 1<=15;decide,?_⟩⟩
 ·rw[a5 λ z=>by rw[<- z,a6]at hb;cases hb]
  exact a6
 have nb:b≠p:=λ z=>by
  rw[z,a6]at hb
  cases hb
 have hb':H b=none:=by
  rw[a5 nb]at hb
  exact hb
 have e:a0h [] [(k,V.ref b)]=[(k,V.ref b)]:=by
  show g0 [] k _=_
  rw[W5 _ rfl]
  rfl
 rw[e]
 refine h p b _ hp hb' nb (λ c o q=>?_) a6 ?_
 ·rw[a5 (c9 q hp),a5 (c9 q hb'),a5 (c9 q hp)]
  exact q
 ·rw[a5 nb]
  exact a6
theorem a3X {p:Addr}{y v:V}{k:Key}{kvs:List (Key×V)}{H:Hp}{Q:VK}(h:Rd H p (.dK kvs))(hk:O4 y=some k)(hv:d6 kvs k=some v)(q:Q v H):e8 (.ref p) y H Q:=by
 unfold e8
 rcases h with h | ⟨o,h⟩
 ·have:C0 H p y=some (some v):=by
   unfold C0
   simp only[h,hk,Option.map_some,hv]
  simp only[h,this]
  exact q
 ·have:C0 H p y=some (some v):=by
   unfold C0
   simp only[h,hk,Option.map_some,hv]
  simp only[h,this]
  exact q
theorem setK_i {p:Addr}{i v:V}{k:Key}{kvs:List (Key×V)}{H:Hp}{Q:Hp->Prop}(h:H p=some (.dK kvs))(hk:O4 i=some k)(hz:kvs.length < sizeLine)(q:Q (upd H p (.dK (g0 kvs k v)))):A9 (.ref p) i v H Q:=by
 unfold A9
 simp only[h,hk]
 exact⟨hz,q⟩
theorem iterD_i {a:Addr}{kvs:List (Key×V)}{H:Hp}{R:It->Hp->Th->Prop}(h:H a=some (.dK kvs))(q:∀ o,R (Itd a o kvs) (upd H a (.frz o (.dK kvs))) (some (a,.dK kvs))):d9 (.ref a) H R:=by
 unfold d9
 simp only[h]
 exact q
theorem items_i {a:Addr}{kvs:List (Key×V)}{H:Hp}{R:It->Hp->Th->Prop}(h:H a=some (.dK kvs))(q:∀ o,R (Itp a o kvs) (upd H a (.frz o (.dK kvs))) (some (a,.dK kvs))):J8 (.ref a) H R:=by
 unfold J8
 simp only[h]
 exact q
theorem listL_i {p:Addr}{ys:List V}{H:Hp}{Q:VK}(h:H p=some (.lst ys))(q:newO H (.lst ys) Q):E3 [.ref p] H Q:=by
 unfold E3
 simp only[h]
 exact q
theorem a3Y {p:Addr}{kvs:List (Key×V)}{H:Hp}{Q:VK}(h:Rd H p (.dK kvs))(q:newO H (.lst (kvs.map λ kv=>kV kv.1)) Q):E3 [.ref p] H Q:=by
 unfold E3
 rcases h with h | ⟨o,h⟩
 ·simp only[h]
  exact q
 ·simp only[h]
  exact q
theorem listS_i {z:Str}{H:Hp}{Q:VK}(hz:z.length<=sizeLine)(q:newO H (.lst (z.cps.toList.map λ c=>V.str ⟨#[c]⟩)) Q):E3 [.str z] H Q:=by
 unfold E3
 exact⟨hz,q⟩
theorem lenT_i {p:Addr}{xs:List V}{H:Hp}{Q:VK}(h:H p=some (.tup xs))(q:Q (.int xs.length) H):lenH p H Q:=by
 unfold lenH
 simp only[h]
 exact q
theorem inL_i {neg:Bool}{p:Addr}{x:V}{ys:List V}{es:List PyData}{d:PyData}{H:Hp}{Q:VK}(h:H p=some (.lst ys))(he:a1B H ys=some es)(hd:rdD 7 H x=some d)(q:Q (.bl (neg ^^ es.any λ e=>PyData.eqv e d)) H):inG neg x (.ref p) H Q:=by
 unfold inG
 simp only[h,he,hd]
 exact q
theorem a3Z {p:Addr}{xs:List V}{H:Hp}{Q:Bool->Hp->Prop}(h:H p=some (.lst xs))(q:Q (!xs.isEmpty) H):truH p H Q:=by
 unfold truH
 simp only[h]
 exact q
theorem slL_i {a:Addr}{xs:List V}{lo hi:Option Int}{H:Hp}{Q:VK}(h:H a=some (.lst xs))(q:newO H (.lst (a0i xs lo hi)) Q):slH a lo hi H Q:=by
 unfold slH
 simp only[h]
 exact q
theorem loop_dic {a:Addr}{o:Obj}{kvs:List (Key×V)}{g:TG}{tb:TS}{D:Ends}{Z:St}{H:Hp}(Pv:Nat->St->Hp->Prop)(h0:Pv 0 Z H)(hl:∀ i Z H,i<=kvs.length->Pv i Z H->H a=some (.frz o (.dK kvs)))
  (hs:∀ i k v Z H,kvs[i]?=some (k,v)->Pv i Z H->g (kV k) Z H λ σ2 H2=>tb { D with nx:=Pv (i + 1),ct:=Pv (i + 1),bk:=D.nx } σ2 H2)(hd:∀ Z H,Pv kvs.length Z H->D.nx Z H):E2 (Itd a o kvs) g tb D Z H:=by
 unfold E2
 refine⟨λ i m Z H=>m=kvs.length - i/\i<=kvs.length/\Pv i Z H,⟨_,rfl,Nat.zero_le _,h0⟩,?_⟩
 rintro i m Z H ⟨rfl,hi,p⟩
 have q:=hl i Z H hi p
 by_cases hlt:i < kvs.length
 ·refine .inr ⟨⟨q,hlt⟩,Pv (i + 1),λ Z' H' h=>⟨_,by omega,rfl,hlt,h⟩,?_⟩
  rintro x H' ⟨rfl,k,v,hx,rfl⟩
  exact hs i k v Z _ hx p
 ·have e:i=kvs.length:=by omega
  subst e
  exact .inl ⟨⟨q,Nat.le_refl _⟩,hd Z H p⟩
theorem loop_itm {a:Addr}{o:Obj}{kvs:List (Key×V)}{g:TG}{tb:TS}{D:Ends}{Z:St}{H:Hp}(Pv:Nat->St->Hp->Prop)(h0:Pv 0 Z H)(hl:∀ i Z H,i<=kvs.length->Pv i Z H->H a=some (.frz o (.dK kvs)))
  (hs:∀ i k v t Z H G,kvs[i]?=some (k,v)->Pv i Z H->H t=none->Same H G->G t=some (.tup [kV k,v])->G=upd H t (.tup [kV k,v])->g (.ref t) Z G λ σ2 H2=>tb { D with nx:=Pv (i + 1),ct:=Pv (i + 1),bk:=D.nx } σ2 H2)(hd:∀ Z H,Pv kvs.length Z H->D.nx Z H):E2 (Itp a o kvs) g tb D Z H:=by
 unfold E2
 refine⟨λ i m Z H=>m=kvs.length - i/\i<=kvs.length/\Pv i Z H,⟨_,rfl,Nat.zero_le _,h0⟩,?_⟩
 rintro i m Z H ⟨rfl,hi,p⟩
 have q:=hl i Z H hi p
 by_cases hlt:i < kvs.length
 ·refine .inr ⟨⟨q,hlt⟩,Pv (i + 1),λ Z' H' h=>⟨_,by omega,rfl,hlt,h⟩,?_⟩
  rintro x H' ⟨k,v,t,hx,rfl,ht,rfl⟩
  exact hs i k v t Z H _ hx p ht (p7 ht) a6 rfl
 ·have e:i=kvs.length:=by omega
  subst e
  exact .inl ⟨⟨q,Nat.le_refl _⟩,hd Z H p⟩
theorem comp_of {J:It}{xs:List V}{tn:List Str}{fr:List (Str×Nat)}{g:TG}{tt:TT}{te:TE}{Z:St}{H:Hp}{Q:VK}(f:V->Option V)(hz:xs.length < sizeLine)
  (hJ:∀ G,Same H G->(∀ i,i < xs.length->J.go i G)/\J.stop xs.length G/\∀ i x G',i < xs.length->J.yld i G x G'->G'=G/\xs[i]?=some x)
  (turn:∀ (i:Nat) (x:V),xs[i]?=some x->∀ (G:Hp) (k:Option V->Hp->Prop),Same H G->k (f x) G->g x (inn tn fr Z) G λ σ2 G2=>tt σ2 G2 λ b G3=>br b (te σ2 G3 λ y G4=>k (some y) G4) (k none G3))
  (fin:∀ p G,H p=none->Same H G->G p=some (.lst (xs.filterMap f))->Q (.ref p) G):y7 J tn fr g tt te Z H Q:=by
 unfold y7
 intro p hp
 refine⟨λ i m G=>m=xs.length - i/\i<=xs.length/\Same H G/\G p=some (.lst ((xs.take i).filterMap f)),⟨_,rfl,Nat.zero_le _,p7 hp,by simp[a6]⟩,?_⟩
 rintro i m G ⟨rfl,hi,sm,hg⟩
 obtain⟨j1,j2,j3⟩:=hJ G sm
 by_cases hlt:i < xs.length
 ·refine .inr ⟨j1 i hlt,λ G'=>Same H G'/\G' p=some (.lst ((xs.take (i + 1)).filterMap f)),λ G' h=>⟨_,by omega,rfl,hlt,h⟩,λ x G' y=>?_⟩
  obtain⟨rfl,hx⟩:=j3 i x G' hlt y
  have et:xs.take (i + 1)=xs.take i++[x]:=by
   rw[List.take_succ,hx]
   rfl
  have hlen:((xs.take i).filterMap f).length < sizeLine:=by
   have:=List.length_filterMap_le f (xs.take i)
   have h2:=List.length_take_le i xs
   omega
  refine turn i x hx _ (λ r G4=>match r with
   | some y=>∃ ys,G4 p=some (.lst ys)/\ys.length < sizeLine/\Same H (upd G4 p (.lst (ys++[y])))/\(upd G4 p (.lst (ys++[y]))) p=some (.lst ((xs.take (i + 1)).filterMap f))
   | none=>Same H G4/\G4 p=some (.lst ((xs.take (i + 1)).filterMap f))) sm ?_
  cases e:f x with
  | none=>
   refine⟨sm,?_⟩
   rw[et,List.filterMap_append]
   simpa[e] using hg
  | some y=>
   refine⟨_,hg,hlen,sm.put hp,?_⟩
   rw[a6,et,List.filterMap_append]
   simp[e]
 ·have e:i=xs.length:=by omega
  subst e
  rw[List.take_length]at hg
  exact .inl ⟨j2,fin p G hp sm hg⟩
theorem comp_dic {a:Addr}{o:Obj}{kvs:List (Key×V)}{tn:List Str}{fr:List (Str×Nat)}{g:TG}{tt:TT}{te:TE}{Z:St}{H:Hp}{Q:VK}(f:V->Option V)(ha:H a=some (.frz o (.dK kvs)))(hz:kvs.length < sizeLine)
  (turn:∀ (i:Nat) (x:V),(kvs.map λ kv=>kV kv.1)[i]?=some x->∀ (G:Hp) (k:Option V->Hp->Prop),Same H G->k (f x) G->g x (inn tn fr Z) G λ σ2 G2=>tt σ2 G2 λ b G3=>br b (te σ2 G3 λ y G4=>k (some y) G4) (k none G3))
  (fin:∀ p G,H p=none->Same H G->G p=some (.lst ((kvs.map λ kv=>kV kv.1).filterMap f))->Q (.ref p) G):y7 (Itd a o kvs) tn fr g tt te Z H Q:=by
 refine comp_of f (by rw[List.length_map];exact hz) (λ G sm=>?_) turn fin
 rw[List.length_map]
 refine⟨λ i hi=>⟨sm _ _ ha,hi⟩,⟨sm _ _ ha,Nat.le_refl _⟩,?_⟩
 rintro i x G' hi ⟨rfl,k,v,hx,rfl⟩
 exact⟨rfl,by simp[hx]⟩
theorem comp_l {a:Addr}{xs:List V}{tn:List Str}{fr:List (Str×Nat)}{g:TG}{tt:TT}{te:TE}{Z:St}{H:Hp}{Q:VK}(f:V->Option V)(ha:H a=some (.lst xs))(hz:xs.length < sizeLine)
  (turn:∀ (i:Nat) (x:V),xs[i]?=some x->∀ (G:Hp) (k:Option V->Hp->Prop),Same H G->k (f x) G->g x (inn tn fr Z) G λ σ2 G2=>tt σ2 G2 λ b G3=>br b (te σ2 G3 λ y G4=>k (some y) G4) (k none G3))
  (fin:∀ p G,H p=none->Same H G->G p=some (.lst (xs.filterMap f))->Q (.ref p) G):y7 (Itl0 a) tn fr g tt te Z H Q:=by
 refine comp_of f hz (λ G sm=>?_) turn fin
 refine⟨λ i hi=>⟨xs,xs[i],.inl (sm _ _ ha),by simp[hi]⟩,⟨xs,.inl (sm _ _ ha),Nat.le_refl _⟩,?_⟩
 rintro i x G' hi ⟨rfl,h⟩
 exact⟨rfl,h xs (.inl (sm _ _ ha))⟩
theorem B0 {H G:Hp}{a:Addr}{u f:HO}(h:H a=some u)(s:Same (upd H a f) G):Same H (upd G a u):=λ b o e=>by
 by_cases z:b=a
 ·subst z
  rw[h]at e
  cases e
  exact a6
 ·rw[a5 z]
  exact s b o (by rw[a5 z];exact e)
theorem a1X {H:Hp}{a p:Addr}{f:HO}(h:upd H a f p=none):H p=none/\p≠a:=by
 by_cases z:p=a
 ·subst z
  rw[a6]at h
  cases h
 ·rw[a5 z]at h
  exact⟨h,z⟩
def SameX (x:Addr)(H G:Hp):Prop:=∀ b o,b≠x->H b=some o->G b=some o
theorem SameX.trans {x:Addr}{H G J:Hp}(a:SameX x H G)(b:SameX x G J):SameX x H J:=λ c o n e=>b c o n (a c o n e)
theorem a1Y {x:Addr}{H G:Hp}(s:Same H G):SameX x H G:=λ b o _ e=>s b o e
theorem K5 {x:Addr}{H:Hp}{o:HO}:SameX x H (upd H x o):=λ b u n e=>by
 rw[a5 n]
 exact e
abbrev sts (zs:List Str):List V:=zs.map V.str
theorem a1Z:∀ zs:List Str,V1 (sts zs)=some zs
 | []=>rfl
 | z::r=>by
  rw[sts,List.map_cons]
  show(match V1 (sts r) with | some l=>some (z::l) | none=>none)=_
  rw[a1Z r]
theorem rd_strs (n:Nat)(H:Hp):∀ zs:List Str,(sts zs).mapM (rdD n H)=some (zs.map PyData.str)
 | []=>by simp
 | z::r=>by
  rw[sts,List.map_cons,mapM_cons]
  have:rdD n H (.str z)=some (.str z):=by cases n <;> rfl
  rw[this,Option.bind_some,show(r.map V.str).mapM (rdD n H)=some (r.map PyData.str) from rd_strs n H r]
  rfl
theorem any_str (zs:List Str)(z:Str):((zs.map PyData.str).any λ e=>PyData.eqv e (.str z))=decide (z∈zs):=by
 induction zs with
 | nil=>simp
 | cons a r ih=>
  rw[List.map_cons,List.any_cons,ih,show PyData.eqv (.str a) (.str z)=(a==z) from rfl]
  by_cases h:a=z
  ·subst h
   simp
  ·have:¬ z=a:=λ e=>h e.symm
   simp[h,this]
theorem a3o {neg:Bool}{p:Addr}{z:Str}{zs:List Str}{H:Hp}{Q:VK}(h:H p=some (.lst (sts zs)))(q:Q (.bl (neg ^^ decide (z∈zs))) H):inG neg (.str z) (.ref p) H Q:=
 inL_i h (rd_strs 7 H zs) rfl (by rw[any_str];exact q)
theorem atS {zs:List Str}{j:Nat}{z:Str}(h:zs[j]?=some z):atI (sts zs) (j:Int)=some (.str z):=D2 (by simp[h])
theorem O6 {z:Str}(h:X4 z=true):1<=z.length/\z.length<=8/\z ≠ "all" := by
 unfold X4 at h
 simp only[Bool.and_eq_true,decide_eq_true_eq,Bool.not_eq_true',beq_eq_false_iff_ne]at h
 exact⟨h.1.1.1,h.1.1.2,h.1.2⟩
def Nms (zs:List Str):Prop:=(∀ z∈zs,X4 z=true)/\zs.Nodup
def l9:Sp:=λ vs H Q _=>∃ z:Str,vs=[.str z]/\z.length<=1000/\∀ H',Same H H'->Q (.str z) H'
def X8:TS:=
 (f9 (O1 "join" (tC (.str "")) (a0 (tCB E3 (a0 (gv 0) a7)) a7)))
theorem a2a:∀ l:List Nat,(Str.join "" (l.map λ c=>(⟨#[c]⟩:Str))).cps.toList=l
 | []=>rfl
 | [c]=>rfl
 | c::d::r=>by
  have ih:=a2a (d::r)
  rw[List.map_cons]at ih ⊢
  show((⟨#[c]⟩:Str) ++ "" ++ Str.join "" ((d::r).map λ c=>(⟨#[c]⟩:Str))).cps.toList=_
  rw[W9,W9]
  rw[List.map_cons,ih]
  rfl
theorem str_ext {a b:Str}(h:a.cps.toList=b.cps.toList):a=b:=by
 obtain⟨⟨l⟩⟩:=a
 obtain⟨⟨m⟩⟩:=b
 simp at h
 subst h
 rfl
theorem join_all (z:Str):Txt.join "" (z.cps.toList.map λ c=>(⟨#[c]⟩:Str))=z:=by
 show Builtin.Str.glued _ _=_
 rw[StrLaws.glued_eq_join]
 exact str_ext (a2a _)
theorem a5h:∀ l:List Nat,((l.map λ c=>(⟨#[c]⟩:Str)).map (·.length)).sum=l.length
 | []=>rfl
 | c::r=>by
  rw[List.map_cons,List.map_cons,List.sum_cons,a5h r,List.length_cons]
  show 1 + _=_
  omega
theorem a4a {z:Str}{H:Hp}{D:Ends}(hz:z.length<=1000)(q:∀ H',Same H H'->D.rt (.str z) H'):X8 D [some (.str z)] H:=by
 have hs:=sz
 refine join_i (listS_i (by omega) (b6 λ p G n s h=>?_))
 have e:(z.cps.toList.map λ c=>V.str ⟨#[c]⟩)=sts (z.cps.toList.map λ c=>(⟨#[c]⟩:Str)):=by rw[sts,List.map_map];rfl
 rw[e]at h
 refine join_at h (a1Z _) ?_ ?_
 ·rw[a5h]
  have e0:("" : Str).length=0:=rfl
  have:z.cps.toList.length=z.length:=by rw[Array.length_toList];rfl
  rw[e0,Nat.mul_zero]
  omega
 ·rw[join_all]
  exact q G s
def j5:Sp:=λ vs H Q _=>∃ (z:Str) (l:Addr) (ys:List Str),vs=[.str z,.ref l]/\H l=some (.lst (sts ys))/\X4 z=true/\z∉ys/\∀ H',Same H H'->Q (.str z) H'
def O7:TS:=
 (b7 (sIf (J4 (ptG (d3 M5 [] E0 (a0 (gv 0) a7))))
  xS
  g6)
 (b7 (d7 (d3 l9 [] E0 (a0 (gv 0) a7)) (a8 2))
 (b7 (sIf (bT (tOp (inG false) (gv 2) (gv 1)))
  xS
  g6)
 (f9 (gv 2)))))
theorem a2b {z:Str}{l:Addr}{ys:List Str}{H:Hp}{D:Ends}(hl:H l=some (.lst (sts ys)))(hz:X4 z=true)(hn:z∉ys)(q:∀ H',Same H H'->D.rt (.str z) H'):O7 D [some (.str z),some (.ref l),none] H:=by
 have hs:=sz
 obtain⟨h1,h8,_⟩:=O6 hz
 refine⟨.str z,_,rfl,rfl,λ y e=>(by cases e;omega),λ G1 s1=>?_⟩
 refine i8 (by rw[show nameV (.str z)=true from hz];rfl) ?_
 refine⟨z,rfl,by omega,λ G2 s2=>?_⟩
 refine a3o (s2 _ _ (s1 _ _ hl)) ?_
 exact i8 (by rw[decide_eq_false hn];rfl) (q G2 (s1.trans s2))
def v6:Sp:=λ vs H Q _=>∃ (z:Str) (l:Addr) (ys:List Str),vs=[.str z,.ref l]/\H l=some (.lst (sts ys))/\z.length<=8/\(z = "all" \/ z∈ys)/\∀ H',Same H H'->Q (.str z) H'
def N6:TS:=
 (b7 (sIf (J4 (ptG (tCB X2 (a0 (gv 0) (a0 (tC (.ty "str")) a7)))))
  xS
  g6)
 (b7 (d7 (d3 l9 [] E0 (a0 (gv 0) a7)) (a8 2))
 (b7 (sIf (X1 (bT (tOp neG (gv 2) (tC (.str "all")))) (bT (tOp (inG true) (gv 2) (gv 1))))
  xS
  g6)
 (f9 (gv 2)))))
theorem a0T {z:Str}{l:Addr}{ys:List Str}{H:Hp}{D:Ends}(hl:H l=some (.lst (sts ys)))(hz:z.length<=8)(hn:z = "all" \/ z∈ys)(q:∀ H',Same H H'->D.rt (.str z) H'):N6 D [some (.str z),some (.ref l),none] H:=by
 refine X5 rfl rfl (i8 rfl ?_)
 refine⟨z,rfl,by omega,λ G2 s2=>?_⟩
 refine C8 (λ h=>?_) (λ h=>i8 rfl (q G2 s2))
 refine a3o (s2 _ _ hl) ?_
 have h:(!(z==("all" : Str)))=true:=h
 have hm:z∈ys:=by
  rcases hn with rfl | hn
  ·simp at h
  ·exact hn
 exact i8 (by rw[decide_eq_true hm];rfl) (q G2 s2)
def o3:Sp:=λ vs H Q _=>∃ (c:Addr) (cs:List Str),vs=[.ref c]/\H c=some (.lst (sts cs))/\Nms cs/\1<=cs.length/\cs.length<=8/\∀ p H',Same H H'->H p=none->H' p=some (.lst (sts cs))->Q (.ref p) H'
def F6:TS:=
 (b7 (sIf (tOrB (J4 (ptG (tCB X2 (a0 (gv 0) (a0 (tC (.ty "list")) a7))))) (J4 (bT (V0 leG leG (tC (.int 1)) (tCB a0m (a0 (gv 0) a7)) (tC (.int 8))))))
  xS
  g6)
 (b7 (d7 (j6 a7) (a8 1))
 (b7 (v5 (iOf d9 (gv 0)) (a8 2)
  (K0 (O1 "append" (gv 1) (a0 (d3 j5 [] E0 (a0 (gv 2) (a0 (gv 1) a7))) a7))))
 (f9 (gv 1)))))
theorem D4 {α:Type}{xs:List α}(h:xs.Nodup){i:Nat}{x:α}(hx:xs[i]?=some x):x∉xs.take i:=by
 intro m
 obtain⟨j,hj,e⟩:=List.mem_iff_getElem.mp m
 have hi:=(Zg hx).1
 rw[List.length_take]at hj
 rw[List.getElem_take]at e
 have e2:xs[i]=x:=(Zg hx).2
 have hp:=List.pairwise_iff_getElem.mp h j i (by omega) hi (by omega)
 exact hp (e.trans e2.symm)
theorem b9 {α:Type}{xs:List α}{i:Nat}{x:α}(hx:xs[i]?=some x):xs.take (i + 1)=xs.take i++[x]:=by
 rw[List.take_succ,hx]
 rfl
theorem a1h {a b:Int}(h:a<=b):decide (a<=b)=true:=decide_eq_true h
theorem y3 {zs:List Str}{i:Nat}{x:V}(h:(sts zs)[i]?=some x):∃ z,zs[i]?=some z/\x=.str z:=by
 rw[sts,List.getElem?_map]at h
 cases e:zs[i]? with
 | none=>rw[e]at h;cases h
 | some z=>rw[e]at h;cases h;exact⟨z,rfl,rfl⟩
theorem K6 (zs:List Str)(z:Str):sts zs++[.str z]=sts (zs++[z]):=by simp[sts]
theorem X9 {c:Addr}{cs:List Str}{H:Hp}{D:Ends}(hc:H c=some (.lst (sts cs)))(hn:Nms cs)(h1:1<=cs.length)(h8:cs.length<=8)(q:∀ p H',Same H H'->H p=none->H' p=some (.lst (sts cs))->D.rt (.ref p) H'):F6 D [some (.ref c),none,none] H:=by
 have hs:=sz
 refine X5 rfl (a5e hc) (i8 rfl ?_)
 refine V3 hc ?_
 rw[show(sts cs).length=cs.length from List.length_map ..]
 refine m5 (a1h (by omega)) ?_
 refine i8 (by rw[a1h (by omega)];rfl) ?_
 refine⟨few rfl,b6 λ p G1 n1 s1 t1=>?_⟩
 refine g8 (f7 (s1 _ _ hc) (g7 (xs:=sts cs) (λ i Z G=>Same H G/\G p=some (.lst (sts (cs.take i)))/\∃ v,Z=[some (.ref c),some (.ref p),v]) ⟨s1,t1,_,rfl⟩ (λ i Z G _ h=>h.1 _ _ hc) ?_ ?_))
 ·rintro i x Z G hx ⟨sm,hg,v,rfl⟩
  obtain⟨z,hz,rfl⟩:=y3 hx
  refine X7 hg ⟨z,p,_,rfl,hg,hn.1 z (List.mem_of_getElem? hz),D4 hn.2 hz,λ G2 s2=>?_⟩
  refine M6 (s2 _ _ hg) (by simp;omega) ⟨(sm.trans s2).put n1,?_,_,rfl⟩
  rw[a6,K6,b9 hz]
 ·rintro Z G ⟨sm,hg,v,rfl⟩
  rw[show(sts cs).length=cs.length from List.length_map ..,List.take_length]at hg
  exact q p G sm n1 hg
def PairsAt (H:Hp)(xs:List V)(ps:List (Str×Str)):Prop:=xs.length=ps.length/\∀ (i:Nat) q,ps[i]?=some q->∃ t,xs[i]?=some (.ref t)/\H t=some (.tup [.str q.1,.str q.2])
theorem PairsAt.same {H G:Hp}{xs:List V}{ps:List (Str×Str)}(h:PairsAt H xs ps)(s:Same H G):PairsAt G xs ps:=⟨h.1,λ i q e=>by
 obtain⟨t,e1,e2⟩:=h.2 i q e
 exact⟨t,e1,s _ _ e2⟩⟩
theorem PairsAt.put {H:Hp}{xs ys:List V}{ps:List (Str×Str)}{l:Addr}{o:HO}(h:PairsAt H xs ps)(hl:H l=some (.lst ys)):PairsAt (upd H l o) xs ps:=⟨h.1,λ i q e=>by
 obtain⟨t,e1,e2⟩:=h.2 i q e
 refine⟨t,e1,?_⟩
 rw[a5 λ z=>by rw[z,hl]at e2;cases e2]
 exact e2⟩
theorem PairsAt.nil {H:Hp}:PairsAt H [] []:=⟨rfl,λ i q e=>by simp at e⟩
theorem PairsAt.snoc {H:Hp}{xs:List V}{ps:List (Str×Str)}{t:Addr}{q:Str×Str}(h:PairsAt H xs ps)(ht:H t=some (.tup [.str q.1,.str q.2])):PairsAt H (xs++[.ref t]) (ps++[q]):=by
 refine⟨by simp[h.1],λ i r e=>?_⟩
 by_cases hi:i < ps.length
 ·rw[List.getElem?_append_left hi]at e
  rw[List.getElem?_append_left (by rw[h.1];exact hi)]
  exact h.2 i r e
 ·have hi2:i=ps.length:=by
   have:=(Zg e).1
   simp at this
   omega
  subst hi2
  simp at e
  subst e
  exact⟨t,by rw[<- h.1];simp,ht⟩
theorem PairsAt.at {H:Hp}{xs:List V}{ps:List (Str×Str)}(h:PairsAt H xs ps){i:Nat}{x:V}(hx:xs[i]?=some x):∃ q t,ps[i]?=some q/\x=.ref t/\H t=some (.tup [.str q.1,.str q.2]):=by
 have hi:=(Zg hx).1
 rw[h.1]at hi
 obtain⟨t,e1,e2⟩:=h.2 i ps[i] (by simp[hi])
 rw[hx]at e1
 cases e1
 exact⟨ps[i],t,by simp[hi],rfl,e2⟩
structure Good (ps:List (Str×Str)):Prop where
 one:1<=ps.length
 many:ps.length<=24
 nms:Nms (ps.map (·.1))
 abv:∀ (i:Nat) q,ps[i]?=some q->q.2 = "all" \/ q.2∈(ps.take i).map (·.1)
def B1 (ps:List (Str×Str)):List (Key×V):=ps.map λ q=>(.inr q.1,.str q.2)
theorem O8 (ps:List (Str×Str)):((B1 ps).map λ kv=>kV kv.1)=sts (ps.map (·.1)):=by
 unfold B1
 rw[sts,List.map_map,List.map_map]
 rfl
theorem abv_none {ps:List (Str×Str)}{n:Str}(h:n∉ps.map (·.1)):d6 (B1 ps) (Sum.inr n)=none:=by
 induction ps with
 | nil=>rfl
 | cons a r ih=>
  unfold B1
  rw[List.map_cons]at h ⊢
  rw[g5 (λ e=>h (by
   have:a.1=n:=by injection e
   rw[this]
   simp))]
  exact ih λ m=>h (List.mem_cons_of_mem _ m)
theorem K7 {ps:List (Str×Str)}{i:Nat}{q:Str×Str}(h:ps[i]?=some q):(ps.map (·.1))[i]?=some q.1:=by simp[h]
theorem Good.len2 {ps:List (Str×Str)}(g:Good ps){i:Nat}{q:Str×Str}(h:ps[i]?=some q):q.2.length<=8:=by
 rcases g.abv i q h with e | m
 ·rw[e]
  decide
 ·have:q.2∈ps.map (·.1):=by
   obtain⟨r,hr,e⟩:=List.mem_map.mp m
   exact List.mem_map.mpr ⟨r,List.mem_of_mem_take hr,e⟩
  exact(O6 (g.nms.1 _ this)).2.1
def w4:Sp:=λ vs H Q _=>∃ (p:Addr) (xs:List V) (ps:List (Str×Str)),vs=[.ref p]/\H p=some (.lst xs)/\PairsAt H xs ps/\Good ps/\∀ a H',Same H H'->H a=none->H' a=some (.dK (B1 ps))->Q (.ref a) H'
def N7:TS:=
 (b7 (sIf (tOrB (J4 (ptG (tCB X2 (a0 (gv 0) (a0 (tC (.ty "list")) a7))))) (J4 (bT (V0 leG leG (tC (.int 1)) (tCB a0m (a0 (gv 0) a7)) (tC (.int 24))))))
  xS
  g6)
 (b7 (d7 N5 (a8 1))
 (b7 (v5 (iOf d9 (gv 0)) (a8 2)
  (b7 (sIf (tOrB (J4 (ptG (tCB X2 (a0 (gv 2) (a0 (tC (.ty "tuple")) a7))))) (bT (tOp neG (tCB a0m (a0 (gv 2) a7)) (tC (.int 2)))))
   xS
   g6)
  (b7 (d7 (d3 j5 [] E0 (a0 (tOp e8 (gv 2) (tC (.int 0))) (a0 (tCB E3 (a0 (gv 1) a7)) a7))) (a8 3))
  (b7 (d7 (d3 v6 [] E0 (a0 (tOp e8 (gv 2) (tC (.int 1))) (a0 (tCB E3 (a0 (gv 1) a7)) a7))) (a8 4))
  (d7 (gv 4) (W0 (gv 1) (gv 3) A9))))))
 (f9 (gv 1)))))
theorem a0U {p:Addr}{xs:List V}{ps:List (Str×Str)}{H:Hp}{D:Ends}(hp:H p=some (.lst xs))(hx:PairsAt H xs ps)(g:Good ps)(q:∀ a H',Same H H'->H a=none->H' a=some (.dK (B1 ps))->D.rt (.ref a) H'):N7 D [some (.ref p),none,none,none,none] H:=by
 have hs:=sz
 have g1:=g.one
 have g2:=g.many
 refine X5 rfl (a5e hp) (i8 rfl ?_)
 refine V3 hp ?_
 rw[hx.1]
 refine m5 (a1h (by omega)) ?_
 refine i8 (by rw[a1h (by omega)];rfl) ?_
 refine .inl (.inr (b6 λ a G1 n1 s1 t1=>?_))
 refine g8 (f7 (s1 _ _ hp) (g7 (xs:=xs) (λ i Z G=>Same H G/\G a=some (.dK (B1 (ps.take i)))/\∃ u v w,Z=[some (.ref p),some (.ref a),u,v,w]) ⟨s1,t1,_,_,_,rfl⟩ (λ i Z G _ h=>h.1 _ _ hp) ?_ ?_))
 ·rintro i x Z G hxi ⟨sm,hg,u,v,w,rfl⟩
  obtain⟨r,t,hr,rfl,ht⟩:=hx.at hxi
  replace ht:=sm _ _ ht
  refine X5 rfl (kind_tup ht) (i8 rfl ?_)
  refine lenT_i ht ?_
  refine i8 rfl ?_
  refine h9 ht (v:=.str r.1) rfl ?_
  refine a3Y (.inl hg) (b6 λ l G2 n2 s2 t2=>?_)
  rw[O8]at t2
  refine⟨r.1,l,_,rfl,t2,g.nms.1 _ (List.mem_of_getElem? (K7 hr)),?_,λ G3 s3=>?_⟩
  ·rw[List.map_take]
   exact D4 g.nms.2 (K7 hr)
  have s23:=s2.trans s3
  refine h9 (s23 _ _ ht) (v:=.str r.2) rfl ?_
  refine a3Y (.inl (s23 _ _ hg)) (b6 λ l' G4 n4 s4 t4=>?_)
  rw[O8]at t4
  refine⟨r.2,l',_,rfl,t4,g.len2 hr,g.abv i r hr,λ G5 s5=>?_⟩
  have s25:=(s23.trans s4).trans s5
  have hno:d6 (B1 (ps.take i)) (Sum.inr r.1)=none:=abv_none (by
   rw[List.map_take]
   exact D4 g.nms.2 (K7 hr))
  refine setK_i (s25 _ _ hg) (k:=Sum.inr r.1) rfl ?_ ⟨(sm.trans s25).put n1,?_,_,_,_,rfl⟩
  ·have:(B1 (ps.take i)).length<=ps.length:=by
    unfold B1
    rw[List.length_map,List.length_take]
    omega
   omega
  ·rw[a6,W5 _ hno,b9 hr]
   unfold B1
   rw[List.map_append]
   rfl
 ·rintro Z G ⟨sm,hg,u,v,w,rfl⟩
  rw[hx.1,List.take_length]at hg
  exact q a G sm n1 hg
def d5 (xs ys:List Str):List (Str×Str):=xs.flatMap λ x=>ys.map λ y=>(x,y)
theorem a6o (xs ys:List Str)(x:Str):d5 (xs++[x]) ys=d5 xs ys++ys.map λ y=>(x,y):=by simp[d5]
theorem K8 (xs ys:List Str):(d5 xs ys).length=xs.length * ys.length:=by
 induction xs with
 | nil=>simp[d5]
 | cons a r ih=>
  rw[show d5 (a::r) ys=(ys.map λ y=>(a,y))++d5 r ys by simp[d5],List.length_append,ih,List.length_map,List.length_cons,Nat.succ_mul]
  omega
def B2:Sp:=λ vs H Q _=>∃ (p c:Addr) (xs ys:List Str),vs=[.ref p,.ref c]/\H p=some (.lst (sts xs))/\H c=some (.lst (sts ys))/\xs.length<=30/\ys.length<=30 ∧
 ∀ l zs H',Same H H'->H l=none->H' l=some (.lst zs)->PairsAt H' zs (d5 xs ys)->Q (.ref l) H'
def a5i:TS:=
 (b7 (d7 (j6 a7) (a8 2))
 (b7 (v5 (iOf d9 (gv 0)) (a8 3)
  (v5 (iOf d9 (gv 1)) (a8 4)
   (K0 (O1 "append" (gv 2) (a0 (k9 (a0 (gv 3) (a0 (gv 4) a7))) a7)))))
 (f9 (gv 2))))
theorem r_paired {p c:Addr}{xs ys:List Str}{H:Hp}{D:Ends}(hp:H p=some (.lst (sts xs)))(hc:H c=some (.lst (sts ys)))(h1:xs.length<=30)(h2:ys.length<=30)
  (q:∀ l zs H',Same H H'->H l=none->H' l=some (.lst zs)->PairsAt H' zs (d5 xs ys)->D.rt (.ref l) H'):a5i D [some (.ref p),some (.ref c),none,none,none] H:=by
 have hs:=sz
 refine⟨few rfl,b6 λ l G1 n1 s1 t1=>?_⟩
 refine g8 (f7 (s1 _ _ hp) (g7 (xs:=sts xs) (λ i Z G=>Same H G/\(∃ zs,G l=some (.lst zs)/\PairsAt G zs (d5 (xs.take i) ys))/\∃ u v,Z=[some (.ref p),some (.ref c),some (.ref l),u,v]) ⟨s1,⟨_,t1,.nil⟩,_,_,rfl⟩ (λ i Z G _ h=>h.1 _ _ hp) ?_ ?_))
 ·rintro i x Z G hx ⟨sm,⟨zs,hg,pa⟩,u,v,rfl⟩
  obtain⟨z,hz,rfl⟩:=y3 hx
  have hi:=(Zg hz).1
  refine g8 (f7 (sm _ _ hc) (g7 (xs:=sts ys) (λ j Z G=>Same H G/\(∃ zs,G l=some (.lst zs)/\PairsAt G zs (d5 (xs.take i) ys++(ys.take j).map λ y=>(z,y)))/\∃ v,Z=[some (.ref p),some (.ref c),some (.ref l),some (.str z),v]) ⟨sm,⟨zs,hg,by simpa using pa⟩,_,rfl⟩ (λ i Z G _ h=>h.1 _ _ hc) ?_ ?_))
  ·rintro j y0 Z G hy0 ⟨sm,⟨zs,hg,pa⟩,v,rfl⟩
   obtain⟨y,hy,rfl⟩:=y3 hy0
   have hj:=(Zg hy).1
   refine X7 hg ⟨few rfl,b6 λ t G2 n2 s2 t2=>?_⟩
   have hlen:zs.length < sizeLine:=by
    rw[pa.1,List.length_append,K8,List.length_map,List.length_take,List.length_take]
    have:min i xs.length * ys.length<=30 * 30:=Nat.mul_le_mul (by omega) h2
    omega
   refine M6 (s2 _ _ hg) hlen ⟨(sm.trans s2).put n1,⟨_,a6,?_⟩,_,rfl⟩
   rw[b9 hy,List.map_append,<- List.append_assoc]
   exact((pa.same s2).snoc (q:=(z,y)) t2).put (s2 _ _ hg)
  ·rintro Z G ⟨sm,⟨zs,hg,pa⟩,v,rfl⟩
   rw[show(sts ys).length=ys.length from List.length_map ..,List.take_length]at pa
   exact⟨sm,⟨zs,hg,by rw[b9 hz,a6o];exact pa⟩,_,_,rfl⟩
 ·rintro Z G ⟨sm,⟨zs,hg,pa⟩,u,v,rfl⟩
  rw[show(sts xs).length=xs.length from List.length_map ..,List.take_length]at pa
  exact q l zs G sm n1 hg pa
theorem a2c {H G:Hp}{a:Addr}{f:HO}(s:Same H G):Same (upd H a f) (upd G a f):=λ b o e=>by
 by_cases z:b=a
 ·subst z
  rw[a6]at e ⊢
  exact e
 ·rw[a5 z]at e ⊢
  exact s b o e
def f8 (ps:List (Str×Str))(k:Str):List Str:=(ps.filter λ q=>q.2==k).map (·.1)
theorem a6p (ps:List (Str×Str))(q:Str×Str)(k:Str):f8 (ps++[q]) k=f8 ps k++if q.2=k then[q.1] else[]:=by
 unfold f8
 rw[List.filter_append,List.map_append]
 congr 1
 by_cases h:q.2=k <;> simp[h]
def benD (ks:List Str)(bs:List Addr):List (Key×V):=(ks.zip bs).map λ e=>(Sum.inr e.1,V.ref e.2)
structure Ben (G:Hp) (b:Addr) (bs:List Addr) (ks:List Str) (f:Str->List Str):Prop where
 len:bs.length=ks.length
 nd:bs.Nodup
 d:G b=some (.dK (benD ks bs))
 l:∀ (i:Nat) k a,ks[i]?=some k->bs[i]?=some a->G a=some (.lst (sts (f k)))
theorem val_zip:∀ {ks:List Str}{bs:List Addr}{j:Nat}{k:Str}{c:Addr},ks.Nodup->ks[j]?=some k->bs[j]?=some c->d6 (benD ks bs) (Sum.inr k)=some (.ref c)
 | [],bs,j,k,c,_,h,_=>by simp at h
 | _::_,[],j,k,c,_,_,h=>by simp at h
 | a::ks,b::bs,0,k,c,_,h1,h2=>by
  simp at h1 h2
  subst h1 h2
  exact i5 rfl
 | a::ks,b::bs,j + 1,k,c,hn,h1,h2=>by
  obtain⟨n1,n2⟩:=List.nodup_cons.mp hn
  have h1':ks[j]?=some k:=by simpa using h1
  have h2':bs[j]?=some c:=by simpa using h2
  show d6 ((Sum.inr a,V.ref b)::benD ks bs) (Sum.inr k)=_
  rw[g5]
  ·exact val_zip n2 h1' h2'
  ·intro e
   have:a=k:=by injection e
   subst this
   exact n1 (List.mem_of_getElem? h1')
theorem ben_none {ks:List Str}{bs:List Addr}{k:Str}(h:k∉ks):d6 (benD ks bs) (Sum.inr k)=none:=by
 induction ks generalizing bs with
 | nil=>rfl
 | cons a r ih=>
  cases bs with
  | nil=>rfl
  | cons b bs=>
   show d6 ((Sum.inr a,V.ref b)::benD r bs) (Sum.inr k)=none
   rw[g5 (λ e=>h (by
    have:a=k:=by injection e
    rw[this]
    simp))]
   exact ih λ m=>h (List.mem_cons_of_mem _ m)
theorem benD_len (ks:List Str)(bs:List Addr):(benD ks bs).length<=ks.length:=by
 unfold benD
 rw[List.length_map,List.length_zip]
 omega
theorem benD_snoc {ks:List Str}{bs:List Addr}(k:Str)(b:Addr)(h:bs.length=ks.length):benD (ks++[k]) (bs++[b])=benD ks bs++[(Sum.inr k,V.ref b)]:=by
 unfold benD
 rw[List.zip_append h.symm,List.map_append]
 rfl
theorem Ben.to {G G':Hp}{b:Addr}{bs:List Addr}{ks:List Str}{f:Str->List Str}(h:Ben G b bs ks f)(hb:G' b=G b)(hl:∀ c∈bs,G' c=G c):Ben G' b bs ks f:=
 ⟨h.len,h.nd,by rw[hb];exact h.d,λ i k a e1 e2=>by rw[hl a (List.mem_of_getElem? e2)];exact h.l i k a e1 e2⟩
theorem Ben.same {G G':Hp}{b:Addr}{bs:List Addr}{ks:List Str}{f:Str->List Str}(h:Ben G b bs ks f)(s:Same G G'):Ben G' b bs ks f:=
 ⟨h.len,h.nd,s _ _ h.d,λ i k a e1 e2=>s _ _ (h.l i k a e1 e2)⟩
theorem Ben.congr {G:Hp}{b:Addr}{bs:List Addr}{ks:List Str}{f f':Str->List Str}(h:Ben G b bs ks f)(e:∀ k∈ks,f k=f' k):Ben G b bs ks f':=
 ⟨h.len,h.nd,h.d,λ i k a e1 e2=>by rw[<- e k (List.mem_of_getElem? e1)];exact h.l i k a e1 e2⟩
theorem Ben.get {G:Hp}{b:Addr}{bs:List Addr}{ks:List Str}{f:Str->List Str}(h:Ben G b bs ks f)(hn:ks.Nodup){k:Str}(hk:k∈ks):∃ (j:Nat) (c:Addr),ks[j]?=some k/\bs[j]?=some c/\d6 (benD ks bs) (Sum.inr k)=some (.ref c)/\G c=some (.lst (sts (f k))):=by
 obtain⟨j,hj⟩:=List.mem_iff_getElem?.mp hk
 have hl:=(Zg hj).1
 obtain⟨c,hc⟩:∃ c,bs[j]?=some c:=⟨bs[j]'(by rw[h.len];exact hl),by simp[h.len,hl]⟩
 exact⟨j,c,hj,hc,val_zip hn hj hc,h.l j k c hj hc⟩
theorem Ben.app {G:Hp}{b:Addr}{bs:List Addr}{ks:List Str}{f:Str->List Str}(h:Ben G b bs ks f)(hn:ks.Nodup){k n:Str}{j:Nat}{c:Addr}(hj:ks[j]?=some k)(hc:bs[j]?=some c):
  Ben (upd G c (.lst (sts (f k)++[.str n]))) b bs ks (λ x=>f x++if k=x then[n] else[]):=by
 refine⟨h.len,h.nd,?_,λ i x a e1 e2=>?_⟩
 ·have hg:=h.l j k c hj hc
  rw[a5 λ z=>by rw[<- z,h.d]at hg;cases hg]
  exact h.d
 ·by_cases hi:i=j
  ·subst hi
   rw[hj]at e1
   rw[hc]at e2
   cases e1
   cases e2
   rw[a6,if_pos rfl,K6]
  ·have li:=(Zg e1).1
   have lj:=(Zg hj).1
   have nx:k≠x:=λ z=>by
    subst z
    exact hi (nd_inj hn e1 hj)
   have na:a≠c:=λ z=>by
    subst z
    exact hi (nd_inj h.nd e2 hc)
   rw[a5 na,if_neg nx,List.append_nil]
   exact h.l i x a e1 e2
where
 nd_inj {α:Type}{xs:List α} (h:xs.Nodup) {i j:Nat}{x:α} (hi:xs[i]?=some x) (hj:xs[j]?=some x):i=j:=by
  rcases Nat.lt_trichotomy i j with l | l | l
  ·have e1:=Zg hi
   have e2:=Zg hj
   exact absurd (e1.2.trans e2.2.symm) (List.pairwise_iff_getElem.mp h i j e1.1 e2.1 l)
  ·exact l
  ·have e1:=Zg hi
   have e2:=Zg hj
   exact absurd (e2.2.trans e1.2.symm) (List.pairwise_iff_getElem.mp h j i e2.1 e1.1 l)
def m8 (ps:List (Str×Str)):List Str := "all" :: ps.map (·.1)
theorem Good.keys {ps:List (Str×Str)}(g:Good ps):(m8 ps).Nodup:=List.nodup_cons.mpr ⟨λ m=>(O6 (g.nms.1 _ m)).2.2 rfl,g.nms.2⟩
theorem Good.abvIn {ps:List (Str×Str)}(g:Good ps){i:Nat}{q:Str×Str}(h:ps[i]?=some q):q.2∈m8 ps:=by
 rcases g.abv i q h with e | m
 ·rw[e]
  exact List.mem_cons_self ..
 ·obtain⟨r,hr,e⟩:=List.mem_map.mp m
  exact List.mem_cons_of_mem _ (List.mem_map.mpr ⟨r,List.mem_of_mem_take hr,e⟩)
theorem R9 (ps:List (Str×Str))(k:Str):(f8 ps k).length<=ps.length:=by
 unfold f8
 rw[List.length_map]
 exact List.length_filter_le ..
def x8:Sp:=λ vs H Q _=>∃ (a:Addr) (ps:List (Str×Str)),vs=[.ref a]/\H a=some (.dK (B1 ps))/\Good ps/\∀ b bs H',Same H H'->H b=none->(∀ c∈bs,H c=none)->Ben H' b bs (m8 ps) (f8 ps)->Q (.ref b) H'
def O9:TS:=
 (b7 (d7 (a2X [((tC (.str "all")),(j6 a7))]) (a8 1))
 (b7 (v5 (iOf d9 (gv 0)) (a8 2)
  (d7 (j6 a7) (W0 (gv 1) (gv 2) A9)))
 (b7 (v5 (iOf J8 (gv 0)) (O3 2 (C7 (a8 2) (C7 (a8 3) gNil)))
  (K0 (O1 "append" (tOp e8 (gv 1) (gv 3)) (a0 (gv 2) a7))))
 (f9 (gv 1)))))
theorem abv_at {ps:List (Str×Str)}{i:Nat}{k:Key}{v:V}(h:(B1 ps)[i]?=some (k,v)):∃ q,ps[i]?=some q/\k=Sum.inr q.1/\v=.str q.2:=by
 unfold B1 at h
 rw[List.getElem?_map]at h
 cases e:ps[i]? with
 | none=>rw[e]at h;cases h
 | some q=>rw[e]at h;cases h;exact⟨q,rfl,rfl,rfl⟩
theorem a4b (ps:List (Str×Str)):(B1 ps).length=ps.length:=List.length_map ..
theorem a2d {a:Addr}{ps:List (Str×Str)}{H:Hp}{D:Ends}(ha:H a=some (.dK (B1 ps)))(g:Good ps)(q:∀ b bs H',Same H H'->H b=none->(∀ c∈bs,H c=none)->Ben H' b bs (m8 ps) (f8 ps)->D.rt (.ref b) H'):O9 D [some (.ref a),none,none,none] H:=by
 have hs:=sz
 have g2:=g.many
 show d7 (a2X [(tC (.str "all"),j6 a7)]) (a8 1) _ _ _
 show a2X [(tC (.str "all"),j6 a7)] _ _ _
 refine dispL_i (tk:=tC (.str "all")) (x:=.str "all") (λ G R r=>r) (k:=Sum.inr "all") rfl λ b b0 G1 nb nb0 nbb s1 tb tb0=>?_
 have ha1:=s1 _ _ ha
 refine g8 (iterD_i ha1 λ o=>?_)
 have nab:∀ c,H c=none->c≠a:=λ c n z=>by rw[z,ha]at n;cases n
 refine loop_dic (λ i Z G=>Same (upd H a (.frz o (.dK (B1 ps)))) G/\(∃ bs,Ben G b bs (m8 (ps.take i)) (λ _=>[])/\∀ c∈bs,H c=none)/\∃ u,Z=[some (.ref a),some (.ref b),u,none]) ⟨a2c s1,⟨[b0],⟨rfl,by simp,?_,?_⟩,by simpa using nb0⟩,_,rfl⟩ (λ i Z G _ h=>h.1 _ _ a6) ?_ ?_
 ·rw[a5 (nab b nb)]
  exact tb
 ·intro i k c e1 e2
  match i,e1,e2 with
  | 0,_,e2=>
   cases e2
   rw[a5 (nab b0 nb0)]
   exact tb0
  | i + 1,_,e2=>simp at e2
 ·rintro i k v Z G hk ⟨sm,⟨bs,bn,fr⟩,u,rfl⟩
  obtain⟨r,hr,rfl,rfl⟩:=abv_at hk
  have hi:=(Zg hr).1
  refine⟨few rfl,b6 λ c G2 n2 s2 t2=>?_⟩
  have hc:H c=none:=(a1X (sm.free n2)).1
  have hno:r.1∉m8 (ps.take i):=by
   unfold m8
   rw[List.mem_cons]
   rintro(e | m)
   ·exact(O6 (g.nms.1 _ (List.mem_of_getElem? (K7 hr)))).2.2 e
   ·rw[List.map_take]at m
    exact D4 g.nms.2 (K7 hr) m
  have hd:=s2 _ _ bn.d
  have ncb:c≠b:=λ z=>by
   rw[z,bn.d]at n2
   cases n2
  refine setK_i hd (k:=Sum.inr r.1) rfl ?_ ⟨?_,⟨bs++[c],⟨?_,?_,?_,?_⟩,?_⟩,_,rfl⟩
  ·have:=benD_len (m8 (ps.take i)) bs
   have e:(m8 (ps.take i)).length=(ps.take i).length + 1:=by
    unfold m8
    rw[List.length_cons,List.length_map]
   rw[List.length_take]at e
   omega
  ·exact(sm.trans s2).put (by rw[a5 (nab b nb)];exact nb)
  ·unfold m8
   rw[b9 hr,List.map_append,List.length_append,bn.len]
   simp[m8]
  ·refine nd_snoc bn.nd λ m=>?_
   obtain⟨j,hj⟩:=List.mem_iff_getElem?.mp m
   have hl:=(Zg hj).1
   rw[bn.len]at hl
   have:=bn.l j _ c (by simp[hl];rfl) hj
   rw[n2]at this
   cases this
  ·rw[a6,W5 _ (ben_none hno),b9 hr]
   unfold m8
   rw[List.map_append,<- List.cons_append]
   exact congrArg (λ z=>some (HO.dK z)) (benD_snoc r.1 c bn.len).symm
  ·intro j k' c' e1 e2
   rw[b9 hr]at e1
   unfold m8 at e1
   rw[List.map_append,<- List.cons_append]at e1
   by_cases hj:j < bs.length
   ·rw[List.getElem?_append_left hj]at e2
    rw[List.getElem?_append_left (by have:=bn.len;unfold m8 at this;rw[<- this];exact hj)]at e1
    have:=bn.l j k' c' e1 e2
    have nb':c'≠b:=λ z=>by
     rw[z,bn.d]at this
     cases this
    rw[a5 nb']
    exact s2 _ _ this
   ·have hl:=(Zg e2).1
    rw[List.length_append]at hl
    have:j=bs.length:=by simp at hl;omega
    subst this
    simp at e2
    subst e2
    rw[a5 ncb]
    exact t2
  ·intro c' m
   rcases List.mem_append.mp m with m | m
   ·exact fr c' m
   ·rw[List.mem_singleton.mp m]
    exact hc
 ·rintro Z G ⟨sm,⟨bs,bn,fr⟩,u,rfl⟩
  rw[a4b,List.take_length]at bn
  refine⟨⟨o,sm _ _ a6⟩,?_⟩
  have bnT:∀ x:HO,Ben (upd G a x) b bs (m8 ps) (λ _=>[]):=λ x=>bn.to (a5 (nab b nb)) λ c hc=>a5 (nab c (fr c hc))
  refine g8 (items_i a6 λ o2=>?_)
  rw[a0Y]
  have sm0:Same (upd H a (.frz o2 (.dK (B1 ps)))) (upd G a (.frz o2 (.dK (B1 ps)))):=by
   have:=a2c (a:=a) (f:=.frz o2 (.dK (B1 ps))) (B0 ha sm)
   rw[a0Y]at this
   exact this
  refine loop_itm (λ i Z G=>Same (upd H a (.frz o2 (.dK (B1 ps)))) G/\Ben G b bs (m8 ps) (f8 (ps.take i))/\∃ u v,Z=[some (.ref a),some (.ref b),u,v]) ⟨sm0,(bnT _).congr λ k _=>rfl,_,_,rfl⟩ (λ i Z G _ h=>h.1 _ _ a6) ?_ ?_
  ·rintro i k v t Z G3 G4 hk ⟨sm3,bn3,u,v,rfl⟩ nt s4 ht _
   obtain⟨r,hr,rfl,rfl⟩:=abv_at hk
   replace bn3:=bn3.same s4
   replace sm3:=sm3.trans s4
   obtain⟨j,c,hj,hc,hv,hl⟩:=bn3.get g.keys (g.abvIn hr)
   refine⟨t,_,rfl,.inl ht,rfl,_,_,rfl,_,_,rfl,rfl,?_⟩
   refine a3X (.inl bn3.d) (k:=Sum.inr r.2) rfl hv ?_
   refine X7 hl (M6 hl ?_ ⟨sm3.put ?_,?_,_,_,rfl⟩)
   ·have:=R9 (ps.take i) r.2
    rw[List.length_take]at this
    simp
    omega
   ·have nc:=fr c (List.mem_of_getElem? hc)
    rw[a5 (nab c nc)]
    exact nc
   ·exact(bn3.app g.keys hj hc).congr λ k _=>by rw[b9 hr,a6p]
  ·rintro Z G5 ⟨sm5,bn5,u,v,rfl⟩
   rw[a4b,List.take_length]at bn5
   refine⟨⟨o2,sm5 _ _ a6⟩,?_⟩
   exact q b bs _ (B0 ha sm5) nb fr (bn5.to (a5 (nab b nb)) λ c hc=>a5 (nab c (fr c hc)))
def fsH (a c b:Addr):List (Str×V):=[("above_of",.ref a),("column_names",.ref c),("beneath_of",.ref b)]
structure HouseAt (cl:Addr) (H:Hp) (x:Addr) (ps:List (Str×Str)) (cs:List Str):Prop where
 mk::
 good:Good ps
 nms:Nms cs
 one:1<=cs.length
 many:cs.length<=8
 at':∃ dx a c b bs,H x=some (.ins cl dx (fsH a c b))/\H a=some (.dK (B1 ps))/\H c=some (.lst (sts cs))/\Ben H b bs (m8 ps) (f8 ps)
theorem HouseAt.same {cl:Addr}{H G:Hp}{x:Addr}{ps:List (Str×Str)}{cs:List Str}(h:HouseAt cl H x ps cs)(s:Same H G):HouseAt cl G x ps cs:=by
 obtain⟨h1,h2,h3,h4,dx,a,c,b,bs,e1,e2,e3,e4⟩:=h
 exact⟨h1,h2,h3,h4,dx,a,c,b,bs,s _ _ e1,s _ _ e2,s _ _ e3,e4.same s⟩
section
variable {cl:Addr}
def w8 (cl:Addr):Sp:=λ vs H Q _=>∃ (x dx p c:Addr) (xs:List V) (ps:List (Str×Str)) (cs:List Str),vs=[.ref x,.ref p,.ref c]/\H x=some (.ins cl dx [])/\H p=some (.lst xs)/\PairsAt H xs ps/\Good ps ∧
 H c=some (.lst (sts cs))/\Nms cs/\1<=cs.length/\cs.length<=8/\∀ H',SameX x H H'->(∀ G:Hp,(∀ b o,H b=none\/b=x->H' b=some o->G b=some o)->HouseAt cl G x ps cs)->Q .non H'
def Y0 (cl:Addr):TS:=
 (b7 (a1P cl "above_of" (gv 0) (d3 w4 [] E0 (a0 (gv 1) a7)))
 (b7 (a1P cl "column_names" (gv 0) (d3 o3 [] E0 (a0 (gv 2) a7)))
 (a1P cl "beneath_of" (gv 0) (d3 x8 [] E0 (a0 (A3 cl "above_of" (gv 0)) a7)))))
theorem nx_of {H:Hp}{a x:Addr}{o u:HO}(h:H a=some o)(hx:H x=some u)(n:o≠u):a≠x:=λ z=>by
 rw[z,hx]at h
 cases h
 exact n rfl
theorem a4c {x dx p c:Addr}{xs:List V}{ps:List (Str×Str)}{cs:List Str}{H:Hp}{Q:VK}(hx:H x=some (.ins cl dx []))(hp:H p=some (.lst xs))(pa:PairsAt H xs ps)(g:Good ps)(hc:H c=some (.lst (sts cs)))(hn:Nms cs)(h1:1<=cs.length)(h8:cs.length<=8)
  (q:∀ H',SameX x H H'->(∀ G:Hp,(∀ b o,H b=none\/b=x->H' b=some o->G b=some o)->HouseAt cl G x ps cs)->Q .non H'):Y0 cl { nx:=λ _ H'=>Q .non H',rt:=Q } [some (.ref x),some (.ref p),some (.ref c)] H:=by
 refine⟨p,xs,ps,rfl,hp,pa,g,λ a G1 s1 n1 t1=>?_⟩
 refine sfl_i (s1 _ _ hx) rfl ?_
 have ncx:=nx_of hc hx (by simp)
 have nax:a≠x:=λ z=>by rw[z,hx]at n1;cases n1
 refine⟨c,cs,rfl,by rw[a5 ncx];exact s1 _ _ hc,hn,h1,h8,λ d G2 s2 n2 t2=>?_⟩
 have hx2:=s2 _ _ a6
 have ndx:d≠x:=λ z=>by rw[z,a6]at n2;cases n2
 refine sfl_i hx2 rfl ?_
 refine D1 a6 (v:=.ref a) rfl ?_
 have ha2:G2 a=some (.dK (B1 ps)):=s2 _ _ (by rw[a5 nax];exact t1)
 refine⟨a,ps,rfl,by rw[a5 nax];exact ha2,g,λ b bs G3 s3 n3 nbs bn=>?_⟩
 have hx3:=s3 _ _ a6
 have nbx:b≠x:=λ z=>by rw[z,a6]at n3;cases n3
 refine sfl_i hx3 rfl ?_
 have sx:SameX x H G3:=((((a1Y s1).trans K5).trans (a1Y s2)).trans K5).trans (a1Y s3)
 have nod:H d=none:=s1.free (by rw[a5 ndx]at n2;exact n2)
 have up:∀ c,c≠x->upd G2 x (.ins cl dx (l8 "column_names" (.ref d) (l8 "above_of" (.ref a) []))) c=none->H c=none:=λ c nc e=>by
  rw[a5 nc]at e
  have e:=s2.free e
  rw[a5 nc]at e
  exact s1.free e
 have nob:H b=none:=up b nbx n3
 refine q _ (sx.trans K5) λ G hG=>⟨g,hn,h1,h8,dx,a,d,b,bs,hG x _ (.inr rfl) a6,hG a _ (.inl n1) ?_,hG d _ (.inl nod) ?_,?_⟩
 ·rw[a5 nax]
  exact s3 _ _ (by rw[a5 nax];exact ha2)
 ·rw[a5 ndx]
  exact s3 _ _ (by rw[a5 ndx];exact t2)
 ·have nex:∀ e∈bs,e≠x:=λ e he z=>by
   have:=nbs e he
   rw[z,a6]at this
   cases this
  exact⟨bn.len,bn.nd,hG b _ (.inl nob) (by rw[a5 nbx];exact bn.d),λ i k e e1 e2=>by
   have hm:=List.mem_of_getElem? e2
   refine hG e _ (.inl (up e (nex e hm) (nbs e hm))) ?_
   rw[a5 (nex e hm)]
   exact bn.l i k e e1 e2⟩
def b4 (ps:List (Str×Str)):List Str:=ps.map (·.1)
def b5 (ps:List (Str×Str)):List Str:=(b4 ps).filter λ n=>(f8 ps n).isEmpty
def a2e (cl:Addr)(f:List (Str×Str)->List Str->List Str):Sp:=λ vs H Q _=>∃ x ps cs,vs=[.ref x]/\HouseAt cl H x ps cs/\∀ p H',Same H H'->H p=none->H' p=some (.lst (sts (f ps cs)))->Q (.ref p) H'
def a5j (cl:Addr)(f:List (Str×Str)->List Str->List (Str×Str)):Sp:=λ vs H Q _=>∃ x ps cs,vs=[.ref x]/\HouseAt cl H x ps cs/\∀ p zs H',Same H H'->H p=none->H' p=some (.lst zs)->PairsAt H' zs (f ps cs)->Q (.ref p) H'
def x0 (cl:Addr):Sp:=a2e cl λ ps _=>b4 ps
def B6 (cl:Addr):Sp:=a2e cl λ ps _=>b5 ps
def i7 (cl:Addr):Sp:=a2e cl λ _ cs=>cs
def h7 (cl:Addr):Sp:=a5j cl λ ps cs=>d5 ("all" :: b4 ps) (cs++[("all" : Str)])
def C1 (cl:Addr):Sp:=a5j cl λ ps cs=>d5 (b5 ps) cs
def T9 (cl:Addr):TS:=
 (f9 (tCB E3 (a0 (A3 cl "above_of" (gv 0)) a7)))
theorem a2G {x:Addr}{ps:List (Str×Str)}{cs:List Str}{H:Hp}{D:Ends}(h:HouseAt cl H x ps cs)(q:∀ p H',Same H H'->H p=none->H' p=some (.lst (sts (b4 ps)))->D.rt (.ref p) H'):T9 cl D [some (.ref x)] H:=by
 obtain⟨g,hn,h1,h8,dx,a,c,b,bs,e1,e2,e3,e4⟩:=h
 refine D1 e1 (v:=.ref a) rfl ?_
 refine a3Y (.inl e2) (b6 λ p G n s t=>?_)
 rw[O8]at t
 exact q p G s n t
def N8 (cl:Addr):TS:=
 (f9 (tCB E3 (a0 (A3 cl "column_names" (gv 0)) a7)))
theorem a0W {x:Addr}{ps:List (Str×Str)}{cs:List Str}{H:Hp}{D:Ends}(h:HouseAt cl H x ps cs)(q:∀ p H',Same H H'->H p=none->H' p=some (.lst (sts cs))->D.rt (.ref p) H'):N8 cl D [some (.ref x)] H:=by
 obtain⟨g,hn,h1,h8,dx,a,c,b,bs,e1,e2,e3,e4⟩:=h
 refine D1 e1 (v:=.ref c) rfl ?_
 exact listL_i e3 (b6 λ p G n s t=>q p G s n t)
def Y1 (cl:Addr):TS:=
 (f9 (o0 (iOf d9 (A3 cl "above_of" (gv 0))) ["part"] [("self",0)] (a8 0) (J4 (ptG (tOp e8 (A3 cl "beneath_of" (gv 1)) (gv 0)))) (gv 0)))
def rowF (ps:List (Str×Str)):V->Option V
 | .str z=>if (f8 ps z).isEmpty=true then some (.str z) else none
 | _=>none
theorem fm_rows (ps:List (Str×Str)):∀ l:List Str,(sts l).filterMap (rowF ps)=sts (l.filter λ n=>(f8 ps n).isEmpty)
 | []=>rfl
 | a::r=>by
  rw[sts,List.map_cons,List.filterMap_cons]
  have ih:=fm_rows ps r
  rw[sts]at ih
  by_cases h:(f8 ps a).isEmpty=true
  ·simp only[rowF,h,if_true,List.filter_cons,List.map_cons,ih]
  ·simp only[rowF,h,List.filter_cons,ih]
   rfl
theorem a4d {x:Addr}{ps:List (Str×Str)}{cs:List Str}{H:Hp}{D:Ends}(h:HouseAt cl H x ps cs)(q:∀ p H',Same H H'->H p=none->H' p=some (.lst (sts (b5 ps)))->D.rt (.ref p) H'):Y1 cl D [some (.ref x)] H:=by
 have hs:=sz
 obtain⟨g,hn,h1,h8,dx,a,c,b,bs,e1,e2,e3,e4⟩:=h
 have g2:=g.many
 refine A0 (D1 e1 (v:=.ref a) rfl (iterD_i e2 λ o=>?_))
 have nba:=nx_of e4.d e2 (λ z=>by
  injection z with z
  have z:=congrArg List.length z
  have hl:=e4.len
  unfold benD B1 m8 at z
  unfold m8 at hl
  rw[List.length_map,List.length_map,List.length_zip,hl,List.length_cons,List.length_map]at z
  omega)
 have bn:Ben (upd H a (.frz o (.dK (B1 ps)))) b bs (m8 ps) (f8 ps):=e4.to (a5 nba) λ e he=>a5 λ z=>by
  obtain⟨j,hj⟩:=List.mem_iff_getElem?.mp he
  have hl:=(Zg hj).1
  rw[e4.len]at hl
  have:=e4.l j _ e (by simp[hl];rfl) hj
  rw[z,e2]at this
  cases this
 have nxa:x≠a:=nx_of e1 e2 (by simp)
 refine comp_dic (rowF ps) a6 (by rw[a4b];omega) ?_ ?_
 ·intro i z hz G k sm hk
  rw[O8]at hz
  obtain⟨n,hn,rfl⟩:=y3 hz
  replace bn:=bn.same sm
  obtain⟨j,c',hj,hc,hv,hl⟩:=bn.get g.keys (List.mem_cons_of_mem _ (List.mem_of_getElem? hn))
  refine D1 (sm _ _ (by rw[a5 nxa];exact e1)) (v:=.ref b) rfl ?_
  refine a3X (.inl bn.d) (k:=Sum.inr n) rfl hv (a3Z hl ?_)
  have e:(!(!(sts (f8 ps n)).isEmpty))=(f8 ps n).isEmpty:=by
   rw[Bool.not_not]
   cases f8 ps n <;> rfl
  unfold rowF at hk
  refine C8 (λ h=>?_) (λ h=>?_)
  ·rw[e]at h
   simp only[h,if_true]at hk
   exact hk
  ·rw[e]at h
   simp only[h]at hk
   exact hk
 ·intro p G n s t
  rw[O8,fm_rows]at t
  obtain⟨n1,n2⟩:=a1X n
  refine⟨⟨o,s _ _ a6⟩,q p _ (B0 e2 s) n1 ?_⟩
  rw[a5 n2]
  exact t
def P0 (cl:Addr):TS:=
 (f9 (d3 B2 [] E0 (a0 (tOp o8 (j6 (a0 (tC (.str "all")) a7)) (i9 cl "parts" (x0 cl) E0 (gv 0) a7)) (a0 (tOp o8 (A3 cl "column_names" (gv 0)) (j6 (a0 (tC (.str "all")) a7))) a7))))
theorem a2f {x:Addr}{ps:List (Str×Str)}{cs:List Str}{H:Hp}{D:Ends}(h:HouseAt cl H x ps cs)(q:∀ p zs H',Same H H'->H p=none->H' p=some (.lst zs)->PairsAt H' zs (d5 ("all" :: b4 ps) (cs++[("all" : Str)]))->D.rt (.ref p) H'):P0 cl D [some (.ref x)] H:=by
 have hs:=sz
 have g2:=h.good.many
 have h8:=h.many
 have hl:(b4 ps).length=ps.length:=List.length_map ..
 refine⟨few rfl,b6 λ p1 G1 n1 s1 t1=>?_⟩
 have h1:=h.same s1
 obtain⟨_,_,_,_,dx,a,c,b,bs,e1,e2,e3,e4⟩:=id h1
 refine k8 e1 rfl ⟨x,ps,cs,rfl,h1,λ p2 G2 s2 n2 t2=>?_⟩
 refine C5 (s2 _ _ t1) t2 (by simp;omega) (b6 λ p3 G3 n3 s3 t3=>?_)
 have s13:=s2.trans s3
 refine D1 (s13 _ _ e1) (v:=.ref c) rfl ?_
 refine⟨few rfl,b6 λ p4 G4 n4 s4 t4=>?_⟩
 refine C5 (s4 _ _ (s13 _ _ e3)) t4 (by simp;omega) (b6 λ p5 G5 n5 s5 t5=>?_)
 have S5:=((s1.trans s13).trans s4).trans s5
 refine⟨p3,p5, "all" :: b4 ps,cs++[("all" : Str)],rfl,s5 _ _ (s4 _ _ t3),by rw[t5,K6],by simp;omega,by simp;omega,λ l zs G6 s6 n6 t6 pa=>?_⟩
 exact q l zs G6 (S5.trans s6) (S5.free n6) t6 pa
def U1 (cl:Addr):TS:=
 (f9 (d3 B2 [] E0 (a0 (i9 cl "rows" (B6 cl) E0 (gv 0) a7) (a0 (A3 cl "column_names" (gv 0)) a7))))
theorem a2H {x:Addr}{ps:List (Str×Str)}{cs:List Str}{H:Hp}{D:Ends}(h:HouseAt cl H x ps cs)(q:∀ p zs H',Same H H'->H p=none->H' p=some (.lst zs)->PairsAt H' zs (d5 (b5 ps) cs)->D.rt (.ref p) H'):U1 cl D [some (.ref x)] H:=by
 have g2:=h.good.many
 have h8:=h.many
 have hl:(b5 ps).length<=ps.length:=by
  unfold b5 b4
  refine Nat.le_trans (List.length_filter_le ..) ?_
  rw[List.length_map]
  exact Nat.le_refl _
 obtain⟨_,_,_,_,dx,a,c,b,bs,e1,e2,e3,e4⟩:=id h
 refine k8 e1 rfl ⟨x,ps,cs,rfl,h,λ p2 G2 s2 n2 t2=>?_⟩
 refine D1 (s2 _ _ e1) (v:=.ref c) rfl ?_
 refine⟨p2,c,b5 ps,cs,rfl,t2,s2 _ _ e3,by omega,by omega,λ l zs G6 s6 n6 t6 pa=>?_⟩
 exact q l zs G6 (s2.trans s6) (s2.free n6) t6 pa
def Y2 (cl:Addr):Sp:=λ vs H Q _=>∃ (x:Addr) (ps:List (Str×Str)) (cs:List Str) (i:Nat) (r:Str×Str),vs=[.ref x,.str r.1]/\HouseAt cl H x ps cs/\ps[i]?=some r/\Q (.str r.2) H
def U2 (cl:Addr):TS:=
 (f9 (tOp e8 (A3 cl "above_of" (gv 0)) (gv 1)))
theorem abv_val:∀ {ps:List (Str×Str)}{i:Nat}{r:Str×Str},(ps.map (·.1)).Nodup->ps[i]?=some r->d6 (B1 ps) (Sum.inr r.1)=some (.str r.2)
 | [],i,r,_,h=>by simp at h
 | a::ps,0,r,_,h=>by
  simp at h
  subst h
  exact i5 rfl
 | a::ps,i + 1,r,hn,h=>by
  rw[List.map_cons]at hn
  obtain⟨n1,n2⟩:=List.nodup_cons.mp hn
  have h':ps[i]?=some r:=by simpa using h
  show d6 ((Sum.inr a.1,V.str a.2)::B1 ps) (Sum.inr r.1)=_
  rw[g5]
  ·exact abv_val n2 h'
  ·intro e
   have:a.1=r.1:=by injection e
   rw[this]at n1
   exact n1 (List.mem_of_getElem? (K7 h'))
theorem a2I {x:Addr}{ps:List (Str×Str)}{cs:List Str}{i:Nat}{r:Str×Str}{H:Hp}{D:Ends}(h:HouseAt cl H x ps cs)(hr:ps[i]?=some r)(q:D.rt (.str r.2) H):U2 cl D [some (.ref x),some (.str r.1)] H:=by
 obtain⟨g,hn,h1,h8,dx,a,c,b,bs,e1,e2,e3,e4⟩:=h
 refine D1 e1 (v:=.ref a) rfl ?_
 exact a3X (.inl e2) (k:=Sum.inr r.1) rfl (abv_val g.nms.2 hr) q
def m3 (cl:Addr):Sp:=λ vs H Q _=>∃ x ps cs k,vs=[.ref x,.str k]/\HouseAt cl H x ps cs/\k∈m8 ps/\∀ p H',Same H H'->H p=none->H' p=some (.lst (sts (f8 ps k)))->Q (.ref p) H'
def N9 (cl:Addr):TS:=
 (f9 (tCB E3 (a0 (tOp e8 (A3 cl "beneath_of" (gv 0)) (gv 1)) a7)))
theorem a0X {x:Addr}{ps:List (Str×Str)}{cs:List Str}{k:Str}{H:Hp}{D:Ends}(h:HouseAt cl H x ps cs)(hk:k∈m8 ps)(q:∀ p H',Same H H'->H p=none->H' p=some (.lst (sts (f8 ps k)))->D.rt (.ref p) H'):N9 cl D [some (.ref x),some (.str k)] H:=by
 obtain⟨g,hn,h1,h8,dx,a,c,b,bs,e1,e2,e3,e4⟩:=h
 obtain⟨j,c',hj,hc,hv,hl⟩:=e4.get g.keys hk
 refine D1 e1 (v:=.ref b) rfl ?_
 refine a3X (.inl e4.d) (k:=Sum.inr k) rfl hv ?_
 exact listL_i hl (b6 λ p G n s t=>q p G s n t)
end
section
variable {K:PySem.W.Frag}
def tn_fin:TS:=(d7 (tOp o8 (gv 8) (tOp e8 (tC (.str "bcdefghijklmnopqrstuvwxyz")) (tOp z9 (gv 10) (tC (.int 25))))) (a8 8))
def tn_two:TS:=(b7 (sIf (bT (tOp eqG (gv 9) (gv 4)))
    (d7 (tOp o8 (tOp B8 (gv 0) (tC (.int 17))) (tOp B8 (gv 7) (tC (.int 25)))) (a8 10))
    g6)
   tn_fin)
def a0F:TS:=
 (b7 (d7 (tOp o8 (tC (.int 2)) (tOp z9 (gv 0) (tC (.int 7)))) (a8 2))
 (b7 (d7 (tOp z9 (tOp B8 (gv 0) (tC (.int 7))) (gv 2)) (a8 3))
 (b7 (d7 (tOp z9 (tOp o8 (tOp o8 (gv 3) (tC (.int 1))) (tOp z9 (tOp B8 (gv 0) (tC (.int 61))) (tOp subG (gv 2) (tC (.int 1))))) (gv 2)) (a8 4))
 (b7 (d7 (tOp o8 (tC (.int 1)) (tCB maxG (a0 (gv 3) (a0 (gv 4) a7)))) (a8 5))
 (b7 (d7 (j6 a7) (a8 6))
 (b7 (v5 (a3j (a0 (gv 1) a7)) (a8 7)
  (b7 (d7 (tC (.str "")) (a8 8))
  (b7 (v5 (a3j (a0 (tOp o8 (gv 5) (tOp z9 (gv 7) (tOp o8 (tOp subG (gv 2) (gv 5)) (tC (.int 1))))) a7)) (a8 9)
   (b7 (d7 (tOp o8 (tOp B8 (gv 0) (tC (.int 3))) (tOp U9 (tOp U9 (gv 9) (gv 9)) (tC (.int 5)))) (a8 10))
   (b7 (sIf (bT (tOp eqG (gv 9) (gv 3)))
    (d7 (tOp o8 (tOp B8 (gv 0) (tC (.int 11))) (gv 7)) (a8 10))
    g6)
   tn_two)))
  (K0 (O1 "append" (gv 6) (a0 (gv 8) a7))))))
 (f9 (gv 6))))))))
def o4:Sp:=λ vs H Q _=>∃ c m:Int,vs=[.int c,.int m]/\0<=m/\m<=24/\∀ p (zs:List Str) H',Same H H'->H p=none->H' p=some (.lst (sts zs))->(zs.length:Int)=m->Nms zs->Q (.ref p) H'
theorem beta_tab:∀ j:Fin 25,("bcdefghijklmnopqrstuvwxyz" : Str).cps.toList[j.val]?=some (98 + j.val):=by decide +kernel
theorem beta_at {i:Int}(h0:0<=i)(h1:i < 25):atI ("bcdefghijklmnopqrstuvwxyz" : Str).cps.toList i=some (98 + i.toNat):=by
 obtain⟨j,rfl⟩:∃ j:Nat,i=j:=⟨i.toNat,by omega⟩
 exact D2 (beta_tab ⟨j,by omega⟩)
def Bz (y:Str):Prop:=∀ d∈y.cps.toList,98<=d/\d<=122
theorem Bz.name {y:Str}(h:Bz y)(h1:1<=y.length)(h8:y.length<=8):X4 y=true:=by
 unfold X4
 have ha:y.cps.toList.all lowB=true:=List.all_eq_true.mpr λ c hc=>by
  obtain⟨h1,h2⟩:=h c hc
  unfold lowB
  rw[decide_eq_true (show 97<=c by omega),decide_eq_true h2]
  rfl
 have hn:(y==("all" : Str))=false:=beq_eq_false_iff_ne.mpr λ e=>by
  subst e
  have:=(h 97 (by decide)).1
  omega
 rw[decide_eq_true h1,decide_eq_true h8,ha,hn]
 rfl
theorem Bz.snoc {z:Str}{c:Nat}(h:Bz z)(h1:98<=c)(h2:c<=122):Bz (z++⟨#[c]⟩):=by
 intro d hd
 rw[W9]at hd
 rcases List.mem_append.mp hd with hd | hd
 ·exact h d hd
 ·have:d=c:=by simpa using hd
  subst this
  exact⟨h1,h2⟩
theorem a5k (y:Str):y.cps.toList.length=y.length:=by rw[Array.length_toList];rfl
theorem apart {c S:Int}(h2:2<=S)(h8:S<=8)(A B e:Int)(hA:A=c / 7 % S)(he:e=c / 61 % (S - 1))(hB:B=(A + 1 + e) % S):0<=A/\A < S/\0<=B/\B < S/\A≠B:=by
 have:S=2\/S=3\/S=4\/S=5\/S=6\/S=7\/S=8:=by omega
 rcases this with rfl | rfl | rfl | rfl | rfl | rfl | rfl <;> omega
theorem a5l {c m:Int}{H:Hp}{D:Ends}(h0:0<=m)(h24:m<=24)(q:∀ p (zs:List Str) H',Same H H'->H p=none->H' p=some (.lst (sts zs))->(zs.length:Int)=m->Nms zs->D.rt (.ref p) H'):
  a0F D [some (.int c),some (.int m),none,none,none,none,none,none,none,none,none] H:=by
 have hs:=sz
 have hS:2<=2 + c % 7/\2 + c % 7<=8:=by omega
 refine⟨by decide,⟨by decide,by decide⟩,by omega,⟨by decide,by decide⟩,by omega,by omega,few rfl,b6 λ p G1 n1 s1 t1=>?_⟩
 obtain⟨a1,a2,b1,b2,ab⟩:=apart hS.1 hS.2 _ _ _ rfl rfl rfl (c:=c)
 generalize e2:(c / 7 % (2 + c % 7) + 1 + c / 61 % (2 + c % 7 - 1)) % (2 + c % 7)=B at *
 generalize e1:c / 7 % (2 + c % 7)=A at *
 generalize e0:2 + c % 7=S at *
 have hSh:A < 1 + (if B > A then B else A)/\B < 1 + (if B > A then B else A)/\1 + (if B > A then B else A)<=S:=by
  split <;> omega
 generalize e3:1 + (if B > A then B else A)=Sh at *
 refine g8 ⟨⟨by omega,by omega⟩,?_⟩
 refine X3 (λ i Z G=>Same H G/\(∃ zs:List Str,G p=some (.lst (sts zs))/\zs.length=i/\∀ (j:Nat) z,zs[j]?=some z->X4 z=true/\z.cps.toList[A.toNat]?=some (98 + ((c / 11 + j) % 25).toNat))/\∃ u v w x,Z=[some (.int c),some (.int m),some (.int S),some (.int A),some (.int B),some (.int Sh),some (.ref p),u,v,w,x]) ⟨s1,⟨[],t1,rfl,λ j z e=>by simp at e⟩,_,_,_,_,rfl⟩ ?_ ?_
 ·rintro i Z G hi ⟨sm,⟨zs,hg,hl,hz⟩,u,v,w,x,rfl⟩
  have hL:=Int.emod_nonneg (0 + (i:Int)) (show S - Sh + 1≠0 by omega)
  have hL2:=Int.emod_lt_of_pos (0 + (i:Int)) (show 0 < S - Sh + 1 by omega)
  refine g8 ⟨by omega,⟨by omega,by omega⟩,?_⟩
  refine X3 (λ j Z G'=>G'=G/\(∃ y:Str,y.length=j/\Bz y/\(A < j->y.cps.toList[A.toNat]?=some (98 + ((c / 11 + i) % 25).toNat))/\∃ w x,Z=[some (.int c),some (.int m),some (.int S),some (.int A),some (.int B),some (.int Sh),some (.ref p),some (.int (0 + i)),some (.str y),w,x])) ⟨rfl, "",rfl,(λ d hd=>by
    rw[show("" : Str).cps.toList=[] from rfl]at hd
    cases hd),(λ h=>by omega),_,_,rfl⟩ ?_ ?_
  ·rintro j Z G' hj ⟨rfl,y,hy,hb,hA,w,x,rfl⟩
   have fin:∀ (n:Int) (D':Ends),((j:Int)=A->n=c / 11 + i)->(D'.nx=λ Z G2=>G2=G'/\(∃ y:Str,y.length=j + 1/\Bz y/\(A < (j + 1:Nat)->y.cps.toList[A.toNat]?=some (98 + ((c / 11 + i) % 25).toNat))/\∃ w x,Z=[some (.int c),some (.int m),some (.int S),some (.int A),some (.int B),some (.int Sh),some (.ref p),some (.int (0 + i)),some (.str y),w,x])) →
     tn_fin D' [some (.int c),some (.int m),some (.int S),some (.int A),some (.int B),some (.int Sh),some (.ref p),some (.int (0 + i)),some (.str y),some (.int (0 + j)),some (.int n)] G':=by
    intro n D' hn hD
    have m1:=Int.emod_nonneg n (show(25:Int)≠0 by decide)
    have m2:=Int.emod_lt_of_pos n (show(0:Int) < 25 by decide)
    refine⟨by decide,a1W (beta_at m1 m2) (by decide) ⟨?_,?_⟩⟩
    ·show y.length + 1<=sizeLine
     omega
    ·rw[hD]
     refine⟨rfl,_,?_,hb.snoc (c:=98 + (n % 25).toNat) (by omega) (by omega),λ hlt=>?_,_,_,rfl⟩
     ·rw[app_len,hy]
      rfl
     ·rw[W9]
      by_cases hc:(j:Int)=A
      ·have e:A.toNat=y.cps.toList.length:=by rw[a5k,hy];omega
       rw[e,List.getElem?_append_right (Nat.le_refl _),Nat.sub_self,hn hc]
       rfl
      ·rw[List.getElem?_append_left (by rw[a5k,hy];omega)]
       exact hA (by omega)
   have two:∀ (n:Int) (D':Ends),((j:Int)=A->n=c / 11 + i)->(D'.nx=λ Z G2=>G2=G'/\(∃ y:Str,y.length=j + 1/\Bz y/\(A < (j + 1:Nat)->y.cps.toList[A.toNat]?=some (98 + ((c / 11 + i) % 25).toNat))/\∃ w x,Z=[some (.int c),some (.int m),some (.int S),some (.int A),some (.int B),some (.int Sh),some (.ref p),some (.int (0 + i)),some (.str y),w,x])) →
     tn_two D' [some (.int c),some (.int m),some (.int S),some (.int A),some (.int B),some (.int Sh),some (.ref p),some (.int (0 + i)),some (.str y),some (.int (0 + j)),some (.int n)] G':=by
    intro n D' hn hD
    refine C8 (λ h=>?_) (λ h=>fin n D' hn hD)
    have h:((0 + (j:Int))==B)=true:=h
    have h:=eq_of_beq h
    exact⟨⟨by decide,by decide⟩,⟨by decide,by decide⟩,fin _ D' (λ e=>by omega) hD⟩
   refine⟨⟨by decide,by decide⟩,a0w (by omega) (by omega),a0w (by decide) (by decide),?_⟩
   refine C8 (λ h=>?_) (λ h=>?_)
   ·exact⟨⟨by decide,by decide⟩,two (c / 11 + (0 + i)) _ (λ e=>by omega) rfl⟩
   ·have h:((0 + (j:Int))==A)=false:=h
    have h:=beq_eq_false_iff_ne.mp h
    exact two _ _ (λ e=>absurd e (by omega)) rfl
  ·rintro Z G' ⟨rfl,y,hy,hb,hA,w,x,rfl⟩
   refine X7 hg (M6 hg (by simp;omega) ⟨sm.put n1,⟨zs++[y],by rw[a6,K6],by simp[hl],λ j z e=>?_⟩,_,_,_,_,rfl⟩)
   by_cases hj:j < zs.length
   ·rw[List.getElem?_append_left hj]at e
    exact hz j z e
   ·have hlt:=(Zg e).1
    rw[List.length_append]at hlt
    have:j=zs.length:=by simp at hlt;omega
    subst this
    simp at e
    subst e
    rw[hl]
    exact⟨hb.name (by omega) (by omega),hA (by omega)⟩
 ·rintro Z G ⟨sm,⟨zs,hg,hl,hz⟩,u,v,w,x,rfl⟩
  refine q p zs G sm n1 hg (by omega) ⟨λ z hm=>?_,?_⟩
  ·obtain⟨j,hj⟩:=List.mem_iff_getElem?.mp hm
   exact(hz j z hj).1
  ·refine List.pairwise_iff_getElem.mpr λ i j hi hj hlt e=>?_
   have z1:=(hz i zs[i] (by simp[hi])).2
   have z2:=(hz j zs[j] (by simp[hj])).2
   rw[e,z2]at z1
   injection z1 with z1
   omega
def U3 (K:PySem.W.Frag):TS:=
 (f9 (d3 o4 [] E0 (a0 (d3 (d4 K) [] E0 (a0 (gv 0) (a0 (tC (.int 2)) a7))) (a0 (tOp o8 (tC (.int 1)) (tOp z9 (tOp B8 (d3 (d4 K) [] E0 (a0 (gv 0) (a0 (tC (.int 2)) a7))) (tC (.int 9))) (tC (.int 8)))) a7))))
def A1 (K:PySem.W.Frag):Sp:=λ vs H Q _=>∃ (a:Addr) (ns:List Int),vs=[.ref a]/\SqL K H a (ns.map V.int)/\∀ p (cs:List Str) H',Same H H'->H p=none->H' p=some (.lst (sts cs))->1<=cs.length->cs.length<=8->Nms cs->Q (.ref p) H'
theorem a2J {a:Addr}{ns:List Int}{H:Hp}{D:Ends}(hS:SqL K H a (ns.map V.int))(q:∀ p (cs:List Str) H',Same H H'->H p=none->H' p=some (.lst (sts cs))->1<=cs.length->cs.length<=8->Nms cs->D.rt (.ref p) H'):U3 K D [some (.ref a)] H:=by
 refine⟨a,ns,2,rfl,hS,by decide,a,ns,2,rfl,hS,by decide,⟨by decide,by decide⟩,by decide,?_⟩
 refine⟨_,_,rfl,by omega,by omega,λ p zs G s n t hl hn=>?_⟩
 exact q p zs G s n t (by omega) (by omega) hn
def tp_fin:TS:=(K0 (O1 "append" (gv 3) (a0 (k9 (a0 (tOp e8 (gv 2) (gv 4)) (a0 (gv 6) a7))) a7)))
def tp_two:TS:=(b7 (sIf (bT (tOp eqG (tOp z9 (gv 5) (tC (.int 3))) (tC (.int 2))))
   (d7 (tC (.str "all")) (a8 6))
   g6)
  tp_fin)
def D5 (K:PySem.W.Frag):Sp:=λ vs H Q _=>∃ (a:Addr) (ns:List Int),vs=[.ref a]/\SqL K H a (ns.map V.int)/\∀ l (xs:List V) (ps:List (Str×Str)) H',Same H H'->H l=none->H' l=some (.lst xs)->PairsAt H' xs ps->Good ps->Q (.ref l) H'
theorem cut_take (zs:List Str)(k:Nat)(hk:k<=zs.length):a0i (sts zs) none (some (0 + (k:Int)))=sts (zs.take k):=by
 unfold a0i
 rw[Int.zero_add,HT.a4A,HT.a1a,List.drop_zero,sts,List.length_map,Nat.min_eq_left hk,Nat.sub_zero]
 exact List.map_take.symm
theorem all_at (zs:List Str){i:Int}(h0:0<=i)(h1:i < zs.length + 1):∃ u:Str,atI ([.str "all"]++sts zs) i=some (.str u)/\(u = "all" \/ u∈zs):=by
 obtain⟨j,rfl⟩:∃ j:Nat,i=j:=⟨i.toNat,by omega⟩
 cases j with
 | zero=>exact⟨"all",D2 rfl,.inl rfl⟩
 | succ j=>
  have hj:j < zs.length:=by omega
  exact⟨zs[j],D2 (by simp[hj]),.inr (List.getElem_mem _)⟩
end
theorem PairsAt.filter {H:Hp}{f:V->Option V}{P:Str×Str->Bool}:∀ {xs:List V}{ps:List (Str×Str)},PairsAt H xs ps->(∀ q t,H t=some (.tup [.str q.1,.str q.2])->f (.ref t)=if P q=true then some (.ref t) else none)->PairsAt H (xs.filterMap f) (ps.filter P)
 | [],[],_,_=>.nil
 | [],_::_,h,_=>by have:=h.1;simp at this
 | _::_,[],h,_=>by have:=h.1;simp at this
 | x::xs,q::ps,h,k=>by
  obtain⟨t,e1,e2⟩:=h.2 0 q rfl
  simp at e1
  subst e1
  have ih:=PairsAt.filter (xs:=xs) (ps:=ps) ⟨by have:=h.1;simpa using this,λ i r hr=>by
   obtain⟨u,u1,u2⟩:=h.2 (i + 1) r (by simpa using hr)
   exact⟨u,by simpa using u1,u2⟩⟩ k
  rw[List.filterMap_cons,List.filter_cons,k q t e2]
  by_cases hp:P q=true
  ·simp only[hp,if_true]
   refine⟨by simp[ih.1],λ i r hr=>?_⟩
   cases i with
   | zero=>
    simp at hr
    subst hr
    exact⟨t,rfl,e2⟩
   | succ i=>exact ih.2 i r (by simpa using hr)
  ·simp only[hp]
   exact ih
theorem same_make {H G:Hp}{x dx cl:Addr}(hx:H x=none)(hdx:H dx=none)(s:SameX x (upd (upd H dx (.own x)) x (.ins cl dx [])) G):Same H G:=λ b o e=>by
 have n1:=c9 e hx
 have n2:=c9 e hdx
 exact s b o n1 (by rw[a5 n1,a5 n2];exact e)
theorem a5m:∀ xs ys:List Str,PyData.eqvAll (xs.map PyData.str) (ys.map PyData.str)=decide (xs=ys)
 | [],[]=>rfl
 | [],_::_=>rfl
 | _::_,[]=>rfl
 | x::xs,y::ys=>by
  rw[List.map_cons,List.map_cons,PyData.eqvAll,a5m xs ys]
  show((x==y)&&_)=_
  by_cases h:x=y
  ·subst h
   simp
  ·simp[h]
section
variable {cl:Addr}
theorem make_i {pl pc x dx:Addr}{xs:List V}{ps:List (Str×Str)}{cs:List Str}{H:Hp}{Q:VK}{E:XK}(g:Good ps)(hn:Nms cs)(h1:1<=cs.length)(h8:cs.length<=8)(hl:H pl=some (.lst xs))(pa:PairsAt H xs ps)(hc:H pc=some (.lst (sts cs)))(nx:H x=none)(ndx:H dx=none)
  (q:∀ G,Same H G->(∀ J:Hp,(∀ b o,H b=none->G b=some o->J b=some o)->HouseAt cl J x ps cs)->Q .non G):w8 cl [.ref x,.ref pl,.ref pc] (upd (upd H dx (.own x)) x (.ins cl dx [])) Q E:=by
 have ne:∀ b o,H b=some o->upd (upd H dx (.own x)) x (.ins cl dx []) b=some o:=λ b o e=>by rw[a5 (c9 e nx),a5 (c9 e ndx)];exact e
 refine⟨x,dx,pl,pc,xs,ps,cs,rfl,a6,ne _ _ hl,⟨pa.1,λ i r hr=>?_⟩,g,ne _ _ hc,hn,h1,h8,λ G sx hf=>q G (same_make nx ndx sx) λ J hJ=>hf J λ b o hb e=>hJ b o ?_ e⟩
 ·obtain⟨t,e1,e2⟩:=pa.2 i r hr
  exact⟨t,e1,ne _ _ e2⟩
 ·rcases hb with hb | rfl
  ·by_cases z1:b=x
   ·rw[z1]
    exact nx
   ·rw[a5 z1]at hb
    by_cases z2:b=dx
    ·rw[z2]
     exact ndx
    ·rw[a5 z2]at hb
     exact hb
  ·exact nx
end
theorem ext_i {l:Addr}{xs:List V}{t:TA}{Z:St}{Q:VK}{H:Hp}(h:H l=some (.lst xs))(q:t Z H λ vs H2=>R5 (.ref l) vs H2 Q):bmK "extend" t Z Q (.ref l) H:=by
 unfold bmK
 have:tyB H (.ref l)=some "list" := by unfold tyB;simp only[h]
 rw[this]
 exact q
theorem ext_at {l b:Addr}{xs zs:List V}{Q:VK}{H:Hp}(h:H l=some (.lst xs))(hb:H b=some (.lst zs))(hz:xs.length + zs.length<=sizeLine)(q:Q .non (upd H l (.lst (xs++zs)))):R5 (.ref l) [.ref b] H Q:=by
 unfold R5
 simp only[h,hb]
 exact⟨hz,q⟩
def TupsAt (H:Hp)(xs:List V)(ls:List (List Str)):Prop:=xs.length=ls.length/\∀ (i:Nat) l,ls[i]?=some l->∃ t,xs[i]?=some (.ref t)/\H t=some (.tup (sts l))
theorem TupsAt.same {H G:Hp}{xs:List V}{ls:List (List Str)}(h:TupsAt H xs ls)(s:Same H G):TupsAt G xs ls:=⟨h.1,λ i q e=>by
 obtain⟨t,e1,e2⟩:=h.2 i q e
 exact⟨t,e1,s _ _ e2⟩⟩
theorem TupsAt.put {H:Hp}{xs ys:List V}{ls:List (List Str)}{l:Addr}{o:HO}(h:TupsAt H xs ls)(hl:H l=some (.lst ys)):TupsAt (upd H l o) xs ls:=⟨h.1,λ i q e=>by
 obtain⟨t,e1,e2⟩:=h.2 i q e
 refine⟨t,e1,?_⟩
 rw[a5 λ z=>by rw[z,hl]at e2;cases e2]
 exact e2⟩
theorem TupsAt.nil {H:Hp}:TupsAt H [] []:=⟨rfl,λ i q e=>by simp at e⟩
theorem TupsAt.append {H:Hp}{xs ys:List V}{ls ms:List (List Str)}(h:TupsAt H xs ls)(k:TupsAt H ys ms):TupsAt H (xs++ys) (ls++ms):=by
 refine⟨by simp[h.1,k.1],λ i r e=>?_⟩
 by_cases hi:i < ls.length
 ·rw[List.getElem?_append_left hi]at e
  rw[List.getElem?_append_left (by rw[h.1];exact hi)]
  exact h.2 i r e
 ·rw[List.getElem?_append_right (by omega)]at e
  rw[List.getElem?_append_right (by rw[h.1];omega),h.1]
  exact k.2 _ r e
theorem TupsAt.one {H:Hp}{t:Addr}{l:List Str}(ht:H t=some (.tup (sts l))):TupsAt H [.ref t] [l]:=⟨rfl,λ i r e=>by
 cases i with
 | zero=>simp at e;subst e;exact⟨t,rfl,ht⟩
 | succ i=>simp at e⟩
theorem TupsAt.snoc {H:Hp}{xs:List V}{ls:List (List Str)}{t:Addr}{l:List Str}(h:TupsAt H xs ls)(ht:H t=some (.tup (sts l))):TupsAt H (xs++[.ref t]) (ls++[l]):=h.append (.one ht)
theorem TupsAt.at {H:Hp}{xs:List V}{ls:List (List Str)}(h:TupsAt H xs ls){i:Nat}{x:V}(hx:xs[i]?=some x):∃ l t,ls[i]?=some l/\x=.ref t/\H t=some (.tup (sts l)):=by
 have hi:=(Zg hx).1
 rw[h.1]at hi
 obtain⟨t,e1,e2⟩:=h.2 i ls[i] (by simp[hi])
 rw[hx]at e1
 cases e1
 exact⟨ls[i],t,by simp[hi],rfl,e2⟩
theorem comp_tups {J:It}{ys:List V}(f:V->Option (List Str)){tn:List Str}{fr:List (Str×Nat)}{g:TG}{tt:TT}{te:TE}{Z:St}{H:Hp}{Q:VK}(hz:ys.length < sizeLine)
  (hJ:∀ G,Same H G->(∀ i,i < ys.length->J.go i G)/\J.stop ys.length G/\∀ i x G',i < ys.length->J.yld i G x G'->G'=G/\ys[i]?=some x)
  (turn:∀ (i:Nat) (x:V),ys[i]?=some x->∀ (G:Hp) (k:VK) (B:Hp->Prop),Same H G->(∀ l,f x=some l->∀ t G',Same G G'->G' t=some (.tup (sts l))->k (.ref t) G')->(f x=none->B G)->g x (inn tn fr Z) G λ σ2 G2=>tt σ2 G2 λ b G3=>br b (te σ2 G3 k) (B G3))
  (fin:∀ p zs G,H p=none->Same H G->G p=some (.lst zs)->TupsAt G zs (ys.filterMap f)->Q (.ref p) G):y7 J tn fr g tt te Z H Q:=by
 unfold y7
 intro p hp
 refine⟨λ i m G=>m=ys.length - i/\i<=ys.length/\Same H G/\∃ zs,G p=some (.lst zs)/\TupsAt G zs ((ys.take i).filterMap f),⟨_,rfl,Nat.zero_le _,p7 hp,[],a6,.nil⟩,?_⟩
 rintro i m G ⟨rfl,hi,sm,zs,hg,pz⟩
 obtain⟨j1,j2,j3⟩:=hJ G sm
 by_cases hlt:i < ys.length
 ·refine .inr ⟨j1 i hlt,λ G'=>Same H G'/\∃ zs,G' p=some (.lst zs)/\TupsAt G' zs ((ys.take (i + 1)).filterMap f),λ G' h=>⟨_,by omega,rfl,hlt,h⟩,λ x G' y=>?_⟩
  obtain⟨rfl,hx⟩:=j3 i x G' hlt y
  refine turn i x hx _ _ _ sm (λ l hl t G2 s2 t2=>⟨zs,s2 _ _ hg,?_,(sm.trans s2).put hp,_,a6,?_⟩) (λ hn=>⟨sm,zs,hg,?_⟩)
  ·rw[pz.1]
   have:=List.length_filterMap_le f (ys.take i)
   have h2:=List.length_take_le i ys
   omega
  ·rw[b9 hx,List.filterMap_append,List.filterMap_cons,hl]
   exact((pz.same s2).snoc t2).put (s2 _ _ hg)
  ·rw[b9 hx,List.filterMap_append,List.filterMap_cons,hn]
   simpa using pz
 ·have e:i=ys.length:=by omega
  subst e
  rw[List.take_length]at pz
  exact .inl ⟨j2,fin p zs G hp sm hg pz⟩
theorem a1i {a:Addr}{ys:List V}(f:V->Option (List Str)){tn:List Str}{fr:List (Str×Nat)}{g:TG}{tt:TT}{te:TE}{Z:St}{H:Hp}{Q:VK}(ha:H a=some (.lst ys))(hz:ys.length < sizeLine)
  (turn:∀ (i:Nat) (x:V),ys[i]?=some x->∀ (G:Hp) (k:VK) (B:Hp->Prop),Same H G->(∀ l,f x=some l->∀ t G',Same G G'->G' t=some (.tup (sts l))->k (.ref t) G')->(f x=none->B G)->g x (inn tn fr Z) G λ σ2 G2=>tt σ2 G2 λ b G3=>br b (te σ2 G3 k) (B G3))
  (fin:∀ p zs G,H p=none->Same H G->G p=some (.lst zs)->TupsAt G zs (ys.filterMap f)->Q (.ref p) G):y7 (Itl0 a) tn fr g tt te Z H Q:=by
 refine comp_tups f hz (λ G sm=>?_) turn fin
 refine⟨λ i hi=>⟨ys,ys[i],.inl (sm _ _ ha),by simp[hi]⟩,⟨ys,.inl (sm _ _ ha),Nat.le_refl _⟩,?_⟩
 rintro i x G' hi ⟨rfl,h⟩
 exact⟨rfl,h ys (.inl (sm _ _ ha))⟩
def tupF (f:Str->List Str):V->Option (List Str)
 | .str z=>some (f z)
 | _=>none
theorem a2g (f:Str->List Str):∀ l:List Str,(sts l).filterMap (tupF f)=l.map f
 | []=>rfl
 | a::r=>by
  rw[sts,List.map_cons,List.filterMap_cons]
  show f a::(sts r).filterMap (tupF f)=_
  rw[a2g f r]
  rfl
theorem a2h {ps:List (Str×Str)}:(b5 ps).length<=ps.length:=by
 unfold b5 b4
 refine Nat.le_trans (List.length_filter_le ..) ?_
 rw[List.length_map]
 exact Nat.le_refl _
theorem K9 {κ:Type}[DecidableEq κ](kvs:List (κ×V))(k:κ)(v:V):(g0 kvs k v).length<=kvs.length + 1:=by
 unfold g0
 split
 ·rw[List.length_map]
  omega
 ·simp
def Y3 (ps:List (Str×Str))(cs ns:List Str):List (List Str):=(ns.filter λ n=>!(f8 ps n).isEmpty).flatMap λ n=>(cs++[("all" : Str)]).map λ c=>(["down",n,c]:List Str)
theorem a2i (ps:List (Str×Str))(cs ns:List Str)(n:Str):Y3 ps cs (ns++[n])=Y3 ps cs ns++if (f8 ps n).isEmpty=true then[] else(cs++[("all" : Str)]).map λ c=>(["down",n,c]:List Str):=by
 unfold Y3
 rw[List.filter_append,List.flatMap_append]
 congr 1
 by_cases h:(f8 ps n).isEmpty=true <;> simp[h]
theorem S0 (ps:List (Str×Str))(cs:List Str):∀ ns,(Y3 ps cs ns).length<=ns.length * (cs.length + 1)
 | []=>by simp[Y3]
 | n::r=>by
  have ih:=S0 ps cs r
  unfold Y3 at ih ⊢
  rw[List.filter_cons]
  by_cases h:(!(f8 ps n).isEmpty)=true
  ·rw[if_pos h,List.flatMap_cons,List.length_append,List.length_map,List.length_append]
   simp only[List.length_cons,List.length_nil,Nat.succ_mul]at ih ⊢
   omega
  ·rw[if_neg h]
   simp only[List.length_cons,Nat.succ_mul]at ih ⊢
   omega
def acrs (ns:List Str):List (List Str):=ns.map λ n=>(["across",n]:List Str)
def a3p (ps:List (Str×Str))(cs:List Str):List (List Str):=Y3 ps cs ("all" :: b4 ps)++acrs ("all" :: b5 ps)
inductive SumIs (ps:List (Str×Str)):List Str->Prop where
 | down (n c:Str) (h:n∈m8 ps):SumIs ps ["down",n,c]
 | across (n:Str):SumIs ps ["across",n]
def wholeL:List Str->List Str
 | [_,n,c]=>[n,c]
 | [_,n]=>[n, "all"]
 | _=>[]
def a4e (ps:List (Str×Str))(cs:List Str):List Str->List (List Str)
 | [_,n,c]=>(f8 ps n).map λ m=>[m,c]
 | [_,n]=>cs.map λ c=>[n,c]
 | _=>[]
section
variable {cl:Addr}
def M7 (cl:Addr):Sp:=λ vs H Q _=>∃ x ps cs,vs=[.ref x]/\HouseAt cl H x ps cs/\∀ p zs H',Same H H'->H p=none->H' p=some (.lst zs)->TupsAt H' zs (a3p ps cs)->Q (.ref p) H'
def a3q (cl:Addr):TS:=
 (b7 (d7 (j6 a7) (a8 1))
 (b7 (v5 (iOf d9 (tOp o8 (j6 (a0 (tC (.str "all")) a7)) (i9 cl "parts" (x0 cl) E0 (gv 0) a7))) (a8 2)
  (sIf (ptG (i9 cl "beneath" (m3 cl) E0 (gv 0) (a0 (gv 2) a7)))
   (K0 (O1 "extend" (gv 1) (a0 (o0 (iOf d9 (tOp o8 (i9 cl "columns" (i7 cl) E0 (gv 0) a7) (j6 (a0 (tC (.str "all")) a7)))) ["column"] [("part",2)] (a8 0) a0k (k9 (a0 (tC (.str "down")) (a0 (gv 1) (a0 (gv 0) a7))))) a7)))
   g6))
 (f9 (tOp o8 (gv 1) (o0 (iOf d9 (tOp o8 (j6 (a0 (tC (.str "all")) a7)) (i9 cl "rows" (B6 cl) E0 (gv 0) a7))) ["part"] [] (a8 0) a0k (k9 (a0 (tC (.str "across")) (a0 (gv 0) a7))))))))
theorem r_sums_of {x:Addr}{ps:List (Str×Str)}{cs:List Str}{H:Hp}{D:Ends}(h:HouseAt cl H x ps cs)(q:∀ p zs H',Same H H'->H p=none->H' p=some (.lst zs)->TupsAt H' zs (a3p ps cs)->D.rt (.ref p) H'):a3q cl D [some (.ref x),none,none] H:=by
 have hs:=sz
 have g2:=h.good.many
 have h8:=h.many
 obtain⟨_,_,_,_,dx,_,_,_,_,e1,_⟩:=id h
 have ln:(b4 ps).length=ps.length:=List.length_map ..
 have lr:=a2h (ps:=ps)
 refine⟨few rfl,b6 λ p G1 n1 s1 t1=>?_⟩
 refine g8 ⟨few rfl,b6 λ r1 G2 n2 s2 t2=>k8 ((s1.trans s2) _ _ e1) rfl ⟨x,ps,cs,rfl,h.same (s1.trans s2),λ r2 G3 s3 n3 t3=>C5 (s3 _ _ t2) t3 (by simp;omega) (b6 λ r3 G4 n4 s4 t4=>?_)⟩⟩
 have e4:([V.str "all"]++sts (b4 ps))=sts ("all" :: b4 ps):=rfl
 rw[e4]at t4
 have s24:=(s2.trans s3).trans s4
 have np:r3≠p:=λ z=>by rw[z,(s2.trans s3) _ _ t1]at n4;cases n4
 refine f7 t4 (g7 (xs:=sts ("all" :: b4 ps)) (λ i Z G=>(Same H G/\G r3=some (.lst (sts ("all" :: b4 ps))))/\(∃ zs,G p=some (.lst zs)/\TupsAt G zs (Y3 ps cs ((("all" : Str)::b4 ps).take i)))/\∃ u,Z=[some (.ref x),some (.ref p),u])
  ⟨⟨s1.trans s24,t4⟩,⟨_,s24 _ _ t1,.nil⟩,_,rfl⟩ (λ i Z G _ h=>h.1.2) ?_ ?_)
 ·rintro i y Z G hy ⟨⟨sm,hr⟩,⟨zs,hg,pz⟩,u,rfl⟩
  obtain⟨z,hz,rfl⟩:=y3 hy
  have hi:=(Zg hz).1
  have hk:z∈m8 ps:=List.mem_of_getElem? hz
  refine k8 (sm _ _ e1) rfl ⟨x,ps,cs,z,rfl,h.same sm,hk,λ b G5 s5 n5 t5=>a3Z t5 ?_⟩
  have sm5:=sm.trans s5
  have eb:(sts (f8 ps z)).isEmpty=(f8 ps z).isEmpty:=by cases f8 ps z <;> rfl
  rw[eb]
  refine C8 (λ hb=>?_) (λ hb=>?_)
  ·have hb:(f8 ps z).isEmpty=false:=by simpa using hb
   refine ext_i (s5 _ _ hg) (A0 (k8 (sm5 _ _ e1) rfl ⟨x,ps,cs,rfl,h.same sm5,λ c1 G6 s6 n6 t6=>⟨few rfl,b6 λ c2 G7 n7 s7 t7=>C5 (s7 _ _ t6) t7 (by simp;omega) (b6 λ c3 G8 n8 s8 t8=>?_)⟩⟩))
   rw[K6]at t8
   refine f7 t8 (a1i (tupF λ c=>(["down",z,c]:List Str)) t8 (by simp;omega) ?_ ?_)
   ·intro j w hw G9 k B s9 hk9 _
    obtain⟨c,hc,rfl⟩:=y3 hw
    exact m5 rfl ⟨few rfl,b6 λ t G10 n10 s10 t10=>hk9 _ rfl t G10 s10 t10⟩
   intro pe ws G9 n9 s9 t9 pw
   rw[a2g]at pw
   have s59:=((s6.trans s7).trans s8).trans s9
   have s9':=s5.trans s59
   have lz:zs.length<=25 * 9:=by
    rw[pz.1]
    refine Nat.le_trans (S0 ..) (Nat.mul_le_mul ?_ (by omega))
    rw[List.length_take,List.length_cons]
    omega
   have lw:ws.length<=9:=by
    rw[pw.1]
    simp
    omega
   refine ext_at (s9' _ _ hg) t9 (by omega) ⟨⟨(sm.trans s9').put n1,by rw[a5 np];exact s9' _ _ hr⟩,⟨_,a6,?_⟩,_,rfl⟩
   rw[b9 hz,a2i,hb]
   exact((pz.same s9').append pw).put (s9' _ _ hg)
  ·have hb:(f8 ps z).isEmpty=true:=by simpa using hb
   refine⟨⟨sm5,s5 _ _ hr⟩,⟨zs,s5 _ _ hg,?_⟩,_,rfl⟩
   rw[b9 hz,a2i,hb]
   simpa using pz.same s5
 ·rintro Z G ⟨⟨sm,hr⟩,⟨zs,hg,pz⟩,u,rfl⟩
  rw[show(sts ("all" :: b4 ps)).length=(("all" : Str)::b4 ps).length from List.length_map ..,List.take_length]at pz
  refine A0 ⟨few rfl,b6 λ c1 G5 n5 s5 t5=>k8 ((sm.trans s5) _ _ e1) rfl ⟨x,ps,cs,rfl,h.same (sm.trans s5),λ c2 G6 s6 n6 t6=>C5 (s6 _ _ t5) t6 (by simp;omega) (b6 λ c3 G7 n7 s7 t7=>?_)⟩⟩
  have e7:([V.str "all"]++sts (b5 ps))=sts ("all" :: b5 ps):=rfl
  rw[e7]at t7
  refine f7 t7 (a1i (tupF λ n=>(["across",n]:List Str)) t7 (by simp;omega) ?_ ?_)
  ·intro j w hw G9 k B s9 hk9 _
   obtain⟨c,hc,rfl⟩:=y3 hw
   exact m5 rfl ⟨few rfl,b6 λ t G10 n10 s10 t10=>hk9 _ rfl t G10 s10 t10⟩
  intro pe ws G9 n9 s9 t9 pw
  rw[a2g]at pw
  have s59:=((s5.trans s6).trans s7).trans s9
  have lz:zs.length<=25 * 9:=by
   rw[pz.1]
   refine Nat.le_trans (S0 ..) (Nat.mul_le_mul ?_ (by omega))
   rw[List.length_cons]
   omega
  have lw:ws.length<=25:=by
   rw[pw.1]
   simp
   omega
  refine C5 (s59 _ _ hg) t9 (by omega) (b6 λ pf G10 n10 s10 t10=>?_)
  have S:=(sm.trans s59).trans s10
  exact q pf _ G10 S ((sm.trans s59).free n10) t10 (((pz.same s59).append pw).same s10)
def F7:Sp:=λ vs H Q _=>∃ (x:V) (t:Addr) (ps:List (Str×Str)) (l:List Str),vs=[x,.ref t]/\H t=some (.tup (sts l))/\SumIs ps l/\∀ p H',Same H H'->H p=none->H' p=some (.tup (sts (wholeL l)))->Q (.ref p) H'
def a2j:TS:=
 (f9 (tIfG (bT (tOp eqG (tOp e8 (gv 1) (tC (.int 0))) (tC (.str "down")))) (k9 (a0 (tOp e8 (gv 1) (tC (.int 1))) (a0 (tOp e8 (gv 1) (tC (.int 2))) a7))) (k9 (a0 (tOp e8 (gv 1) (tC (.int 1))) (a0 (tC (.str "all")) a7)))))
theorem a6q {x:V}{t:Addr}{ps:List (Str×Str)}{l:List Str}{H:Hp}{D:Ends}(ht:H t=some (.tup (sts l)))(hl:SumIs ps l)(q:∀ p H',Same H H'->H p=none->H' p=some (.tup (sts (wholeL l)))->D.rt (.ref p) H'):a2j D [some x,some (.ref t)] H:=by
 cases hl with
 | down n c h=>
  refine h9 ht (v:=.str "down") rfl (m5 rfl ?_)
  exact h9 ht (v:=.str n) rfl (h9 ht (v:=.str c) rfl ⟨few rfl,b6 λ p G n1 s1 t1=>q p G s1 n1 t1⟩)
 | across n=>
  refine h9 ht (v:=.str "across") rfl (i8 (by decide +kernel) ?_)
  exact h9 ht (v:=.str n) rfl ⟨few rfl,b6 λ p G n1 s1 t1=>q p G s1 n1 t1⟩
def D6 (cl:Addr):Sp:=λ vs H Q _=>∃ (x t:Addr) (ps:List (Str×Str)) (cs l:List Str),vs=[.ref x,.ref t]/\HouseAt cl H x ps cs/\H t=some (.tup (sts l))/\SumIs ps l/\∀ p zs H',Same H H'->H p=none->H' p=some (.lst zs)->TupsAt H' zs (a4e ps cs l)->Q (.ref p) H'
def a0G (cl:Addr):TS:=
 (b7 (sIf (bT (tOp eqG (tOp e8 (gv 1) (tC (.int 0))) (tC (.str "down"))))
  (f9 (o0 (iOf d9 (i9 cl "beneath" (m3 cl) E0 (gv 0) (a0 (tOp e8 (gv 1) (tC (.int 1))) a7))) ["part"] [("one",1)] (a8 0) a0k (k9 (a0 (gv 0) (a0 (tOp e8 (gv 1) (tC (.int 2))) a7)))))
  g6)
 (f9 (o0 (iOf d9 (i9 cl "columns" (i7 cl) E0 (gv 0) a7)) ["column"] [("one",1)] (a8 0) a0k (k9 (a0 (tOp e8 (gv 1) (tC (.int 1))) (a0 (gv 0) a7))))))
theorem a5n {x t:Addr}{ps:List (Str×Str)}{cs l:List Str}{H:Hp}{D:Ends}(h:HouseAt cl H x ps cs)(ht:H t=some (.tup (sts l)))(hl:SumIs ps l)(q:∀ p zs H',Same H H'->H p=none->H' p=some (.lst zs)->TupsAt H' zs (a4e ps cs l)->D.rt (.ref p) H'):a0G cl D [some (.ref x),some (.ref t)] H:=by
 have hs:=sz
 have g2:=h.good.many
 have h8:=h.many
 obtain⟨_,_,_,_,dx,_,_,_,_,e1,_⟩:=id h
 cases hl with
 | down n c hn=>
  refine h9 ht (v:=.str "down") rfl (m5 rfl ?_)
  refine A0 (k8 e1 rfl (h9 ht (v:=.str n) rfl ⟨x,ps,cs,n,rfl,h,hn,λ b G1 s1 n1 t1=>?_⟩))
  have lb:=R9 ps n
  refine f7 t1 (a1i (tupF λ m=>[m,c]) t1 (by simp;omega) ?_ ?_)
  ·intro j w hw G9 k B s9 hk9 _
   obtain⟨m,hm,rfl⟩:=y3 hw
   exact m5 rfl (h9 ((s1.trans s9) _ _ ht) (v:=.str c) rfl ⟨few rfl,b6 λ t G10 n10 s10 t10=>hk9 _ rfl t G10 s10 t10⟩)
  intro pe ws G9 n9 s9 t9 pw
  rw[a2g]at pw
  exact q pe ws G9 (s1.trans s9) (s1.free n9) t9 pw
 | across n=>
  refine h9 ht (v:=.str "across") rfl (i8 (by decide +kernel) ?_)
  refine A0 (k8 e1 rfl ⟨x,ps,cs,rfl,h,λ b G1 s1 n1 t1=>?_⟩)
  refine f7 t1 (a1i (tupF λ c=>[n,c]) t1 (by simp;omega) ?_ ?_)
  ·intro j w hw G9 k B s9 hk9 _
   obtain⟨m,hm,rfl⟩:=y3 hw
   exact m5 rfl (h9 ((s1.trans s9) _ _ ht) (v:=.str n) rfl ⟨few rfl,b6 λ t G10 n10 s10 t10=>hk9 _ rfl t G10 s10 t10⟩)
  intro pe ws G9 n9 s9 t9 pw
  rw[a2g]at pw
  exact q pe ws G9 (s1.trans s9) (s1.free n9) t9 pw
end
namespace S
section
variable {K:PySem.W.Frag}
end
end S
namespace Nu
theorem m7 {H G:Hp}{p:Addr}(s:Same H G)(n:G p=none):H p=none:=by
 cases e:H p with
 | none=>rfl
 | some o=>rw[s _ _ e]at n;cases n
def plK (a b:Str):List Key:=[Sum.inr a,Sum.inr b]
theorem a1j (a b:Str):A8 [.str a,.str b]=some (plK a b):=rfl
theorem a1k {d p:Addr}{a b:Str}{kvs:List (List Key×V)}{H:Hp}(h:H d=some (.dT kvs))(hp:H p=some (.tup [.str a,.str b])):C0 H d (.ref p)=some (d6 kvs (plK a b)):=by
 unfold C0
 simp only[h,hp,a1j,Option.map_some]
theorem look_frz {d p:Addr}{a b:Str}{o:Obj}{kvs:List (List Key×V)}{H:Hp}(h:H d=some (.frz o (.dT kvs)))(hp:H p=some (.tup [.str a,.str b])):C0 H d (.ref p)=some (d6 kvs (plK a b)):=by
 unfold C0
 simp only[h,hp,a1j,Option.map_some]
theorem dget_i {d:Addr}{kvs:List (List Key×V)}{t:TA}{Z:St}{Q:VK}{H:Hp}(h:H d=some (.dT kvs))(q:t Z H λ vs H2=>a0D (.ref d) vs H2 Q):bmK "get" t Z Q (.ref d) H:=by
 unfold bmK
 have:tyB H (.ref d)=some "dict" := by unfold tyB;simp only[h]
 rw[this]
 exact q
theorem m4 {d p:Addr}{a b:Str}{v:V}{kvs:List (List Key×V)}{Q:VK}{H:Hp}(h:Rd H d (.dT kvs))(hp:H p=some (.tup [.str a,.str b]))(hv:d6 kvs (plK a b)=some v)(q:Q v H):e8 (.ref d) (.ref p) H Q:=by
 unfold e8
 rcases h with h | ⟨o,h⟩
 ·simp only[h,a1k h hp,hv]
  exact q
 ·simp only[h,look_frz h hp,hv]
  exact q
theorem E5 {a b c d:Str}(h:plK a b=plK c d):a=c/\b=d:=by
 unfold plK at h
 simp only[List.cons.injEq,Sum.inr.injEq,and_true]at h
 exact h
theorem E6 {p b:Addr}{x y:Str}{v:V}{kvs:List (List Key×V)}{H:Hp}{Q:Hp->Prop}(h:H p=some (.dT kvs))(hb:H b=some (.tup [.str x,.str y]))(hz:kvs.length < sizeLine)(q:Q (upd H p (.dT (g0 kvs (plK x y) v)))):A9 (.ref p) (.ref b) v H Q:=by
 unfold A9
 simp only[h,hb,a1j]
 exact⟨hz,q⟩
theorem X6 {a:Addr}{kvs:List (List Key×V)}{H:Hp}{R:It->Hp->Th->Prop}(h:H a=some (.dT kvs))(q:∀ o,R (Itdt a o kvs) (upd H a (.frz o (.dT kvs))) (some (a,.dT kvs))):d9 (.ref a) H R:=by
 unfold d9
 simp only[h]
 exact q
theorem loop_dT {a:Addr}{o:Obj}{kvs:List (List Key×V)}{g:TG}{tb:TS}{D:Ends}{Z:St}{H:Hp}(Pv:Nat->St->Hp->Prop)(h0:Pv 0 Z H)(hl:∀ i Z H,i<=kvs.length->Pv i Z H->H a=some (.frz o (.dT kvs)))
  (hs:∀ i k v t Z H,kvs[i]?=some (k,v)->Pv i Z H->H t=some (.tup (k.map kV))->g (.ref t) Z H λ σ2 H2=>tb { D with nx:=Pv (i + 1),ct:=Pv (i + 1),bk:=D.nx } σ2 H2)(hd:∀ Z H,Pv kvs.length Z H->D.nx Z H):E2 (Itdt a o kvs) g tb D Z H:=by
 unfold E2
 refine⟨λ i m Z H=>m=kvs.length - i/\i<=kvs.length/\Pv i Z H,⟨_,rfl,Nat.zero_le _,h0⟩,?_⟩
 rintro i m Z H ⟨rfl,hi,p⟩
 have q:=hl i Z H hi p
 by_cases hlt:i < kvs.length
 ·refine .inr ⟨⟨q,hlt⟩,Pv (i + 1),λ Z' H' h=>⟨_,by omega,rfl,hlt,h⟩,?_⟩
  rintro x H' ⟨rfl,k,v,t,hx,rfl,ht⟩
  exact hs i k v t Z _ hx p ht
 ·have e:i=kvs.length:=by omega
  subst e
  exact .inl ⟨⟨q,Nat.le_refl _⟩,hd Z H p⟩
def PrAt (H:Hp)(kv:List Key×V)(x:V):Prop:=∃ p t,x=.ref p/\H p=some (.tup [.ref t,kv.2])/\H t=some (.tup (kv.1.map kV))
abbrev PrsL (H:Hp):List (List Key×V)->List V->Prop:=Paired (PrAt H)
theorem PrsL.same {H G:Hp}{kvs:List (List Key×V)}{xs:List V}(h:PrsL H kvs xs)(s:Same H G):PrsL G kvs xs:=by
 induction h with
 | nil=>exact .nil
 | cons h t ih=>
  obtain⟨p,t,rfl,h1,h2⟩:=h
  exact .cons ⟨p,t,rfl,s _ _ h1,s _ _ h2⟩ ih
end Nu
namespace S3
open Nu
def enc:A.Sm Str->List Str
 | .dn n c=>["down",n,c]
 | .ac n=>["across",n]
def smL (ps:List (Str×Str))(cs:List Str):List (A.Sm Str):=(((("all" : Str)::b4 ps).filter λ n=>!(f8 ps n).isEmpty).flatMap λ n=>(cs++[("all" : Str)]).map λ c=>A.Sm.dn n c)++((("all" : Str)::b5 ps).map A.Sm.ac)
theorem a3r (ps:List (Str×Str))(cs:List Str):a3p ps cs=(smL ps cs).map enc:=by
 unfold a3p smL Y3 acrs
 rw[List.map_append,List.map_flatMap,List.map_map]
 congr 1
 refine congrArg (λ f=>List.flatMap f _) (funext λ n=>?_)
 rw[List.map_map]
 rfl
theorem bel_eq (ps:List (Str×Str))(n:Str):A.bel ps n=f8 ps n:=rfl
theorem Good.gd {ps:List (Str×Str)}(g:Good ps):A.Gd ("all" : Str) ps:=⟨g.one,g.keys,g.abv⟩
theorem F8 {cs:List Str}(h:Nms cs):(cs++[("all" : Str)]).Nodup:=by
 refine List.nodup_append.mpr ⟨h.2,by simp,λ a ha b hb e=>?_⟩
 rw[List.mem_singleton.mp hb]at e
 exact(O6 (h.1 a ha)).2.2 e
theorem mem_smL {ps:List (Str×Str)}{cs:List Str}{one:A.Sm Str}:one∈smL ps cs↔A.IsSm ("all" : Str) ps cs one:=by
 unfold smL
 rw[List.mem_append]
 constructor
 ·rintro(h | h)
  ·obtain⟨n,hn,hl⟩:=List.mem_flatMap.mp h
   obtain⟨c,hc,rfl⟩:=List.mem_map.mp hl
   obtain⟨h1,h2⟩:=List.mem_filter.mp hn
   refine .dn n c (by simpa[b4] using h1) (λ e=>?_) ?_
   ·rw[bel_eq]at e
    rw[e]at h2
    cases h2
   ·rcases List.mem_append.mp hc with h | h
    ·exact .inr h
    ·exact .inl (List.mem_singleton.mp h)
  ·obtain⟨n,hn,rfl⟩:=List.mem_map.mp h
   refine .ac n ?_
   rcases List.mem_cons.mp hn with h | h
   ·exact .inl h
   ·obtain⟨h1,h2⟩:=List.mem_filter.mp h
    exact .inr ⟨h1,List.isEmpty_iff.mp h2⟩
 ·intro h
  cases h with
  | dn n c hn hb hc=>
   refine .inl (List.mem_flatMap.mpr ⟨n,List.mem_filter.mpr ⟨by simpa[b4] using hn,?_⟩,List.mem_map.mpr ⟨c,?_,rfl⟩⟩)
   ·cases e:f8 ps n with
    | nil=>exact(hb e).elim
    | cons=>rfl
   ·rcases hc with h | h
    ·simp[h]
    ·simp[h]
  | ac n hn=>
   refine .inr (List.mem_map.mpr ⟨n,?_,rfl⟩)
   rcases hn with h | ⟨h1,h2⟩
   ·simp[h]
   ·exact List.mem_cons_of_mem _ (List.mem_filter.mpr ⟨h1,List.isEmpty_iff.mpr h2⟩)
theorem smL_len {ps:List (Str×Str)}{cs:List Str}(g:Good ps)(h8:cs.length<=8):(smL ps cs).length<=300:=by
 have e:(smL ps cs).length=(a3p ps cs).length:=by rw[a3r,List.length_map]
 have g2:=g.many
 rw[e]
 unfold a3p acrs
 rw[List.length_append,List.length_map]
 have h1:=S0 ps cs ("all" :: b4 ps)
 have h2:(("all" : Str)::b4 ps).length * (cs.length + 1)<=25 * 9:=Nat.mul_le_mul (by simp[b4];omega) (by omega)
 have h3:=a2h (ps:=ps)
 simp only[List.length_cons]at h1 h2 ⊢
 omega
theorem enc_is {ps:List (Str×Str)}{cs:List Str}{one:A.Sm Str}(h:A.IsSm ("all" : Str) ps cs one):SumIs ps (enc one):=by
 cases h with
 | dn n c hn hb hc=>exact .down n c (List.mem_cons.mpr hn)
 | ac n hn=>exact .across n
def gkv (p:(Str×Str)×Int):List Key×V:=(plK p.1.1 p.1.2,.int p.2)
abbrev giv (ps:List (Str×Str))(cs:List Str)(one:A.Sm Str):List ((Str×Str)×Int):=A.A2 ("all" : Str) ps cs one
def sg1:A.Sm Str->Int
 | .dn _ c=>if c = "all" then -1 else 1
 | .ac n=>if n = "all" then 1 else -1
def M8:Sp:=λ vs H Q _=>∃ (t:Addr) (one:A.Sm Str),vs=[.ref t]/\H t=some (.tup (sts (enc one)))/\Q (.int (sg1 one)) H
def a3s:TS:=
 (b7 (sIf (bT (tOp eqG (tOp e8 (gv 0) (tC (.int 0))) (tC (.str "down"))))
  (f9 (tIfG (bT (tOp eqG (tOp e8 (gv 0) (tC (.int 2))) (tC (.str "all")))) (tUn negG (tC (.int 1))) (tC (.int 1))))
  g6)
 (f9 (tIfG (bT (tOp eqG (tOp e8 (gv 0) (tC (.int 1))) (tC (.str "all")))) (tC (.int 1)) (tUn negG (tC (.int 1))))))
theorem r_sign_of {t:Addr}{one:A.Sm Str}{H:Hp}{D:Ends}(ht:H t=some (.tup (sts (enc one))))(q:D.rt (.int (sg1 one)) H):a3s D [some (.ref t)] H:=by
 cases one with
 | dn n c=>
  refine h9 ht (v:=.str "down") rfl (m5 rfl (h9 ht (v:=.str c) rfl ?_))
  have q:D.rt (.int (if c = "all" then -1 else 1)) H:=q
  refine C8 (λ b=>?_) (λ b=>?_)
  ·have b:(c==("all" : Str))=true:=b
   rw[if_pos (eq_of_beq b)]at q
   exact q
  ·have b:(c==("all" : Str))=false:=b
   rw[if_neg (beq_eq_false_iff_ne.mp b)]at q
   exact q
 | ac n=>
  refine h9 ht (v:=.str "across") rfl (i8 (by decide +kernel) (h9 ht (v:=.str n) rfl ?_))
  have q:D.rt (.int (if n = "all" then 1 else -1)) H:=q
  refine C8 (λ b=>?_) (λ b=>?_)
  ·have b:(n==("all" : Str))=true:=b
   rw[if_pos (eq_of_beq b)]at q
   exact q
  ·have b:(n==("all" : Str))=false:=b
   rw[if_neg (beq_eq_false_iff_ne.mp b)]at q
   exact q
theorem PrsL.put {H:Hp}{kvs:List (List Key×V)}{xs ys:List V}{p:Addr}{o:HO}(h:PrsL H kvs xs)(hp:H p=some (.lst ys)):PrsL (upd H p o) kvs xs:=by
 induction h with
 | nil=>exact .nil
 | cons h t ih=>
  obtain⟨a,b,rfl,h1,h2⟩:=h
  exact .cons ⟨a,b,rfl,by rw[a5 (λ z=>by rw[z,hp]at h1;cases h1)];exact h1,by rw[a5 (λ z=>by rw[z,hp]at h2;cases h2)];exact h2⟩ ih
theorem PrsL.snoc {H:Hp}{kvs:List (List Key×V)}{xs:List V}{kv:List Key×V}{x:V}(h:PrsL H kvs xs)(k:PrAt H kv x):PrsL H (kvs++[kv]) (xs++[x]):=by
 induction h with
 | nil=>exact .cons k .nil
 | cons h t ih=>exact .cons h ih
theorem PrsL.len {H:Hp}{kvs:List (List Key×V)}{xs:List V}(h:PrsL H kvs xs):xs.length=kvs.length:=by
 induction h with
 | nil=>rfl
 | cons h t ih=>simp[ih]
theorem PrsL.get {H:Hp}{kvs:List (List Key×V)}{xs:List V}(h:PrsL H kvs xs):∀ {i:Nat}{x:V},xs[i]?=some x->∃ kv,kvs[i]?=some kv/\PrAt H kv x:=by
 induction h with
 | nil=>intro i x e;simp at e
 | cons h t ih=>
  intro i x e
  cases i with
  | zero=>
   simp at e
   subst e
   exact⟨_,rfl,h⟩
  | succ i=>exact ih (by simpa using e)
theorem comp_prs {a:Addr}{ys:List V}(f:V->Option (List Key×V)){tn:List Str}{fr:List (Str×Nat)}{g:TG}{tt:TT}{te:TE}{Z:St}{H:Hp}{Q:VK}(ha:H a=some (.lst ys))(hz:ys.length < sizeLine)
  (turn:∀ (i:Nat) (x:V),ys[i]?=some x->∀ (G:Hp) (k:VK) (B:Hp->Prop),Same H G->(∀ kv,f x=some kv->∀ z G',Same G G'->PrAt G' kv z->k z G')->(f x=none->B G)->g x (inn tn fr Z) G λ σ2 G2=>tt σ2 G2 λ b G3=>br b (te σ2 G3 k) (B G3))
  (fin:∀ p zs G,H p=none->Same H G->G p=some (.lst zs)->PrsL G (ys.filterMap f) zs->Q (.ref p) G):y7 (Itl0 a) tn fr g tt te Z H Q:=by
 unfold y7
 intro p hp
 refine⟨λ i m G=>m=ys.length - i/\i<=ys.length/\Same H G/\∃ zs,G p=some (.lst zs)/\PrsL G ((ys.take i).filterMap f) zs,⟨_,rfl,Nat.zero_le _,p7 hp,[],a6,.nil⟩,?_⟩
 rintro i m G ⟨rfl,hi,sm,zs,hg,pz⟩
 have hy:=sm _ _ ha
 by_cases hlt:i < ys.length
 ·refine .inr ⟨⟨ys,ys[i],.inl hy,by simp[hlt]⟩,λ G'=>Same H G'/\∃ zs,G' p=some (.lst zs)/\PrsL G' ((ys.take (i + 1)).filterMap f) zs,λ G' h=>⟨_,by omega,rfl,hlt,h⟩,λ x G' y=>?_⟩
  obtain⟨rfl,y⟩:=y
  have hx:=y ys (.inl hy)
  refine turn i x hx _ _ _ sm (λ kv hl z G2 s2 t2=>⟨zs,s2 _ _ hg,?_,(sm.trans s2).put hp,_,a6,?_⟩) (λ hn=>⟨sm,zs,hg,?_⟩)
  ·rw[PrsL.len pz]
   have:=List.length_filterMap_le f (ys.take i)
   have h2:=List.length_take_le i ys
   omega
  ·rw[b9 hx,List.filterMap_append,List.filterMap_cons,hl]
   exact PrsL.put (PrsL.snoc (Nu.PrsL.same pz s2) t2) (s2 _ _ hg)
  ·rw[b9 hx,List.filterMap_append,List.filterMap_cons,hn]
   simpa using pz
 ·have e:i=ys.length:=by omega
  subst e
  rw[List.take_length]at pz
  exact .inl ⟨⟨ys,.inl hy,Nat.le_refl _⟩,fin p zs G hp sm hg pz⟩
def plF (H:Hp)(h:Str->Str->Option V):V->Option (List Key×V)
 | .ref u=>match H u with
  | some (.tup [.str a,.str b])=>(h a b).map λ v=>(plK a b,v)
  | _=>none
 | _=>none
theorem plF_at {H:Hp}{h:Str->Str->Option V}{u:Addr}{a b:Str}(e:H u=some (.tup [.str a,.str b])):plF H h (.ref u)=(h a b).map λ v=>(plK a b,v):=by
 unfold plF
 simp only[e]
theorem plF_all {H:Hp}{h:Str->Str->Option V}:∀ {ys:List V}{ps:List (Str×Str)},PairsAt H ys ps->ys.filterMap (plF H h)=ps.filterMap λ p=>(h p.1 p.2).map λ v=>(plK p.1 p.2,v)
 | [],[],_=>rfl
 | [],_::_,h=>by have:=h.1;simp at this
 | _::_,[],h=>by have:=h.1;simp at this
 | y::ys,p::ps,k=>by
  obtain⟨t,e1,e2⟩:=k.2 0 p rfl
  simp at e1
  subst e1
  have ih:=plF_all (h:=h) (ys:=ys) (ps:=ps) ⟨by have:=k.1;simpa using this,λ i r hr=>by
   obtain⟨u,u1,u2⟩:=k.2 (i + 1) r (by simpa using hr)
   exact⟨u,by simpa using u1,u2⟩⟩
  rw[List.filterMap_cons,List.filterMap_cons,plF_at e2,ih]
theorem pairs_of {H:Hp}{zs:List V}{ps:List (Str×Str)}(h:TupsAt H zs (ps.map λ p=>[p.1,p.2])):PairsAt H zs ps:=⟨by rw[h.1,List.length_map],λ i p e=>by
 obtain⟨t,h1,h2⟩:=h.2 i [p.1,p.2] (by rw[List.getElem?_map,e];rfl)
 exact⟨t,h1,h2⟩⟩
def othP (ps:List (Str×Str))(cs:List Str):A.Sm Str->List (Str×Str)
 | .dn n c=>(f8 ps n).map λ m=>(m,c)
 | .ac n=>cs.map λ c=>(n,c)
def whP:A.Sm Str->Str×Str
 | .dn n c=>(n,c)
 | .ac n=>(n, "all")
theorem othL_eq (ps:List (Str×Str))(cs:List Str)(one:A.Sm Str):a4e ps cs (enc one)=(othP ps cs one).map λ p=>[p.1,p.2]:=by
 cases one <;> (unfold othP;rw[List.map_map];rfl)
theorem giv_kv (ps:List (Str×Str))(cs:List Str)(one:A.Sm Str):(giv ps cs one).map gkv=(plK (whP one).1 (whP one).2,.int (sg1 one))::(othP ps cs one).filterMap λ p=>(some (V.int (-(sg1 one)))).map λ v=>(plK p.1 p.2,v):=by
 have fm:∀ (l:List (Str×Str)) (v:V),(l.filterMap λ p=>(some v).map λ v=>(plK p.1 p.2,v))=l.map λ p=>(plK p.1 p.2,v):=λ l v=>by
  induction l with
  | nil=>rfl
  | cons x r ih=>rw[List.filterMap_cons,List.map_cons,<- ih];rfl
 rw[fm]
 cases one <;> (unfold othP;rw[List.map_map];show _::List.map gkv (List.map _ _)=_;rw[List.map_map];rfl)
section
variable {cl:Addr}
def F9 (cl:Addr):Sp:=λ vs H Q _=>∃ (x t:Addr) (ps:List (Str×Str)) (cs:List Str) (one:A.Sm Str),vs=[.ref x,.ref t]/\HouseAt cl H x ps cs/\H t=some (.tup (sts (enc one)))/\A.IsSm ("all" : Str) ps cs one/\∀ p zs H',Same H H'->H p=none->H' p=some (.lst zs)->PrsL H' ((giv ps cs one).map gkv) zs->Q (.ref p) H'
def a2k (cl:Addr):TS:=
 (b7 (d7 (d3 M8 [] E0 (a0 (gv 1) a7)) (a8 2))
 (f9 (tOp o8 (j6 (a0 (k9 (a0 (d3 F7 [] E0 (a0 (gv 0) (a0 (gv 1) a7))) (a0 (gv 2) a7))) a7)) (o0 (iOf d9 (d3 (D6 cl) [] E0 (a0 (gv 0) (a0 (gv 1) a7)))) ["place"] [("sign",2)] (a8 0) a0k (k9 (a0 (gv 0) (a0 (tUn negG (gv 1)) a7)))))))
theorem a6s {x t:Addr}{ps:List (Str×Str)}{cs:List Str}{one:A.Sm Str}{H:Hp}{D:Ends}(hh:HouseAt cl H x ps cs)(ht:H t=some (.tup (sts (enc one))))(h1:A.IsSm ("all" : Str) ps cs one)
  (q:∀ p zs H',Same H H'->H p=none->H' p=some (.lst zs)->PrsL H' ((giv ps cs one).map gkv) zs->D.rt (.ref p) H'):a2k cl D [some (.ref x),some (.ref t),none] H:=by
 have hs:=sz
 have hl:=enc_is h1
 have g2:=hh.good.many
 have h8:=hh.many
 refine⟨t,one,rfl,ht,?_⟩
 refine⟨.ref x,t,ps,enc one,rfl,ht,hl,λ pwh G1 s1 n1 t1=>⟨few rfl,b6 λ p2 G2 n2 s2 t2=>⟨few rfl,b6 λ p3 G3 n3 s3 t3=>?_⟩⟩⟩
 have s13:=s1.trans (s2.trans s3)
 refine A0 ⟨x,t,ps,cs,enc one,rfl,hh.same s13,s13 _ _ ht,hl,λ po zs G4 s4 n4 t4 pz=>?_⟩
 rw[othL_eq]at pz
 have pp:=pairs_of pz
 have lz:zs.length<=24:=by
  rw[pp.1]
  cases one with
  | dn n c=>show(List.map _ _).length<=_;rw[List.length_map];exact Nat.le_trans (R9 ps n) g2
  | ac n=>show(List.map _ _).length<=_;rw[List.length_map];omega
 refine f7 t4 (comp_prs (plF G4 λ _ _=>some (.int (-(sg1 one)))) t4 (by omega) ?_ ?_)
 ·intro i z hz G k B sm hk _
  obtain⟨r,u,hr,rfl,hu⟩:=pp.at hz
  refine m5 rfl ⟨few rfl,b6 λ p5 G5 n5 s5 t5=>hk _ (plF_at hu) _ G5 s5 ⟨p5,u,rfl,t5,s5 _ _ (sm _ _ hu)⟩⟩
 intro pc ws G5 n5 s5 t5 pw
 rw[plF_all pp]at pw
 have s35:=s4.trans s5
 refine C5 (s35 _ _ t3) t5 ?_ (b6 λ p6 G6 n6 s6 t6=>?_)
 ·have:=PrsL.len pw
  have h2:=List.length_filterMap_le (λ p:Str×Str=>(some (V.int (-(sg1 one)))).map λ v=>(plK p.1 p.2,v)) (othP ps cs one)
  have h3:=pp.1
  show 1 + ws.length<=_
  omega
 have s36:=s35.trans s6
 refine q p6 _ G6 (s13.trans s36) (m7 (s13.trans s35) n6) t6 ?_
 rw[giv_kv]
 refine .cons ⟨p2,pwh,rfl,s36 _ _ (s3 _ _ t2),?_⟩ (Nu.PrsL.same pw s6)
 have t1':=s36 _ _ (s3 _ _ (s2 _ _ t1))
 cases one <;> exact t1'
end
theorem pl_nd {ps:List (Str×Str)}{cs:List Str}(g:Good ps)(hc:Nms cs):(d5 ("all" :: b4 ps) (cs++[("all" : Str)])).Nodup:=by
 refine List.pairwise_flatMap.mpr ⟨λ n _=>List.pairwise_map.mpr ((F8 hc).imp λ h e=>h (by cases e;rfl)),?_⟩
 refine List.Pairwise.imp (λ h x hx y hy e=>?_) (show(("all" : Str)::b4 ps).Nodup from g.keys)
 obtain⟨_,_,rfl⟩:=List.mem_map.mp hx
 obtain⟨_,_,rfl⟩:=List.mem_map.mp hy
 cases e
 exact h rfl
theorem J9 {ps:List (Str×Str)}{cs:List Str}(g:Good ps)(h8:cs.length<=8):(d5 ("all" :: b4 ps) (cs++[("all" : Str)])).length<=225:=by
 have g2:=g.many
 rw[K8]
 refine Nat.le_trans (Nat.mul_le_mul (show(("all" : Str)::b4 ps).length<=25 by simp[b4];omega) (show(cs++[("all" : Str)]).length<=9 by simp;omega)) (by decide)
theorem giv_len {ps:List (Str×Str)}{cs:List Str}{one:A.Sm Str}(g:Good ps)(h8:cs.length<=8):(giv ps cs one).length<=25:=by
 have g2:=g.many
 cases one with
 | dn n c=>
  show((f8 ps n).map _).length + 1<=25
  rw[List.length_map]
  have:=R9 ps n
  omega
 | ac n=>
  show(cs.map _).length + 1<=25
  rw[List.length_map]
  omega
section
variable {cl:Addr}
end
end S3
namespace R3
open Nu S3
abbrev gw (ps:List (Str×Str))(p:Str×Str)(w:Int):A.Sm Str:=A.gW ("all" : Str) ps p w
def SmAt (H:Hp)(v:V)(one:A.Sm Str):Prop:=∃ u,v=.ref u/\H u=some (.tup (sts (enc one)))
def PlAt (H:Hp)(v:V)(p:Str×Str):Prop:=∃ t,v=.ref t/\H t=some (.tup [.str p.1,.str p.2])
def EndAt (H:Hp)(ps:List (Str×Str))(v:V)(p:Str×Str):Prop:=∃ t x y,v=.ref t/\H t=some (.tup [x,y])/\SmAt H x (gw ps p 1)/\SmAt H y (gw ps p (-1))
def StepAt (H:Hp)(v:V)(p:Str×Str)(w:Int):Prop:=∃ st x,v=.ref st/\H st=some (.tup [x,.int w])/\PlAt H x p
theorem SmAt.same {H G:Hp}{v:V}{one:A.Sm Str}(h:SmAt H v one)(s:Same H G):SmAt G v one:=let ⟨u,e,h⟩:=h;⟨u,e,s _ _ h⟩
theorem PlAt.same {H G:Hp}{v:V}{p:Str×Str}(h:PlAt H v p)(s:Same H G):PlAt G v p:=let ⟨u,e,h⟩:=h;⟨u,e,s _ _ h⟩
theorem EndAt.same {H G:Hp}{ps:List (Str×Str)}{v:V}{p:Str×Str}(h:EndAt H ps v p)(s:Same H G):EndAt G ps v p:=let ⟨t,x,y,e,h1,h2,h3⟩:=h;⟨t,x,y,e,s _ _ h1,h2.same s,h3.same s⟩
theorem StepAt.same {H G:Hp}{v:V}{p:Str×Str}{w:Int}(h:StepAt H v p w)(s:Same H G):StepAt G v p w:=let ⟨t,x,e,h1,h2⟩:=h;⟨t,x,e,s _ _ h1,h2.same s⟩
def EndD (H:Hp)(ps:List (Str×Str))(kvs:List (List Key×V))(p:Str×Str):Prop:=∃ v,d6 kvs (plK p.1 p.2)=some v/\EndAt H ps v p
def o5 (s:Int):Sp:=λ vs H Q _=>∃ (d:Addr) (st:V) (kvs:List (List Key×V)) (ps:List (Str×Str)) (p:Str×Str) (w:Int),vs=[.ref d,st]/\Rd H d (.dT kvs)/\StepAt H st p w/\(w=1\/w=-1)/\EndD H ps kvs p/\∀ v,SmAt H v (gw ps p (s * w))->Q v H
def a2l:TS:=
 (f9 (tOp e8 (tOp e8 (gv 0) (tOp e8 (gv 1) (tC (.int 0)))) (tIfG (bT (tOp eqG (tOp e8 (gv 1) (tC (.int 1))) (tC (.int 1)))) (tC (.int 0)) (tC (.int 1)))))
def a3t:TS:=
 (f9 (tOp e8 (tOp e8 (gv 0) (tOp e8 (gv 1) (tC (.int 0)))) (tIfG (bT (tOp eqG (tOp e8 (gv 1) (tC (.int 1))) (tC (.int 1)))) (tC (.int 1)) (tC (.int 0)))))
theorem a6t {d:Addr}{st:V}{kvs:List (List Key×V)}{ps:List (Str×Str)}{p:Str×Str}{w:Int}{H:Hp}{D:Ends}(hd:Rd H d (.dT kvs))(hs:StepAt H st p w)(hw:w=1\/w=-1)(he:EndD H ps kvs p)(q:∀ v,SmAt H v (gw ps p (1 * w))->D.rt v H):a2l D [some (.ref d),some st] H:=by
 obtain⟨a,x,rfl,h1,t,rfl,h2⟩:=hs
 obtain⟨v,hv,b,y,z,rfl,h3,h4,h5⟩:=he
 refine h9 h1 (v:=.ref t) rfl (m4 hd h2 hv (h9 h1 (v:=.int w) rfl ?_))
 rcases hw with rfl | rfl
 ·exact m5 (by decide +kernel) (h9 h3 (v:=y) rfl (q y h4))
 ·exact i8 (by decide +kernel) (h9 h3 (v:=z) rfl (q z h5))
theorem r_goal_of {d:Addr}{st:V}{kvs:List (List Key×V)}{ps:List (Str×Str)}{p:Str×Str}{w:Int}{H:Hp}{D:Ends}(hd:Rd H d (.dT kvs))(hs:StepAt H st p w)(hw:w=1\/w=-1)(he:EndD H ps kvs p)(q:∀ v,SmAt H v (gw ps p (-1 * w))->D.rt v H):a3t D [some (.ref d),some st] H:=by
 obtain⟨a,x,rfl,h1,t,rfl,h2⟩:=hs
 obtain⟨v,hv,b,y,z,rfl,h3,h4,h5⟩:=he
 refine h9 h1 (v:=.ref t) rfl (m4 hd h2 hv (h9 h1 (v:=.int w) rfl ?_))
 rcases hw with rfl | rfl
 ·exact m5 (by decide +kernel) (h9 h3 (v:=z) rfl (q z h5))
 ·exact i8 (by decide +kernel) (h9 h3 (v:=y) rfl (q y h4))
def B3:Sp:=λ vs H Q _=>∃ (d:Addr) (st:V) (kvs:List (List Key×V)) (p:Str×Str) (w n:Int),vs=[.ref d,st]/\Rd H d (.dT kvs)/\StepAt H st p w/\d6 kvs (plK p.1 p.2)=some (.int n)/\Q (.bl (decide (w=1\/1<=n))) H
def a5o:TS:=
 (f9 (tOrG (tOp eqG (tOp e8 (gv 1) (tC (.int 1))) (tC (.int 1))) (tOp geG (tOp e8 (gv 0) (tOp e8 (gv 1) (tC (.int 0)))) (tC (.int 1)))))
theorem r_can_go {d:Addr}{st:V}{kvs:List (List Key×V)}{p:Str×Str}{w n:Int}{H:Hp}{D:Ends}(hd:Rd H d (.dT kvs))(hs:StepAt H st p w)(hv:d6 kvs (plK p.1 p.2)=some (.int n))(q:D.rt (.bl (decide (w=1\/1<=n))) H):a5o D [some (.ref d),some st] H:=by
 obtain⟨a,x,rfl,h1,t,rfl,h2⟩:=hs
 refine h9 h1 (v:=.int w) rfl ?_
 by_cases e:w=1
 ·subst e
  rw[decide_eq_true (.inl rfl)]at q
  exact m5 (by decide +kernel) q
 ·refine i8 (show(w==1)=false from by simpa using e) (h9 h1 (v:=.ref t) rfl (m4 hd h2 hv ?_))
  have:decide (w=1\/1<=n)=decide (1<=n):=by simp[e]
  rw[this]at q
  exact q
abbrev b8 (ps:List (Str×Str))(cs:List Str):List (Str×Str):=d5 ("all" :: b4 ps) (cs++[("all" : Str)])
def MarkD (kvs:List (List Key×V))(L:List (Str×Str)):Prop:=∀ a b,(d6 kvs (plK a b)).isSome=decide ((a,b)∈L)
theorem inT_i {neg:Bool}{d t:Addr}{a b:Str}{kvs:List (List Key×V)}{H:Hp}{Q:VK}(h:H d=some (.dT kvs))(ht:H t=some (.tup [.str a,.str b]))(q:Q (.bl (neg ^^ (d6 kvs (plK a b)).isSome)) H):inG neg (.ref t) (.ref d) H Q:=by
 unfold inG
 simp only[h,a1k h ht]
 exact q
theorem MarkD.put {kvs:List (List Key×V)}{L:List (Str×Str)}(h:MarkD kvs L)(p:Str×Str)(v:V):MarkD (g0 kvs (plK p.1 p.2) v) (L++[p]):=λ a b=>by
 rw[o7]
 by_cases e:plK a b=plK p.1 p.2
 ·obtain⟨rfl,rfl⟩:=E5 e
  rw[if_pos rfl]
  simp
 ·rw[if_neg e,h a b]
  have:(a,b)≠p:=λ z=>e (by rw[<- z])
  simp[this]
theorem B4 {H:Hp}{xs:List V}{ps:List (Str×Str)}{l:Addr}{o:HO}{d:List (List Key×V)}(h:PairsAt H xs ps)(hl:H l=some (.dT d)):PairsAt (upd H l o) xs ps:=⟨h.1,λ i q e=>by
 obtain⟨t,h1,h2⟩:=h.2 i q e
 exact⟨t,h1,by rw[a5 λ z=>by rw[z,hl]at h2;cases h2];exact h2⟩⟩
def T1:Sp:=λ vs H Q _=>∃ (l:Addr) (zs:List V) (L:List (Str×Str)),vs=[.ref l]/\H l=some (.lst zs)/\PairsAt H zs L/\L.length<=1000/\∀ p kvs H',Same H H'->H p=none->H' p=some (.dT kvs)->MarkD kvs L->Q (.ref p) H'
def a5p:TS:=
 (b7 (d7 N5 (a8 1))
 (b7 (v5 (iOf d9 (gv 0)) (a8 2)
  (d7 (tC (.bl true)) (W0 (gv 1) (gv 2) A9)))
 (f9 (gv 1))))
theorem r_marked {l:Addr}{zs:List V}{L:List (Str×Str)}{H:Hp}{D:Ends}(hl:H l=some (.lst zs))(pz:PairsAt H zs L)(h450:L.length<=1000)(q:∀ p kvs H',Same H H'->H p=none->H' p=some (.dT kvs)->MarkD kvs L->D.rt (.ref p) H'):a5p D [some (.ref l),none,none] H:=by
 have hs:=sz
 refine .inr (b6 λ pm G1 n1 s1 t1=>?_)
 have nlm:l≠pm:=λ z=>by rw[z,n1]at hl;cases hl
 refine g8 (f7 (s1 _ _ hl) (g7 (xs:=zs) (λ i Z G=>Same H G/\(∃ kvs,G pm=some (.dT kvs)/\MarkD kvs (L.take i)/\kvs.length<=i)/\∃ u,Z=[some (.ref l),some (.ref pm),u])
  ⟨s1,⟨[],t1,λ a b=>by simp[d6],by simp⟩,_,rfl⟩ (λ i Z G _ h=>h.1 _ _ hl) ?_ ?_))
 ·rintro i y Z G hy ⟨sm,⟨kvs,hg,hk,hlen⟩,u,rfl⟩
  obtain⟨r,t,hr,rfl,ht⟩:=pz.at hy
  have hi:=(Zg hr).1
  refine E6 hg (sm _ _ ht) (by omega) ⟨sm.put n1,⟨_,a6,?_,Nat.le_trans (K9 ..) (by omega)⟩,_,rfl⟩
  rw[b9 hr]
  exact hk.put r _
 ·rintro Z G ⟨sm,⟨kvs,hg,hk,hlen⟩,u,rfl⟩
  rw[pz.1,List.take_length]at hk
  exact q pm kvs G sm n1 hg hk
section
variable {cl:Addr}
def inL (L:List (Str×Str))(p:Str×Str):Bool:=decide (p∈L)
def Y4 (cl:Addr):Sp:=λ vs H Q _=>∃ (x l:Addr) (zs:List V) (ps:List (Str×Str)) (cs:List Str) (L:List (Str×Str)),vs=[.ref x,.ref l]/\HouseAt cl H x ps cs/\H l=some (.lst zs)/\PairsAt H zs L/\L.length<=1000 ∧
 ∀ p ws H',Same H H'->H p=none->H' p=some (.lst ws)->PairsAt H' ws ((b8 ps cs).filter (inL L))->Q (.ref p) H'
def t_among (cl:Addr):TS:=
 (b7 (d7 (d3 T1 [] E0 (a0 (gv 1) a7)) (a8 2))
 (f9 (o0 (iOf d9 (i9 cl "places" (h7 cl) E0 (gv 0) a7)) ["place"] [("marks",2)] (a8 0) (bT (tOp (inG false) (gv 0) (gv 1))) (gv 0))))
def mkF (H:Hp)(L:List (Str×Str)):V->Option V
 | .ref t=>match H t with
  | some (.tup [.str a,.str b])=>if inL L (a,b)=true then some (.ref t) else none
  | _=>none
 | _=>none
theorem mkF_at {H:Hp}{L:List (Str×Str)}{t:Addr}{p:Str×Str}(h:H t=some (.tup [.str p.1,.str p.2])):mkF H L (.ref t)=if inL L p=true then some (.ref t) else none:=by
 unfold mkF
 simp only[h]
theorem r_among {x l:Addr}{zs:List V}{ps:List (Str×Str)}{cs:List Str}{L:List (Str×Str)}{H:Hp}{D:Ends}(hh:HouseAt cl H x ps cs)(hl:H l=some (.lst zs))(pz:PairsAt H zs L)(h450:L.length<=1000)
  (q:∀ p ws H',Same H H'->H p=none->H' p=some (.lst ws)->PairsAt H' ws ((b8 ps cs).filter (inL L))->D.rt (.ref p) H'):t_among cl D [some (.ref x),some (.ref l),none] H:=by
 have hs:=sz
 obtain⟨_,_,_,_,dx,_,_,_,_,e1,_⟩:=id hh
 refine⟨l,zs,L,rfl,hl,pz,h450,λ pm kvs G1 s1 n1 t1 hk=>?_⟩
 refine A0 (k8 (s1 _ _ e1) rfl ⟨x,ps,cs,rfl,hh.same s1,λ pp ws G2 s2 n2 t2 pw=>?_⟩)
 have pw:PairsAt G2 ws (b8 ps cs):=pw
 have ln:(b8 ps cs).length<=225:=J9 hh.good hh.many
 refine f7 t2 (comp_l (mkF G2 L) t2 (by rw[pw.1];omega) ?_ ?_)
 ·intro i y hy G k sm hk2
  obtain⟨r,t,hr,rfl,ht⟩:=pw.at hy
  rw[mkF_at ht]at hk2
  refine inT_i (sm _ _ (s2 _ _ t1)) (sm _ _ ht) ?_
  rw[hk r.1 r.2]
  refine C8 (λ b=>?_) (λ b=>?_)
  ·have b:decide ((r.1,r.2)∈L)=true:=by simpa using b
   rw[if_pos (show inL L r=true from b)]at hk2
   exact hk2
  ·have b:decide ((r.1,r.2)∈L)=false:=by simpa using b
   rw[if_neg (show ¬ inL L r=true by rw[show inL L r=false from b];decide)]at hk2
   exact hk2
 ·intro p G n3 s3 t3
  refine q p _ G ((s1.trans s2).trans s3) (m7 (s1.trans s2) n3) t3 ?_
  exact(PairsAt.filter (P:=inL L) pw λ q t h=>mkF_at h).same s3
end
theorem pk_pl {H:Hp}{t u:Addr}{a b:Str}{c:Int}(ht:H t=some (.tup [.ref u,.int c]))(hu:H u=some (.tup [.str a,.str b])):pkOf H (.ref t)=some (plK a b,c):=by
 unfold pkOf
 simp only[ht,hu,a1j,Option.map_some]
theorem setP_i {d t u:Addr}{a b:Str}{c:Int}{v:V}{kvs:List (o9×V)}{H:Hp}{Q:Hp->Prop}(h:H d=some (.dP kvs))(ht:H t=some (.tup [.ref u,.int c]))(hu:H u=some (.tup [.str a,.str b]))(hz:kvs.length < sizeLine)(q:Q (upd H d (.dP (g0 kvs (plK a b,c) v)))):A9 (.ref d) (.ref t) v H Q:=by
 unfold A9
 simp only[h,pk_pl ht hu]
 exact⟨hz,q⟩
theorem getP_i {d t u:Addr}{a b:Str}{c:Int}{v:V}{kvs:List (o9×V)}{H:Hp}{Q:VK}(h:H d=some (.dP kvs))(ht:H t=some (.tup [.ref u,.int c]))(hu:H u=some (.tup [.str a,.str b]))(hv:d6 kvs (plK a b,c)=some v)(q:Q v H):e8 (.ref d) (.ref t) H Q:=by
 unfold e8
 simp only[h,pk_pl ht hu,hv]
 exact q
theorem prs_putP {H:Hp}{kvs:List (List Key×V)}{xs:List V}{p:Addr}{o:HO}{d:List (o9×V)}(h:PrsL H kvs xs)(hp:H p=some (.dP d)):PrsL (upd H p o) kvs xs:=by
 induction h with
 | nil=>exact .nil
 | cons h t ih=>
  obtain⟨a,b,rfl,h1,h2⟩:=h
  exact .cons ⟨a,b,rfl,by rw[a5 (λ z=>by rw[z,hp]at h1;cases h1)];exact h1,by rw[a5 (λ z=>by rw[z,hp]at h2;cases h2)];exact h2⟩ ih
theorem SmAt.putN {H:Hp}{v:V}{one:A.Sm Str}{p:Addr}{o o':HO}(h:SmAt H v one)(hp:H p=some o)(ht:∀ xs,o≠.tup xs):SmAt (upd H p o') v one:=by
 obtain⟨u,e,h⟩:=h
 exact⟨u,e,by rw[a5 (λ z=>by rw[z,hp]at h;cases h;exact ht _ rfl)];exact h⟩
structure GivD (H:Hp) (ps:List (Str×Str)) (kvs:List (o9×V)) (B:List ((Str×Str)×Int)):Prop where
 snd:∀ (p:Str×Str) (w:Int) (v:V),d6 kvs (plK p.1 p.2,w)=some v->SmAt H v (gw ps p w)
 cmp:∀ pw∈B,(d6 kvs (plK pw.1.1 pw.1.2,pw.2)).isSome=true
theorem GivD.same {H G:Hp}{ps:List (Str×Str)}{kvs:List (o9×V)}{B:List ((Str×Str)×Int)}(h:GivD H ps kvs B)(s:Same H G):GivD G ps kvs B:=⟨λ p w v e=>(h.snd p w v e).same s,h.cmp⟩
theorem GivD.put {H:Hp}{ps:List (Str×Str)}{kvs:List (o9×V)}{B:List ((Str×Str)×Int)}(h:GivD H ps kvs B){pw:(Str×Str)×Int}{v:V}(hv:SmAt H v (gw ps pw.1 pw.2)):GivD H ps (g0 kvs (plK pw.1.1 pw.1.2,pw.2) v) (B++[pw]):=by
 refine⟨λ p w v' e=>?_,λ q hq=>?_⟩
 ·rw[o7]at e
  split at e
  ·rename_i z
   cases e
   injection z with z1 z2
   obtain⟨z3,z4⟩:=E5 z1
   have:p=pw.1:=Prod.ext z3 z4
   rw[this,z2]
   exact hv
  ·exact h.snd p w v' e
 ·rw[o7]
  split
  ·rfl
  ·rename_i z
   rcases List.mem_append.mp hq with hq | hq
   ·exact h.cmp q hq
   ·rw[List.mem_singleton.mp hq]at z
    exact(z rfl).elim
theorem GivD.putN {H:Hp}{ps:List (Str×Str)}{kvs:List (o9×V)}{B:List ((Str×Str)×Int)}{p:Addr}{o o':HO}(h:GivD H ps kvs B)(hp:H p=some o)(ht:∀ xs,o≠.tup xs):GivD (upd H p o') ps kvs B:=⟨λ q w v e=>(h.snd q w v e).putN hp ht,h.cmp⟩
theorem place_is {ps:List (Str×Str)}{cs:List Str}{p:Str×Str}:p∈b8 ps cs↔A.IsPl ("all" : Str) ps cs p:=by
 unfold b8 A.IsPl
 constructor
 ·intro h
  obtain⟨n,hn,h2⟩:=List.mem_flatMap.mp h
  obtain⟨c,hc,rfl⟩:=List.mem_map.mp h2
  refine⟨by simpa[b4] using hn,?_⟩
  rcases List.mem_append.mp hc with h | h
  ·exact .inr h
  ·exact .inl (List.mem_singleton.mp h)
 ·rintro⟨h1,h2⟩
  refine List.mem_flatMap.mpr ⟨p.1,by simpa[b4] using h1,List.mem_map.mpr ⟨p.2,?_,rfl⟩⟩
  rcases h2 with h | h
  ·simp[h]
  ·simp[h]
section
variable {cl:Addr}
def M9 (cl:Addr):Sp:=λ vs H Q _=>∃ (x:Addr) (ps:List (Str×Str)) (cs:List Str),vs=[.ref x]/\HouseAt cl H x ps cs/\∀ p kvs H',Same H H'->H p=none->H' p=some (.dT kvs)->(∀ q∈b8 ps cs,EndD H' ps kvs q)->Q (.ref p) H'
def te_two (cl:Addr):TS:=
 (b7 (d7 N5 (a8 5))
 (b7 (v5 (iOf d9 (i9 cl "places" (h7 cl) E0 (gv 0) a7)) (a8 3)
  (d7 (k9 (a0 (tOp e8 (gv 1) (k9 (a0 (gv 3) (a0 (tC (.int 1)) a7)))) (a0 (tOp e8 (gv 1) (k9 (a0 (gv 3) (a0 (tUn negG (tC (.int 1))) a7)))) a7))) (W0 (gv 5) (gv 3) A9)))
 (f9 (gv 5))))
def a3u (cl:Addr):TS:=
 (b7 (d7 N5 (a8 1))
 (b7 (v5 (iOf d9 (d3 (M7 cl) [] E0 (a0 (gv 0) a7))) (a8 2)
  (v5 (iOf d9 (d3 (F9 cl) [] E0 (a0 (gv 0) (a0 (gv 2) a7)))) (O3 2 (C7 (a8 3) (C7 (a8 4) gNil)))
   (d7 (gv 2) (W0 (gv 1) (k9 (a0 (gv 3) (a0 (gv 4) a7))) A9))))
 (te_two cl)))
theorem EndAt.putN {H:Hp}{ps:List (Str×Str)}{v:V}{q:Str×Str}{p:Addr}{o o':HO}(h:EndAt H ps v q)(hp:H p=some o)(ht:∀ xs,o≠.tup xs):EndAt (upd H p o') ps v q:=by
 obtain⟨t,x,y,e,h1,h2,h3⟩:=h
 exact⟨t,x,y,e,by rw[a5 (λ z=>by rw[z,hp]at h1;cases h1;exact ht _ rfl)];exact h1,h2.putN hp ht,h3.putN hp ht⟩
theorem re_two {x pg:Addr}{u v w:Option V}{ps:List (Str×Str)}{cs:List Str}{kvs:List (o9×V)}{B:List ((Str×Str)×Int)}{H:Hp}{D:Ends}(hh:HouseAt cl H x ps cs)(hg:H pg=some (.dP kvs))(gd:GivD H ps kvs B)(hB:∀ q∈b8 ps cs,(q,1)∈B/\(q,-1)∈B)
  (q:∀ p kvs H',Same H H'->H p=none->H' p=some (.dT kvs)->(∀ q∈b8 ps cs,EndD H' ps kvs q)->D.rt (.ref p) H'):te_two cl D [some (.ref x),some (.ref pg),u,v,w,none] H:=by
 have hs:=sz
 obtain⟨_,_,_,_,dx,_,_,_,_,e1,_⟩:=id hh
 refine .inr (b6 λ pe G1 n1 s1 t1=>?_)
 refine g8 (k8 (s1 _ _ e1) rfl ⟨x,ps,cs,rfl,hh.same s1,λ pp zs G2 s2 n2 t2 pz=>?_⟩)
 have pz:PairsAt G2 zs (b8 ps cs):=pz
 have ln:(b8 ps cs).length<=225:=J9 hh.good hh.many
 generalize b8 ps cs=P at *
 have npe:pp≠pe:=λ z=>by rw[z,t1]at n2;cases n2
 refine f7 t2 (g7 (xs:=zs) (λ i Z G=>(Same H G/\PairsAt G zs P/\G pp=some (.lst zs))/\(∃ es,G pe=some (.dT es)/\es.length<=i/\∀ q∈P.take i,EndD G ps es q)/\∃ v,Z=[some (.ref x),some (.ref pg),u,v,w,some (.ref pe)])
  ⟨⟨s1.trans s2,pz,t2⟩,⟨[],s2 _ _ t1,by simp,λ q h=>by simp at h⟩,_,rfl⟩ (λ i Z G _ h=>h.1.2.2) ?_ ?_)
 ·rintro i y Z G hy ⟨⟨sm,pz,hp⟩,⟨es,he,hel,hed⟩,v,rfl⟩
  obtain⟨r,t,hr,rfl,ht⟩:=pz.at hy
  have hi:=(Zg hr).1
  have hm:=hB r (List.mem_of_getElem? hr)
  obtain⟨v1,hv1⟩:=Option.isSome_iff_exists.mp (gd.cmp _ hm.1)
  obtain⟨v2,hv2⟩:=Option.isSome_iff_exists.mp (gd.cmp _ hm.2)
  have a1:=gd.snd r 1 v1 hv1
  have a2:=gd.snd r (-1) v2 hv2
  refine⟨few rfl,b6 λ k1 G3 n3 s3 t3=>getP_i ((sm.trans s3) _ _ hg) t3 (s3 _ _ ht) hv1 ⟨few rfl,b6 λ k2 G4 n4 s4 t4=>getP_i (((sm.trans s3).trans s4) _ _ hg) t4 ((s3.trans s4) _ _ ht) hv2 ⟨few rfl,b6 λ tt G5 n5 s5 t5=>?_⟩⟩⟩
  have s35:=(s3.trans s4).trans s5
  have he5:=s35 _ _ he
  refine E6 he5 (s35 _ _ ht) (by omega) ⟨⟨(sm.trans s35).put n1,B4 (pz.same s35) he5,by rw[a5 npe];exact s35 _ _ hp⟩,⟨_,a6,Nat.le_trans (K9 ..) (by omega),λ q hq=>?_⟩,_,rfl⟩
  rw[b9 hr]at hq
  unfold EndD
  rw[o7]
  have S:=sm.trans s35
  by_cases e:plK q.1 q.2=plK r.1 r.2
  ·obtain⟨z1,z2⟩:=E5 e
   have:q=r:=Prod.ext z1 z2
   subst this
   rw[if_pos rfl]
   exact⟨_,rfl,EndAt.putN ⟨tt,v1,v2,rfl,t5,a1.same S,a2.same S⟩ he5 (λ _ z=>nomatch z)⟩
  ·rw[if_neg e]
   rcases List.mem_append.mp hq with hq | hq
   ·obtain⟨v',h1,h2⟩:=hed q hq
    exact⟨v',h1,(h2.same s35).putN he5 (λ _ z=>nomatch z)⟩
   ·rw[List.mem_singleton.mp hq]at e
    exact(e rfl).elim
 ·rintro Z G ⟨⟨sm,pz,hp⟩,⟨es,he,hel,hed⟩,v,rfl⟩
  rw[pz.1,List.take_length]at hed
  exact q pe es G sm n1 he hed
theorem r_ends_of {x:Addr}{ps:List (Str×Str)}{cs:List Str}{H:Hp}{D:Ends}(hh:HouseAt cl H x ps cs)
  (q:∀ p kvs H',Same H H'->H p=none->H' p=some (.dT kvs)->(∀ q∈b8 ps cs,EndD H' ps kvs q)->D.rt (.ref p) H'):a3u cl D [some (.ref x),none,none,none,none,none] H:=by
 have hs:=sz
 have gdd:=Good.gd hh.good
 have cnd:=F8 hh.nms
 refine .inl (.inl (b6 λ pg G1 n1 s1 t1=>?_))
 refine g8 ⟨x,ps,cs,rfl,hh.same s1,λ pl zs G2 s2 n2 t2 tz=>?_⟩
 rw[a3r]at tz
 have hL:∀ one∈smL ps cs,A.IsSm ("all" : Str) ps cs one:=λ one h=>mem_smL.mp h
 have hLc:∀ one,A.IsSm ("all" : Str) ps cs one->one∈smL ps cs:=λ one h=>mem_smL.mpr h
 have hn:=smL_len hh.good hh.many
 generalize smL ps cs=L at *
 have npl:pl≠pg:=λ z=>by rw[z,t1]at n2;cases n2
 refine f7 t2 (g7 (xs:=zs) (λ i Z G=>(Same H G/\TupsAt G zs (L.map enc)/\G pl=some (.lst zs))/\(∃ kvs,G pg=some (.dP kvs)/\GivD G ps kvs ((L.take i).flatMap (giv ps cs))/\kvs.length<=25 * i)/\∃ u v w,Z=[some (.ref x),some (.ref pg),u,v,w,none])
  ⟨⟨s1.trans s2,tz,t2⟩,⟨[],s2 _ _ t1,⟨λ p w v e=>(nomatch e),λ pw h=>by simp at h⟩,by simp⟩,_,_,_,rfl⟩ (λ i Z G _ h=>h.1.2.2) ?_ ?_)
 ·rintro i y Z G hy ⟨⟨sm,tz,hpl⟩,⟨kvs,hg,hk,hlen⟩,u,v,w,rfl⟩
  obtain⟨e,t,he,rfl,ht⟩:=tz.at hy
  rw[List.getElem?_map]at he
  obtain⟨one,ho,rfl⟩:∃ one,L[i]?=some one/\enc one=e:=by
   cases h:L[i]? with
   | none=>rw[h]at he;cases he
   | some o=>rw[h]at he;exact⟨o,rfl,by simpa using he⟩
  have hi:=(Zg ho).1
  have h1:=hL one (List.mem_of_getElem? ho)
  refine g8 ⟨x,t,ps,cs,one,rfl,hh.same sm,ht,h1,λ pw ws G3 s3 n3 t3 pr=>?_⟩
  have lg:=giv_len (one:=one) hh.good hh.many
  have gb:∀ pq∈giv ps cs one,one=gw ps pq.1 pq.2:=λ pq hq=>(A.give_by gdd cnd h1 hq).2
  generalize hgl:giv ps cs one=gl at *
  have npw:pw≠pg:=λ z=>by rw[z,hg]at n3;cases n3
  refine f7 t3 (g7 (xs:=ws) (λ j Z G'=>(Same H G'/\(TupsAt G' zs (L.map enc)/\G' pl=some (.lst zs)/\G' t=some (.tup (sts (enc one))))/\PrsL G' (gl.map gkv) ws/\G' pw=some (.lst ws))/\(∃ kvs,G' pg=some (.dP kvs)/\GivD G' ps kvs ((L.take i).flatMap (giv ps cs)++gl.take j)/\kvs.length<=25 * i + j)/\∃ v w,Z=[some (.ref x),some (.ref pg),some (.ref t),v,w,none])
   ⟨⟨sm.trans s3,⟨tz.same s3,s3 _ _ hpl,s3 _ _ ht⟩,pr,t3⟩,⟨kvs,s3 _ _ hg,by simpa using hk.same s3,by omega⟩,_,_,rfl⟩ (λ i Z G _ h=>h.1.2.2.2) ?_ ?_)
  ·rintro j z Z G' hz ⟨⟨sm',⟨tz',hpl',ht'⟩,pr,hp⟩,⟨kvs,hg,hk,hlen⟩,v,w,rfl⟩
   obtain⟨kv,hkv,a,b,rfl,ha,hb⟩:=PrsL.get pr hz
   rw[List.getElem?_map]at hkv
   obtain⟨p,hpj,rfl⟩:∃ p,gl[j]?=some p/\gkv p=kv:=by
    cases h:gl[j]? with
    | none=>rw[h]at hkv;cases hkv
    | some o=>rw[h]at hkv;exact⟨o,rfl,by simpa using hkv⟩
   have hj:=(Zg hpj).1
   have hb:G' b=some (.tup [.str p.1.1,.str p.1.2]):=hb
   refine⟨a,_,rfl,.inl ha,rfl,_,_,rfl,_,_,rfl,rfl,?_⟩
   refine⟨few rfl,b6 λ k1 G4 n4 s4 t4=>?_⟩
   have hg4:=s4 _ _ hg
   refine setP_i hg4 t4 (s4 _ _ hb) (by omega) ⟨⟨(sm'.trans s4).put n1,⟨⟨tz'.1,λ j l e=>?_⟩,by rw[a5 npl];exact s4 _ _ hpl',?_⟩,prs_putP (Nu.PrsL.same pr s4) hg4,by rw[a5 npw];exact s4 _ _ hp⟩,⟨_,a6,?_,Nat.le_trans (K9 ..) (by omega)⟩,_,_,rfl⟩
   ·obtain⟨t',z1,z2⟩:=tz'.2 j l e
    exact⟨t',z1,by rw[a5 (λ z=>by rw[z,hg]at z2;cases z2)];exact s4 _ _ z2⟩
   ·rw[a5 (λ z=>by rw[z,hg]at ht';cases ht')]
    exact s4 _ _ ht'
   ·rw[b9 hpj,<- List.append_assoc]
    refine GivD.putN (GivD.put (hk.same s4) (pw:=p) ?_) hg4 (λ _ z=>nomatch z)
    rw[<- gb p (List.mem_of_getElem? hpj)]
    exact⟨t,rfl,s4 _ _ ht'⟩
  ·rintro Z G' ⟨⟨sm',⟨tz',hpl',ht'⟩,pr,hp⟩,⟨kvs,hg,hk,hlen⟩,v,w,rfl⟩
   have e:ws.length=gl.length:=by rw[PrsL.len pr,List.length_map]
   rw[e,List.take_length]at hk
   refine⟨⟨sm',tz',hpl'⟩,⟨kvs,hg,?_,by omega⟩,_,_,_,rfl⟩
   rw[b9 ho,List.flatMap_append]
   simpa[hgl] using hk
 ·rintro Z G ⟨⟨sm,tz,hpl⟩,⟨kvs,hg,hk,hlen⟩,u,v,w,rfl⟩
  rw[tz.1,List.length_map,List.take_length]at hk
  refine re_two (hh.same sm) hg hk (λ r hr=>?_) λ p kvs' H' s n t=>q p kvs' H' (sm.trans s) (m7 sm n) t
  have hp:=place_is.mp hr
  obtain⟨a1,a2⟩:=A.gP_sm gdd cnd hp
  obtain⟨b1,b2⟩:=A.gM_sm gdd cnd hp
  exact⟨List.mem_flatMap.mpr ⟨_,hLc _ a1,a2⟩,List.mem_flatMap.mpr ⟨_,hLc _ b1,b2⟩⟩
end
def TK (H G:Hp):Prop:=∀ b xs,H b=some (.tup xs)->G b=some (.tup xs)
theorem TK.of {H G:Hp}(s:Same H G):TK H G:=λ b xs h=>s _ _ h
theorem TK.trans {H G J:Hp}(a:TK H G)(b:TK G J):TK H J:=λ c xs h=>b c xs (a c xs h)
theorem TK.upd {H:Hp}{p:Addr}{o o':HO}(hp:H p=some o)(ht:∀ xs,o≠.tup xs):TK H (upd H p o'):=λ b xs h=>by
 rw[a5 λ z=>by rw[z,hp]at h;cases h;exact ht _ rfl]
 exact h
section
variable {H G:Hp}(k:TK H G){v:V}{one:A.Sm Str}{p:Str×Str}{w:Int}{ps:List (Str×Str)}
include k
theorem SmAt.tk (h:SmAt H v one):SmAt G v one:=let ⟨u,e,h⟩:=h;⟨u,e,k _ _ h⟩
theorem PlAt.tk (h:PlAt H v p):PlAt G v p:=let ⟨u,e,h⟩:=h;⟨u,e,k _ _ h⟩
theorem EndAt.tk (h:EndAt H ps v p):EndAt G ps v p:=let ⟨t,x,y,e,h1,h2,h3⟩:=h;⟨t,x,y,e,k _ _ h1,SmAt.tk k h2,SmAt.tk k h3⟩
theorem StepAt.tk (h:StepAt H v p w):StepAt G v p w:=let ⟨t,x,e,h1,h2⟩:=h;⟨t,x,e,k _ _ h1,PlAt.tk k h2⟩
theorem EndD.tk {kvs:List (List Key×V)}(h:EndD H ps kvs p):EndD G ps kvs p:=let ⟨v,h1,h2⟩:=h;⟨v,h1,EndAt.tk k h2⟩
theorem pairs_tk {xs:List V}{ps:List (Str×Str)}(h:PairsAt H xs ps):PairsAt G xs ps:=⟨h.1,λ i q e=>let ⟨t,h1,h2⟩:=h.2 i q e;⟨t,h1,k _ _ h2⟩⟩
end
def ItemAt (H:Hp)(ps:List (Str×Str))(v:V)(p:Str×Str)(w:Int):Prop:=∃ t x y,v=.ref t/\H t=some (.tup [x,y])/\StepAt H x p w/\SmAt H y (gw ps p (-1 * w))
theorem ItemAt.tk {H G:Hp}(k:TK H G){v:V}{p:Str×Str}{w:Int}{ps:List (Str×Str)}(h:ItemAt H ps v p w):ItemAt G ps v p w:=let ⟨t,x,y,e,h1,h2,h3⟩:=h;⟨t,x,y,e,k _ _ h1,StepAt.tk k h2,SmAt.tk k h3⟩
def kS (one:A.Sm Str):List Key:=(enc one).map Sum.inr
theorem P1 (l:List Str):A8 (sts l)=some (l.map Sum.inr):=by
 induction l with
 | nil=>rfl
 | cons a r ih=>
  unfold A8 sts at *
  rw[List.map_cons,mapM_cons,ih]
  rfl
theorem V7 {a b:A.Sm Str}(h:kS a=kS b):a=b:=by
 unfold kS at h
 cases a <;> cases b <;> simp[enc]at h
 ·rw[h.1,h.2]
 ·rw[h]
theorem kV_kS (one:A.Sm Str):(kS one).map kV=sts (enc one):=by
 unfold kS sts
 rw[List.map_map]
 rfl
structure StepsD (H G:Hp) (ps:List (Str×Str)) (fk:List (List Key×V)) (B:List ((Str×Str)×Int)):Prop where
 snd:∀ one v,d6 fk (kS one)=some v->∃ l xs,v=.ref l/\H l=none/\G l=some (.lst xs)/\xs.length<=B.length/\∀ y∈xs,∃ p w,(p,w)∈B/\gw ps p w=one/\ItemAt G ps y p w
 cmp:∀ pw∈B,∃ l xs y,d6 fk (kS (gw ps pw.1 pw.2))=some (.ref l)/\G l=some (.lst xs)/\y∈xs/\ItemAt G ps y pw.1 pw.2
 inj:∀ one two l,d6 fk (kS one)=some (.ref l)->d6 fk (kS two)=some (.ref l)->one=two
section
variable {H G J:Hp}{ps:List (Str×Str)}{fk:List (List Key×V)}{B:List ((Str×Str)×Int)}
theorem StepsD.to (h:StepsD H G ps fk B)(k:TK G J)(kl:∀ l xs,H l=none->G l=some (.lst xs)->J l=some (.lst xs)):StepsD H J ps fk B:=by
 refine⟨λ one v e=>?_,λ pw hp=>?_,h.inj⟩
 ·obtain⟨l,xs,h1,h2,h3,h4,h5⟩:=h.snd one v e
  exact⟨l,xs,h1,h2,kl l xs h2 h3,h4,λ y hy=>let ⟨p,w,a,b,c⟩:=h5 y hy;⟨p,w,a,b,c.tk k⟩⟩
 ·obtain⟨l,xs,y,h1,h2,h3,h4⟩:=h.cmp pw hp
  obtain⟨l',_,e,n,_⟩:=h.snd _ _ h1
  cases e
  exact⟨l,xs,y,h1,kl l xs n h2,h3,h4.tk k⟩
theorem StepsD.same (h:StepsD H G ps fk B)(s:Same G J):StepsD H J ps fk B:=h.to (TK.of s) λ l xs _ e=>s _ _ e
theorem StepsD.make {one:A.Sm Str}{l:Addr}(h:StepsD H G ps fk B)(hn:d6 fk (kS one)=none)(nl:∀ two l',d6 fk (kS two)=some (.ref l')->l'≠l)(n0:H l=none)(hl:G l=some (.lst [])):StepsD H G ps (g0 fk (kS one) (.ref l)) B:=by
 refine⟨λ two v e=>?_,λ pw hp=>?_,λ a b l' e1 e2=>?_⟩
 ·rw[o7]at e
  split at e
  ·cases e
   exact⟨l,[],rfl,n0,hl,Nat.zero_le _,λ y hy=>by cases hy⟩
  ·exact h.snd two v e
 ·obtain⟨l',xs,y,h1,h2⟩:=h.cmp pw hp
  refine⟨l',xs,y,?_,h2⟩
  rw[o7,if_neg λ z=>by rw[z,hn]at h1;cases h1]
  exact h1
 ·rw[o7]at e1 e2
  split at e1
  ·rename_i z1
   cases e1
   split at e2
   ·rename_i z2
    exact V7 (z1.trans z2.symm)
   ·exact(nl _ _ e2 rfl).elim
  ·split at e2
   ·cases e2
    exact(nl _ _ e1 rfl).elim
   ·exact h.inj a b l' e1 e2
theorem StepsD.app {l:Addr}{xs:List V}{y:V}{p:Str×Str}{w:Int}(h:StepsD H G ps fk B)(hk:d6 fk (kS (gw ps p w))=some (.ref l))(hl:G l=some (.lst xs))(hy:ItemAt G ps y p w):StepsD H (upd G l (.lst (xs++[y]))) ps fk (B++[(p,w)]):=by
 have k:TK G (upd G l (.lst (xs++[y]))):=TK.upd hl λ _ z=>nomatch z
 refine⟨λ two v e=>?_,λ pw hp=>?_,h.inj⟩
 ·obtain⟨l',ys,rfl,n,h2,h3,h4⟩:=h.snd two v e
  by_cases z:l'=l
  ·subst z
   rw[hl]at h2
   cases h2
   refine⟨l',xs++[y],rfl,n,a6,by simp;exact h3,λ u hu=>?_⟩
   have e2:=h.inj _ _ _ e hk
   rcases List.mem_append.mp hu with hu | hu
   ·obtain⟨p',w',a,b,c⟩:=h4 u hu
    exact⟨p',w',by simp[a],b,c.tk k⟩
   ·rw[List.mem_singleton.mp hu]
    exact⟨p,w,by simp,e2.symm,hy.tk k⟩
  ·refine⟨l',ys,rfl,n,by rw[a5 z];exact h2,by simp;omega,λ u hu=>?_⟩
   obtain⟨p',w',a,b,c⟩:=h4 u hu
   exact⟨p',w',by simp[a],b,c.tk k⟩
 ·rcases List.mem_append.mp hp with hp | hp
  ·obtain⟨l',ys,u,h1,h2,h3,h4⟩:=h.cmp pw hp
   by_cases z:l'=l
   ·subst z
    rw[hl]at h2
    cases h2
    exact⟨l',_,u,h1,a6,by simp[h3],h4.tk k⟩
   ·exact⟨l',ys,u,h1,by rw[a5 z];exact h2,h3,h4.tk k⟩
  ·rw[List.mem_singleton.mp hp]
   exact⟨l,_,y,hk,a6,by simp,hy.tk k⟩
end
theorem sd_i {d:Addr}{kvs:List (List Key×V)}{t:TA}{Z:St}{Q:VK}{H:Hp}(h:H d=some (.dT kvs))(q:t Z H λ vs H2=>sdG (.ref d) vs H2 Q):bmK "setdefault" t Z Q (.ref d) H:=by
 unfold bmK
 have:tyB H (.ref d)=some "dict" := by unfold tyB;simp only[h]
 rw[this]
 exact q
theorem sd_old {d u:Addr}{one:A.Sm Str}{v z:V}{kvs:List (List Key×V)}{Q:VK}{H:Hp}(h:H d=some (.dT kvs))(hu:H u=some (.tup (sts (enc one))))(hv:d6 kvs (kS one)=some v)(q:Q v H):sdG (.ref d) [.ref u,z] H Q:=by
 unfold sdG
 simp only[h,hu,P1]
 rw[show d6 kvs (List.map Sum.inr (enc one))=some v from hv]
 exact q
theorem sd_new {d u:Addr}{one:A.Sm Str}{z:V}{kvs:List (List Key×V)}{Q:VK}{H:Hp}(h:H d=some (.dT kvs))(hu:H u=some (.tup (sts (enc one))))(hv:d6 kvs (kS one)=none)(hz:kvs.length < sizeLine)(q:Q z (upd H d (.dT (g0 kvs (kS one) z)))):sdG (.ref d) [.ref u,z] H Q:=by
 unfold sdG
 simp only[h,hu,P1]
 rw[show d6 kvs (List.map Sum.inr (enc one))=none from hv]
 exact⟨hz,q⟩
def fsW (e f:Addr):List (Str×V):=[("ends",.ref e),("steps_from",.ref f)]
def SameEF (e f:Addr)(H G:Hp):Prop:=∀ b o,b≠e->b≠f->H b=some o->G b=some o
theorem SameEF.then {e f:Addr}{H G J:Hp}(a:SameEF e f H G)(s:Same G J):SameEF e f H J:=λ b o h1 h2 h=>s _ _ (a b o h1 h2 h)
theorem SameEF.put {e f l:Addr}{o:HO}{H G:Hp}(a:SameEF e f H G)(n:H l=none\/l=e\/l=f):SameEF e f H (upd G l o):=λ b u h1 h2 h=>by
 rw[a5]
 ·exact a b u h1 h2 h
 ·rintro rfl
  rcases n with n | n | n
  ·rw[n]at h;cases h
  ·exact h1 n
  ·exact h2 n
theorem SameEF.free {e f l:Addr}{oe of':HO}{H G:Hp}(a:SameEF e f H G)(he:G e=some oe)(hf:G f=some of')(n:G l=none):H l=none:=by
 cases h:H l with
 | none=>rfl
 | some o=>
  have h1:l≠e:=λ z=>by rw[z,he]at n;cases n
  have h2:l≠f:=λ z=>by rw[z,hf]at n;cases n
  rw[a l o h1 h2 h]at n
  cases n
def tw_step (cw:Addr):TS:=
 (b7 (d7 (O1 "setdefault" (A3 cw "steps_from" (gv 0)) (a0 (d3 (o5 1) [] E0 (a0 (gv 3) (a0 (gv 5) a7))) (a0 (j6 a7) a7))) (a8 6))
 (K0 (O1 "append" (gv 6) (a0 (k9 (a0 (gv 5) (a0 (d3 (o5 (-1)) [] E0 (a0 (gv 3) (a0 (gv 5) a7))) a7))) a7))))
section
variable {cw:Addr}
theorem rw_step {x dx e f ed:Addr}{c1 c2 c4 u:Option V}{st:V}{ps:List (Str×Str)}{p:Str×Str}{w:Int}{sk ek fk:List (List Key×V)}{B:List ((Str×Str)×Int)}{H G:Hp}{D:Ends}
  (hx:G x=some (.ins cw dx (fsW e f)))(hd:G ed=some (.dT ek))(hne:ed≠f)(he:EndD G ps ek p)(hs:StepAt G st p w)(hw:w=1\/w=-1)(hE:G e=some (.dT sk))(hef:e≠f)(hf:G f=some (.dT fk))(hfl:fk.length<=B.length)(hB:B.length<=1000)(sf:SameEF e f H G)(sd:StepsD H G ps fk B)
  (q:∀ G' fk' v',SameEF e f H G'->TK G G'->G' e=some (.dT sk)->G' f=some (.dT fk')->fk'.length<=B.length + 1->StepsD H G' ps fk' (B++[(p,w)])->D.nx [some (.ref x),c1,c2,some (.ref ed),c4,some st,v'] G'):tw_step cw D [some (.ref x),c1,c2,some (.ref ed),c4,some st,u] G:=by
 have hz:=sz
 have rest:∀ (G1:Hp) (fk':List (List Key×V)) (l:Addr) (xs:List V),SameEF e f H G1->TK G G1->G1 e=some (.dT sk)->G1 ed=some (.dT ek)->G1 f=some (.dT fk')->fk'.length<=B.length + 1->StepsD H G1 ps fk' B->d6 fk' (kS (gw ps p w))=some (.ref l)->G1 l=some (.lst xs) →
   (K0 (O1 "append" (gv 6) (a0 (k9 (a0 (gv 5) (a0 (d3 (o5 (-1)) [] E0 (a0 (gv 3) (a0 (gv 5) a7))) a7))) a7))) D [some (.ref x),c1,c2,some (.ref ed),c4,some st,some (.ref l)] G1:=by
  intro G1 fk' l xs s1 k1 e1 d1 f1 l1 sd1 hk hl
  obtain⟨l',xs',z1,nl,z2,z3,_⟩:=sd1.snd _ _ hk
  cases z1
  rw[hl]at z2
  cases z2
  refine X7 hl ⟨ed,st,ek,ps,p,w,rfl,.inl d1,StepAt.tk k1 hs,hw,EndD.tk k1 he,λ y hy=>⟨few rfl,b6 λ t G2 n2 s2 t2=>?_⟩⟩
  have hl2:=s2 _ _ hl
  refine M6 hl2 (by omega) (q _ fk' _ ((s1.then s2).put (.inl nl)) ((k1.trans (TK.of s2)).trans (TK.upd hl2 λ _ z=>nomatch z)) ?_ ?_ l1 ?_)
  ·rw[a5 λ z=>by rw[<- z,e1]at hl;cases hl]
   exact s2 _ _ e1
  ·rw[a5 λ z=>by rw[<- z,f1]at hl;cases hl]
   exact s2 _ _ f1
  ·exact(sd1.same s2).app hk hl2 ⟨t,st,y,rfl,t2,StepAt.tk (k1.trans (TK.of s2)) hs,SmAt.tk (TK.of s2) hy⟩
 refine D1 hx (v:=.ref f) rfl (sd_i hf ⟨ed,st,ek,ps,p,w,rfl,.inl hd,hs,hw,he,λ v hv=>⟨few rfl,b6 λ ln G1 n1 s1 t1=>?_⟩⟩)
 obtain⟨su,rfl,hu⟩:=hv
 rw[Int.one_mul]at hu
 have hf1:=s1 _ _ hf
 cases hv:d6 fk (kS (gw ps p w)) with
 | some v=>
  obtain⟨l,xs,rfl,nl,hl,_⟩:=sd.snd _ _ hv
  exact sd_old hf1 (s1 _ _ hu) hv (rest G1 fk l xs (sf.then s1) (TK.of s1) (s1 _ _ hE) (s1 _ _ hd) hf1 (by omega) (sd.same s1) hv (s1 _ _ hl))
 | none=>
  have nH:=sf.free hE hf n1
  have nlf:ln≠f:=λ z=>by rw[z,hf]at n1;cases n1
  have kd:TK G1 (upd G1 f (.dT (g0 fk (kS (gw ps p w)) (.ref ln)))):=TK.upd hf1 λ _ z=>nomatch z
  refine sd_new hf1 (s1 _ _ hu) hv (by omega) (rest _ _ ln [] ((sf.then s1).put (.inr (.inr rfl))) ((TK.of s1).trans kd) ?_ ?_ a6 (Nat.le_trans (K9 ..) (by omega)) ?_ ?_ ?_)
  ·rw[a5 hef];exact s1 _ _ hE
  ·rw[a5 hne];exact s1 _ _ hd
  ·have sd1:StepsD H (upd G1 f (.dT (g0 fk (kS (gw ps p w)) (.ref ln)))) ps fk B:=(sd.same s1).to kd λ l xs nl hl=>by
    rw[a5 λ z=>by rw[z,hf1]at hl;cases hl];exact hl
   refine sd1.make hv (λ two l' h z=>?_) nH (by rw[a5 nlf];exact t1)
   obtain⟨_,_,e,_,h3,_⟩:=sd.snd _ _ h
   cases e
   rw[z,n1]at h3
   cases h3
  ·rw[o7,if_pos rfl]
  ·rw[a5 nlf];exact t1
end
theorem loop_tup {a:Addr}{xs:List V}{g:TG}{tb:TS}{D:Ends}{Z:St}{H:Hp}(Pv:Nat->St->Hp->Prop)(h0:Pv 0 Z H)(hl:∀ i Z H,i<=xs.length->Pv i Z H->H a=some (.tup xs))
  (hs:∀ i x Z H,xs[i]?=some x->Pv i Z H->g x Z H λ σ2 H2=>tb { D with nx:=Pv (i + 1),ct:=Pv (i + 1),bk:=D.nx } σ2 H2)(hd:∀ Z H,Pv xs.length Z H->D.nx Z H):E2 (Itt0 a) g tb D Z H:=by
 unfold E2
 refine⟨λ i m Z H=>m=xs.length - i/\i<=xs.length/\Pv i Z H,⟨_,rfl,Nat.zero_le _,h0⟩,?_⟩
 rintro i m Z H ⟨rfl,hi,p⟩
 have q:=hl i Z H hi p
 by_cases hlt:i < xs.length
 ·refine .inr ⟨⟨xs,xs[i],.inl q,by simp[hlt]⟩,Pv (i + 1),λ Z' H' h=>⟨_,by omega,rfl,hlt,h⟩,?_⟩
  rintro x H' ⟨rfl,y⟩
  exact hs i x Z _ (y xs (.inl q)) p
 ·have e:i=xs.length:=by omega
  subst e
  exact .inl ⟨⟨xs,.inl q,Nat.le_refl _⟩,hd Z H p⟩
structure StepsW (G:Hp) (ps:List (Str×Str)) (fk:List (List Key×V)) (O:List (Str×Str)):Prop where
 snd:∀ one v,d6 fk (kS one)=some v->∃ l xs,v=.ref l/\G l=some (.lst xs)/\xs.length<=1000/\∀ y∈xs,∃ p w,p∈O/\(w=1\/w=-1)/\gw ps p w=one/\ItemAt G ps y p w
 cmp:∀ p∈O,∀ w,(w=1\/w=-1)->∃ l xs y,d6 fk (kS (gw ps p w))=some (.ref l)/\G l=some (.lst xs)/\y∈xs/\ItemAt G ps y p w
theorem StepsW.same {G J:Hp}{ps:List (Str×Str)}{fk:List (List Key×V)}{O:List (Str×Str)}(h:StepsW G ps fk O)(s:Same G J):StepsW J ps fk O:=by
 refine⟨λ one v e=>?_,λ p hp w hw=>?_⟩
 ·obtain⟨l,xs,h1,h2,h3,h4⟩:=h.snd one v e
  exact⟨l,xs,h1,s _ _ h2,h3,λ y hy=>let ⟨p,w,a,b,c,d⟩:=h4 y hy;⟨p,w,a,b,c,d.tk (TK.of s)⟩⟩
 ·obtain⟨l,xs,y,h1,h2,h3,h4⟩:=h.cmp p hp w hw
  exact⟨l,xs,y,h1,s _ _ h2,h3,h4.tk (TK.of s)⟩
structure EndsW (G:Hp) (ps:List (Str×Str)) (ek:List (List Key×V)) (O:List (Str×Str)):Prop where
 mrk:MarkD ek O
 ends:∀ p∈O,EndD G ps ek p
 keys:∀ kv∈ek,∃ p:Str×Str,kv.1=plK p.1 p.2
 len:ek.length<=O.length
theorem EndsW.tk {G J:Hp}{ps:List (Str×Str)}{ek:List (List Key×V)}{O:List (Str×Str)}(h:EndsW G ps ek O)(k:TK G J):EndsW J ps ek O:=⟨h.mrk,λ p hp=>EndD.tk k (h.ends p hp),h.keys,h.len⟩
structure WebAt (cw:Addr) (G:Hp) (x:Addr) (ps O:List (Str×Str)):Prop where
 mk::
 few:O.length<=225
 at':∃ dx e f ek fk,G x=some (.ins cw dx (fsW e f))/\G e=some (.dT ek)/\EndsW G ps ek O/\G f=some (.dT fk)/\StepsW G ps fk O
theorem WebAt.same {cw:Addr}{G J:Hp}{x:Addr}{ps O:List (Str×Str)}(h:WebAt cw G x ps O)(s:Same G J):WebAt cw J x ps O:=by
 obtain⟨h0,dx,e,f,ek,fk,h1,h2,h3,h4,h5⟩:=h
 exact⟨h0,dx,e,f,ek,fk,s _ _ h1,s _ _ h2,h3.tk (TK.of s),s _ _ h4,h5.same s⟩
theorem house_x {cl cw:Addr}{H:Hp}{h x dx:Addr}{fs:List (Str×V)}{o:HO}{ps:List (Str×Str)}{cs:List Str}(hh:HouseAt cl H h ps cs)(hx:H x=some (.ins cw dx fs))(hf:fs.lookup ("above_of" : Str)=none):HouseAt cl (upd H x o) h ps cs:=by
 obtain⟨h1,h2,h3,h4,dy,a,c,b,bs,e1,e2,e3,e4⟩:=hh
 refine⟨h1,h2,h3,h4,dy,a,c,b,bs,?_,?_,?_,e4.to ?_ λ d hd=>?_⟩
 ·rw[a5]
  ·exact e1
  ·intro z
   rw[z,hx]at e1
   cases e1
   cases hf
 ·rw[a5 λ z=>by rw[z,hx]at e2;cases e2];exact e2
 ·rw[a5 λ z=>by rw[z,hx]at e3;cases e3];exact e3
 ·rw[a5 λ z=>by have:=e4.d;rw[z,hx]at this;cases this]
 ·obtain⟨i,hi⟩:=List.mem_iff_getElem?.mp hd
  have hl:=(Zg hi).1
  rw[e4.len]at hl
  have:=e4.l i _ d (List.getElem?_eq_getElem hl) hi
  rw[a5 λ z=>by rw[z,hx]at this;cases this]
def bOf (O:List (Str×Str)):List ((Str×Str)×Int):=O.flatMap λ p=>[(p,1),(p,-1)]
theorem a4f (O:List (Str×Str)):(bOf O).length=2 * O.length:=by
 unfold bOf
 induction O with
 | nil=>rfl
 | cons a r ih=>rw[List.flatMap_cons,List.length_append,ih,List.length_cons];simp;omega
theorem StepsD.web {H G:Hp}{ps:List (Str×Str)}{fk:List (List Key×V)}{O:List (Str×Str)}(h:StepsD H G ps fk (bOf O))(hO:O.length<=225):StepsW G ps fk O:=by
 have hl:=a4f O
 refine⟨λ one v e=>?_,λ p hp w hw=>?_⟩
 ·obtain⟨l,xs,h1,_,h2,h3,h4⟩:=h.snd one v e
  refine⟨l,xs,h1,h2,by omega,λ y hy=>?_⟩
  obtain⟨p,w,a,b,c⟩:=h4 y hy
  obtain⟨r,hr,a⟩:=List.mem_flatMap.mp a
  simp only[List.mem_cons,Prod.mk.injEq,List.not_mem_nil,or_false]at a
  rcases a with⟨rfl,rfl⟩ | ⟨rfl,rfl⟩
  ·exact⟨p,1,hr,.inl rfl,b,c⟩
  ·exact⟨p,-1,hr,.inr rfl,b,c⟩
 ·refine h.cmp (p,w) (List.mem_flatMap.mpr ⟨p,hp,?_⟩)
  rcases hw with rfl | rfl <;> simp
section
variable {cl cw:Addr}
def I0 (cl cw:Addr):Sp:=λ vs H Q _=>∃ (x dx h l:Addr) (zs:List V) (ps:List (Str×Str)) (cs:List Str) (L:List (Str×Str)),vs=[.ref x,.ref h,.ref l]/\H x=some (.ins cw dx [])/\HouseAt cl H h ps cs/\H l=some (.lst zs)/\PairsAt H zs L/\L.length<=1000 ∧
 ∀ H',SameX x H H'->WebAt cw H' x ps ((b8 ps cs).filter (inL L))->Q .non H'
def a2m (cl cw:Addr):TS:=
 (b7 (d7 (d3 (M9 cl) [] E0 (a0 (gv 1) a7)) (a8 3))
 (b7 (a1P cw "ends" (gv 0) N5)
 (b7 (a1P cw "steps_from" (gv 0) N5)
 (v5 (iOf d9 (d3 (Y4 cl) [] E0 (a0 (gv 1) (a0 (gv 2) a7)))) (a8 4)
  (b7 (d7 (tOp e8 (gv 3) (gv 4)) (W0 (A3 cw "ends" (gv 0)) (gv 4) A9))
  (v5 (iOf d9 (k9 (a0 (k9 (a0 (gv 4) (a0 (tC (.int 1)) a7))) (a0 (k9 (a0 (gv 4) (a0 (tUn negG (tC (.int 1))) a7))) a7)))) (a8 5)
   (tw_step cw)))))))
theorem EndsW.put {G:Hp}{ps O:List (Str×Str)}{ek:List (List Key×V)}{r:Str×Str}{v:V}(h:EndsW G ps ek O)(hv:EndAt G ps v r):EndsW G ps (g0 ek (plK r.1 r.2) v) (O++[r]):=by
 refine⟨h.mrk.put r v,λ p hp=>?_,λ kv hk=>?_,?_⟩
 ·unfold EndD
  rw[o7]
  by_cases e:plK p.1 p.2=plK r.1 r.2
  ·obtain⟨z1,z2⟩:=E5 e
   have:p=r:=Prod.ext z1 z2
   rw[if_pos e,this]
   exact⟨_,rfl,hv⟩
  ·rw[if_neg e]
   rcases List.mem_append.mp hp with hp | hp
   ·exact h.ends p hp
   ·rw[List.mem_singleton.mp hp]at e
    exact(e rfl).elim
 ·unfold g0 at hk
  split at hk
  ·obtain⟨kv',h1,rfl⟩:=List.mem_map.mp hk
   obtain⟨p,hp⟩:=h.keys kv' h1
   split
   ·exact⟨p,hp⟩
   ·exact⟨p,hp⟩
  ·rcases List.mem_append.mp hk with hk | hk
   ·exact h.keys kv hk
   ·rw[List.mem_singleton.mp hk]
    exact⟨r,rfl⟩
 ·have:=K9 ek (plK r.1 r.2) v
  have h2:=h.len
  rw[List.length_append]
  show _<=_ + 1
  omega
theorem a6u {x dx h l:Addr}{zs:List V}{ps:List (Str×Str)}{cs:List Str}{L:List (Str×Str)}{H:Hp}{Q:VK}(hx:H x=some (.ins cw dx []))(hh:HouseAt cl H h ps cs)(hl:H l=some (.lst zs))(pz:PairsAt H zs L)(hL:L.length<=1000)
  (q:∀ H',SameX x H H'->WebAt cw H' x ps ((b8 ps cs).filter (inL L))->Q .non H'):a2m cl cw { nx:=λ _ H'=>Q .non H',rt:=Q } [some (.ref x),some (.ref h),some (.ref l),none,none,none,none] H:=by
 have hs:=sz
 refine⟨h,ps,cs,rfl,hh,λ ed ek G1 s1 n1 t1 hend=>?_⟩
 refine .inr (b6 λ e G2 n2 s2 t2=>sfl_i ((s1.trans s2) _ _ hx) rfl ?_)
 have nex:e≠x:=λ z=>by rw[z,s1 _ _ hx]at n2;cases n2
 have hx2:=(s1.trans s2) _ _ hx
 refine .inr (b6 λ f G3 n3 s3 t3=>sfl_i (s3 _ _ a6) rfl ?_)
 have hx3:=s3 _ _ (a6 (H:=G2) (a:=x) (o:=.ins cw dx (l8 "ends" (.ref e) [])))
 have nfx:f≠x:=λ z=>by rw[z,a6]at n3;cases n3
 have nfe:f≠e:=λ z=>by rw[z,a5 nex,t2]at n3;cases n3
 have ned:ed≠x:=λ z=>by rw[z,hx]at n1;cases n1
 have nlx:l≠x:=λ z=>by rw[z,hx]at hl;cases hl
 have hh2:HouseAt cl (upd G3 x (.ins cw dx (l8 "steps_from" (.ref f) (l8 "ends" (.ref e) [])))) h ps cs:=house_x ((house_x (hh.same (s1.trans s2)) hx2 rfl).same s3) hx3 rfl
 have k4:TK H (upd G3 x (.ins cw dx (l8 "steps_from" (.ref f) (l8 "ends" (.ref e) [])))):=(((TK.of (s1.trans s2)).trans (TK.upd hx2 λ _ z=>nomatch z)).trans (TK.of s3)).trans (TK.upd hx3 λ _ z=>nomatch z)
 have k14:TK G1 (upd G3 x (.ins cw dx (l8 "steps_from" (.ref f) (l8 "ends" (.ref e) [])))):=(((TK.of s2).trans (TK.upd hx2 λ _ z=>nomatch z)).trans (TK.of s3)).trans (TK.upd hx3 λ _ z=>nomatch z)
 have hl4:upd G3 x (.ins cw dx (l8 "steps_from" (.ref f) (l8 "ends" (.ref e) []))) l=some (.lst zs):=by
  rw[a5 nlx];exact s3 _ _ (by rw[a5 nlx];exact(s1.trans s2) _ _ hl)
 have sx4:SameX x H (upd G3 x (.ins cw dx (l8 "steps_from" (.ref f) (l8 "ends" (.ref e) [])))):=((((a1Y (s1.trans s2)).trans K5).trans (a1Y s3)).trans K5)
 have te4:upd G3 x (.ins cw dx (l8 "steps_from" (.ref f) (l8 "ends" (.ref e) []))) e=some (.dT []):=by
  rw[a5 nex];exact s3 _ _ (by rw[a5 nex];exact t2)
 have tf4:upd G3 x (.ins cw dx (l8 "steps_from" (.ref f) (l8 "ends" (.ref e) []))) f=some (.dT []):=by rw[a5 nfx];exact t3
 have td4:upd G3 x (.ins cw dx (l8 "steps_from" (.ref f) (l8 "ends" (.ref e) []))) ed=some (.dT ek):=by
  rw[a5 ned];exact s3 _ _ (by rw[a5 ned];exact s2 _ _ t1)
 have hx4:upd G3 x (.ins cw dx (l8 "steps_from" (.ref f) (l8 "ends" (.ref e) []))) x=some (.ins cw dx (fsW e f)):=a6
 have nde:ed≠e:=λ z=>by rw[z]at t1;rw[t1]at n2;cases n2
 have ndf:ed≠f:=λ z=>by rw[<- z,a5 ned,s2 _ _ t1]at n3;cases n3
 have nH:∀ b,b≠x->upd G3 x (.ins cw dx (l8 "steps_from" (.ref f) (l8 "ends" (.ref e) []))) b=none->H b=none:=λ b nb z=>by
  cases hb:H b with
  | none=>rfl
  | some o=>rw[sx4 b o nb hb]at z;cases z
 have nHe:H e=none:=m7 s1 n2
 have nHf:H f=none:=m7 (s1.trans s2) (by rw[a5 nfx]at n3;exact n3)
 generalize upd G3 x (.ins cw dx (l8 "steps_from" (.ref f) (l8 "ends" (.ref e) [])))=G4 at *
 refine g8 ⟨h,l,zs,ps,cs,L,rfl,hh2,hl4,pairs_tk k4 pz,hL,λ pl ws G5 s5 n5 t5 pw=>?_⟩
 have hend5:∀ q∈b8 ps cs,EndD G5 ps ek q:=λ q hq=>EndD.tk (k14.trans (TK.of s5)) (hend q hq)
 have hO:((b8 ps cs).filter (inL L)).length<=225:=Nat.le_trans (List.length_filter_le ..) (J9 hh.good hh.many)
 have hsub:∀ q∈(b8 ps cs).filter (inL L),q∈b8 ps cs:=λ q hq=>(List.mem_filter.mp hq).1
 generalize (b8 ps cs).filter (inL L)=O at *
 have hx5:=s5 _ _ hx4
 have he5:=s5 _ _ te4
 have hf5:=s5 _ _ tf4
 have hd5:=s5 _ _ td4
 have nxe:x≠e:=Ne.symm nex
 have nxf:x≠f:=Ne.symm nfx
 have npe:pl≠e:=λ z=>by rw[z,te4]at n5;cases n5
 have npf:pl≠f:=λ z=>by rw[z,tf4]at n5;cases n5
 refine f7 t5 (g7 (xs:=ws) (λ i Z G=>(SameEF e f G5 G/\TK G5 G)/\(∃ sk,G e=some (.dT sk)/\EndsW G ps sk (O.take i))/\(∃ fk,G f=some (.dT fk)/\fk.length<=2 * i/\StepsD G5 G ps fk (bOf (O.take i)))/\∃ u v w,Z=[some (.ref x),some (.ref h),some (.ref l),some (.ref ed),u,v,w])
  ⟨⟨λ b o _ _ z=>z,λ b o z=>z⟩,⟨[],he5,⟨(λ a b=>by simp[d6]),(λ p hp=>by simp at hp),(λ kv hk=>nomatch hk),Nat.zero_le _⟩⟩,⟨[],hf5,Nat.zero_le _,⟨(λ one v z=>nomatch z),(λ pw hp=>by simp[bOf]at hp),(λ a b l z=>nomatch z)⟩⟩,_,_,_,rfl⟩ (λ i Z G _ z=>z.1.1 _ _ npe npf t5) ?_ ?_)
 ·rintro i y Z G hy ⟨⟨sf,kt⟩,⟨sk,hE,ew⟩,⟨fk,hF,hfl,sd⟩,u,v,w,rfl⟩
  obtain⟨r,t,hr,rfl,ht⟩:=pw.at hy
  have hi:=(Zg hr).1
  have hrO:=List.mem_of_getElem? hr
  obtain⟨ve,hve,hea⟩:=hend5 r (hsub r hrO)
  have hdG:=sf _ _ nde ndf hd5
  have htG:=kt _ _ ht
  refine m4 (.inl hdG) htG hve (D1 (sf _ _ nxe nxf hx5) (v:=.ref e) rfl (E6 hE htG (by have:=ew.len;rw[List.length_take]at this;omega) ?_))
  have ku:TK G (upd G e (.dT (g0 sk (plK r.1 r.2) ve))):=TK.upd hE λ _ z=>nomatch z
  have ew':EndsW (upd G e (.dT (g0 sk (plK r.1 r.2) ve))) ps (g0 sk (plK r.1 r.2) ve) (O.take (i + 1)):=by
   rw[b9 hr]
   exact(ew.put (EndAt.tk kt hea)).tk ku
  have sf':SameEF e f G5 (upd G e (.dT (g0 sk (plK r.1 r.2) ve))):=sf.put (.inr (.inl rfl))
  have hE':=a6 (H:=G) (a:=e) (o:=.dT (g0 sk (plK r.1 r.2) ve))
  have hF':upd G e (.dT (g0 sk (plK r.1 r.2) ve)) f=some (.dT fk):=by rw[a5 nfe];exact hF
  have sd':StepsD G5 (upd G e (.dT (g0 sk (plK r.1 r.2) ve))) ps fk (bOf (O.take i)):=sd.to ku λ l xs nl hl=>by
   rw[a5 λ z=>by rw[z,hE]at hl;cases hl];exact hl
  have kt':=kt.trans ku
  have ht':=ku _ _ htG
  generalize upd G e (.dT (g0 sk (plK r.1 r.2) ve))=G6 at *
  generalize g0 sk (plK r.1 r.2) ve=sk' at *
  refine g8 ⟨few rfl,b6 λ a1 G7 n7 s7 t7=>⟨few rfl,b6 λ a2 G8 n8 s8 t8=>⟨few rfl,b6 λ a3 G9 n9 s9 t9=>X6 t9 ?_⟩⟩⟩
  have s69:=(s7.trans s8).trans s9
  have st1:StepAt G9 (.ref a1) r 1:=⟨a1,.ref t,rfl,(s8.trans s9) _ _ t7,t,rfl,s69 _ _ ht'⟩
  have st2:StepAt G9 (.ref a2) r (-1):=⟨a2,.ref t,rfl,s9 _ _ t8,t,rfl,s69 _ _ ht'⟩
  refine loop_tup (xs:=[.ref a1,.ref a2]) (λ j Z G'=>(SameEF e f G5 G'/\TK G9 G')/\G' e=some (.dT sk')/\(∃ fk,G' f=some (.dT fk)/\fk.length<=2 * i + j/\StepsD G5 G' ps fk (bOf (O.take i)++[(r,1),(r,-1)].take j))/\∃ v w,Z=[some (.ref x),some (.ref h),some (.ref l),some (.ref ed),some (.ref t),v,w])
   ⟨⟨sf'.then s69,λ b o z=>z⟩,s69 _ _ hE',⟨fk,s69 _ _ hF',by omega,by simpa using sd'.same s69⟩,_,_,rfl⟩ (λ j Z G' _ z=>z.1.2 _ _ t9) ?_ ?_
  ·rintro j y Z G' hy ⟨⟨sf2,k2⟩,hE2,⟨fk2,hF2,hfl2,sd2⟩,v,w,rfl⟩
   obtain⟨wj,hst,hwj,ej⟩:∃ wj:Int,StepAt G9 y r wj/\(wj=1\/wj=-1)/\[(r,(1:Int)),(r,-1)][j]?=some (r,wj):=by
    match j,hy with
    | 0,hy=>cases hy;exact⟨1,st1,.inl rfl,rfl⟩
    | 1,hy=>cases hy;exact⟨-1,st2,.inr rfl,rfl⟩
   have hj:j < 2:=(Zg ej).1
   have hb:(bOf (O.take i)++[(r,(1:Int)),(r,-1)].take j).length=2 * i + j:=by
    rw[List.length_append,a4f,List.length_take,List.length_take]
    show 2 * min i O.length + min j 2=_
    omega
   have hx2:=sf2 _ _ nxe nxf hx5
   have hd2:=sf2 _ _ nde ndf hd5
   refine rw_step hx2 hd2 ndf (EndD.tk (kt'.trans ((TK.of s69).trans k2)) (hend5 r (hsub r hrO))) (StepAt.tk k2 hst) hwj hE2 (Ne.symm nfe) hF2 (by omega) (by omega) sf2 sd2 λ G'' fk' v' z1 z2 z3 z4 z5 z6=>?_
   refine⟨⟨z1,k2.trans z2⟩,z3,⟨fk',z4,by omega,?_⟩,_,_,rfl⟩
   rw[b9 ej,<- List.append_assoc]
   exact z6
  ·rintro Z G' ⟨⟨sf2,k2⟩,hE2,⟨fk2,hF2,hfl2,sd2⟩,v,w,rfl⟩
   have kk:TK G6 G':=(TK.of s69).trans k2
   refine⟨⟨sf2,kt'.trans kk⟩,⟨sk',hE2,ew'.tk kk⟩,⟨fk2,hF2,hfl2,?_⟩,_,_,_,rfl⟩
   unfold bOf
   rw[b9 hr,List.flatMap_append]
   exact sd2
 ·rintro Z G ⟨⟨sf,kt⟩,⟨sk,hE,ew⟩,⟨fk,hF,hfl,sd⟩,u,v,w,rfl⟩
  rw[pw.1,List.take_length]at ew sd
  refine q G (λ b o nb hb=>sf b o (λ z=>by rw[z,nHe]at hb;cases hb) (λ z=>by rw[z,nHf]at hb;cases hb) (s5 _ _ (sx4 b o nb hb))) ⟨hO,dx,e,f,sk,fk,sf _ _ nxe nxf hx5,hE,ew,hF,sd.web hO⟩
end
theorem a3v {α:Type}[DecidableEq α]:∀ {l m:List α},l.Nodup->(∀ x∈l,x∈m)->l.length<=m.length
 | [],m,_,_=>Nat.zero_le _
 | x::r,m,h,s=>by
  rw[List.nodup_cons]at h
  have hx:=s x (by simp)
  have:=a3v (l:=r) (m:=m.erase x) h.2 λ y hy=>(List.mem_erase_of_ne λ (e:y=x)=>h.1 (e ▸ hy)).mpr (s y (by simp[hy]))
  have hl:=List.length_erase_of_mem hx
  have hp:=List.length_pos_of_mem hx
  rw[List.length_cons]
  omega
theorem look_S {d u:Addr}{one:A.Sm Str}{kvs:List (List Key×V)}{H:Hp}(h:Rd H d (.dT kvs))(hu:H u=some (.tup (sts (enc one)))):C0 H d (.ref u)=some (d6 kvs (kS one)):=by
 unfold C0
 rcases h with h | ⟨o,h⟩
 ·simp only[h,hu,P1,Option.map_some]
  rfl
 ·simp only[h,hu,P1,Option.map_some]
  rfl
theorem a3o {neg:Bool}{d u:Addr}{one:A.Sm Str}{kvs:List (List Key×V)}{H:Hp}{Q:VK}(h:H d=some (.dT kvs))(hu:H u=some (.tup (sts (enc one))))(q:Q (.bl (neg ^^ (d6 kvs (kS one)).isSome)) H):inG neg (.ref u) (.ref d) H Q:=by
 unfold inG
 simp only[h,look_S (.inl h) hu]
 exact q
theorem a1W {d u:Addr}{one:A.Sm Str}{v:V}{kvs:List (List Key×V)}{H:Hp}{Q:VK}(h:H d=some (.dT kvs))(hu:H u=some (.tup (sts (enc one))))(hv:d6 kvs (kS one)=some v)(q:Q v H):e8 (.ref d) (.ref u) H Q:=by
 unfold e8
 simp only[h,look_S (.inl h) hu,hv]
 exact q
theorem dgS_i {d u:Addr}{one:A.Sm Str}{z:V}{kvs:List (List Key×V)}{H:Hp}{Q:VK}(h:H d=some (.dT kvs))(hu:H u=some (.tup (sts (enc one))))(q:Q ((d6 kvs (kS one)).getD z) H):a0D (.ref d) [.ref u,z] H Q:=by
 unfold a0D
 simp only[look_S (.inl h) hu]
 exact q
theorem setS_i {d u:Addr}{one:A.Sm Str}{v:V}{kvs:List (List Key×V)}{H:Hp}{Q:Hp->Prop}(h:H d=some (.dT kvs))(hu:H u=some (.tup (sts (enc one))))(hz:kvs.length < sizeLine)(q:Q (upd H d (.dT (g0 kvs (kS one) v)))):A9 (.ref d) (.ref u) v H Q:=by
 unfold A9
 simp only[h,hu,P1]
 exact⟨hz,q⟩
def uni (ps O:List (Str×Str)):List (A.Sm Str):=(bOf O).map λ pw=>gw ps pw.1 pw.2
theorem mem_uni {ps O:List (Str×Str)}{q:Str×Str}{w:Int}(hq:q∈O)(hw:w=1\/w=-1):gw ps q w∈uni ps O:=List.mem_map.mpr ⟨(q,w),List.mem_flatMap.mpr ⟨q,hq,by rcases hw with rfl | rfl <;> simp⟩,rfl⟩
def Trace (G:Hp)(ps O:List (Str×Str))(ck:List (List Key×V))(Ln:List (A.Sm Str)):Prop:=∀ one v,d6 ck (kS one)=some v->v=.non\/∃ (q:Str×Str) (w:Int) (i j:Nat),StepAt G v q w/\q∈O/\(w=1\/w=-1)/\Ln[i]?=some (gw ps q w)/\Ln[j]?=some one/\i < j
structure CameD (G:Hp) (c:Addr) (ps O:List (Str×Str)) (ck:List (List Key×V)) (Ln:List (A.Sm Str)):Prop where
 d:G c=some (.dT ck)
 len:ck.length<=Ln.length
 mem:∀ one,(d6 ck (kS one)).isSome=decide (one∈Ln)
 tr:Trace G ps O ck Ln
 nd:Ln.Nodup
 sub:∀ one∈Ln,one∈uni ps O
theorem CameD.to {G J:Hp}{c:Addr}{ps O:List (Str×Str)}{ck:List (List Key×V)}{Ln:List (A.Sm Str)}(h:CameD G c ps O ck Ln)(k:TK G J)(hc:J c=G c):CameD J c ps O ck Ln:=
 ⟨hc.trans h.d,h.len,h.mem,λ one v e=>(h.tr one v e).imp_right λ ⟨q,w,i,j,z1,z2⟩=>⟨q,w,i,j,StepAt.tk k z1,z2⟩,h.nd,h.sub⟩
theorem CameD.few {G:Hp}{c:Addr}{ps O:List (Str×Str)}{ck:List (List Key×V)}{Ln:List (A.Sm Str)}(h:CameD G c ps O ck Ln)(hO:O.length<=225):Ln.length<=450:=by
 have:=a3v h.nd h.sub
 unfold uni at this
 rw[List.length_map,a4f]at this
 omega
theorem CameD.put {G:Hp}{c:Addr}{ps O:List (Str×Str)}{ck:List (List Key×V)}{Ln:List (A.Sm Str)}{q:Str×Str}{w:Int}{v:V}{i:Nat}(h:CameD G c ps O ck Ln)(hv:StepAt G v q w)(hq:q∈O)(hw:w=1\/w=-1)(hi:Ln[i]?=some (gw ps q w))(hn:gw ps q (-1 * w)∉Ln):
  CameD (upd G c (.dT (g0 ck (kS (gw ps q (-1 * w))) v))) c ps O (g0 ck (kS (gw ps q (-1 * w))) v) (Ln++[gw ps q (-1 * w)]):=by
 have k:TK G (upd G c (.dT (g0 ck (kS (gw ps q (-1 * w))) v))):=TK.upd h.d λ _ z=>nomatch z
 have hil:=(Zg hi).1
 refine⟨a6,?_,λ one=>?_,λ one v' e=>?_,?_,λ one ho=>?_⟩
 ·have:=K9 ck (kS (gw ps q (-1 * w))) v
  have h2:=h.len
  rw[List.length_append]
  show _<=_ + 1
  omega
 ·rw[o7]
  by_cases e:kS one=kS (gw ps q (-1 * w))
  ·rw[if_pos e,V7 e]
   exact(decide_eq_true (List.mem_append_right _ (List.mem_singleton.mpr rfl))).symm
  ·rw[if_neg e,h.mem one]
   have:one≠gw ps q (-1 * w):=λ z=>e (by rw[z])
   refine decide_eq_decide.mpr ?_
   rw[List.mem_append,List.mem_singleton]
   exact⟨.inl,λ h=>h.resolve_right this⟩
 ·rw[o7]at e
  split at e
  ·rename_i z
   cases e
   rw[V7 z]
   exact .inr ⟨q,w,i,Ln.length,StepAt.tk k hv,hq,hw,by rw[List.getElem?_append_left hil];exact hi,by simp,hil⟩
  ·rcases h.tr one v' e with z | ⟨q',w',i',j',z1,z2,z3,z4,z5,z6⟩
   ·exact .inl z
   ·have l1:=(Zg z4).1
    have l2:=(Zg z5).1
    exact .inr ⟨q',w',i',j',StepAt.tk k z1,z2,z3,by rw[List.getElem?_append_left l1];exact z4,by rw[List.getElem?_append_left l2];exact z5,z6⟩
 ·refine List.nodup_append.mpr ⟨h.nd,by simp,λ a ha b hb e=>?_⟩
  rw[List.mem_singleton.mp hb]at e
  exact hn (e ▸ ha)
 ·rcases List.mem_append.mp ho with ho | ho
  ·exact h.sub one ho
  ·rw[List.mem_singleton.mp ho]
   exact mem_uni hq (by rcases hw with rfl | rfl <;> decide)
theorem pl_uniq {H:Hp}{v:V}{p q:Str×Str}(a:PlAt H v p)(b:PlAt H v q):p=q:=by
 obtain⟨t,rfl,h1⟩:=a
 obtain⟨t',e,h2⟩:=b
 cases e
 rw[h1]at h2
 injection h2 with h2
 injection h2 with h2
 simp only[List.cons.injEq,V.str.injEq,and_true]at h2
 exact Prod.ext h2.1 h2.2
theorem step_uniq {H:Hp}{v:V}{p q:Str×Str}{w w':Int}(a:StepAt H v p w)(b:StepAt H v q w'):p=q/\w=w':=by
 obtain⟨t,x,rfl,h1,h2⟩:=a
 obtain⟨t',x',e,h3,h4⟩:=b
 cases e
 rw[h1]at h3
 injection h3 with h3
 injection h3 with h3
 simp only[List.cons.injEq,V.int.injEq,and_true]at h3
 obtain⟨rfl,rfl⟩:=h3
 exact⟨pl_uniq h2 h4,rfl⟩
theorem pl_rd {H:Hp}{v:V}{p:Str×Str}(n:Nat)(a:PlAt H v p):rdD (n + 2) H v=some (.tuple [.str p.1,.str p.2]):=by
 obtain⟨t,rfl,h⟩:=a
 show(match H t with
  | some (.lst xs)=>(xs.mapM (rdD (n + 1) H)).map PyData.list
  | some (.tup xs)=>(xs.mapM (rdD (n + 1) H)).map PyData.tuple
  | _=>none)=_
 simp only[h]
 rfl
def Clos (ps O:List (Str×Str))(p:Str×Str)(T:Str×Str->Int)(Ln:List (A.Sm Str))(n:Nat):Prop:=∀ one∈Ln.take n,∀ q∈O,∀ w:Int,(w=1\/w=-1)->q≠p->(w=1\/1<=T q)->gw ps q w=one->gw ps q (-1 * w)∈Ln
def a0x (tk:List (List Key×V))(O:List (Str×Str))(T:Str×Str->Int):Prop:=∀ q∈O,d6 tk (plK q.1 q.2)=some (.int (T q))
def tr_in:TS:=
 (sIf (X1 (bT (tOp (inG true) (gv 10) (gv 5))) (X1 (bT (tOp neG (tOp e8 (gv 9) (tC (.int 0))) (tOp e8 (gv 2) (tC (.int 0))))) (ptG (d3 B3 [] E0 (a0 (gv 1) (a0 (gv 9) a7))))))
  (b7 (d7 (gv 9) (W0 (gv 5) (gv 10) A9))
  (K0 (O1 "append" (gv 6) (a0 (gv 10) a7))))
  g6)
section
variable {cw:Addr}
def tr_body (cw:Addr):TS:=
 (b7 (d7 (tOp e8 (gv 6) (gv 7)) (a8 8))
 (b7 (v5 (iOf d9 (O1 "get" (A3 cw "steps_from" (gv 0)) (a0 (gv 8) (a0 (j6 a7) a7)))) (O3 2 (C7 (a8 9) (C7 (a8 10) gNil)))
  tr_in)
 (tAug 7 (tC (.int 1)) (ipG .Add))))
theorem clos_ext {ps O:List (Str×Str)}{p:Str×Str}{T:Str×Str->Int}{Ln r:List (A.Sm Str)}{n:Nat}(h:Clos ps O p T Ln n)(hn:n<=Ln.length):Clos ps O p T (Ln++r) n:=λ one ho q hq w hw h1 h2 h3=>by
 rw[List.take_append_of_le_length hn]at ho
 exact List.mem_append_left _ (h one ho q hq w hw h1 h2 h3)
end
section
variable {cw:Addr}
def a3w (cw:Addr):TS:=
 (b7 (d7 (d3 (o5 1) [] E0 (a0 (A3 cw "ends" (gv 0)) (a0 (gv 2) a7))) (a8 3))
 (b7 (d7 (d3 (o5 (-1)) [] E0 (a0 (A3 cw "ends" (gv 0)) (a0 (gv 2) a7))) (a8 4))
 (b7 (d7 (tDispT (gv 4) (tC .non)) (a8 5))
 (b7 (d7 (j6 (a0 (gv 4) a7)) (a8 6))
 (b7 (d7 (tC (.int 0)) (a8 7))
 (b7 (x9 (X1 (bT (tOp ltG (gv 7) (tCB a0m (a0 (gv 6) a7)))) (bT (tOp (inG true) (gv 3) (gv 5))))
  (tr_body cw))
 (f9 (gv 5))))))))
end
section
variable {cw:Addr}
end
section
variable {cw:Addr}
end
end R3
namespace A
section
variable {S:Type}[BEq S][LawfulBEq S][DecidableEq S]{al:S}{ps:List (S×S)}{cs:List S}
def B5 (al:S)(ps:List (S×S))(cs:List S)(T:S×S->Int):Prop:=∀ one,IsSm al ps cs one->sg (A2 al ps cs one) (λ p=>p.2 * T p.1)=0
theorem tot_g (g:Gd al ps)(hc:(cs++[al]).Nodup){p:S×S}(hp:IsPl al ps cs p){one:Sm S}(h1:IsSm al ps cs one):tot (A2 al ps cs one) p.1 p.2=(if one=gP al ps p then 1 else 0) - (if one=gM al ps p then 1 else 0):=by
 rw[a5f g hc hp.1 hp.2 h1]
 unfold gP gM
 by_cases e:p.2=al
 ·rw[if_pos e,if_pos e,if_pos e];omega
 ·rw[if_neg e,if_neg e,if_neg e];omega
theorem sg_ind [DecidableEq S]{L:List (Sm S)}(nd:L.Nodup)(a:Sm S):sg L (λ one=>if one=a then(1:Int) else 0)=if a∈L then 1 else 0:=by
 by_cases h:a∈L
 ·rw[if_pos h,V4 nd h]
 ·rw[if_neg h,a1f h]
theorem cnt_g (g:Gd al ps)(hc:(cs++[al]).Nodup){p:S×S}(hp:IsPl al ps cs p){L:List (Sm S)}(hL:∀ one∈L,IsSm al ps cs one)(nd:L.Nodup):cnt al ps cs L p.1 p.2=(if gP al ps p∈L then 1 else 0) - (if gM al ps p∈L then 1 else 0):=by
 rw[cnt_ends g hc hp.1 hp.2 hL,sg_ind nd,sg_ind nd]
 unfold gP gM
 by_cases e:p.2=al
 ·rw[if_pos e,if_pos e,if_pos e];omega
 ·rw[if_neg e,if_neg e,if_neg e];omega
theorem total_of (g:Gd al ps){T:S×S->Int}(hT:B5 al ps cs T){P:List (S×S)}(hd:P.Nodup)(hP:∀ p,IsPl al ps cs p->p∈P){L:List (Sm S)}(hL:∀ one∈L,IsSm al ps cs one):
  sg P (λ pl=>cnt al ps cs L pl.1 pl.2 * T pl)=0:=by
 have e:∀ pl,cnt al ps cs L pl.1 pl.2 * T pl=sg L λ one=>tot (A2 al ps cs one) pl.1 pl.2 * T pl:=λ pl=>by
  unfold cnt
  rw[Int.mul_comm,<- E4]
  exact l6 λ one _=>Int.mul_comm _ _
 rw[l6 λ pl _=>e pl,sg_swap]
 refine m6 λ one h1=>?_
 rw[tot_sum hd T λ p hp=>hP _ (give_in g (hL one h1) hp)]
 exact hT one (hL one h1)
def Walk (al:S)(ps:List (S×S))(b:Sm S):Sm S->List ((S×S)×Int)->Prop
 | a,[]=>a=b
 | a,st::r=>gW al ps st.1 st.2=a/\Walk al ps b (gW al ps st.1 (-1 * st.2)) r
def dl (St:List ((S×S)×Int))(q:S×S):Int:=sg St λ st=>if st.1=q then st.2 else 0
def nt (al:S)(ps:List (S×S))(St:List ((S×S)×Int))(one:Sm S):Int:=sg St λ st=>st.2 * ((if one=gP al ps st.1 then 1 else 0) - (if one=gM al ps st.1 then 1 else 0))
theorem walk_nt {b:Sm S}{one:Sm S}:∀ {St:List ((S×S)×Int)}{a:Sm S},(∀ st∈St,st.2=1\/st.2=-1)->Walk al ps b a St->nt al ps St one=(if one=a then 1 else 0) - (if one=b then 1 else 0)
 | [],a,_,h=>by rw[show a=b from h];show(0:Int)=_;omega
 | st::r,a,hw,h=>by
  obtain⟨h1,h2⟩:=h
  have ih:=walk_nt (one:=one) (λ x hx=>hw x (by simp[hx])) h2
  show st.2 * _ + nt al ps r one=_
  rw[ih,<- h1]
  rcases hw st (by simp) with e | e
  ·rw[e,show gW al ps st.1 1=gP al ps st.1 by unfold gW;rw[if_pos rfl],show(-1 * 1:Int)=-1 by decide,show gW al ps st.1 (-1)=gM al ps st.1 by unfold gW;rw[if_neg (by decide)]]
   omega
  ·rw[e,show(-1 * -1:Int)=1 by decide,show gW al ps st.1 1=gP al ps st.1 by unfold gW;rw[if_pos rfl],show gW al ps st.1 (-1)=gM al ps st.1 by unfold gW;rw[if_neg (by decide)]]
   omega
theorem sums_walk (g:Gd al ps)(hc:(cs++[al]).Nodup){T:S×S->Int}(hT:B5 al ps cs T){St:List ((S×S)×Int)}(hpl:∀ st∈St,IsPl al ps cs st.1)(hw:∀ st∈St,st.2=1\/st.2=-1){a:Sm S}(h:Walk al ps a a St)(k:Int):B5 al ps cs λ q=>T q + k * dl St q:=λ one h1=>by
 have e1:sg (A2 al ps cs one) (λ p=>p.2 * dl St p.1)=0:=by
  unfold dl
  have:∀ p:(S×S)×Int,p.2 * sg St (λ st=>if st.1=p.1 then st.2 else 0)=sg St λ st=>st.2 * (if p.1=(st.1.1,st.1.2) then p.2 else 0):=λ p=>by
   rw[<- E4]
   refine l6 λ st _=>?_
   by_cases z:st.1=p.1
   ·rw[if_pos z,if_pos z.symm,Int.mul_comm]
   ·rw[if_neg z,if_neg (λ y=>z y.symm),Int.mul_zero,Int.mul_zero]
  rw[l6 λ p _=>this p,sg_swap]
  have:∀ st∈St,sg (A2 al ps cs one) (λ p=>st.2 * (if p.1=(st.1.1,st.1.2) then p.2 else 0))=st.2 * ((if one=gP al ps st.1 then 1 else 0) - (if one=gM al ps st.1 then 1 else 0)):=λ st hs=>by
   rw[E4,<- tot_g g hc (hpl st hs) h1]
   rfl
  rw[l6 this]
  have:=walk_nt (one:=one) hw h
  unfold nt at this
  rw[this];omega
 have:=a0v (A2 al ps cs one) (λ p=>p.2 * T p.1) (λ p=>k * (p.2 * dl St p.1))
 rw[E4,e1,hT one h1]at this
 rw[<- this.trans (by omega:(0:Int) + k * 0=0)]
 refine l6 λ p _=>?_
 rw[Int.mul_add,<- Int.mul_assoc,<- Int.mul_assoc,Int.mul_comm p.2 k]
theorem dl_in {St:List ((S×S)×Int)}(hd:(St.map (·.1)).Nodup){st:(S×S)×Int}(h:st∈St):dl St st.1=st.2:=by
 induction St with
 | nil=>cases h
 | cons x r ih=>
  rw[List.map_cons,List.nodup_cons]at hd
  show(if x.1=st.1 then x.2 else 0) + dl r st.1=st.2
  have out:∀ q,q∉r.map (·.1)->dl r q=0:=λ q hq=>m6 λ y hy=>if_neg λ z=>hq (List.mem_map.mpr ⟨y,hy,z⟩)
  rcases List.mem_cons.mp h with e | e
  ·subst e;rw[if_pos rfl,out _ hd.1];omega
  ·rw[ih hd.2 e,if_neg λ z=>hd.1 (List.mem_map.mpr ⟨st,e,z.symm⟩)];omega
theorem dl_out {St:List ((S×S)×Int)}{q:S×S}(h:q∉St.map (·.1)):dl St q=0:=m6 λ y hy=>if_neg λ z=>h (List.mem_map.mpr ⟨y,hy,z⟩)
end
end A
namespace R3
open Nu S3
def Trace2 (p:Str×Str)(T:Str×Str->Int)(s0:A.Sm Str)(G:Hp)(ps O:List (Str×Str))(ck:List (List Key×V))(Ln:List (A.Sm Str)):Prop:=∀ one v,d6 ck (kS one)=some v->(v=.non/\one=s0)\/∃ (q:Str×Str) (w:Int) (i j:Nat),StepAt G v q w/\q∈O/\(w=1\/w=-1)/\Ln[i]?=some (gw ps q w)/\Ln[j]?=some one/\i < j/\one=gw ps q (-1 * w)/\q≠p/\(w=1\/1<=T q)
structure Came2 (p:Str×Str) (T:Str×Str->Int) (s0:A.Sm Str) (G:Hp) (c:Addr) (ps O:List (Str×Str)) (ck:List (List Key×V)) (Ln:List (A.Sm Str)):Prop extends CameD G c ps O ck Ln where
 t:Trace2 p T s0 G ps O ck Ln
section
variable {p:Str×Str}{T:Str×Str->Int}{s0:A.Sm Str}{G J:Hp}{c:Addr}{ps O:List (Str×Str)}{ck:List (List Key×V)}{Ln:List (A.Sm Str)}
theorem Came2.to (h:Came2 p T s0 G c ps O ck Ln)(k:TK G J)(hc:J c=G c):Came2 p T s0 J c ps O ck Ln:=
 ⟨h.toCameD.to k hc,λ one v e=>(h.t one v e).imp_right λ ⟨q,w,i,j,z1,z2⟩=>⟨q,w,i,j,StepAt.tk k z1,z2⟩⟩
theorem Came2.same (h:Came2 p T s0 G c ps O ck Ln)(s:Same G J):Came2 p T s0 J c ps O ck Ln:=h.to (TK.of s) ((s _ _ h.d).trans h.d.symm)
theorem Came2.put {q:Str×Str}{w:Int}{v:V}{i:Nat}(h:Came2 p T s0 G c ps O ck Ln)(hv:StepAt G v q w)(hq:q∈O)(hw:w=1\/w=-1)(hi:Ln[i]?=some (gw ps q w))(hn:gw ps q (-1 * w)∉Ln)(hqp:q≠p)(hg:w=1\/1<=T q):
  Came2 p T s0 (upd G c (.dT (g0 ck (kS (gw ps q (-1 * w))) v))) c ps O (g0 ck (kS (gw ps q (-1 * w))) v) (Ln++[gw ps q (-1 * w)]):=by
 refine⟨h.toCameD.put hv hq hw hi hn,λ one v' e=>?_⟩
 have k:TK G (upd G c (.dT (g0 ck (kS (gw ps q (-1 * w))) v))):=TK.upd h.d λ _ z=>nomatch z
 have hil:=(Zg hi).1
 rw[o7]at e
 split at e
 ·rename_i z
  cases e
  rw[V7 z]
  exact .inr ⟨q,w,i,Ln.length,StepAt.tk k hv,hq,hw,by rw[List.getElem?_append_left hil];exact hi,by simp,hil,rfl,hqp,hg⟩
 ·rcases h.t one v' e with z | ⟨q',w',i',j',z1,z2,z3,z4,z5,z6⟩
  ·exact .inl z
  ·have l1:=(Zg z4).1
   have l2:=(Zg z5).1
   exact .inr ⟨q',w',i',j',StepAt.tk k z1,z2,z3,by rw[List.getElem?_append_left l1];exact z4,by rw[List.getElem?_append_left l2];exact z5,z6⟩
end
theorem rr_in2 {tb c ln:Addr}{v0 v3 v4 v7 v8:Option V}{st sv ov:V}{ps O:List (Str×Str)}{p q:Str×Str}{w w':Int}{T:Str×Str->Int}{tk ck:List (List Key×V)}{s0:A.Sm Str}{Ln:List (A.Sm Str)}{zs:List V}{i:Nat}{G:Hp}{D:Ends}
  (cd:Came2 p T s0 G c ps O ck Ln)(hln:G ln=some (.lst zs))(tz:TupsAt G zs (Ln.map enc))(hO:O.length<=225)(htb:G tb=some (.dT tk))(hT:a0x tk O T)(hs:StepAt G st p w)(hv:StepAt G sv q w')(ho:SmAt G ov (gw ps q (-1 * w')))(hq:q∈O)(hw:w'=1\/w'=-1)(hi:Ln[i]?=some (gw ps q w'))
  (k:∀ G' ck' Ln' zs',SameEF c ln G G'->TK G G'->Came2 p T s0 G' c ps O ck' Ln'->G' ln=some (.lst zs')->TupsAt G' zs' (Ln'.map enc)->(∃ r,Ln'=Ln++r)->(q≠p->(w'=1\/1<=T q)->gw ps q (-1 * w')∈Ln')->D.nx [v0,some (.ref tb),some st,v3,v4,some (.ref c),some (.ref ln),v7,v8,some sv,some ov] G'):
  tr_in D [v0,some (.ref tb),some st,v3,v4,some (.ref c),some (.ref ln),v7,v8,some sv,some ov] G:=by
 have hz:=sz
 have few:=cd.few hO
 have skip:(q≠p->(w'=1\/1<=T q)->gw ps q (-1 * w')∈Ln)->D.nx [v0,some (.ref tb),some st,v3,v4,some (.ref c),some (.ref ln),v7,v8,some sv,some ov] G:=λ h=>
  k G ck Ln zs (λ b o _ _ z=>z) (λ b o z=>z) cd hln tz ⟨[],by simp⟩ h
 obtain⟨ou,rfl,hu⟩:=ho
 refine a3o cd.d hu ?_
 rw[cd.mem]
 by_cases hm:gw ps q (-1 * w')∈Ln
 ·rw[decide_eq_true hm]
  exact i8 rfl (i8 rfl (skip λ _ _=>hm))
 rw[decide_eq_false hm]
 refine m5 rfl ?_
 obtain⟨sa,sx,rfl,hsa,hsx⟩:=hv
 obtain⟨fa,fx,rfl,hfa,hfx⟩:=hs
 obtain⟨sy,rfl,_⟩:=id hsx
 obtain⟨fy,rfl,_⟩:=id hfx
 refine h9 hsa (v:=.ref sy) rfl (h9 hfa (v:=.ref fy) rfl (eq_i (pl_rd 6 hsx) (pl_rd 6 hfx) ?_))
 rw[show PyData.eqv (.tuple [.str q.1,.str q.2]) (.tuple [.str p.1,.str p.2])=decide ([q.1,q.2]=[p.1,p.2]) by rw[PyData.eqv];exact a5m [q.1,q.2] [p.1,p.2]]
 by_cases hqp:q=p
 ·rw[decide_eq_true (by rw[hqp])]
  exact i8 rfl (i8 rfl (skip λ z=>(z hqp).elim))
 rw[decide_eq_false (λ z=>hqp (by injection z with z1 z2;injection z2 with z2 _;exact Prod.ext z1 z2))]
 refine m5 rfl ⟨tb,.ref sa,tk,q,w',T q,rfl,.inl htb,⟨sa,.ref sy,rfl,hsa,hsx⟩,hT q hq,?_⟩
 by_cases hg:w'=1\/1<=T q
 ·rw[decide_eq_true hg]
  refine m5 rfl (setS_i cd.d hu (by have:=cd.len;omega) ?_)
  have cd':=cd.put (v:=.ref sa) ⟨sa,.ref sy,rfl,hsa,hsx⟩ hq hw hi hm hqp hg
  have ncl:ln≠c:=λ z=>by rw[z,cd.d]at hln;cases hln
  have hln':upd G c (.dT (g0 ck (kS (gw ps q (-1 * w'))) (.ref sa))) ln=some (.lst zs):=by rw[a5 ncl];exact hln
  have k1:TK G (upd G c (.dT (g0 ck (kS (gw ps q (-1 * w'))) (.ref sa)))):=TK.upd cd.d λ _ z=>nomatch z
  have k2:TK (upd G c (.dT (g0 ck (kS (gw ps q (-1 * w'))) (.ref sa)))) (upd (upd G c (.dT (g0 ck (kS (gw ps q (-1 * w'))) (.ref sa)))) ln (.lst (zs++[.ref ou]))):=TK.upd hln' λ _ z=>nomatch z
  have lz:zs.length=Ln.length:=by rw[tz.1,List.length_map]
  refine X7 hln' (M6 hln' (by omega) (k _ _ _ _ ?_ (k1.trans k2) (cd'.to k2 (a5 (Ne.symm ncl))) a6 ?_ ⟨_,rfl⟩ λ _ _=>by simp))
  ·intro b o h1 h2 h3
   rw[a5 h2,a5 h1]
   exact h3
  ·refine⟨by simp[lz],λ j l e=>?_⟩
   rw[List.map_append]at e
   by_cases hj:j < Ln.length
   ·rw[List.getElem?_append_left (by simpa using hj)]at e
    obtain⟨t,z1,z2⟩:=tz.2 j l e
    exact⟨t,by rw[List.getElem?_append_left (by omega)];exact z1,k2 _ _ (k1 _ _ z2)⟩
   ·have hjl:=(Zg e).1
    simp at hjl
    have:j=Ln.length:=by omega
    subst this
    rw[List.getElem?_append_right (by simp)]at e
    simp at e
    subst e
    exact⟨ou,by rw[List.getElem?_append_right (by omega),lz];simp,k2 _ _ (k1 _ _ (by rw[show -w'=-1 * w' by omega];exact hu))⟩
 ·rw[decide_eq_false hg]
  exact i8 rfl (skip λ _ z=>(hg z).elim)
section
variable {cw:Addr}
theorem rr_body2 {x tb c ln dx e f:Addr}{v3 v4 v8 v9 v10:Option V}{st:V}{ps O:List (Str×Str)}{p:Str×Str}{w:Int}{T:Str×Str->Int}{tk ck fk:List (List Key×V)}{s0:A.Sm Str}{Ln:List (A.Sm Str)}{zs:List V}{n:Nat}{G:Hp}{D:Ends}
  (cd:Came2 p T s0 G c ps O ck Ln)(hln:G ln=some (.lst zs))(tz:TupsAt G zs (Ln.map enc))(hO:O.length<=225)(hx:G x=some (.ins cw dx (fsW e f)))(hf:G f=some (.dT fk))(sw:StepsW G ps fk O)(nfc:f≠c)(htb:G tb=some (.dT tk))(ntc:tb≠c)(hT:a0x tk O T)(hs:StepAt G st p w)(hn:n < Ln.length)(cl:Clos ps O p T Ln n)(nlw:∀ one l,d6 fk (kS one)=some (.ref l)->l≠ln)
  (k:∀ G' ck' Ln' zs' u8 u9 u10,SameEF c ln G G'->Came2 p T s0 G' c ps O ck' Ln'->G' ln=some (.lst zs')->TupsAt G' zs' (Ln'.map enc)->(∃ r,Ln'=Ln++r)->Clos ps O p T Ln' (n + 1)->D.nx [some (.ref x),some (.ref tb),some st,v3,v4,some (.ref c),some (.ref ln),some (.int (n + 1)),u8,u9,u10] G'):
  tr_body cw D [some (.ref x),some (.ref tb),some st,v3,v4,some (.ref c),some (.ref ln),some (.int n),v8,v9,v10] G:=by
 have hz:=sz
 have lz:zs.length=Ln.length:=by rw[tz.1,List.length_map]
 obtain⟨u,hu1,hu2⟩:=tz.2 n (enc Ln[n]) (by rw[List.getElem?_map,List.getElem?_eq_getElem hn];rfl)
 have hLn:Ln[n]?=some Ln[n]:=List.getElem?_eq_getElem hn
 generalize Ln[n]=one at *
 refine C4 hln (v:=.ref u) (D2 hu1) (g8 (D1 hx (v:=.ref f) rfl (dget_i hf ⟨few rfl,b6 λ pe G1 n1 s1 t1=>dgS_i (s1 _ _ hf) (s1 _ _ hu2) ?_⟩)))
 obtain⟨l,xs,ev,hl,nln,snd,cmp⟩:∃ l xs,(d6 fk (kS one)).getD (.ref pe)=.ref l/\G1 l=some (.lst xs)/\l≠ln/\(∀ y∈xs,∃ q w',q∈O/\(w'=1\/w'=-1)/\gw ps q w'=one/\ItemAt G1 ps y q w')/\(∀ q∈O,∀ w',(w'=1\/w'=-1)->gw ps q w'=one->∃ y∈xs,ItemAt G1 ps y q w'):=by
  have sw1:=sw.same s1
  cases hv:d6 fk (kS one) with
  | none=>
   refine⟨pe,[],rfl,t1,(λ z=>by rw[z,hln]at n1;cases n1),(λ y hy=>nomatch hy),λ q hq w' hw' e=>?_⟩
   obtain⟨l,xs,y,h1,_⟩:=sw1.cmp q hq w' hw'
   rw[e,hv]at h1
   cases h1
  | some v=>
   obtain⟨l,xs,rfl,h2,_,h4⟩:=sw1.snd one v hv
   refine⟨l,xs,rfl,h2,nlw one l hv,h4,λ q hq w' hw' e=>?_⟩
   obtain⟨l',xs',y,z1,z2,z3,z4⟩:=sw1.cmp q hq w' hw'
   rw[e,hv]at z1
   cases z1
   rw[h2]at z2
   cases z2
   exact⟨y,z3,z4⟩
 rw[ev]
 have cd1:=cd.same s1
 have ncl:l≠c:=λ z=>by rw[z,cd1.d]at hl;cases hl
 have ntl:tb≠ln:=λ z=>by rw[z,hln]at htb;cases htb
 refine f7 hl (g7 (xs:=xs) (λ j Z G'=>(SameEF c ln G1 G'/\TK G1 G')/\(∃ ck' Ln' zs',Came2 p T s0 G' c ps O ck' Ln'/\G' ln=some (.lst zs')/\TupsAt G' zs' (Ln'.map enc)/\(∃ r,Ln'=Ln++r)/\∀ y∈xs.take j,∀ q w',ItemAt G1 ps y q w'->q≠p->(w'=1\/1<=T q)->gw ps q (-1 * w')∈Ln')/\∃ u9 u10,Z=[some (.ref x),some (.ref tb),some st,v3,v4,some (.ref c),some (.ref ln),some (.int n),some (.ref u),u9,u10])
  ⟨⟨λ b o _ _ z=>z,λ b o z=>z⟩,⟨ck,Ln,zs,cd1,s1 _ _ hln,tz.same s1,⟨[],by simp⟩,λ y hy=>by simp at hy⟩,_,_,rfl⟩ (λ j Z G' _ z=>z.1.1 _ _ ncl nln hl) ?_ ?_)
 ·rintro j y Z G' hy ⟨⟨sf,kt⟩,⟨ck',Ln',zs',cd',hln',tz',⟨r,er⟩,don⟩,u9,u10,rfl⟩
  obtain⟨q,w',hq,hw',eo,it⟩:=snd y (List.mem_of_getElem? hy)
  obtain⟨ya,y1,y2,rfl,hya,hy1,hy2⟩:=id it
  refine⟨ya,_,rfl,.inl (kt _ _ hya),rfl,_,_,rfl,_,_,rfl,rfl,?_⟩
  have hiL:Ln'[n]?=some (gw ps q w'):=by rw[er,List.getElem?_append_left hn,hLn,eo]
  refine rr_in2 cd' hln' tz' hO (sf _ _ ntc ntl (s1 _ _ htb)) hT (StepAt.tk ((TK.of s1).trans kt) hs) (StepAt.tk kt hy1) (SmAt.tk kt hy2) hq hw' hiL λ G'' ck2 Ln2 zs2 z1 z2 z3 z4 z5 z6 z7=>?_
  obtain⟨r2,e2⟩:=z6
  refine⟨⟨λ b o h1 h2 h3=>z1 b o h1 h2 (sf b o h1 h2 h3),kt.trans z2⟩,⟨ck2,Ln2,zs2,z3,z4,z5,⟨r++r2,by rw[e2,er,List.append_assoc]⟩,λ y' hy' q' w'' it' a b=>?_⟩,_,_,rfl⟩
  rw[b9 hy]at hy'
  rcases List.mem_append.mp hy' with hy' | hy'
  ·rw[e2]
   exact List.mem_append_left _ (don y' hy' q' w'' it' a b)
  ·rw[List.mem_singleton.mp hy']at it'
   obtain⟨ya',x1,x2,e',h1',h2',_⟩:=it'
   cases e'
   rw[hya]at h1'
   cases h1'
   obtain⟨rfl,rfl⟩:=step_uniq hy1 h2'
   exact z7 a b
 ·rintro Z G' ⟨⟨sf,kt⟩,⟨ck',Ln',zs',cd',hln',tz',⟨r,er⟩,don⟩,u9,u10,rfl⟩
  rw[List.take_length]at don
  refine⟨_,rfl,?_⟩
  refine k G' ck' Ln' zs' _ _ _ (λ b o h1 h2 h3=>sf b o h1 h2 (s1 _ _ h3)) cd' hln' tz' ⟨r,er⟩ ?_
  have cl':Clos ps O p T Ln' n:=by rw[er];exact clos_ext cl (by omega)
  intro o2 ho2 q hq w' hw' a b e
  have hL':Ln'[n]?=some one:=by rw[er,List.getElem?_append_left hn];exact hLn
  rw[b9 hL']at ho2
  rcases List.mem_append.mp ho2 with ho2 | ho2
  ·exact cl' o2 ho2 q hq w' hw' a b e
  ·rw[List.mem_singleton.mp ho2]at e
   obtain⟨y,hy,it⟩:=cmp q hq w' hw' e
   exact don y hy q w' it a b
end
section
variable {cw:Addr}
def J1 (cw:Addr):Sp:=λ vs H Q _=>∃ (x tb:Addr) (st:V) (ps O:List (Str×Str)) (p:Str×Str) (w:Int) (tk:List (List Key×V)) (T:Str×Str->Int),vs=[.ref x,.ref tb,st]/\WebAt cw H x ps O/\H tb=some (.dT tk)/\a0x tk O T/\StepAt H st p w/\p∈O/\(w=1\/w=-1) ∧
 ∀ c ck Ln H',Same H H'->H c=none->Came2 p T (gw ps p (-1 * w)) H' c ps O ck Ln->gw ps p (-1 * w)∈Ln->(gw ps p w∈Ln\/Clos ps O p T Ln Ln.length)->Q (.ref c) H'
theorem a6w {x tb:Addr}{st:V}{ps O:List (Str×Str)}{p:Str×Str}{w:Int}{tk:List (List Key×V)}{T:Str×Str->Int}{H:Hp}{D:Ends}(wa:WebAt cw H x ps O)(htb:H tb=some (.dT tk))(hT:a0x tk O T)(hs:StepAt H st p w)(hp:p∈O)(hw:w=1\/w=-1)
  (q:∀ c ck Ln H',Same H H'->H c=none->Came2 p T (gw ps p (-1 * w)) H' c ps O ck Ln->gw ps p (-1 * w)∈Ln->(gw ps p w∈Ln\/Clos ps O p T Ln Ln.length)->D.rt (.ref c) H'):a3w cw D [some (.ref x),some (.ref tb),some st,none,none,none,none,none,none,none,none] H:=by
 have hz:=sz
 obtain⟨hO,dx,e,f,ek,fk,hx,he,ew,hf,sw⟩:=id wa
 refine D1 hx (v:=.ref e) rfl ⟨e,st,ek,ps,p,w,rfl,.inl he,hs,hw,ew.ends p hp,λ g hg=>?_⟩
 rw[Int.one_mul]at hg
 refine D1 hx (v:=.ref e) rfl ⟨e,st,ek,ps,p,w,rfl,.inl he,hs,hw,ew.ends p hp,λ s0 h0=>?_⟩
 obtain⟨gu,rfl,hgu⟩:=hg
 obtain⟨su,rfl,hsu⟩:=h0
 intro c nc
 have s1:∀ o,Same H (upd H c o):=λ o=>p7 nc
 refine⟨su,kS (gw ps p (-1 * w)),rfl,a6,by rw[kV_kS];exact s1 _ _ _ hsu,?_⟩
 rw[a0Y]
 have s1:=s1 (.dT [(kS (gw ps p (-1 * w)),.non)])
 have cd:Came2 p T (gw ps p (-1 * w)) (upd H c (.dT [(kS (gw ps p (-1 * w)),.non)])) c ps O [(kS (gw ps p (-1 * w)),.non)] [gw ps p (-1 * w)]:=by
  refine⟨⟨a6,Nat.le_refl _,λ one=>?_,λ one v h=>?_,by simp,λ one h=>?_⟩,λ one v h=>?_⟩
  ·by_cases z:one=gw ps p (-1 * w)
   ·rw[z,i5 (by rfl)]
    exact(decide_eq_true (List.mem_singleton.mpr rfl)).symm
   ·rw[g5 (λ y=>z (V7 y).symm),decide_eq_false (λ y=>z (List.mem_singleton.mp y))]
    rfl
  ·by_cases z:one=gw ps p (-1 * w)
   ·rw[z,i5 (by rfl)]at h
    cases h
    exact .inl rfl
   ·rw[g5 (λ y=>z (V7 y).symm)]at h
    cases h
  ·rw[List.mem_singleton.mp h]
   exact mem_uni hp (by rcases hw with rfl | rfl <;> decide)
  ·by_cases z:one=gw ps p (-1 * w)
   ·rw[z,i5 (by rfl)]at h
    cases h
    exact .inl ⟨rfl,z⟩
   ·rw[g5 (λ y=>z (V7 y).symm)]at h
    cases h
 refine⟨few rfl,b6 λ ln G2 n2 s2 t2=>?_⟩
 have S2:=s1.trans s2
 have cd2:=cd.same s2
 have nlH:H ln=none:=m7 s1 n2
 have tz2:TupsAt G2 [.ref su] ([gw ps p (-1 * w)].map enc):=⟨rfl,λ i l h=>by
  match i,h with
  | 0,h=>cases h;exact⟨su,rfl,S2 _ _ hsu⟩⟩
 have nfc:f≠c:=c9 hf nc
 have ntc:tb≠c:=c9 htb nc
 have ncl:c≠ln:=λ z=>by rw[<- z,a6]at n2;cases n2
 have nlw:∀ one l,d6 fk (kS one)=some (.ref l)->l≠ln:=λ one l h z=>by
  obtain⟨l',xs,e',h2,_⟩:=sw.snd one _ h
  cases e'
  rw[z,nlH]at h2
  cases h2
 generalize hs0:gw ps p (-1 * w)=s0 at *
 refine(?_:x9 _ _ _ _ _)
 unfold x9
 refine⟨λ m Z G=>∃ (n:Nat) (ck:List (List Key×V)) (Ln:List (A.Sm Str)) (zs:List V) (u8 u9 u10:Option V),m=451 - n/\n<=Ln.length/\Same H G/\Came2 p T s0 G c ps O ck Ln/\G ln=some (.lst zs)/\TupsAt G zs (Ln.map enc)/\s0∈Ln/\Clos ps O p T Ln n/\Z=[some (.ref x),some (.ref tb),some st,some (.ref gu),some (.ref su),some (.ref c),some (.ref ln),some (.int n),u8,u9,u10],
  ⟨_,0,_,[s0],[.ref su],none,none,none,rfl,Nat.zero_le _,S2,cd2,t2,tz2,by simp,(λ one h=>by simp at h),rfl⟩,?_⟩
 rintro m Z G ⟨n,ck,Ln,zs,u8,u9,u10,rfl,hn,sm,cd,hln,tz,h0,cl,rfl⟩
 have fw:=cd.few hO
 have lz:zs.length=Ln.length:=by rw[tz.1,List.length_map]
 refine V3 hln ?_
 by_cases hlt:n < Ln.length
 ·refine m5 (by simp[lz,hlt]) (a3o cd.d (sm _ _ hgu) ?_)
  rw[cd.mem]
  by_cases hg:gw ps p w∈Ln
  ·rw[decide_eq_true hg]
   exact i8 rfl (q c ck Ln G sm nc cd h0 (.inl hg))
  ·rw[decide_eq_false hg]
   refine m5 rfl ⟨_,λ Z' H' h=>h,?_⟩
   refine rr_body2 cd hln tz hO (sm _ _ hx) (sm _ _ hf) (sw.same sm) nfc (sm _ _ htb) ntc hT (hs.same sm) hlt cl nlw λ G' ck' Ln' zs' v8 v9 v10 z1 z2 z3 z4 z5 z6=>?_
   obtain⟨r,er⟩:=z5
   have fw':=z2.few hO
   have ll:Ln'.length=Ln.length + r.length:=by rw[er,List.length_append]
   exact⟨451 - (n + 1),by omega,n + 1,ck',Ln',zs',v8,v9,v10,rfl,by omega,(λ b o h=>z1 b o (λ z=>by rw[z,nc]at h;cases h) (λ z=>by rw[z,nlH]at h;cases h) (sm _ _ h)),z2,z3,z4,by rw[er];exact List.mem_append_left _ h0,z6,rfl⟩
 ·refine i8 (by simp[lz];omega) (i8 rfl (q c ck Ln G sm nc cd h0 (.inr ?_)))
  have:n=Ln.length:=by omega
  rw[<- this]
  exact cl
end
def StepsL (H:Hp)(zs:List V)(St:List ((Str×Str)×Int)):Prop:=zs.length=St.length/\∀ (i:Nat) st,St[i]?=some st->∃ v,zs[i]?=some v/\StepAt H v st.1 st.2
theorem StepsL.tk {H G:Hp}{zs:List V}{St:List ((Str×Str)×Int)}(h:StepsL H zs St)(k:TK H G):StepsL G zs St:=⟨h.1,λ i st e=>let ⟨v,h1,h2⟩:=h.2 i st e;⟨v,h1,StepAt.tk k h2⟩⟩
theorem StepsL.same {H G:Hp}{zs:List V}{St:List ((Str×Str)×Int)}(h:StepsL H zs St)(s:Same H G):StepsL G zs St:=h.tk (TK.of s)
theorem StepsL.nil {H:Hp}:StepsL H [] []:=⟨rfl,λ i st e=>by simp at e⟩
theorem StepsL.cons {H:Hp}{v:V}{zs:List V}{st:(Str×Str)×Int}{St:List ((Str×Str)×Int)}(h:StepAt H v st.1 st.2)(t:StepsL H zs St):StepsL H (v::zs) (st::St):=⟨by simp[t.1],λ i s e=>by
 cases i with
 | zero=>cases e;exact⟨v,rfl,h⟩
 | succ i=>exact t.2 i s e⟩
theorem StepsL.at {H:Hp}{zs:List V}{St:List ((Str×Str)×Int)}(h:StepsL H zs St){i:Nat}{v:V}(e:zs[i]?=some v):∃ st,St[i]?=some st/\StepAt H v st.1 st.2:=by
 have hl:=(Zg e).1
 obtain⟨st,hs⟩:∃ st,St[i]?=some st:=⟨St[i]'(h.1 ▸ hl),List.getElem?_eq_getElem _⟩
 obtain⟨v',h1,h2⟩:=h.2 i st hs
 rw[e]at h1
 cases h1
 exact⟨st,hs,h2⟩
structure RingL (ps O:List (Str×Str)) (p:Str×Str) (w:Int) (T:Str×Str->Int) (St:List ((Str×Str)×Int)):Prop where
 ex:∃ R,St=(p,w)::R/\A.Walk ("all" : Str) ps (gw ps p w) (gw ps p (-1 * w)) R
 nd:(St.map (·.1)).Nodup
 go:∀ st∈St,st.1∈O/\(st.2=1\/st.2=-1)/\(st.2=1\/1<=T st.1)
 few:St.length<=451
def a4g (ps O:List (Str×Str))(p:Str×Str)(w:Int)(T:Str×Str->Int):Prop:=¬ (w=1\/1<=T p)\/∃ Ln,Ln.Nodup/\(∀ one∈Ln,one∈uni ps O)/\gw ps p (-1 * w)∈Ln/\gw ps p w∉Ln/\Clos ps O p T Ln Ln.length
section
variable {cw:Addr}
def D7 (cw:Addr):Sp:=λ vs H Q _=>∃ (x tb:Addr) (st:V) (ps O:List (Str×Str)) (p:Str×Str) (w:Int) (tk:List (List Key×V)) (T:Str×Str->Int),vs=[.ref x,.ref tb,st]/\WebAt cw H x ps O/\H tb=some (.dT tk)/\a0x tk O T/\StepAt H st p w/\p∈O/\(w=1\/w=-1) ∧
 (∀ H',Same H H'->a4g ps O p w T->Q .non H')/\∀ l zs St H',Same H H'->H l=none->H' l=some (.lst zs)->StepsL H' zs St->RingL ps O p w T St->Q (.ref l) H'
def a0H (cw:Addr):TS:=
 (b7 (sIf (J4 (ptG (d3 B3 [] E0 (a0 (gv 1) (a0 (gv 2) a7)))))
  (f9 (tC .non))
  g6)
 (b7 (d7 (d3 (J1 cw) [] E0 (a0 (gv 0) (a0 (gv 1) (a0 (gv 2) a7)))) (a8 3))
 (b7 (d7 (d3 (o5 1) [] E0 (a0 (A3 cw "ends" (gv 0)) (a0 (gv 2) a7))) (a8 4))
 (b7 (sIf (bT (tOp (inG true) (gv 4) (gv 3)))
  (f9 (tC .non))
  g6)
 (b7 (d7 (j6 a7) (a8 5))
 (b7 (x9 (bT (tOp (isG true) (tOp e8 (gv 3) (gv 4)) (tC .non)))
  (b7 (K0 (O1 "append" (gv 5) (a0 (tOp e8 (gv 3) (gv 4)) a7)))
  (d7 (d3 (o5 1) [] E0 (a0 (A3 cw "ends" (gv 0)) (a0 (tOp e8 (gv 3) (gv 4)) a7))) (a8 4))))
 (f9 (tOp o8 (j6 (a0 (gv 2) a7)) (a1M (a0 (gv 5) a7))))))))))
theorem a5q {x tb:Addr}{st:V}{ps O:List (Str×Str)}{p:Str×Str}{w:Int}{tk:List (List Key×V)}{T:Str×Str->Int}{H:Hp}{D:Ends}(wa:WebAt cw H x ps O)(htb:H tb=some (.dT tk))(hT:a0x tk O T)(hs:StepAt H st p w)(hp:p∈O)(hw:w=1\/w=-1)
  (q0:∀ H',Same H H'->a4g ps O p w T->D.rt .non H')(q1:∀ l zs St H',Same H H'->H l=none->H' l=some (.lst zs)->StepsL H' zs St->RingL ps O p w T St->D.rt (.ref l) H'):a0H cw D [some (.ref x),some (.ref tb),some st,none,none,none] H:=by
 have hz:=sz
 refine⟨tb,st,tk,p,w,T p,rfl,.inl htb,hs,hT p hp,?_⟩
 by_cases hg:¬ (w=1\/1<=T p)
 ·rw[decide_eq_false hg]
  exact m5 rfl (q0 H (Same.refl H) (.inl hg))
 have hg:=Classical.not_not.mp hg
 rw[decide_eq_true hg]
 refine i8 rfl ⟨x,tb,st,ps,O,p,w,tk,T,rfl,wa,htb,hT,hs,hp,hw,λ c ck Ln G1 s1 n1 cd h0 hgo=>?_⟩
 obtain⟨hO,dx,e,f,ek,fk,hx,he,ew,hf,sw⟩:=wa.same s1
 have hs1:=hs.same s1
 refine D1 hx (v:=.ref e) rfl ⟨e,st,ek,ps,p,w,rfl,.inl he,hs1,hw,ew.ends p hp,λ g hgS=>?_⟩
 rw[Int.one_mul]at hgS
 obtain⟨gu,rfl,hgu⟩:=hgS
 refine a3o cd.d hgu ?_
 rw[cd.mem]
 by_cases hm:¬ gw ps p w∈Ln
 ·rw[decide_eq_false hm]
  exact m5 rfl (q0 G1 s1 (.inr ⟨Ln,cd.nd,cd.sub,h0,hm,hgo.resolve_left hm⟩))
 have hm:=Classical.not_not.mp hm
 rw[decide_eq_true hm]
 have fw:=cd.few hO
 refine i8 rfl ⟨few rfl,b6 λ pw G2 n2 s2 t2=>?_⟩
 have nHw:=m7 s1 n2
 obtain⟨i0,hi0⟩:=List.mem_iff_getElem?.mp hm
 have hil0:=(Zg hi0).1
 refine(?_:x9 _ _ _ _ _)
 unfold x9
 refine⟨λ m Z G=>∃ (one:A.Sm Str) (u:Addr) (ws:List V) (R:List ((Str×Str)×Int)),Ln[m]?=some one/\Same G1 G/\G u=some (.tup (sts (enc one)))/\G pw=some (.lst ws)/\ws.length + m<=450/\(StepsL G ws.reverse R/\A.Walk ("all" : Str) ps (gw ps p w) one R/\(R.map (·.1)).Nodup/\(∀ st∈R,st.1∈O/\(st.2=1\/st.2=-1)/\(st.2=1\/1<=T st.1)/\st.1≠p)/\∀ st∈R,∀ w':Int,(w'=1\/w'=-1)->∃ k,m<=k/\Ln[k]?=some (gw ps st.1 w'))/\Z=[some (.ref x),some (.ref tb),some st,some (.ref c),some (.ref u),some (.ref pw)],
  ⟨i0,_,gu,[],[],hi0,s2,s2 _ _ hgu,t2,by simp;omega,⟨StepsL.nil,rfl,List.nodup_nil,(λ st h=>by cases h),λ st h=>by cases h⟩,rfl⟩,?_⟩
 rintro m Z G ⟨one,u,ws,R,hone,sm,hu,hpw,hlen,⟨hR,wR,ndR,goR,ixR⟩,rfl⟩
 have cdG:=cd.same sm
 have hml:=(Zg hone).1
 have hS:(d6 ck (kS one)).isSome=true:=by rw[cdG.mem];exact decide_eq_true (List.mem_of_getElem? hone)
 obtain⟨v,hv⟩:=Option.isSome_iff_exists.mp hS
 refine a1W cdG.d hu hv ?_
 rcases cdG.t one v hv with⟨rfl,eo⟩ | ⟨q,w',i,j,hst,hq,hw',hi,hj,hij,eo,hqp,hcan⟩
 ·refine i8 rfl ⟨few rfl,b6 λ p1 G3 n3 s3 t3=>?_⟩
  refine lstRev_i (s3 _ _ hpw) (b6 λ p2 G4 n4 s4 t4=>C5 (s4 _ _ t3) t4 (by simp;omega) (b6 λ p3 G5 n5 s5 t5=>?_))
  have S:=s1.trans (sm.trans ((s3.trans s4)))
  have S':=sm.trans (s3.trans (s4.trans s5))
  have lR:R.length=ws.length:=by have:=hR.1;rw[List.length_reverse]at this;exact this.symm
  refine q1 p3 _ ((p,w)::R) G5 (S.trans s5) (m7 S n5) t5 (StepsL.cons (StepAt.tk (TK.of S') hs1) (hR.same (s3.trans (s4.trans s5)))) ⟨⟨R,rfl,by rw[<- eo];exact wR⟩,?_,?_,?_⟩
  ·rw[List.map_cons,List.nodup_cons]
   refine⟨λ h=>?_,ndR⟩
   obtain⟨st,h1,h2⟩:=List.mem_map.mp h
   exact(goR st h1).2.2.2 h2
  ·intro st h
   rcases List.mem_cons.mp h with rfl | h
   ·exact⟨hp,hw,hg⟩
   ·exact⟨(goR st h).1,(goR st h).2.1,(goR st h).2.2.1⟩
  ·rw[List.length_cons];omega
 ·obtain⟨va,vx,rfl,hva,hvx⟩:=id hst
  refine m5 rfl ⟨_,λ Z' H' h=>h,?_⟩
  have hjl:=(Zg hj).1
  have hjm:j=m:=(List.getElem?_inj (by omega) cd.nd).mp (by rw[hj,hone])
  subst hjm
  refine X7 hpw (a1W cdG.d hu hv (M6 hpw (by omega) ?_))
  have npc:pw≠c:=λ z=>by rw[z,cdG.d]at hpw;cases hpw
  have kt:TK G (upd G pw (.lst (ws++[.ref va]))):=TK.upd hpw λ _ z=>nomatch z
  have nx:x≠pw:=λ z=>by rw[z]at hx;rw[hx]at n2;cases n2
  have ne:e≠pw:=λ z=>by rw[z]at he;rw[he]at n2;cases n2
  refine D1 (show upd G pw (.lst (ws++[.ref va])) x=some (.ins cw dx (fsW e f)) by rw[a5 nx];exact sm _ _ hx) (v:=.ref e) rfl ?_
  have hd':upd G pw (.lst (ws++[.ref va])) c=some (.dT ck):=by rw[a5 (Ne.symm npc)];exact cdG.d
  refine a1W hd' (kt _ _ hu) hv ⟨e,.ref va,ek,ps,q,w',rfl,.inl (by rw[a5 ne];exact sm _ _ he),StepAt.tk kt hst,hw',EndD.tk kt (EndD.tk (TK.of sm) (ew.ends q hq)),λ v2 hv2=>?_⟩
  rw[Int.one_mul]at hv2
  obtain⟨u2,rfl,hu2⟩:=hv2
  refine⟨i,hij,_,u2,_,(q,w')::R,hi,sm.put n2,hu2,a6,by simp;omega,⟨?_,⟨rfl,by have z:=wR;rw[eo]at z;exact z⟩,?_,?_,?_⟩,rfl⟩
  ·rw[List.reverse_append]
   exact StepsL.cons (StepAt.tk kt hst) (hR.tk kt)
  ·rw[List.map_cons,List.nodup_cons]
   refine⟨λ h=>?_,ndR⟩
   obtain⟨st,h1,h2⟩:=List.mem_map.mp h
   obtain⟨k,hk,hLk⟩:=ixR st h1 w' hw'
   have h2:st.1=q:=h2
   rw[h2]at hLk
   have:k=i:=(List.getElem?_inj ((Zg hLk).1) cd.nd).mp (by rw[hLk,hi])
   omega
  ·intro st h
   rcases List.mem_cons.mp h with rfl | h
   ·exact⟨hq,hw',hcan,hqp⟩
   ·exact goR st h
  ·intro st h w1 hw1
   rcases List.mem_cons.mp h with rfl | h
   ·by_cases z:w1=w'
    ·rw[z];exact⟨i,Nat.le_refl _,hi⟩
    ·have z:w1=-1 * w':=by rcases hw' with e | e <;> rcases hw1 with e1 | e1 <;> omega
     rw[z]
     exact⟨j,by omega,by rw[hj,eo]⟩
   ·obtain⟨k,hk,hLk⟩:=ixR st h w1 hw1
    exact⟨k,by omega,hLk⟩
end
abbrev opn (ps:List (Str×Str))(cs:List Str)(L:List (Str×Str)):List (Str×Str):=(b8 ps cs).filter (inL L)
section
variable {cl cw:Addr}
end
def d8 (P:List (Str×Str))(F:Str×Str->Int):List (List Key×V):=P.map λ p=>(plK p.1 p.2,.int (F p))
theorem j8 {P:List (Str×Str)}{F:Str×Str->Int}:(d8 P F).length=P.length:=List.length_map ..
theorem i6 {F:Str×Str->Int}:∀ {P:List (Str×Str)}{p:Str×Str},p∈P->d6 (d8 P F) (plK p.1 p.2)=some (.int (F p))
 | x::r,p,h=>by
  show d6 ((plK x.1 x.2,V.int (F x))::d8 r F) _=_
  by_cases e:x=p
  ·rw[e,i5 rfl]
  ·rw[g5 (λ z=>e (Prod.ext (E5 z).1 (E5 z).2))]
   exact i6 ((List.mem_cons.mp h).resolve_left (Ne.symm e))
theorem a3x {F:Str×Str->Int}:∀ {P:List (Str×Str)}{p:Str×Str},p∉P->d6 (d8 P F) (plK p.1 p.2)=none
 | [],p,h=>rfl
 | x::r,p,h=>by
  show d6 ((plK x.1 x.2,V.int (F x))::d8 r F) _=_
  rw[g5 (λ z=>h (by rw[show x=p from Prod.ext (E5 z).1 (E5 z).2];simp))]
  exact a3x λ z=>h (by simp[z])
theorem a2n {P O:List (Str×Str)}{F:Str×Str->Int}(h:∀ q∈O,q∈P):a0x (d8 P F) O F:=λ q hq=>i6 (h q hq)
theorem T2 {P:List (Str×Str)}{F:Str×Str->Int}{p:Str×Str}(h:p∉P):g0 (d8 P F) (plK p.1 p.2) (.int (F p))=d8 (P++[p]) F:=by
 rw[W5 _ (a3x h)]
 unfold d8
 rw[List.map_append]
 rfl
theorem Y5 {P:List (Str×Str)}{F:Str×Str->Int}{q:Str×Str}{n:Int}(h:q∈P):g0 (d8 P F) (plK q.1 q.2) (.int n)=d8 P λ x=>if x=q then n else F x:=by
 unfold g0
 rw[E1,i6 h,if_pos (show(some (V.int (F q))).isSome=true from rfl)]
 unfold d8
 rw[List.map_map]
 refine List.map_congr_left λ x _=>?_
 show(if plK x.1 x.2=plK q.1 q.2 then(plK x.1 x.2,V.int n) else(plK x.1 x.2,V.int (F x)))=(plK x.1 x.2,V.int (if x=q then n else F x))
 by_cases e:x=q
 ·rw[e,if_pos rfl,if_pos rfl]
 ·rw[if_neg (λ z=>e (Prod.ext (E5 z).1 (E5 z).2)),if_neg e]
theorem Y6 {P:List (Str×Str)}{F G:Str×Str->Int}(h:∀ p∈P,F p=G p):d8 P F=d8 P G:=List.map_congr_left λ p hp=>by rw[h p hp]
theorem a4h {d t:Addr}{a b:Str}{v:V}{kvs:List (List Key×V)}{Q:VK}{H:Hp}(h:H d=some (.dT kvs))(ht:H t=some (.tup [.str a,.str b]))(hv:d6 kvs (plK a b)=some v)(q:Q v H):dgG (.ref d) (.ref t) H Q:=by
 unfold dgG
 simp only[a1k h ht,hv]
 exact q
section
variable {cl:Addr}
def E7 (cl:Addr):Sp:=λ vs H Q _=>∃ (h tb r:Addr) (k:Int) (zs:List V) (ps:List (Str×Str)) (cs:List Str) (tk:List (List Key×V)) (T:Str×Str->Int) (St:List ((Str×Str)×Int)),vs=[.ref h,.ref tb,.ref r,.int k]/\HouseAt cl H h ps cs/\H tb=some (.dT tk)/\a0x tk (b8 ps cs) T/\H r=some (.lst zs)/\StepsL H zs St/\(∀ st∈St,st.1∈b8 ps cs/\(st.2=1\/st.2=-1))/\(∀ i,∀ q∈b8 ps cs,0<=T q + k * A.dl (St.take i) q) ∧
 ∀ d H',Same H H'->H d=none->H' d=some (.dT (d8 (b8 ps cs) λ q=>T q + k * A.dl St q))->Q (.ref d) H'
def tc_two:TS:=
 (b7 (v5 (iOf d9 (gv 2)) (O3 2 (C7 (a8 5) (C7 (a8 6) gNil)))
  (b7 (tAugS (gv 4) (gv 5) (tOp U9 (gv 6) (gv 3)) dgG (ipG .Add) A9)
  (sIf (bT (tOp ltG (tOp e8 (gv 4) (gv 5)) (tC (.int 0))))
   xS
   g6)))
 (f9 (gv 4)))
def a3y (cl:Addr):TS:=
 (b7 (d7 N5 (a8 4))
 (b7 (v5 (iOf d9 (i9 cl "places" (h7 cl) E0 (gv 0) a7)) (a8 5)
  (d7 (tOp e8 (gv 1) (gv 5)) (W0 (gv 4) (gv 5) A9)))
 tc_two))
theorem r_changed {h tb r:Addr}{k:Int}{zs:List V}{ps:List (Str×Str)}{cs:List Str}{tk:List (List Key×V)}{T:Str×Str->Int}{St:List ((Str×Str)×Int)}{H:Hp}{D:Ends}(hh:HouseAt cl H h ps cs)(htb:H tb=some (.dT tk))(hT:a0x tk (b8 ps cs) T)(hr:H r=some (.lst zs))(hs:StepsL H zs St)(hp:∀ st∈St,st.1∈b8 ps cs/\(st.2=1\/st.2=-1))(h0:∀ i,∀ q∈b8 ps cs,0<=T q + k * A.dl (St.take i) q)
  (q:∀ d H',Same H H'->H d=none->H' d=some (.dT (d8 (b8 ps cs) λ q=>T q + k * A.dl St q))->D.rt (.ref d) H'):a3y cl D [some (.ref h),some (.ref tb),some (.ref r),some (.int k),none,none,none] H:=by
 have hz:=sz
 obtain⟨_,_,_,_,dx,_,_,_,_,e1,_⟩:=id hh
 have ln:(b8 ps cs).length<=225:=J9 hh.good hh.many
 have nd:(b8 ps cs).Nodup:=pl_nd hh.good hh.nms
 refine .inr (b6 λ d G1 n1 s1 t1=>?_)
 refine g8 (k8 (s1 _ _ e1) rfl ⟨h,ps,cs,rfl,hh.same s1,λ pp ws G2 s2 n2 t2 pw=>?_⟩)
 have pw:PairsAt G2 ws (b8 ps cs):=pw
 have npd:pp≠d:=λ z=>by rw[z,t1]at n2;cases n2
 have ntd:tb≠d:=λ z=>by rw[z,n1]at htb;cases htb
 have S2:=s1.trans s2
 refine f7 t2 (g7 (xs:=ws) (λ i Z G=>(Same H G/\G pp=some (.lst ws)/\PairsAt G ws (b8 ps cs))/\G d=some (.dT (d8 ((b8 ps cs).take i) T))/\∃ u,Z=[some (.ref h),some (.ref tb),some (.ref r),some (.int k),some (.ref d),u,none])
  ⟨⟨S2,t2,pw⟩,s2 _ _ t1,_,rfl⟩ (λ i Z G _ h=>h.1.2.1) ?_ ?_)
 ·rintro i y Z G hy ⟨⟨sm,hpp,pw⟩,hd,u,rfl⟩
  obtain⟨x,t,hx,rfl,ht⟩:=pw.at hy
  refine m4 (.inl (sm _ _ htb)) ht (hT x (List.mem_of_getElem? hx)) (E6 hd ht (by rw[j8,List.length_take];omega) ?_)
  rw[T2 (D4 nd hx),<- b9 hx]
  exact⟨⟨sm.put n1,by rw[a5 npd];exact hpp,B4 pw hd⟩,a6,_,rfl⟩
 rintro Z G ⟨⟨sm,_,_⟩,hd,u,rfl⟩
 rw[pw.1,List.take_length]at hd
 have nrd:r≠d:=λ z=>by rw[z,n1]at hr;cases hr
 refine g8 (f7 (sm _ _ hr) (g7 (xs:=zs) (λ i Z G'=>Same H G'/\G' d=some (.dT (d8 (b8 ps cs) λ q=>T q + k * A.dl (St.take i) q))/\∃ u v,Z=[some (.ref h),some (.ref tb),some (.ref r),some (.int k),some (.ref d),u,v])
  ⟨sm,by rw[hd,Y6 λ q _=>show T q=T q + k * A.dl (St.take 0) q by show T q=T q + k * 0;omega],_,_,rfl⟩ (λ i Z G' _ h=>h.1 _ _ hr) ?_ ?_))
 ·rintro i y Z G' hy ⟨sm',hd',u,v,rfl⟩
  obtain⟨st,hst,hs'⟩:=(hs.same sm').at hy
  obtain⟨sa,sx,rfl,hsa,hsx⟩:=hs'
  obtain⟨sy,rfl,hsy⟩:=hsx
  obtain⟨hpl,hw⟩:=hp st (List.mem_of_getElem? hst)
  refine⟨sa,_,rfl,.inl hsa,rfl,_,_,rfl,_,_,rfl,rfl,?_⟩
  have e2:∀ q,T q + k * A.dl (St.take (i + 1)) q=T q + k * A.dl (St.take i) q + if q=st.1 then st.2 * k else 0:=λ q=>by
   rw[b9 hst]
   unfold A.dl
   rw[A.sg_append]
   show T q + k * (_ + ((if st.1=q then st.2 else 0) + 0))=_
   by_cases z:q=st.1
   ·rw[if_pos z,if_pos z.symm,Int.mul_add,Int.add_zero,Int.mul_comm st.2 k];omega
   ·rw[if_neg z,if_neg (λ y=>z y.symm),Int.mul_add];omega
  have hv:=i6 (F:=λ q=>T q + k * A.dl (St.take i) q) hpl
  refine a4h hd' hsy hv ⟨.inl (.inl (by rcases hw with e | e <;> rw[e] <;> decide)),?_⟩
  refine E6 hd' hsy (by rw[j8];omega) ?_
  rw[Y5 hpl,Y6 λ q _=>show(if q=st.1 then T st.1 + k * A.dl (St.take i) st.1 + st.2 * k else T q + k * A.dl (St.take i) q)=T q + k * A.dl (St.take (i + 1)) q by
   rw[e2 q]
   by_cases z:q=st.1
   ·rw[if_pos z,if_pos z,z]
   ·rw[if_neg z,if_neg z];omega]
  have hn:upd G' d (.dT (d8 (b8 ps cs) λ q=>T q + k * A.dl (St.take (i + 1)) q)) d=some (.dT (d8 (b8 ps cs) λ q=>T q + k * A.dl (St.take (i + 1)) q)):=a6
  have smn:Same H (upd G' d (.dT (d8 (b8 ps cs) λ q=>T q + k * A.dl (St.take (i + 1)) q))):=sm'.put n1
  have hsn:upd G' d (.dT (d8 (b8 ps cs) λ q=>T q + k * A.dl (St.take (i + 1)) q)) sy=some (.tup [.str st.1.1,.str st.1.2]):=by
   rw[a5 λ z=>by rw[z,hd']at hsy;cases hsy];exact hsy
  generalize upd G' d _=G3 at *
  refine m4 (.inl hn) hsn (i6 hpl) (i8 (by have:=h0 (i + 1) st.1 hpl;simp only[decide_eq_false_iff_not];omega) ⟨smn,hn,_,_,rfl⟩)
 ·rintro Z G' ⟨sm',hd',u,v,rfl⟩
  rw[hs.1,List.take_length]at hd'
  exact q d G' sm' n1 hd'
end
end R3
namespace A
section
variable {S:Type}[BEq S][LawfulBEq S][DecidableEq S]{al:S}{ps:List (S×S)}{cs:List S}{P:List (S×S)}{kn kn2:S×S->Bool}{f T T':S×S->Int}{p:S×S}{w v:Int}
end
end A
namespace S3
open Nu
section
variable {K:PySem.W.Frag}
end
section
variable {K:PySem.W.Frag}
end
theorem mem_pl {L C:List Str}{a b:Str}:(a,b)∈d5 L C↔a∈L/\b∈C:=by
 unfold d5
 rw[List.mem_flatMap]
 constructor
 ·rintro⟨x,hx,h⟩
  obtain⟨y,hy,e⟩:=List.mem_map.mp h
  cases e
  exact⟨hx,hy⟩
 ·rintro⟨h1,h2⟩
  exact⟨a,h1,List.mem_map.mpr ⟨b,h2,rfl⟩⟩
theorem a5r {a:Addr}{ys:List V}(f:V->V){tn:List Str}{fr:List (Str×Nat)}{g:TG}{tt:TT}{te:TE}{Z:St}{H:Hp}{Q:VK}(ha:H a=some (.lst ys))(hz:ys.length < sizeLine)
  (turn:∀ (i:Nat) (x:V),ys[i]?=some x->∀ (G:Hp) (k:VK) (B:Hp->Prop),Same H G->(∀ G',Same G G'->k (f x) G')->g x (inn tn fr Z) G λ σ2 G2=>tt σ2 G2 λ b G3=>br b (te σ2 G3 k) (B G3))
  (fin:∀ p G,H p=none->Same H G->G p=some (.lst (ys.map f))->Q (.ref p) G):y7 (Itl0 a) tn fr g tt te Z H Q:=by
 unfold y7
 intro p hp
 refine⟨λ i m G=>m=ys.length - i/\i<=ys.length/\Same H G/\G p=some (.lst ((ys.take i).map f)),⟨_,rfl,Nat.zero_le _,p7 hp,a6⟩,?_⟩
 rintro i m G ⟨rfl,hi,sm,hg⟩
 have hy:=sm _ _ ha
 by_cases hlt:i < ys.length
 ·refine .inr ⟨⟨ys,ys[i],.inl hy,by simp[hlt]⟩,λ G'=>Same H G'/\G' p=some (.lst ((ys.take (i + 1)).map f)),λ G' h=>⟨_,by omega,rfl,hlt,h⟩,λ x G' y=>?_⟩
  obtain⟨rfl,y⟩:=y
  have hx:=y ys (.inl hy)
  refine turn i x hx _ _ _ sm λ G2 s2=>⟨_,s2 _ _ hg,?_,(sm.trans s2).put hp,?_⟩
  ·rw[List.length_map,List.length_take]
   omega
  ·rw[a6,b9 hx,List.map_append]
   rfl
 ·have e:i=ys.length:=by omega
  subst e
  rw[List.take_length]at hg
  exact .inl ⟨⟨ys,.inl hy,Nat.le_refl _⟩,fin p G hp sm hg⟩
theorem ints_map (l:List Int):J7 (l.map V.int)=some l:=by
 induction l with
 | nil=>rfl
 | cons x r ih=>
  show(match J7 (r.map V.int) with
   | some l=>some (x::l)
   | none=>none)=_
  rw[ih]
theorem sum_i {p:Addr}{l:List Int}{H:Hp}{Q:VK}(h:H p=some (.lst (l.map V.int)))(q:Q (.int l.sum) H):sumG [.ref p] H Q:=by
 unfold sumG
 simp only[h,ints_map]
 exact q
theorem sum_sg {α:Type}(l:List α)(f:α->Int):(l.map f).sum=A.sg l f:=by
 induction l with
 | nil=>rfl
 | cons x r ih=>rw[List.map_cons,List.sum_cons,ih];rfl
end S3
namespace S7
open Nu S3 R3
section
variable {cl cw:Addr}
end
theorem a3z:∀ l:List Int,J7 (l.map V.int)=some l
 | []=>rfl
 | x::r=>by
  show(match J7 (r.map V.int) with | some l=>some (x::l) | none=>none)=_
  rw[a3z r]
theorem uni_sm {ps:List (Str×Str)}{cs:List Str}{O:List (Str×Str)}(g:Good ps)(cn:Nms cs)(hO:∀ q∈O,q∈b8 ps cs){one:A.Sm Str}(h:one∈uni ps O):A.IsSm ("all" : Str) ps cs one:=by
 obtain⟨⟨q,w'⟩,hb,e⟩:=List.mem_map.mp h
 obtain⟨q',hq',hm⟩:=List.mem_flatMap.mp hb
 rw[<- e]
 have hq2:=place_is.mp (hO q' hq')
 have:q=q'/\(w'=1\/w'=-1):=by
  simp only[List.mem_cons,Prod.mk.injEq,List.not_mem_nil,or_false]at hm
  rcases hm with⟨a,b⟩ | ⟨a,b⟩
  ·exact⟨a,.inl b⟩
  ·exact⟨a,.inr b⟩
 obtain⟨rfl,hw'⟩:=this
 show A.IsSm _ _ _ (gw ps q w')
 unfold gw A.gW
 rcases hw' with rfl | rfl
 ·rw[if_pos rfl];exact(A.gP_sm (Good.gd g) (F8 cn) hq2).1
 ·rw[if_neg (by decide)];exact(A.gM_sm (Good.gd g) (F8 cn) hq2).1
section
variable {cl cw:Addr}
end
end S7
namespace A
section
variable {S:Type}[BEq S][LawfulBEq S][DecidableEq S]
variable {al:S}{ps:List (S×S)}{cs:List S}
end
end A
namespace S3
open Nu
end S3
namespace S5
open Nu S3
section
variable {K:PySem.W.Frag}
end
end S5
section
variable {X:Cx}
end
namespace S3
open Nu
end S3
namespace S5
open Nu S3
theorem itemsQ_i {a:Addr}{kvs:List (List Key×V)}{H:Hp}{R:It->Hp->Th->Prop}(h:H a=some (.dT kvs))(q:∀ o,R (Itq a o kvs) (upd H a (.frz o (.dT kvs))) (some (a,.dT kvs))):J8 (.ref a) H R:=by
 unfold J8
 simp only[h]
 exact q
end S5
namespace A
section
variable {S:Type}[BEq S][LawfulBEq S][DecidableEq S]{al:S}{ps:List (S×S)}{cs:List S}{T:S×S->Int}
theorem sums_dn (h:B5 al ps cs T){n c:S}(h1:IsSm al ps cs (.dn n c)):T (n,c)=sg (bel ps n) λ m=>T (m,c):=by
 have:=h _ h1
 unfold A2 at this
 simp only[sg]at this
 rw[a0u,E4]at this
 dsimp only at this
 by_cases e:c=al
 ·rw[if_pos e]at this;omega
 ·rw[if_neg e]at this;omega
theorem sums_ac (h:B5 al ps cs T){n:S}(h1:IsSm al ps cs (.ac n)):T (n,al)=sg cs λ c=>T (n,c):=by
 have:=h _ h1
 unfold A2 at this
 simp only[sg]at this
 rw[a0u,E4]at this
 dsimp only at this
 by_cases e:n=al
 ·rw[if_pos e]at this;omega
 ·rw[if_neg e]at this;omega
end
end A
open PySem PySem.Spec PyProof.Rows L2
namespace R3
open Nu S3
theorem comp_dT {a:Addr}{o:Obj}{kvs:List (List Key×V)}{tn:List Str}{fr:List (Str×Nat)}{g:TG}{tt:TT}{te:TE}{Z:St}{H:Hp}{Q:VK}(f:List Key×V->Option V)(ha:H a=some (.frz o (.dT kvs)))(hz:kvs.length < sizeLine)
  (turn:∀ (i:Nat) (kv:List Key×V) (t:Addr),kvs[i]?=some kv->∀ (G:Hp) (k:Option V->Hp->Prop),Same H G->G t=some (.tup (kv.1.map kV))->k (f kv) G->g (.ref t) (inn tn fr Z) G λ σ2 G2=>tt σ2 G2 λ b G3=>br b (te σ2 G3 λ y G4=>k (some y) G4) (k none G3))
  (fin:∀ p G,H p=none->Same H G->G p=some (.lst (kvs.filterMap f))->Q (.ref p) G):y7 (Itdt a o kvs) tn fr g tt te Z H Q:=by
 unfold y7
 intro p hp
 refine⟨λ i m G=>m=kvs.length - i/\i<=kvs.length/\Same H G/\G p=some (.lst ((kvs.take i).filterMap f)),⟨_,rfl,Nat.zero_le _,p7 hp,by simp[a6]⟩,?_⟩
 rintro i m G ⟨rfl,hi,sm,hg⟩
 have q:=sm _ _ ha
 by_cases hlt:i < kvs.length
 ·refine .inr ⟨⟨q,hlt⟩,λ G'=>Same H G'/\G' p=some (.lst ((kvs.take (i + 1)).filterMap f)),λ G' h=>⟨_,by omega,rfl,hlt,h⟩,?_⟩
  rintro x G' ⟨rfl,k,v,t,hx,rfl,ht⟩
  have hlen:((kvs.take i).filterMap f).length < sizeLine:=by
   have:=List.length_filterMap_le f (kvs.take i)
   have h2:=List.length_take_le i kvs
   omega
  refine turn i (k,v) t hx _ (λ r G4=>match r with
   | some y=>∃ ys,G4 p=some (.lst ys)/\ys.length < sizeLine/\Same H (upd G4 p (.lst (ys++[y])))/\(upd G4 p (.lst (ys++[y]))) p=some (.lst ((kvs.take (i + 1)).filterMap f))
   | none=>Same H G4/\G4 p=some (.lst ((kvs.take (i + 1)).filterMap f))) sm ht ?_
  cases e:f (k,v) with
  | none=>
   refine⟨sm,?_⟩
   rw[b9 hx,List.filterMap_append]
   simpa[e] using hg
  | some y=>
   refine⟨_,hg,hlen,sm.put hp,?_⟩
   rw[a6,b9 hx,List.filterMap_append]
   simp[e]
 ·have e:i=kvs.length:=by omega
  subst e
  rw[List.take_length]at hg
  exact .inl ⟨⟨q,Nat.le_refl _⟩,fin p G hp sm hg⟩
def l7:Sp:=λ vs H Q _=>∃ n:Int,vs=[.int n]/\0<=n/\Q (.bl true) H
def a0I:TS:=
 (f9 (a1D (d3 F5 [] E0 (a0 (gv 0) a7)) (tOp geG (gv 0) (tC (.int 0)))))
theorem a5s {n:Int}{H:Hp}{D:Ends}(h0:0<=n)(q:D.rt (.bl true) H):a0I D [some (.int n)] H:=by
 refine⟨.int n, "int",rfl,rfl,m5 (by decide +kernel) ?_⟩
 show D.rt (.bl (decide (0<=n))) H
 rw[decide_eq_true h0]
 exact q
theorem lenD_i {p:Addr}{kvs:List (List Key×V)}{H:Hp}{Q:VK}(h:H p=some (.dT kvs))(q:Q (.int kvs.length) H):lenH p H Q:=by
 unfold lenH
 simp only[h]
 exact q
theorem dg1_i {d t:Addr}{a b:Str}{v:V}{kvs:List (List Key×V)}{H:Hp}{Q:VK}(h:H d=some (.dT kvs))(ht:H t=some (.tup [.str a,.str b]))(hv:d6 kvs (plK a b)=some v)(q:Q v H):a0D (.ref d) [.ref t] H Q:=by
 unfold a0D
 simp only[a1k h ht,hv]
 exact q
section
variable {cl:Addr}
def J2 (cl:Addr):Sp:=λ vs H Q _=>∃ (h d:Addr) (ps:List (Str×Str)) (cs:List Str) (F:Str×Str->Int),vs=[.ref h,.ref d]/\HouseAt cl H h ps cs/\H d=some (.dT (d8 (b8 ps cs) F))/\A.B5 ("all" : Str) ps cs F/\∀ H',Same H H'->Q (.bl true) H'
def a0J (cl:Addr):TS:=
 (b7 (v5 (iOf d9 (tOp o8 (j6 (a0 (tC (.str "all")) a7)) (i9 cl "parts" (x0 cl) E0 (gv 0) a7))) (a8 2)
  (b7 (d7 (i9 cl "beneath" (m3 cl) E0 (gv 0) (a0 (gv 2) a7)) (a8 3))
  (v5 (iOf d9 (tOp o8 (i9 cl "columns" (i7 cl) E0 (gv 0) a7) (j6 (a0 (tC (.str "all")) a7)))) (a8 4)
   (b7 (d7 (tCB sumG (a0 (o0 (iOf d9 (gv 3)) ["lower"] [("column",4),("numbers",1)] (a8 0) a0k (tOp e8 (gv 2) (k9 (a0 (gv 0) (a0 (gv 1) a7))))) a7)) (a8 5))
   (sIf (X1 (ptG (gv 3)) (bT (tOp neG (tOp e8 (gv 1) (k9 (a0 (gv 2) (a0 (gv 4) a7)))) (gv 5))))
    (f9 (tC (.bl false)))
    g6)))))
 (f9 (tC (.bl true))))
def U4 (cl:Addr):TS:=
 (b7 (v5 (iOf d9 (tOp o8 (j6 (a0 (tC (.str "all")) a7)) (i9 cl "rows" (B6 cl) E0 (gv 0) a7))) (a8 2)
  (b7 (d7 (tCB sumG (a0 (o0 (iOf d9 (i9 cl "columns" (i7 cl) E0 (gv 0) a7)) ["column"] [("numbers",1),("part",2)] (a8 0) a0k (tOp e8 (gv 1) (k9 (a0 (gv 2) (a0 (gv 0) a7))))) a7)) (a8 3))
  (sIf (bT (tOp neG (tOp e8 (gv 1) (k9 (a0 (gv 2) (a0 (tC (.str "all")) a7)))) (gv 3)))
   (f9 (tC (.bl false)))
   g6)))
 (f9 (tC (.bl true))))
theorem a5t {h d:Addr}{ps:List (Str×Str)}{cs:List Str}{F:Str×Str->Int}{H:Hp}{D:Ends}(hh:HouseAt cl H h ps cs)(hd:H d=some (.dT (d8 (b8 ps cs) F)))(hF:A.B5 ("all" : Str) ps cs F)(q:∀ H',Same H H'->D.rt (.bl true) H'):a0J cl D [some (.ref h),some (.ref d),none,none,none,none] H:=by
 have hs:=sz
 have g2:=hh.good.many
 have h8:=hh.many
 obtain⟨_,_,_,_,dx,_,_,_,_,e1,_⟩:=id hh
 have ln:(b4 ps).length=ps.length:=List.length_map ..
 refine g8 ⟨few rfl,b6 λ r1 G2 n2 s2 t2=>k8 (s2 _ _ e1) rfl ⟨h,ps,cs,rfl,hh.same s2,λ r2 G3 s3 n3 t3=>C5 (s3 _ _ t2) t3 (by simp;omega) (b6 λ r3 G4 n4 s4 t4=>?_)⟩⟩
 have e4:([V.str "all"]++sts (b4 ps))=sts ("all" :: b4 ps):=rfl
 rw[e4]at t4
 have s24:=(s2.trans s3).trans s4
 refine f7 t4 (g7 (xs:=sts ("all" :: b4 ps)) (λ i Z G=>(Same H G/\G r3=some (.lst (sts ("all" :: b4 ps))))/\∃ u v w x,Z=[some (.ref h),some (.ref d),u,v,w,x])
  ⟨⟨s24,t4⟩,_,_,_,_,rfl⟩ (λ i Z G _ h=>h.1.2) ?_ ?_)
 ·rintro i y Z G hy ⟨⟨sm,hr⟩,u,v,w,x,rfl⟩
  obtain⟨z,hz,rfl⟩:=y3 hy
  have hk:z∈m8 ps:=List.mem_of_getElem? hz
  refine k8 (sm _ _ e1) rfl ⟨h,ps,cs,z,rfl,hh.same sm,hk,λ b G5 s5 n5 t5=>?_⟩
  have sm5:=sm.trans s5
  refine g8 (k8 (sm5 _ _ e1) rfl ⟨h,ps,cs,rfl,hh.same sm5,λ c1 G6 s6 n6 t6=>⟨few rfl,b6 λ c2 G7 n7 s7 t7=>C5 (s7 _ _ t6) t7 (by simp;omega) (b6 λ c3 G8 n8 s8 t8=>?_)⟩⟩)
  rw[K6]at t8
  have s68:=(s6.trans s7).trans s8
  refine f7 t8 (g7 (xs:=sts (cs++[("all" : Str)])) (λ j Z G'=>(Same G8 G')/\∃ w x,Z=[some (.ref h),some (.ref d),some (.str z),some (.ref b),w,x])
   ⟨Same.refl G8,_,_,rfl⟩ (λ j Z G' _ h=>h.1 _ _ t8) ?_ ?_)
  ·rintro j y Z G' hy' ⟨sm',w,x,rfl⟩
   obtain⟨c,hc,rfl⟩:=y3 hy'
   have hcm:=List.mem_of_getElem? hc
   have S5:=s68.trans sm'
   have SH:=sm5.trans S5
   have hdG:=SH _ _ hd
   have hb:G' b=some (.lst (sts (f8 ps z))):=S5 _ _ t5
   have inb:∀ m∈f8 ps z,(m,c)∈b8 ps cs:=λ m hm=>mem_pl.mpr ⟨List.mem_cons_of_mem _ (by
    have:=(A.mem_bel (ps:=ps)).mp hm
    exact List.mem_map.mpr ⟨_,this,rfl⟩),hcm⟩
   refine A0 (f7 hb (a5r (λ v=>match v with
    | .str m=>.int (F (m,c))
    | _=>.non) hb (by
     have:(f8 ps z).length<=ps.length:=by unfold f8;rw[List.length_map];exact List.length_filter_le ..
     simp;omega) ?_ ?_))
   ·intro j2 y2 hj2 G9 k B s9 hk9
    obtain⟨m,hm,rfl⟩:=y3 hj2
    exact m5 rfl ⟨few rfl,b6 λ t G10 n10 s10 t10=>m4 (.inl ((s9.trans s10) _ _ hdG)) t10 (i6 (inb m (List.mem_of_getElem? hm))) (hk9 G10 s10)⟩
   intro pl G9 n9 s9 t9
   have e9:((sts (f8 ps z)).map λ v=>match v with
    | .str m=>V.int (F (m,c))
    | _=>.non)=((f8 ps z).map λ m=>F (m,c)).map V.int:=by
    rw[show sts (f8 ps z)=(f8 ps z).map V.str from rfl,List.map_map,List.map_map]
    rfl
   rw[e9]at t9
   refine sum_i t9 ?_
   rw[sum_sg]
   refine a3Z (s9 _ _ hb) ?_
   by_cases hb0:f8 ps z=[]
   ·rw[hb0]
    exact i8 rfl (i8 rfl ⟨sm'.trans s9,_,_,rfl⟩)
   ·refine m5 (by cases hx:f8 ps z with
     | nil=>exact(hb0 hx).elim
     | cons a r=>rfl) ⟨few rfl,b6 λ t G10 n10 s10 t10=>m4 (.inl ((s9.trans s10) _ _ hdG)) t10 (i6 (p:=(z,c)) (mem_pl.mpr ⟨hk,hcm⟩)) ?_⟩
    have key:F (z,c)=A.sg (f8 ps z) λ m=>F (m,c):=A.sums_dn hF (.dn z c (by
     rcases List.mem_cons.mp hk with e | e
     ·exact .inl e
     ·exact .inr e) hb0 (by
     rcases List.mem_append.mp hcm with e | e
     ·exact .inr e
     ·exact .inl (List.mem_singleton.mp e)))
    show br (!decide _) _ _
    rw[<- key]
    exact i8 (by simp) ⟨sm'.trans (s9.trans s10),_,_,rfl⟩
  ·rintro Z G' ⟨sm',w,x,rfl⟩
   exact⟨⟨sm5.trans (s68.trans sm'),(s5.trans (s68.trans sm')) _ _ hr⟩,_,_,_,_,rfl⟩
 ·rintro Z G ⟨⟨sm,hr⟩,u,v,w,x,rfl⟩
  exact q G sm
theorem a2L {h d:Addr}{ps:List (Str×Str)}{cs:List Str}{F:Str×Str->Int}{H:Hp}{D:Ends}(hh:HouseAt cl H h ps cs)(hd:H d=some (.dT (d8 (b8 ps cs) F)))(hF:A.B5 ("all" : Str) ps cs F)(q:∀ H',Same H H'->D.rt (.bl true) H'):U4 cl D [some (.ref h),some (.ref d),none,none] H:=by
 have hs:=sz
 have g2:=hh.good.many
 have h8:=hh.many
 obtain⟨_,_,_,_,dx,_,_,_,_,e1,_⟩:=id hh
 have lr:=a2h (ps:=ps)
 refine g8 ⟨few rfl,b6 λ r1 G2 n2 s2 t2=>k8 (s2 _ _ e1) rfl ⟨h,ps,cs,rfl,hh.same s2,λ r2 G3 s3 n3 t3=>C5 (s3 _ _ t2) t3 (by simp;omega) (b6 λ r3 G4 n4 s4 t4=>?_)⟩⟩
 have e4:([V.str "all"]++sts (b5 ps))=sts ("all" :: b5 ps):=rfl
 rw[e4]at t4
 have s24:=(s2.trans s3).trans s4
 refine f7 t4 (g7 (xs:=sts ("all" :: b5 ps)) (λ i Z G=>(Same H G/\G r3=some (.lst (sts ("all" :: b5 ps))))/\∃ u v,Z=[some (.ref h),some (.ref d),u,v])
  ⟨⟨s24,t4⟩,_,_,rfl⟩ (λ i Z G _ h=>h.1.2) ?_ ?_)
 ·rintro i y Z G hy ⟨⟨sm,hr⟩,u,v,rfl⟩
  obtain⟨z,hz,rfl⟩:=y3 hy
  have hzm:=List.mem_of_getElem? hz
  have hrow:z = "all" \/ (z∈ps.map (·.1)/\f8 ps z=[]):=by
   rcases List.mem_cons.mp hzm with e | e
   ·exact .inl e
   ·have:=List.mem_filter.mp e
    exact .inr ⟨this.1,List.isEmpty_iff.mp this.2⟩
  have hk:z∈(("all" : Str)::b4 ps):=by
   rcases hrow with e | e
   ·simp[e]
   ·exact List.mem_cons_of_mem _ e.1
  refine A0 (k8 (sm _ _ e1) rfl ⟨h,ps,cs,rfl,hh.same sm,λ c1 G5 s5 n5 t5=>?_⟩)
  have sm5:=sm.trans s5
  refine f7 t5 (a5r (λ v=>match v with
    | .str c=>.int (F (z,c))
    | _=>.non) t5 (by simp;omega) ?_ ?_)
  ·intro j2 y2 hj2 G9 k B s9 hk9
   obtain⟨c,hc,rfl⟩:=y3 hj2
   exact m5 rfl ⟨few rfl,b6 λ t G10 n10 s10 t10=>m4 (.inl ((sm5.trans (s9.trans s10)) _ _ hd)) t10 (i6 (p:=(z,c)) (mem_pl.mpr ⟨hk,List.mem_append_left _ (List.mem_of_getElem? hc)⟩)) (hk9 G10 s10)⟩
  intro pl G9 n9 s9 t9
  have e9:((sts cs).map λ v=>match v with
   | .str c=>V.int (F (z,c))
   | _=>.non)=(cs.map λ c=>F (z,c)).map V.int:=by
   rw[show sts cs=cs.map V.str from rfl,List.map_map,List.map_map]
   rfl
  rw[e9]at t9
  refine sum_i t9 ?_
  rw[sum_sg]
  refine⟨few rfl,b6 λ t G10 n10 s10 t10=>m4 (.inl ((sm5.trans (s9.trans s10)) _ _ hd)) t10 (i6 (p:=(z,("all" : Str))) (mem_pl.mpr ⟨hk,by simp⟩)) ?_⟩
  have key:F (z,("all" : Str))=A.sg cs λ c=>F (z,c):=A.sums_ac hF (.ac z hrow)
  show br (!decide _) _ _
  rw[<- key]
  exact i8 (by simp) ⟨⟨sm5.trans (s9.trans s10),(s5.trans (s9.trans s10)) _ _ hr⟩,_,_,rfl⟩
 ·rintro Z G ⟨⟨sm,hr⟩,u,v,rfl⟩
  exact q G sm
def J3 (cl:Addr):Sp:=λ vs H Q _=>∃ (h d:Addr) (ps:List (Str×Str)) (cs:List Str) (F:Str×Str->Int),vs=[.ref h,.ref d]/\HouseAt cl H h ps cs/\H d=some (.dT (d8 (b8 ps cs) F))/\A.B5 ("all" : Str) ps cs F/\(∀ p∈b8 ps cs,0<=F p)/\∀ H',Same H H'->Q (.bl true) H'
end
end R3
namespace A
section
variable {S:Type}[BEq S][LawfulBEq S][DecidableEq S]{al:S}{ps:List (S×S)}{cs:List S}{P:List (S×S)}{f T T':S×S->Int}{p:S×S}{w v B:Int}
theorem sg_dvd {α:Type}{l:List α}{g:α->Int}(h:∀ x∈l,B ∣ g x):B ∣ sg l g:=by
 induction l with
 | nil=>exact Int.dvd_zero _
 | cons b r ih=>exact Int.dvd_add (h b (by simp)) (ih λ x hx=>h x (by simp[hx]))
theorem a5u (g:Gd al ps)(hc:(cs++[al]).Nodup)(hd:P.Nodup)(hP:∀ q,q∈P↔IsPl al ps cs q)(hT:B5 al ps cs T)(h0:∀ q∈P,0<=T q)(hp:p∈P)(hu:¬ B ∣ T p)
  {M:List (Sm S)}(hM:∀ one∈M,IsSm al ps cs one)(nd:M.Nodup)(h1:gW al ps p (-1)∈M)(h2:gW al ps p 1∉M)
  (cl:∀ q∈P,¬ B ∣ T q->q≠p->∀ w':Int,(w'=1\/w'=-1)->(w'=1\/1<=T q)->gW al ps q w'∈M->gW al ps q (-1 * w')∈M):False:=by
 have gp:∀ q,gW al ps q 1=gP al ps q:=λ q=>by unfold gW;rw[if_pos rfl]
 have gm:∀ q,gW al ps q (-1)=gM al ps q:=λ q=>by unfold gW;rw[if_neg (by decide)]
 have tot:=total_of g hT hd (λ q h=>(hP q).mpr h) hM
 have e:sg P (λ q=>cnt al ps cs M q.1 q.2 * T q)=sg P (λ q=>(if q=p then -1 * T p else 0) + (if q≠p then cnt al ps cs M q.1 q.2 * T q else 0)):=l6 λ q hq=>by
  by_cases e1:q=p
  ·subst e1
   rw[cnt_g g hc ((hP q).mp hp) hM nd,<- gp,<- gm,if_neg h2,if_pos h1]
   simp
  ·simp[e1]
 rw[a0v,V4 hd hp,tot]at e
 have dv:B ∣ sg P (λ q=>if q≠p then cnt al ps cs M q.1 q.2 * T q else 0):=sg_dvd λ q hq=>by
  by_cases c:q≠p
  ·rw[if_pos c]
   by_cases u:B ∣ T q
   ·exact Int.dvd_mul_of_dvd_right u
   ·have t1:1<=T q:=by
     have:=h0 q hq
     have:T q≠0:=λ z=>u (by rw[z];exact Int.dvd_zero _)
     omega
    have c1:=cl q hq u c 1 (.inl rfl) (.inl rfl)
    have c2:=cl q hq u c (-1) (.inr rfl) (.inr t1)
    rw[gp,show(-1 * 1:Int)=-1 by decide,gm]at c1
    rw[gm,show(-1 * -1:Int)=1 by decide,gp]at c2
    rw[cnt_g g hc ((hP q).mp hq) hM nd]
    by_cases a:gP al ps q∈M
    ·rw[if_pos a,if_pos (c1 a)];simp
    ·rw[if_neg a,if_neg λ b=>a (c2 b)];simp
  ·rw[if_neg c];exact Int.dvd_zero _
 refine hu ?_
 have:T p=sg P (λ q=>if q≠p then cnt al ps cs M q.1 q.2 * T q else 0):=by omega
 rw[this]
 exact dv
structure Near (B n m:Int):Prop where
 lo:n - n % B<=m
 hi:m<=n - n % B + B
 ev:B ∣ n->m=n
 un:¬ B ∣ m->n - n % B < m/\m < n - n % B + B
theorem Near.refl (hB:1<=B)(n:Int):Near B n n:=by
 have h1:=Int.emod_nonneg n (b:=B) (by omega)
 have h2:=Int.emod_lt_of_pos n (b:=B) (by omega)
 refine⟨by omega,by omega,λ _=>rfl,λ h=>⟨?_,by omega⟩⟩
 have:n % B≠0:=λ z=>h (Int.dvd_of_emod_eq_zero z)
 omega
theorem Y7 (n:Int):B ∣ n - n % B:=⟨n / B,by have:=Int.emod_add_mul_ediv n B;omega⟩
theorem a5v {n m:Int}(hB:1<=B)(h:n - n % B<=m)(h2:m < n - n % B + B):m % B=m - (n - n % B):=by
 have d:(m - (m - (n - n % B))) % B=0:=by
  rw[show m - (m - (n - n % B))=n - n % B by omega]
  exact Int.emod_eq_zero_of_dvd (Y7 n)
 have e:m % B=(m - (n - n % B)) % B:=by
  have:=Int.emod_emod_of_dvd
  have e1:m=(m - (n - n % B)) + (n - n % B):=by omega
  obtain⟨c,hc⟩:=Y7 (B:=B) n
  rw[e1,hc,Int.add_mul_emod_self_left]
  congr 1
  omega
 rw[e,Int.emod_eq_of_lt (by omega) (by omega)]
theorem neg_mod {m:Int}(hB:1<=B)(h:¬ B ∣ m):-m % B=B - m % B:=by
 have h1:=Int.emod_nonneg m (b:=B) (by omega)
 have h2:=Int.emod_lt_of_pos m (b:=B) (by omega)
 have h3:m % B≠0:=λ z=>h (Int.dvd_of_emod_eq_zero z)
 have e:-m=(B - m % B) + B * (-(m / B) - 1):=by
  have:=Int.emod_add_mul_ediv m B
  rw[Int.mul_sub,Int.mul_neg]
  omega
 rw[e,Int.add_mul_emod_self_left,Int.emod_eq_of_lt (by omega) (by omega)]
theorem Near.step {n m k:Int}(hB:1<=B)(a:Near B n m)(u:¬ B ∣ m)(hw:w=1\/w=-1)(k0:0<=k)(hk:k<=(-w * m) % B):Near B n (m + k * w):=by
 obtain⟨l,r⟩:=a.un u
 have e:=a5v hB (by omega) r
 have nb:¬ B ∣ n:=λ z=>u (by rw[a.ev z];exact z)
 have fin:n - n % B<=m + k * w/\m + k * w<=n - n % B + B:=by
  rcases hw with rfl | rfl
  ·rw[show -1 * m=-m by omega,neg_mod hB u]at hk
   omega
  ·rw[show -(-1) * m=m by omega]at hk
   omega
 refine⟨fin.1,fin.2,λ z=>(nb z).elim,λ z=>⟨?_,?_⟩⟩
 ·have:m + k * w≠n - n % B:=λ y=>z (by rw[y];exact Y7 n)
  omega
 ·have:m + k * w≠n - n % B + B:=λ y=>z (by rw[y];exact Int.dvd_add (Y7 n) (Int.dvd_refl _))
  omega
theorem Near.done {n m:Int}(hB:1<=B)(a:Near B n m)(d:B ∣ m):(B ∣ n/\m=n)\/(¬ B ∣ n/\(m=n - n % B\/m=n - n % B + B)):=by
 by_cases h:B ∣ n
 ·exact .inl ⟨h,a.ev h⟩
 ·refine .inr ⟨h,?_⟩
  obtain⟨c,hc⟩:=Y7 (B:=B) n
  obtain⟨e,he⟩:=d
  have l:=a.lo
  have r:=a.hi
  by_cases z:m=n - n % B + B
  ·exact .inr z
  ·left
   have e1:=a5v hB l (by omega)
   rw[he,Int.mul_emod_right]at e1
   omega
theorem step_even {m:Int}(hw:w=1\/w=-1):B ∣ m + ((-w * m) % B) * w:=by
 rcases hw with rfl | rfl
 ·rw[Int.mul_one]
  have:=Int.emod_add_mul_ediv (-1 * m) B
  exact⟨-(-1 * m / B),by rw[Int.mul_neg];omega⟩
 ·have:=Int.emod_add_mul_ediv (-(-1) * m) B
  exact⟨(-(-1) * m / B),by omega⟩
end
end A
namespace S8
open Nu S3 R3
theorem a4i {P:List (Str×Str)}{F:Str×Str->Int}{i:Nat}{k:List Key}{v:V}(h:(d8 P F)[i]?=some (k,v)):∃ p,P[i]?=some p/\k=plK p.1 p.2/\v=.int (F p):=by
 unfold d8 at h
 rw[List.getElem?_map]at h
 obtain⟨p,h1,h2⟩:=Option.map_eq_some_iff.mp h
 cases h2
 exact⟨p,h1,rfl,rfl⟩
theorem comp_itq {a:Addr}{o:Obj}{P:List (Str×Str)}{F:Str×Str->Int}{tn:List Str}{fr:List (Str×Nat)}{g:TG}{tt:TT}{te:TE}{Z:St}{H:Hp}{Q:VK}(c:Str×Str->Bool)(ha:H a=some (.frz o (.dT (d8 P F))))(hz:P.length < sizeLine)
  (turn:∀ (p:Str×Str) (t pp:Addr),p∈P->∀ (G:Hp) (k:Option V->Hp->Prop),Same H G->G t=some (.tup [.str p.1,.str p.2])->G pp=some (.tup [.ref t,.int (F p)])->k (if c p=true then some (.ref t) else none) G->g (.ref pp) (inn tn fr Z) G λ σ2 G2=>tt σ2 G2 λ b G3=>br b (te σ2 G3 λ y G4=>k (some y) G4) (k none G3))
  (fin:∀ p zs G,H p=none->Same H G->G p=some (.lst zs)->PairsAt G zs (P.filter c)->Q (.ref p) G):y7 (Itq a o (d8 P F)) tn fr g tt te Z H Q:=by
 unfold y7
 intro p hp
 refine⟨λ i m G=>m=P.length - i/\i<=P.length/\Same H G/\∃ zs,G p=some (.lst zs)/\PairsAt G zs ((P.take i).filter c),⟨_,rfl,Nat.zero_le _,p7 hp,[],a6,.nil⟩,?_⟩
 rintro i m G ⟨rfl,hi,sm,zs,hg,pz⟩
 have q:=sm _ _ ha
 by_cases hlt:i < P.length
 ·refine .inr ⟨⟨q,by rw[j8];exact hlt⟩,λ G'=>Same H G'/\∃ zs,G' p=some (.lst zs)/\PairsAt G' zs ((P.take (i + 1)).filter c),λ G' h=>⟨_,by omega,rfl,hlt,h⟩,?_⟩
  rintro x G' ⟨k,v,t,pp,hx,rfl,ht,hpp,rfl⟩
  obtain⟨pl,h1,rfl,rfl⟩:=a4i hx
  have npp:p≠pp:=λ z=>by rw[z,hpp]at hg;cases hg
  have s2:Same G (upd G pp (.tup [.ref t,.int (F pl)])):=p7 hpp
  have hg2:=s2 _ _ hg
  have ht2:=s2 _ _ ht
  have pz2:=pz.same s2
  have sm2:=sm.trans s2
  have hp2:upd G pp (.tup [.ref t,.int (F pl)]) pp=some (.tup [.ref t,.int (F pl)]):=a6
  clear hpp
  generalize upd G pp (.tup [.ref t,.int (F pl)])=G2 at *
  have hlen:zs.length < sizeLine:=by
   rw[pz.1]
   have:=List.length_filter_le c (P.take i)
   have h2:=List.length_take_le i P
   omega
  have et:(P.take (i + 1)).filter c=(P.take i).filter c++(if c pl=true then[pl] else[]):=by
   rw[b9 h1,List.filter_append]
   congr 1
   by_cases e:c pl=true <;> simp[e]
  refine turn pl t pp (List.mem_of_getElem? h1) G2 (λ r G4=>match r with
   | some y=>∃ ys,G4 p=some (.lst ys)/\ys.length < sizeLine/\Same H (upd G4 p (.lst (ys++[y])))/\∃ zs,(upd G4 p (.lst (ys++[y]))) p=some (.lst zs)/\PairsAt (upd G4 p (.lst (ys++[y]))) zs ((P.take (i + 1)).filter c)
   | none=>Same H G4/\∃ zs,G4 p=some (.lst zs)/\PairsAt G4 zs ((P.take (i + 1)).filter c)) sm2 ht2 hp2 ?_
  by_cases e:c pl=true
  ·rw[if_pos e]
   rw[if_pos e]at et
   refine⟨zs,hg2,hlen,sm2.put hp,_,a6,?_⟩
   rw[et]
   refine PairsAt.put (PairsAt.snoc pz2 ht2) hg2
  ·rw[if_neg e]
   rw[if_neg e,List.append_nil]at et
   refine⟨sm2,zs,hg2,?_⟩
   rw[et]
   exact pz2
 ·have e:i=P.length:=by omega
  subst e
  rw[List.take_length]at pz
  exact .inl ⟨⟨q,by rw[j8];exact Nat.le_refl _⟩,fin p zs G hp sm hg pz⟩
def m9:Sp:=λ vs H Q _=>∃ n:Int,vs=[.int n]/\0<=n/\n<=10 ^ 18/\Q (.bl true) H
def a2o:TS:=
 (f9 (a1D (d3 l7 [] E0 (a0 (gv 0) a7)) (tOp leG (gv 0) (tOp powG (tC (.int 10)) (tC (.int 18))))))
theorem a6x {n:Int}{H:Hp}{D:Ends}(h0:0<=n)(h1:n<=10 ^ 18)(q:D.rt (.bl true) H):a2o D [some (.int n)] H:=by
 refine⟨n,rfl,h0,m5 (by decide +kernel) ?_⟩
 refine⟨?_,?_⟩
 ·exact⟨by decide,by decide,by decide +kernel⟩
 ·show D.rt (.bl (decide (n<=10 ^ 18))) H
  rw[decide_eq_true h1]
  exact q
def unev (B:Int)(F:Str×Str->Int)(p:Str×Str):Bool:=decide (F p % B≠0)
def L0:Sp:=λ vs H Q _=>∃ (d:Addr) (B:Int) (P:List (Str×Str)) (F:Str×Str->Int),vs=[.ref d,.int B]/\H d=some (.dT (d8 P F))/\P.length<=1000/\1<=B ∧
 ∀ p zs H',Same H H'->H p=none->H' p=some (.lst zs)->PairsAt H' zs (P.filter (unev B F))->Q (.ref p) H'
def O0:TS:=
 (f9 (o0 (iOf J8 (gv 0)) ["place", "number"] [("base",1)] (O3 2 (C7 (a8 0) (C7 (a8 1) gNil))) (bT (tOp neG (tOp z9 (gv 1) (gv 2)) (tC (.int 0)))) (gv 0)))
theorem r_uneven {d:Addr}{B:Int}{P:List (Str×Str)}{F:Str×Str->Int}{H:Hp}{D:Ends}(hd:H d=some (.dT (d8 P F)))(hP:P.length<=1000)(hB:1<=B)
  (q:∀ p zs H',Same H H'->H p=none->H' p=some (.lst zs)->PairsAt H' zs (P.filter (unev B F))->D.rt (.ref p) H'):O0 D [some (.ref d),some (.int B)] H:=by
 have hz:=sz
 refine A0 (S5.itemsQ_i hd λ o=>comp_itq (unev B F) a6 (by omega) ?_ ?_)
 ·intro p t pp hp G k sm ht hpp hk
  refine⟨pp,_,rfl,.inl hpp,rfl,_,_,rfl,_,_,rfl,rfl,?_⟩
  refine⟨by omega,?_⟩
  show br (!decide (F p % B=0)) (k (some (.ref t)) G) (k none G)
  unfold unev at hk
  by_cases e:F p % B=0
  ·rw[if_neg (by simp[e])]at hk
   exact i8 (by simp[e]) hk
  ·rw[if_pos (by simp[e])]at hk
   exact m5 (by simp[e]) hk
 ·intro p zs G n s tb pz
  refine⟨⟨o,s _ _ a6⟩,?_⟩
  have npd:p≠d:=λ z=>by rw[z,a6]at n;cases n
  obtain⟨n1,_⟩:=a1X n
  refine q p zs _ (B0 hd s) n1 (by rw[a5 npd];exact tb) ?_
  refine⟨pz.1,λ i r e=>?_⟩
  obtain⟨t,h1,h2⟩:=pz.2 i r e
  refine⟨t,h1,?_⟩
  rw[a5 λ z=>?_]
  ·exact h2
  ·rw[z,s _ _ a6]at h2
   cases h2
def wayM (B:Int)(T:Str×Str->Int)(st:(Str×Str)×Int):Int:=(-st.2 * T st.1) % B
def wgF (H:Hp)(B:Int)(T:Str×Str->Int):V->Option V
 | .ref t=>match H t with
  | some (.tup [.ref y,.int w])=>match H y with
   | some (.tup [.str a,.str b])=>some (.int (wayM B T ((a,b),w)))
   | _=>none
  | _=>none
 | _=>none
theorem wgF_at {H:Hp}{B:Int}{T:Str×Str->Int}{v:V}{p:Str×Str}{w:Int}(h:StepAt H v p w):wgF H B T v=some (.int (wayM B T (p,w))):=by
 obtain⟨t,x,rfl,h1,y,rfl,h2⟩:=h
 unfold wgF
 simp only[h1,h2]
theorem way_fm {H:Hp}{B:Int}{T:Str×Str->Int}:∀ {zs:List V}{St:List ((Str×Str)×Int)},StepsL H zs St->zs.filterMap (wgF H B T)=(St.map (wayM B T)).map V.int
 | [],[],_=>rfl
 | [],_::_,h=>by have:=h.1;simp at this
 | _::_,[],h=>by have:=h.1;simp at this
 | z::zs,st::St,h=>by
  obtain⟨v,h1,h2⟩:=h.2 0 st rfl
  have h1:z=v:=by simpa using h1
  subst h1
  have t:StepsL H zs St:=⟨by have:=h.1;simpa using this,λ i s e=>h.2 (i + 1) s e⟩
  rw[List.filterMap_cons,wgF_at h2,way_fm t]
  rfl
def a4k:Sp:=λ vs H Q _=>∃ (tb r:Addr) (B:Int) (tk:List (List Key×V)) (P:List (Str×Str)) (T:Str×Str->Int) (zs:List V) (St:List ((Str×Str)×Int)),vs=[.ref tb,.ref r,.int B]/\H tb=some (.dT tk)/\a0x tk P T/\H r=some (.lst zs)/\StepsL H zs St/\(∀ st∈St,st.1∈P/\(st.2=1\/st.2=-1))/\St.length<=1000/\St≠[]/\1<=B ∧
 ∀ n H',Same H H'->(∃ st∈St,wayM B T st=n)->(∀ st∈St,n<=wayM B T st)->Q (.int n) H'
def a0K:TS:=
 (f9 (tCB minG (a0 (o0 (iOf d9 (gv 1)) ["place", "way"] [("base",2),("table",0)] (O3 2 (C7 (a8 0) (C7 (a8 1) gNil))) a0k (tOp z9 (tOp U9 (tUn negG (gv 1)) (tOp e8 (gv 3) (gv 0))) (gv 2))) a7)))
theorem r_way {tb r:Addr}{B:Int}{tk:List (List Key×V)}{P:List (Str×Str)}{T:Str×Str->Int}{zs:List V}{St:List ((Str×Str)×Int)}{H:Hp}{D:Ends}(htb:H tb=some (.dT tk))(hT:a0x tk P T)(hr:H r=some (.lst zs))(hs:StepsL H zs St)(hp:∀ st∈St,st.1∈P/\(st.2=1\/st.2=-1))(hl:St.length<=1000)(hm:St≠[])(hB:1<=B)
  (q:∀ n H',Same H H'->(∃ st∈St,wayM B T st=n)->(∀ st∈St,n<=wayM B T st)->D.rt (.int n) H'):a0K D [some (.ref tb),some (.ref r),some (.int B)] H:=by
 have hz:=sz
 refine A0 (f7 hr (comp_l (wgF H B T) hr (by rw[hs.1];omega) ?_ ?_))
 ·intro i y hy G k sm hk
  obtain⟨st,hst,h1⟩:=hs.at hy
  have hm:=List.mem_of_getElem? hst
  rw[wgF_at h1]at hk
  obtain⟨sa,sx,rfl,hsa,hsx⟩:=StepAt.tk (TK.of sm) h1
  obtain⟨sy,rfl,hsy⟩:=id hsx
  refine⟨sa,_,rfl,.inl hsa,rfl,_,_,rfl,_,_,rfl,rfl,m5 rfl (m4 (.inl (sm _ _ htb)) hsy (hT st.1 (hp st hm).1) ?_)⟩
  refine⟨.inl (.inl ?_),⟨by omega,hk⟩⟩
  rcases (hp st hm).2 with e | e <;> rw[e] <;> decide
 ·intro pb G n s tb'
  rw[way_fm hs]at tb'
  refine min_i tb' (S7.a3z _) (λ z=>hm (List.map_eq_nil_iff.mp z)) λ n hn hall=>?_
  obtain⟨st,h1,h2⟩:=List.mem_map.mp hn
  exact q n G s ⟨st,h1,h2⟩ λ st' h5=>hall _ (List.mem_map.mpr ⟨st',h5,rfl⟩)
theorem unev_t {B:Int}{F:Str×Str->Int}{p:Str×Str}:unev B F p=true↔¬ B ∣ F p:=by
 unfold unev
 rw[decide_eq_true_iff]
 exact⟨λ h z=>h (Int.emod_eq_zero_of_dvd z),λ h z=>h (Int.dvd_of_emod_eq_zero z)⟩
theorem a5w {ps:List (Str×Str)}{cs:List Str}{B:Int}{T:Str×Str->Int}{O:List (Str×Str)}{p:Str×Str}(g:Good ps)(cn:Nms cs)(hO:∀ q,q∈O↔q∈b8 ps cs/\¬ B ∣ T q)(hp:p∈O)(sT:A.B5 ("all" : Str) ps cs T)(h0:∀ q∈b8 ps cs,0<=T q)(nr:a4g ps O p 1 T):False:=by
 rcases nr with n | ⟨Ln,nd,sub,h1,h2,cl⟩
 ·exact n (.inl rfl)
 unfold Clos at cl
 rw[List.take_length]at cl
 refine A.a5u (B:=B) (Good.gd g) (F8 cn) (pl_nd g cn) (λ q=>place_is) sT h0 ((hO p).mp hp).1 ((hO p).mp hp).2 (λ one ho=>S7.uni_sm g cn (λ q hq=>((hO q).mp hq).1) (sub one ho)) nd h1 h2 λ q hq hu hne w' hw' hc hin=>?_
 exact cl _ hin q ((hO q).mpr ⟨hq,hu⟩) w' hw' hne hc rfl
structure Rd1 (ps:List (Str×Str)) (cs:List Str) (B:Int) (T F:Str×Str->Int):Prop where
 sm:A.B5 ("all" : Str) ps cs F
 nn:∀ q∈b8 ps cs,0<=F q
 nr:∀ q∈b8 ps cs,A.Near B (T q) (F q)
theorem near_nn {B n m:Int}(hB:1<=B)(h:0<=n)(a:A.Near B n m):0<=m:=by
 have:=a.lo
 have h1:n % B<=n:=by
  have:=Int.emod_add_mul_ediv n B
  have:=Int.mul_nonneg (show 0<=B by omega) (Int.ediv_nonneg h (show 0<=B by omega))
  omega
 omega
theorem turn_near {ps:List (Str×Str)}{cs:List Str}{B n:Int}{T F:Str×Str->Int}{O:List (Str×Str)}{p:Str×Str}{St:List ((Str×Str)×Int)}(g:Good ps)(cn:Nms cs)(hB:1<=B)(h0:∀ q∈b8 ps cs,0<=T q)(R:Rd1 ps cs B T F)(hO:∀ q,q∈O↔q∈b8 ps cs/\¬ B ∣ F q)(rg:RingL ps O p 1 F St)
  (n1:∃ st∈St,wayM B F st=n)(n2:∀ st∈St,n<=wayM B F st):
  (∀ i,∀ q∈b8 ps cs,0<=F q + n * A.dl (St.take i) q)/\Rd1 ps cs B T (λ q=>F q + n * A.dl St q)/\(∀ q∈b8 ps cs,B ∣ F q->B ∣ F q + n * A.dl St q)/\∃ q∈b8 ps cs,¬ B ∣ F q/\B ∣ F q + n * A.dl St q:=by
 obtain⟨R',eR,wR⟩:=rg.ex
 obtain⟨st1,m1,m2⟩:=n1
 have nn:0<=n:=by rw[<- m2];exact Int.emod_nonneg _ (by omega)
 have near:∀ i,∀ q∈b8 ps cs,A.Near B (T q) (F q + n * A.dl (St.take i) q):=λ i q hq=>by
  by_cases hm:q∈(St.take i).map (·.1)
  ·obtain⟨st,h1,rfl⟩:=List.mem_map.mp hm
   have h1':=List.mem_of_mem_take h1
   rw[A.dl_in (by rw[List.map_take];exact rg.nd.sublist (List.take_sublist ..)) h1]
   exact(R.nr st.1 hq).step hB ((hO _).mp (rg.go st h1').1).2 (rg.go st h1').2.1 nn (n2 st h1')
  ·rw[A.dl_out hm]
   simpa using R.nr q hq
 have nearE:=near St.length
 rw[List.take_length]at nearE
 have wk:A.Walk ("all" : Str) ps (gw ps p 1) (gw ps p 1) St:=by rw[eR];exact⟨rfl,wR⟩
 refine⟨λ i q hq=>near_nn hB (h0 q hq) (near i q hq),⟨A.sums_walk (Good.gd g) (F8 cn) R.sm (λ st h=>place_is.mp ((hO _).mp (rg.go st h).1).1) (λ st h=>(rg.go st h).2.1) wk n,λ q hq=>near_nn hB (h0 q hq) (nearE q hq),nearE⟩,λ q hq hd=>?_,st1.1,((hO _).mp (rg.go st1 m1).1).1,((hO _).mp (rg.go st1 m1).1).2,?_⟩
 ·have:q∉St.map (·.1):=λ z=>by
   obtain⟨st,z1,rfl⟩:=List.mem_map.mp z
   exact((hO _).mp (rg.go st z1).1).2 hd
  rw[A.dl_out this]
  simpa using hd
 ·rw[A.dl_in rg.nd m1,<- m2]
  exact A.step_even (rg.go st1 m1).2.1
theorem a0L {α:Type}{f g:α->Bool}:∀ {l:List α},(∀ x∈l,g x=true->f x=true)->(∃ x∈l,f x=true/\g x=false)->(l.filter g).length < (l.filter f).length
 | [],_,h=>by obtain⟨x,hx,_⟩:=h;cases hx
 | a::r,h1,h2=>by
  have le:∀ {l:List α},(∀ x∈l,g x=true->f x=true)->(l.filter g).length<=(l.filter f).length:=λ {l}=>by
   induction l with
   | nil=>intro _;exact Nat.le_refl _
   | cons b s ih=>
    intro h
    have i1:=ih λ x hx=>h x (by simp[hx])
    have hb:=h b (by simp)
    rw[List.filter_cons,List.filter_cons]
    by_cases e:g b=true
    ·rw[if_pos e,if_pos (hb e)]
     simp only[List.length_cons]
     omega
    ·rw[if_neg e]
     split
     ·simp only[List.length_cons];omega
     ·exact i1
  have l1:=le (l:=r) λ x hx=>h1 x (by simp[hx])
  rw[List.filter_cons,List.filter_cons]
  obtain⟨x,hx,hf,hg⟩:=h2
  rcases List.mem_cons.mp hx with e | e
  ·subst e
   rw[if_pos hf,if_neg (by rw[hg];simp)]
   simp only[List.length_cons]
   omega
  ·have i1:=a0L (l:=r) (λ x hx=>h1 x (by simp[hx])) ⟨x,e,hf,hg⟩
   have ha:=h1 a (by simp)
   by_cases z:g a=true
   ·rw[if_pos z,if_pos (ha z)]
    simp only[List.length_cons]
    omega
   ·rw[if_neg z]
    split
    ·simp only[List.length_cons];omega
    ·exact i1
section
variable {cl cw:Addr}
def y4 (cl:Addr):Sp:=λ vs H Q _=>∃ (x tb:Addr) (B:Int) (ps:List (Str×Str)) (cs:List Str) (tk:List (List Key×V)) (T:Str×Str->Int),vs=[.ref x,.ref tb,.int B]/\HouseAt cl H x ps cs/\H tb=some (.dT tk)/\a0x tk (b8 ps cs) T/\A.B5 ("all" : Str) ps cs T/\(∀ q∈b8 ps cs,0<=T q)/\1<=B/\B<=10 ^ 18 ∧
 ∀ d F H',Same H H'->H d=none->H' d=some (.dT (d8 (b8 ps cs) F))->Rd1 ps cs B T F->(∀ q∈b8 ps cs,B ∣ F q)->Q (.ref d) H'
def a3A (cl cw:Addr):TS:=
 (b7 (sIf (tOrB (J4 (ptG (d3 m9 [] E0 (a0 (gv 2) a7)))) (bT (tOp eqG (gv 2) (tC (.int 0)))))
  xS
  g6)
 (b7 (d7 (d3 (E7 cl) [] E0 (a0 (gv 0) (a0 (gv 1) (a0 (j6 a7) (a0 (tC (.int 0)) a7))))) (a8 3))
 (b7 (d7 (d3 L0 [] E0 (a0 (gv 3) (a0 (gv 2) a7))) (a8 4))
 (b7 (x9 (ptG (gv 4))
  (b7 (d7 (d3 (D7 cw) [] E0 (a0 (tMake cw (I0 cl cw) [] E0 (a0 (gv 0) (a0 (gv 4) a7))) (a0 (gv 3) (a0 (k9 (a0 (tOp e8 (gv 4) (tC (.int 0))) (a0 (tC (.int 1)) a7))) a7)))) (a8 5))
  (b7 (d7 (d3 (E7 cl) [] E0 (a0 (gv 0) (a0 (gv 3) (a0 (gv 5) (a0 (d3 a4k [] E0 (a0 (gv 3) (a0 (gv 5) (a0 (gv 2) a7)))) a7))))) (a8 3))
  (d7 (d3 L0 [] E0 (a0 (gv 3) (a0 (gv 2) a7))) (a8 4)))))
 (f9 (gv 3))))))
theorem r_rounded {x tb:Addr}{B:Int}{ps:List (Str×Str)}{cs:List Str}{tk:List (List Key×V)}{T:Str×Str->Int}{H:Hp}{D:Ends}(hh:HouseAt cl H x ps cs)(htb:H tb=some (.dT tk))(hT:a0x tk (b8 ps cs) T)(sT:A.B5 ("all" : Str) ps cs T)(h0:∀ q∈b8 ps cs,0<=T q)(hB:1<=B)(hB2:B<=10 ^ 18)
  (q:∀ d F H',Same H H'->H d=none->H' d=some (.dT (d8 (b8 ps cs) F))->Rd1 ps cs B T F->(∀ q∈b8 ps cs,B ∣ F q)->D.rt (.ref d) H'):a3A cl cw D [some (.ref x),some (.ref tb),some (.int B),none,none,none] H:=by
 have hz:=sz
 have ln:(b8 ps cs).length<=225:=J9 hh.good hh.many
 refine⟨B,rfl,by omega,hB2,i8 (by decide +kernel) (i8 ?_ ?_)⟩
 ·show decide (B=0)=false
  exact decide_eq_false (by omega)
 refine⟨few rfl,b6 λ pe G1 n1 s1 t1=>⟨x,tb,pe,0,[],ps,cs,tk,T,[],rfl,hh.same s1,s1 _ _ htb,hT,t1,StepsL.nil,(λ _ h=>by cases h),(λ i q hq=>by have:=h0 q hq;simp;exact this),λ d0 G2 s2 n2 t2=>?_⟩⟩
 have S2:=s1.trans s2
 have e0:d8 (b8 ps cs) (λ q=>T q + 0 * A.dl [] q)=d8 (b8 ps cs) T:=Y6 λ q _=>by simp
 rw[e0]at t2
 have n2':=m7 s1 n2
 refine⟨d0,B,b8 ps cs,T,rfl,t2,by omega,hB,λ l0 z0 G3 s3 n3 t3 pz3=>?_⟩
 have R0:Rd1 ps cs B T T:=⟨sT,h0,λ q hq=>A.Near.refl hB _⟩
 refine(?_:x9 _ _ _ _ _)
 unfold x9
 refine⟨λ m Z G=>∃ (d l:Addr) (F:Str×Str->Int) (zs:List V) (u:Option V),Same H G/\H d=none/\G d=some (.dT (d8 (b8 ps cs) F))/\G l=some (.lst zs)/\PairsAt G zs ((b8 ps cs).filter (unev B F))/\Rd1 ps cs B T F/\m=((b8 ps cs).filter (unev B F)).length/\Z=[some (.ref x),some (.ref tb),some (.int B),some (.ref d),some (.ref l),u],
  ⟨_,d0,l0,T,z0,none,S2.trans s3,n2',s3 _ _ t2,t3,pz3,R0,rfl,rfl⟩,?_⟩
 rintro m Z G ⟨d,l,F,zs,u,sm,nd,hd,hl,pz,R,rfl,rfl⟩
 have hO:∀ q,q∈opn ps cs ((b8 ps cs).filter (unev B F))↔q∈b8 ps cs/\¬ B ∣ F q:=λ q=>by
  unfold opn inL
  rw[List.mem_filter,decide_eq_true_iff,List.mem_filter,unev_t]
  exact⟨λ h=>h.2,λ h=>⟨h.1,h⟩⟩
 refine a3Z hl ?_
 cases hzs:zs with
 | nil=>
  refine i8 rfl (q d F G sm nd hd R λ r hr=>?_)
  refine Classical.byContradiction λ hn=>?_
  have:r∈(b8 ps cs).filter (unev B F):=List.mem_filter.mpr ⟨hr,unev_t.mpr hn⟩
  have e:=pz.1
  rw[hzs]at e
  rw[List.length_eq_zero_iff.mp e.symm]at this
  cases this
 | cons z zr=>
  rw[<- hzs]
  obtain⟨p,tp,hp,rfl,htp⟩:=pz.at (i:=0) (x:=z) (by rw[hzs];rfl)
  have hpm:=List.mem_of_getElem? hp
  obtain⟨hpP,hpu⟩:=List.mem_filter.mp hpm
  have hpO:=(hO p).mpr ⟨hpP,unev_t.mp hpu⟩
  refine m5 (by rw[hzs];rfl) ⟨_,λ Z' H' h=>h,?_⟩
  intro y dy ny ndy nyd
  have s4:Same G (upd (upd G dy (.own y)) y (.ins cw dy [])):=λ b u e=>by rw[a5 (c9 e ny),a5 (c9 e ndy)];exact e
  refine⟨y,dy,x,l,zs,ps,cs,_,rfl,a6,hh.same (sm.trans s4),s4 _ _ hl,pz.same s4,by have:=List.length_filter_le (unev B F) (b8 ps cs);omega,λ G4 sx wa=>⟨rfl,?_⟩⟩
  have S4:Same G G4:=λ b o e=>sx b o (c9 e ny) (s4 _ _ e)
  refine C4 (S4 _ _ hl) (v:=.ref tp) (show atI zs ((0:Nat):Int)=_ from D2 (by rw[hzs];rfl)) ⟨few rfl,b6 λ t5 G5 n5 s5 h5=>?_⟩
  have S5:=S4.trans s5
  refine⟨y,d,.ref t5,ps,_,p,1,_,F,rfl,wa.same s5,S5 _ _ hd,a2n λ q hq=>((hO q).mp hq).1,⟨t5,.ref tp,rfl,h5,tp,rfl,S5 _ _ htp⟩,hpO,.inl rfl,λ G6 s6 nr=>?_,λ r ys St G6 s6 nr tr hst rg=>?_⟩
  ·exact(a5w hh.good hh.nms hO hpO R.sm R.nn nr).elim
  have S6:=S5.trans s6
  have go2:∀ st∈St,st.1∈b8 ps cs/\(st.2=1\/st.2=-1):=λ st h=>⟨((hO _).mp (rg.go st h).1).1,(rg.go st h).2.1⟩
  refine⟨d,r,B,_,b8 ps cs,F,ys,St,rfl,S6 _ _ hd,a2n λ q h=>h,tr,hst,go2,by have:=rg.few;omega,?_,hB,λ n G7 s7 n1 n2=>?_⟩
  ·obtain⟨R',eR,_⟩:=rg.ex
   rw[eR]
   exact λ z=>by cases z
  obtain⟨pos,R1,stay,less⟩:=turn_near hh.good hh.nms hB h0 R hO rg n1 n2
  have S7:=S6.trans s7
  refine⟨x,d,r,n,ys,ps,cs,_,F,St,rfl,hh.same (sm.trans S7),S7 _ _ hd,a2n λ q h=>h,s7 _ _ tr,hst.same s7,go2,pos,λ d' G8 s8 n8 t8=>?_⟩
  refine⟨d',B,b8 ps cs,_,rfl,t8,by omega,hB,λ l' zs' G9 s9 n9 t9 pz9=>?_⟩
  have S9:=sm.trans (S7.trans (s8.trans s9))
  refine⟨_,?_,d',l',_,zs',_,S9,m7 (sm.trans S7) n8,s9 _ _ t8,t9,pz9,R1,rfl,rfl⟩
  refine a0L (λ r hr h=>?_) ?_
  ·refine unev_t.mpr λ hd=>unev_t.mp h (stay r hr hd)
  ·obtain⟨r,h1,h2,h3⟩:=less
   refine⟨r,h1,unev_t.mpr h2,?_⟩
   refine Bool.eq_false_iff.mpr λ h=>unev_t.mp h h3
end
end S8
namespace A
section
variable {S:Type}[BEq S][LawfulBEq S][DecidableEq S]{al:S}{ps:List (S×S)}{cs:List S}
structure Line (al:S) (ps:List (S×S)) (r:S) (L:List S):Prop where
 row:bel ps r=[]
 up:∀ m∈L,∀ k,(m,k)∈ps->k∈L
 dn:∀ n∈L,n≠r->∃ m∈L,(m,n)∈ps
 un:∀ m∈L,∀ m'∈L,∀ n,(m,n)∈ps->(m',n)∈ps->m=m'
def j9 (al:S)(L:List S)(col:S)(v:Int)(p:S×S):Int:=if p.1∈L/\(p.2=col\/p.2=al) then v else 0
theorem line_sums (g:Gd al ps)(hc:(cs++[al]).Nodup){r:S}{L:List S}(h:Line al ps r L){col:S}(hcol:col∈cs)(v:Int):B5 al ps cs (j9 al L col v):=by
 have hn:cs.Nodup:=(List.nodup_append.mp hc).1
 have hal:al∉cs:=λ z=>(List.nodup_append.mp hc).2.2 al z al (by simp) rfl
 intro one h1
 cases h1 with
 | dn n c hn' hb hcc=>
  unfold A2
  simp only[sg]
  rw[a0u]
  generalize (if c=al then(-1:Int) else 1)=s
  have e:sg (bel ps n) (λ m=>((m,c),-s).2 * j9 al L col v ((m,c),-s).1)=-s * j9 al L col v (n,c):=by
   rw[E4]
   congr 1
   by_cases hcc:c=col\/c=al
   ·by_cases hL:n∈L
    ·have hnr:n≠r:=λ z=>hb (by rw[z];exact h.row)
     obtain⟨m,hm,hmn⟩:=h.dn n hL hnr
     have:∀ x∈bel ps n,j9 al L col v (x,c)=if x=m then v else 0:=λ x hx=>by
      unfold j9
      by_cases z:x=m
      ·subst z
       rw[if_pos ⟨hm,hcc⟩,if_pos rfl]
      ·rw[if_neg z,if_neg λ y=>z (h.un x y.1 m hm n (mem_bel.mp hx) hmn)]
     rw[l6 this,V4 (g.bel_nd n) (mem_bel.mpr hmn)]
     unfold j9
     rw[if_pos ⟨hL,hcc⟩]
    ·rw[m6 λ x hx=>?_]
     ·unfold j9
      rw[if_neg λ y=>hL y.1]
     ·unfold j9
      rw[if_neg λ y=>hL (h.up x y.1 n (mem_bel.mp hx))]
   ·rw[m6 λ x hx=>?_]
    ·unfold j9
     rw[if_neg λ y=>hcc y.2]
    ·unfold j9
     rw[if_neg λ y=>hcc y.2]
  rw[e,Int.neg_mul]
  omega
 | ac n hn'=>
  unfold A2
  simp only[sg]
  rw[a0u]
  generalize (if n=al then(1:Int) else -1)=s
  have e:sg cs (λ c=>((n,c),-s).2 * j9 al L col v ((n,c),-s).1)=-s * j9 al L col v (n,al):=by
   rw[E4]
   congr 1
   by_cases hL:n∈L
   ·have:∀ x∈cs,j9 al L col v (n,x)=if x=col then v else 0:=λ x hx=>by
     unfold j9
     by_cases z:x=col
     ·rw[if_pos ⟨hL,.inl z⟩,if_pos z]
     ·rw[if_neg z,if_neg λ y=>?_]
      rcases y.2 with y | y
      ·exact z y
      ·exact hal (by rw[<- show x=al from y];exact hx)
    rw[l6 this,V4 hn hcol]
    unfold j9
    rw[if_pos ⟨hL,.inr rfl⟩]
   ·rw[m6 λ x hx=>?_]
    ·unfold j9
     rw[if_neg λ y=>hL y.1]
    ·unfold j9
     rw[if_neg λ y=>hL y.1]
  rw[e,Int.neg_mul]
  omega
theorem sums_add {T U:S×S->Int}(h:B5 al ps cs T)(k:B5 al ps cs U):B5 al ps cs λ p=>T p + U p:=λ one h1=>by
 have:=a0v (A2 al ps cs one) (λ p=>p.2 * T p.1) (λ p=>p.2 * U p.1)
 rw[h one h1,k one h1]at this
 rw[<- this.trans (by omega:(0:Int) + 0=0)]
 exact l6 λ p _=>Int.mul_add ..
theorem sums_zero:B5 al ps cs λ _=>0:=λ one _=>m6 λ p _=>Int.mul_zero _
theorem sums_mul {T:S×S->Int}(h:B5 al ps cs T)(k:Int):B5 al ps cs λ p=>T p * k:=λ one h1=>by
 have:=E4 (A2 al ps cs one) k (λ p=>p.2 * T p.1)
 rw[h one h1,Int.mul_zero]at this
 rw[<- this]
 exact l6 λ p _=>by rw[<- Int.mul_assoc,Int.mul_comm]
theorem line_of (g:Gd al ps){r:S}{L:List S}(h0:L[0]?=some r)(hr:bel ps r=[])(hs:∀ i a,L[i]?=some a->a≠al->∃ b,L[i + 1]?=some b/\(a,b)∈ps)(hs2:∀ i a b,L[i]?=some a->L[i + 1]?=some b->(a,b)∈ps)(nd:L.Nodup):Line al ps r L:=by
 refine⟨hr,λ m hm k hk=>?_,λ n hn hne=>?_,λ m hm m' hm' n h1 h2=>?_⟩
 ·obtain⟨i,hi⟩:=List.mem_iff_getElem?.mp hm
  obtain⟨b,hb,hp⟩:=hs i m hi λ z=>g.not_al (z ▸ hk)
  rw[g.uniq hk hp]
  exact List.mem_of_getElem? hb
 ·obtain⟨i,hi⟩:=List.mem_iff_getElem?.mp hn
  cases i with
  | zero=>rw[h0]at hi;exact(hne (Option.some.inj hi).symm).elim
  | succ i=>
   have hl:=(Zg hi).1
   obtain⟨m,hm⟩:∃ m,L[i]?=some m:=⟨L[i]'(by omega),List.getElem?_eq_getElem _⟩
   exact⟨m,List.mem_of_getElem? hm,hs2 i m n hm hi⟩
 ·obtain⟨i,hi⟩:=List.mem_iff_getElem?.mp hm
  obtain⟨j,hj⟩:=List.mem_iff_getElem?.mp hm'
  obtain⟨b,hb,hp⟩:=hs i m hi λ z=>g.not_al (z ▸ h1)
  obtain⟨b',hb',hp'⟩:=hs j m' hj λ z=>g.not_al (z ▸ h2)
  have e1:=g.uniq h1 hp
  have e2:=g.uniq h2 hp'
  subst e1
  subst e2
  have hl:=(Zg hb).1
  have e:i + 1=j + 1:=(List.getElem?_inj hl nd).mp (by rw[hb,hb'])
  have e:i=j:=by omega
  subst e
  rw[hi]at hj
  exact Option.some.inj hj
end
end A
namespace S8
open Nu S3 R3
structure UpL (ps:List (Str×Str)) (r:Str) (L:List Str) (c:Str) (n:Nat):Prop where
 hd:(L++[c])[0]?=some r
 ch:∀ i a b,(L++[c])[i]?=some a->(L++[c])[i + 1]?=some b->(a,b)∈ps
 nd:(L++[c]).Nodup
 at':(n=0/\c = "all")\/∃ i,n=i + 1/\(b4 ps)[i]?=some c
 fr:∀ a∈L,∃ j,n<=j/\(b4 ps)[j]?=some a
theorem all_out {ps:List (Str×Str)}(g:Good ps):("all" : Str)∉b4 ps:=(List.nodup_cons.mp (Good.gd g).nd).1
theorem UpL.len {ps:List (Str×Str)}{r:Str}{L:List Str}{c:Str}{n:Nat}(g:Good ps)(u:UpL ps r L c n):L.length<=24:=by
 have h2:L.Nodup:=(List.nodup_append.mp u.nd).1
 have h3:L.length<=(b4 ps).length:=h2.length_le_of_subset λ a ha=>by
  obtain⟨j,_,hj⟩:=u.fr a ha
  exact List.mem_of_getElem? hj
 have:=g.many
 have h4:(b4 ps).length=ps.length:=List.length_map ..
 omega
theorem UpL.next {ps:List (Str×Str)}{r:Str}{L:List Str}{c:Str}{n:Nat}(g:Good ps)(u:UpL ps r L c n)(hc:c ≠ "all"):∃ (i:Nat) (q:Str×Str) (n':Nat),ps[i]?=some q/\q.1=c/\n' < n/\UpL ps r (L++[c]) q.2 n':=by
 have nn:=(List.nodup_cons.mp (Good.gd g).nd).2
 rcases u.at' with⟨_,e⟩ | ⟨i,en,hi⟩
 ·exact(hc e).elim
 have hi':(ps.map (·.1))[i]?=some c:=hi
 rw[List.getElem?_map]at hi'
 obtain⟨q,hq,hq1⟩:=Option.map_eq_some_iff.mp hi'
 have hq1:q.1=c:=hq1
 have at2:∃ n',n'<=i/\((n'=0/\q.2 = "all")\/∃ j,n'=j + 1/\(b4 ps)[j]?=some q.2):=by
  rcases g.abv i q hq with e | e
  ·exact⟨0,Nat.zero_le _,.inl ⟨rfl,e⟩⟩
  ·obtain⟨j,hj⟩:=List.mem_iff_getElem?.mp e
   rw[List.map_take]at hj
   have hjl:=(Zg hj).1
   rw[List.length_take]at hjl
   rw[List.getElem?_take_of_lt (by omega)]at hj
   exact⟨j + 1,by omega,.inr ⟨j,rfl,hj⟩⟩
 obtain⟨n',hn',at2⟩:=at2
 have fr2:∀ a∈L++[c],∃ j,n'<=j/\(b4 ps)[j]?=some a:=λ a ha=>by
  rcases List.mem_append.mp ha with h | h
  ·obtain⟨j,h1,h2⟩:=u.fr a h
   exact⟨j,by omega,h2⟩
  ·rw[List.mem_singleton.mp h]
   exact⟨i,hn',hi⟩
 refine⟨i,q,n',hq,hq1,by omega,⟨?_,λ k a b h1 h2=>?_,?_,at2,fr2⟩⟩
 ·rw[List.getElem?_append_left (by simp)]
  exact u.hd
 ·have hk:=(Zg h2).1
  rw[List.length_append,List.length_singleton]at hk
  rw[List.getElem?_append_left (by omega)]at h1
  by_cases e:k + 1 < (L++[c]).length
  ·rw[List.getElem?_append_left e]at h2
   exact u.ch k a b h1 h2
  ·have e:k + 1=(L++[c]).length:=by omega
   rw[e,List.getElem?_concat_length]at h2
   have hkL:k=L.length:=by rw[List.length_append,List.length_singleton]at e;omega
   rw[hkL,List.getElem?_concat_length]at h1
   cases h1
   cases h2
   rw[<- hq1]
   exact List.mem_of_getElem? hq
 ·refine List.nodup_append.mpr ⟨u.nd,by simp,λ a ha b hb e=>?_⟩
  rw[List.mem_singleton.mp hb]at e
  obtain⟨j,h1,h2⟩:=fr2 a ha
  rcases at2 with⟨_,z⟩ | ⟨j',z1,z2⟩
  ·rw[e,z]at h2
   exact all_out g (List.mem_of_getElem? h2)
  ·rw[e]at h2
   have hl:=(Zg h2).1
   have:j=j':=(List.getElem?_inj hl nn).mp (by rw[h2,z2])
   omega
section
variable {cl cw:Addr}
def N0 (cl:Addr):Sp:=λ vs H Q _=>∃ (x:Addr) (r:Str) (ps:List (Str×Str)) (cs:List Str),vs=[.ref x,.str r]/\HouseAt cl H x ps cs/\r∈b5 ps ∧
 ∀ p L H',Same H H'->H p=none->H' p=some (.lst (sts L))->A.Line ("all" : Str) ps r L->L.Nodup->(∀ a∈L,a = "all" \/ a∈b4 ps)->L.length<=25->Q (.ref p) H'
def a3B (cl:Addr):TS:=
 (b7 (d7 (j6 (a0 (gv 1) a7)) (a8 2))
 (b7 (x9 (bT (tOp neG (tOp e8 (gv 2) (tUn negG (tC (.int 1)))) (tC (.str "all"))))
  (K0 (O1 "append" (gv 2) (a0 (i9 cl "above" (Tv.Y2 cl) E0 (gv 0) (a0 (tOp e8 (gv 2) (tUn negG (tC (.int 1)))) a7)) a7))))
 (f9 (gv 2))))
theorem r_line_up {x:Addr}{r:Str}{ps:List (Str×Str)}{cs:List Str}{H:Hp}{D:Ends}(hh:HouseAt cl H x ps cs)(hr:r∈b5 ps)
  (q:∀ p L H',Same H H'->H p=none->H' p=some (.lst (sts L))->A.Line ("all" : Str) ps r L->L.Nodup->(∀ a∈L,a = "all" \/ a∈b4 ps)->L.length<=25->D.rt (.ref p) H'):a3B cl D [some (.ref x),some (.str r),none] H:=by
 have hz:=sz
 have g:=hh.good
 obtain⟨_,_,_,_,dx,_,_,_,_,e1,_⟩:=id hh
 obtain⟨hrn,hrb⟩:=List.mem_filter.mp hr
 obtain⟨i0,hi0⟩:=List.mem_iff_getElem?.mp hrn
 have U0:UpL ps r [] r (i0 + 1):=⟨rfl,λ i a b h1 h2=>by cases i <;> simp at h2,by simp,.inr ⟨i0,rfl,hi0⟩,λ a h=>by cases h⟩
 refine⟨few rfl,b6 λ p G1 n1 s1 t1=>?_⟩
 refine(?_:x9 _ _ _ _ _)
 unfold x9
 refine⟨λ m Z G=>∃ (L:List Str) (c:Str),Same H G/\G p=some (.lst (sts (L++[c])))/\UpL ps r L c m/\Z=[some (.ref x),some (.str r),some (.ref p)],
  ⟨_,[],r,s1,t1,U0,rfl⟩,?_⟩
 rintro m Z G ⟨L,c,sm,hp,U,rfl⟩
 have el:sts (L++[c])=sts L++[.str c]:=List.map_append ..
 have lv:atI (sts (L++[c])) (-1)=some (.str c):=by rw[el];exact L2.atI_last _ _
 have ul:=U.len g
 refine C4 hp lv ?_
 by_cases e:c = "all"
 ·refine i8 (show(!decide (c = "all"))=false by rw[decide_eq_true e];rfl) ?_
  have ln:A.Line ("all" : Str) ps r (L++[c]):=A.line_of (Good.gd g) U.hd (List.isEmpty_iff.mp hrb) (λ i a ha hne=>?_) U.ch U.nd
  refine q p (L++[c]) G sm n1 hp ln U.nd (λ a ha=>?_) (by rw[List.length_append,List.length_singleton];omega)
  ·rcases List.mem_append.mp ha with h | h
   ·obtain⟨j,_,hj⟩:=U.fr a h
    exact .inr (List.mem_of_getElem? hj)
   ·rw[List.mem_singleton.mp h]
    exact .inl e
  ·have hil:=(Zg ha).1
   rw[List.length_append,List.length_singleton]at hil
   have:i≠L.length:=λ z=>by
    rw[z,List.getElem?_concat_length]at ha
    cases ha
    exact hne e
   obtain⟨b,hb⟩:∃ b,(L++[c])[i + 1]?=some b:=⟨(L++[c])[i + 1]'(by rw[List.length_append,List.length_singleton];omega),List.getElem?_eq_getElem _⟩
   exact⟨b,hb,U.ch i a b ha hb⟩
 ·refine m5 (show(!decide (c = "all"))=true by rw[decide_eq_false e];rfl) ⟨_,λ Z' H' h=>h,?_⟩
  obtain⟨i,w,n',hi,hw,hn,U'⟩:=U.next g e
  subst hw
  refine X7 hp (k8 (sm _ _ e1) rfl (C4 hp lv ⟨x,ps,cs,i,w,rfl,hh.same sm,hi,M6 hp (by rw[el,List.length_append,List.length_singleton,show(sts L).length=L.length from List.length_map ..];omega) ?_⟩))
  refine⟨n',hn,L++[w.1],w.2,sm.put n1,?_,U',rfl⟩
  rw[a6,show sts ((L++[w.1])++[w.2])=sts (L++[w.1])++[V.str w.2] from List.map_append ..]
end
def o6 (fa fb:Addr):Sp:=λ vs H Q _=>∃ (d l f:Addr) (zs:List V) (P:List (Str×Str)) (F:Str×Str->Int),vs=[.ref d,.ref l,.ref f]/\H d=some (.dT (d8 P F))/\H l=some (.lst zs)/\PairsAt H zs P/\P.length<=1000/\((f=fa/\∀ p∈P,0<=F p)\/(f=fb/\∀ p∈P,0<=F p/\F p<=10 ^ 18))/\∀ H',Same H H'->Q (.bl true) H'
def a0M (fa fb:Addr):TS:=
 (b7 (sIf (tOrB (J4 (ptG (tCB X2 (a0 (gv 0) (a0 (tC (.ty "dict")) a7))))) (bT (tOp neG (tCB a0m (a0 (gv 0) a7)) (tCB a0m (a0 (gv 1) a7)))))
  (f9 (tC (.bl false)))
  g6)
 (b7 (sIf (J4 (ptG (tCB allG (a0 (o0 (iOf d9 (gv 0)) ["key"] [] (a8 0) a0k (tCB X2 (a0 (gv 0) (a0 (tC (.ty "tuple")) a7)))) a7))))
  (f9 (tC (.bl false)))
  g6)
 (f9 (tCB allG (a0 (o0 (iOf d9 (gv 1)) ["place"] [("fits",2),("thing",0)] (a8 0) a0k (a3S [(fa,l7),(fb,m9)] E0 (gv 1) (a0 (O1 "get" (gv 2) (a0 (gv 0) a7)) a7))) a7)))))
theorem a5x {fa fb f d l:Addr}{zs:List V}{P:List (Str×Str)}{F:Str×Str->Int}{H:Hp}{D:Ends}(hd:H d=some (.dT (d8 P F)))(hl:H l=some (.lst zs))(pz:PairsAt H zs P)(hP:P.length<=1000)(hf:(f=fa/\∀ p∈P,0<=F p)\/(f=fb/\∀ p∈P,0<=F p/\F p<=10 ^ 18))(q:∀ H',Same H H'->D.rt (.bl true) H'):a0M fa fb D [some (.ref d),some (.ref l),some (.ref f)] H:=by
 have hz:=sz
 have hk:w5 H (.ref d)=some "dict" := by unfold w5;simp only[hd]
 have ll:zs.length=(d8 P F).length:=by rw[j8];exact pz.1
 refine X5 rfl hk (i8 rfl (lenD_i hd (V3 hl ?_)))
 refine i8 (show(!decide _)=false from ?_) ?_
 ·rw[ll];simp
 refine A0 (Nu.X6 hd λ o=>comp_dT (λ _=>some (.bl true)) a6 (by rw[j8];omega) ?_ ?_)
 ·intro i kv t hi G k sm ht hk2
  refine m5 rfl (X5 (S := "tuple") rfl ?_ hk2)
  unfold w5
  simp only[ht]
 intro pb G n s tb
 refine⟨⟨o,s _ _ a6⟩,?_⟩
 have S:=B0 hd s
 have npd:pb≠d:=λ z=>by rw[z,a6]at n;cases n
 have tb':upd G d (.dT (d8 P F)) pb=some (.lst ((d8 P F).filterMap λ _=>some (.bl true))):=by rw[a5 npd];exact tb
 have eb:(d8 P F).filterMap (λ _=>some (V.bl true))=(d8 P F).map λ _=>V.bl ((λ _=>true) ()):=by rw[List.filterMap_eq_map']
 rw[eb]at tb'
 generalize upd G d (.dT (d8 P F))=G2 at *
 refine all_i tb' (a1e (λ _=>true) _) (i8 (by simp) ?_)
 have hd2:=S _ _ hd
 have pz2:=pz.same S
 refine A0 (f7 (S _ _ hl) (comp_l (λ _=>some (.bl true)) (S _ _ hl) (by rw[pz.1];omega) ?_ ?_))
 ·intro i y hy G3 k sm hk2
  obtain⟨p,t,hp,rfl,ht⟩:=pz2.at hy
  have hm:=List.mem_of_getElem? hp
  rcases hf with⟨rfl,h0⟩ | ⟨rfl,h0⟩
  ·exact m5 rfl ⟨(f,l7),by simp,rfl,dget_i (sm _ _ hd2) (dg1_i (sm _ _ hd2) (sm _ _ ht) (i6 hm) ⟨F p,rfl,h0 p hm,hk2⟩)⟩
  ·exact m5 rfl ⟨(f,m9),by simp,rfl,dget_i (sm _ _ hd2) (dg1_i (sm _ _ hd2) (sm _ _ ht) (i6 hm) ⟨F p,rfl,(h0 p hm).1,(h0 p hm).2,hk2⟩)⟩
 ·intro pc G3 n3 s3 t3
  have ec:zs.filterMap (λ _=>some (V.bl true))=zs.map λ _=>V.bl ((λ _=>true) ()):=by rw[List.filterMap_eq_map']
  rw[ec]at t3
  refine all_i t3 (a1e (λ _=>true) _) ?_
  have:(zs.map λ _=>true).all id=true:=by simp
  rw[this]
  exact q G3 (S.trans s3)
section
variable {cl:Addr}
def a0N (cl fa fb:Addr):TS:=
 (b7 (sIf (J4 (ptG (d3 (o6 fa fb) [] E0 (a0 (gv 1) (a0 (i9 cl "places" (h7 cl) E0 (gv 0) a7) (a0 (tC (.ref fa)) a7))))))
  (f9 (tC (.bl false)))
  g6)
 (f9 (a1D (d3 (J2 cl) [] E0 (a0 (gv 0) (a0 (gv 1) a7))) (d3 (J2 cl) [] E0 (a0 (gv 0) (a0 (gv 1) a7))))))
theorem a5y {h d fa fb:Addr}{ps:List (Str×Str)}{cs:List Str}{F:Str×Str->Int}{H:Hp}{D:Ends}(hh:HouseAt cl H h ps cs)(hd:H d=some (.dT (d8 (b8 ps cs) F)))(hF:A.B5 ("all" : Str) ps cs F)(h0:∀ p∈b8 ps cs,0<=F p)(q:∀ H',Same H H'->D.rt (.bl true) H'):a0N cl fa fb D [some (.ref h),some (.ref d)] H:=by
 obtain⟨_,_,_,_,dx,_,_,_,_,e1,_⟩:=id hh
 have ln:(b8 ps cs).length<=225:=J9 hh.good hh.many
 refine k8 e1 rfl ⟨h,ps,cs,rfl,hh,λ pp ws G2 s2 n2 t2 pw=>?_⟩
 refine⟨d,pp,fa,ws,b8 ps cs,F,rfl,s2 _ _ hd,t2,pw,by omega,.inl ⟨rfl,h0⟩,λ G3 s3=>i8 rfl ?_⟩
 have S:=s2.trans s3
 exact⟨h,d,ps,cs,F,rfl,hh.same S,S _ _ hd,hF,λ G4 s4=>m5 rfl ⟨h,d,ps,cs,F,rfl,hh.same (S.trans s4),(S.trans s4) _ _ hd,hF,λ G5 s5=>q G5 ((S.trans s4).trans s5)⟩⟩
def L1 (cl:Addr):Sp:=λ vs H Q _=>∃ (x d:Addr) (ps:List (Str×Str)) (cs:List Str) (N:Str×Str->Int),vs=[.ref x,.ref d]/\HouseAt cl H x ps cs/\H d=some (.dT (d8 (d5 (b5 ps) cs) N))/\(∀ p∈d5 (b5 ps) cs,0<=N p/\N p<=10 ^ 18) ∧
 ∀ t F H',Same H H'->H t=none->H' t=some (.dT (d8 (b8 ps cs) F))->A.B5 ("all" : Str) ps cs F->(∀ p∈b8 ps cs,0<=F p)->Q (.ref t) H'
def tf_in:TS:=
 (b7 (tAugS (gv 2) (k9 (a0 (gv 6) (a0 (gv 5) a7))) (tOp e8 (gv 1) (k9 (a0 (gv 4) (a0 (gv 5) a7)))) dgG (ipG .Add) A9)
 (tAugS (gv 2) (k9 (a0 (gv 6) (a0 (tC (.str "all")) a7))) (tOp e8 (gv 1) (k9 (a0 (gv 4) (a0 (gv 5) a7)))) dgG (ipG .Add) A9))
def tf_two (cl:Addr):TS:=
 (b7 (v5 (iOf d9 (i9 cl "cells" (C1 cl) E0 (gv 0) a7)) (O3 2 (C7 (a8 4) (C7 (a8 5) gNil)))
  (v5 (iOf d9 (d3 (N0 cl) [] E0 (a0 (gv 0) (a0 (gv 4) a7)))) (a8 6)
   tf_in))
 (f9 (gv 2)))
def a5z (cl fa fb:Addr):TS:=
 (b7 (sIf (J4 (ptG (d3 (o6 fa fb) [] E0 (a0 (gv 1) (a0 (i9 cl "cells" (C1 cl) E0 (gv 0) a7) (a0 (tC (.ref fb)) a7))))))
  xS
  g6)
 (b7 (d7 N5 (a8 2))
 (b7 (v5 (iOf d9 (i9 cl "places" (h7 cl) E0 (gv 0) a7)) (a8 3)
  (d7 (tC (.int 0)) (W0 (gv 2) (gv 3) A9)))
 (tf_two cl))))
theorem line_take {L:List Str}{i:Nat}{n col:Str}{v:Int}(hi:L[i]?=some n)(nd:L.Nodup)(hc:col ≠ "all")(F:Str×Str->Int)(q:Str×Str):
  (if q=(n,("all" : Str)) then F (n, "all") + A.j9 ("all" : Str) (L.take i) col v (n, "all") + v else if q=(n,col) then F (n,col) + A.j9 ("all" : Str) (L.take i) col v (n,col) + v else F q + A.j9 ("all" : Str) (L.take i) col v q)=F q + A.j9 ("all" : Str) (L.take (i + 1)) col v q:=by
 have hn:n∉L.take i:=D4 nd hi
 unfold A.j9
 rw[b9 hi]
 by_cases e1:q=(n,("all" : Str))
 ·subst e1
  rw[if_pos rfl,if_neg λ z=>hn z.1,if_pos ⟨by simp,.inr rfl⟩]
  omega
 ·rw[if_neg e1]
  by_cases e2:q=(n,col)
  ·subst e2
   rw[if_pos rfl,if_neg λ z=>hn z.1,if_pos ⟨by simp,.inl rfl⟩]
   omega
  ·rw[if_neg e2]
   congr 1
   by_cases e3:q.1=n
   ·have:¬ (q.2=col\/q.2 = "all"):=λ z=>by
     rcases z with z | z
     ·exact e2 (Prod.ext e3 z)
     ·exact e1 (Prod.ext e3 z)
    rw[if_neg λ z=>this z.2,if_neg λ z=>this z.2]
   ·simp only[List.mem_append,List.mem_singleton,e3,or_false]
theorem r_ftwo {x d t:Addr}{ps:List (Str×Str)}{cs:List Str}{N:Str×Str->Int}{u3 u4 u5 u6:Option V}{H0 H:Hp}{D:Ends}(hh:HouseAt cl H x ps cs)(s0:Same H0 H)(hd:H d=some (.dT (d8 (d5 (b5 ps) cs) N)))(h0:∀ p∈d5 (b5 ps) cs,0<=N p/\N p<=10 ^ 18)(nt:H0 t=none)(ndt:d≠t)(hx:HouseAt cl H0 x ps cs)(hd0:H0 d=some (.dT (d8 (d5 (b5 ps) cs) N)))
  (ht:H t=some (.dT (d8 (b8 ps cs) λ _=>0)))
  (q:∀ F H',Same H0 H'->H' t=some (.dT (d8 (b8 ps cs) F))->A.B5 ("all" : Str) ps cs F->(∀ p∈b8 ps cs,0<=F p)->D.rt (.ref t) H'):tf_two cl D [some (.ref x),some (.ref d),some (.ref t),u3,u4,u5,u6] H:=by
 have hz:=sz
 have g:=hh.good
 have cn:=hh.nms
 have ln:(b8 ps cs).length<=225:=J9 hh.good hh.many
 obtain⟨_,_,_,_,dx,_,_,_,_,e1,_⟩:=id hh
 refine g8 (k8 e1 rfl ⟨x,ps,cs,rfl,hh,λ pc ws G1 s1 n1 t1 pw=>?_⟩)
 have pw:PairsAt G1 ws (d5 (b5 ps) cs):=pw
 have nct:pc≠t:=λ z=>by rw[z,ht]at n1;cases n1
 refine f7 t1 (g7 (xs:=ws) (λ i Z G=>(Same H0 G/\G pc=some (.lst ws)/\PairsAt G ws (d5 (b5 ps) cs))/\(∃ F,G t=some (.dT (d8 (b8 ps cs) F))/\A.B5 ("all" : Str) ps cs F/\∀ p∈b8 ps cs,0<=F p)/\∃ u4 u5 u6,Z=[some (.ref x),some (.ref d),some (.ref t),u3,u4,u5,u6])
  ⟨⟨s0.trans s1,t1,pw⟩,⟨_,s1 _ _ ht,A.sums_zero,λ _ _=>Int.le_refl 0⟩,_,_,_,rfl⟩ (λ i Z G _ h=>h.1.2.1) ?_ ?_)
 ·rintro i y Z G hy ⟨⟨sm,hpc,pw⟩,⟨F,hF,sF,nF⟩,u4,u5,u6,rfl⟩
  obtain⟨c,ta,hc,rfl,hta⟩:=pw.at hy
  have hcm:=List.mem_of_getElem? hc
  obtain⟨hcr,hcc⟩:=mem_pl.mp (show(c.1,c.2)∈_ from hcm)
  have hrn:c.1∈b4 ps:=(List.mem_filter.mp hcr).1
  have nal:c.2 ≠ "all" := λ z=>by
   have:=F8 cn
   exact(List.nodup_append.mp this).2.2 c.2 hcc "all" (by simp) z
  refine⟨ta,_,rfl,.inl hta,rfl,_,_,rfl,_,_,rfl,rfl,?_⟩
  refine g8 ⟨x,c.1,ps,cs,rfl,hx.same sm,hcr,λ pl L G2 s2 n2 t2 lne lnd lnm lnl=>?_⟩
  have npt:pl≠t:=λ z=>by rw[z,hF]at n2;cases n2
  have sm2:=sm.trans s2
  refine f7 t2 (g7 (xs:=sts L) (λ j Z G=>(Same H0 G/\G pc=some (.lst ws)/\PairsAt G ws (d5 (b5 ps) cs)/\G pl=some (.lst (sts L)))/\G t=some (.dT (d8 (b8 ps cs) λ q=>F q + A.j9 ("all" : Str) (L.take j) c.2 (N c) q))/\∃ u6,Z=[some (.ref x),some (.ref d),some (.ref t),u3,some (.str c.1),some (.str c.2),u6])
   ⟨⟨sm2,s2 _ _ hpc,pw.same s2,t2⟩,?_,_,rfl⟩ (λ i Z G _ h=>h.1.2.2.2) ?_ ?_)
  ·rw[s2 _ _ hF,Y6 λ q _=>show F q=F q + A.j9 ("all" : Str) (L.take 0) c.2 (N c) q by unfold A.j9;simp]
  ·rintro j y Z G hy ⟨⟨sm,hpc,pw,hpl⟩,hT,u6,rfl⟩
   obtain⟨n,hn,rfl⟩:=y3 hy
   have hnm:=lnm n (List.mem_of_getElem? hn)
   have p1:(n,c.2)∈b8 ps cs:=mem_pl.mpr ⟨by rcases hnm with z | z <;> simp[z],by simp[hcc]⟩
   have p2:(n,("all" : Str))∈b8 ps cs:=mem_pl.mpr ⟨by rcases hnm with z | z <;> simp[z],by simp⟩
   have hv1:=i6 (F:=λ q=>F q + A.j9 ("all" : Str) (L.take j) c.2 (N c) q) p1
   refine⟨few rfl,b6 λ k1 G1 n1 s1 t1=>a4h (s1 _ _ hT) t1 hv1 ⟨few rfl,b6 λ k2 G2 n2 s2 t2=>m4 (.inl ((s1.trans s2) _ _ (sm _ _ hd0))) t2 (i6 hcm) ?_⟩⟩
   have s12:=s1.trans s2
   refine E6 (s12 _ _ hT) (s2 _ _ t1) (by rw[j8];omega) ?_
   rw[Y5 p1]
   generalize hF2:(λ x=>if x=(n,c.2) then F (n,c.2) + A.j9 ("all" : Str) (L.take j) c.2 (N c) (n,c.2) + N c else F x + A.j9 ("all" : Str) (L.take j) c.2 (N c) x)=F2
   have hT3:upd G2 t (.dT (d8 (b8 ps cs) F2)) t=some (.dT (d8 (b8 ps cs) F2)):=a6
   have sm3:Same H0 (upd G2 t (.dT (d8 (b8 ps cs) F2))):=(sm.trans s12).put nt
   have hpc3:upd G2 t (.dT (d8 (b8 ps cs) F2)) pc=some (.lst ws):=by rw[a5 nct];exact s12 _ _ hpc
   have hpl3:upd G2 t (.dT (d8 (b8 ps cs) F2)) pl=some (.lst (sts L)):=by rw[a5 npt];exact s12 _ _ hpl
   have pw3:PairsAt (upd G2 t (.dT (d8 (b8 ps cs) F2))) ws (d5 (b5 ps) cs):=B4 (pw.same s12) (s12 _ _ hT)
   have e2:F2 (n, "all")=F (n, "all") + A.j9 ("all" : Str) (L.take j) c.2 (N c) (n, "all"):=by
    rw[<- hF2]
    exact if_neg λ z=>nal (congrArg Prod.snd z).symm
   generalize upd G2 t (.dT (d8 (b8 ps cs) F2))=G3 at *
   refine⟨few rfl,b6 λ k3 G4 n4 s4 t4=>a4h (s4 _ _ hT3) t4 (i6 p2) ⟨few rfl,b6 λ k4 G5 n5 s5 t5=>m4 (.inl ((s4.trans s5) _ _ (sm3 _ _ hd0))) t5 (i6 hcm) ?_⟩⟩
   have s45:=s4.trans s5
   refine E6 (s45 _ _ hT3) (s5 _ _ t4) (by rw[j8];omega) ?_
   rw[Y5 p2,Y6 λ q _=>show(if q=(n,("all" : Str)) then F2 (n, "all") + N c else F2 q)=F q + A.j9 ("all" : Str) (L.take (j + 1)) c.2 (N c) q by
    rw[<- line_take hn lnd nal F q,e2,<- hF2]]
   refine⟨⟨(sm3.trans s45).put nt,?_,B4 (pw3.same s45) (s45 _ _ hT3),?_⟩,a6,_,rfl⟩
   ·rw[a5 nct];exact s45 _ _ hpc3
   ·rw[a5 npt];exact s45 _ _ hpl3
  ·rintro Z G ⟨⟨sm,hpc,pw,hpl⟩,hT,u6,rfl⟩
   rw[show(sts L).length=L.length from List.length_map ..,List.take_length]at hT
   refine⟨⟨sm,hpc,pw⟩,⟨_,hT,A.sums_add sF (A.line_sums (Good.gd g) (F8 cn) lne hcc _),λ p hp=>?_⟩,_,_,_,rfl⟩
   have h1:=nF p hp
   have h2:=(h0 c hcm).1
   unfold A.j9
   split <;> omega
 ·rintro Z G ⟨⟨sm,hpc,pw⟩,⟨F,hF,sF,nF⟩,u4,u5,u6,rfl⟩
  exact q F G sm hF sF nF
theorem r_filled {x d fa fb:Addr}{ps:List (Str×Str)}{cs:List Str}{N:Str×Str->Int}{H:Hp}{D:Ends}(hh:HouseAt cl H x ps cs)(hd:H d=some (.dT (d8 (d5 (b5 ps) cs) N)))(h0:∀ p∈d5 (b5 ps) cs,0<=N p/\N p<=10 ^ 18)
  (q:∀ t F H',Same H H'->H t=none->H' t=some (.dT (d8 (b8 ps cs) F))->A.B5 ("all" : Str) ps cs F->(∀ p∈b8 ps cs,0<=F p)->D.rt (.ref t) H'):a5z cl fa fb D [some (.ref x),some (.ref d),none,none,none,none,none] H:=by
 have hz:=sz
 have ln:(b8 ps cs).length<=225:=J9 hh.good hh.many
 have nd:(b8 ps cs).Nodup:=pl_nd hh.good hh.nms
 have lc:(d5 (b5 ps) cs).length<=1000:=by
  rw[K8]
  have h1:(b5 ps).length<=(b4 ps).length:=List.length_filter_le ..
  have h2:(b4 ps).length=ps.length:=List.length_map ..
  have:=hh.good.many
  have h3:=Nat.mul_le_mul (show(b5 ps).length<=24 by omega) hh.many
  omega
 obtain⟨_,_,_,_,dx,_,_,_,_,e1,_⟩:=id hh
 refine k8 e1 rfl ⟨x,ps,cs,rfl,hh,λ pc ws G1 s1 n1 t1 pw=>?_⟩
 refine⟨d,pc,fb,ws,_,N,rfl,s1 _ _ hd,t1,pw,lc,.inr ⟨rfl,h0⟩,λ G2 s2=>i8 rfl ?_⟩
 have S2:=s1.trans s2
 refine .inr (b6 λ t G3 n3 s3 t3=>?_)
 have S3:=S2.trans s3
 have n3':H t=none:=m7 S2 n3
 refine g8 (k8 (S3 _ _ e1) rfl ⟨x,ps,cs,rfl,hh.same S3,λ pp ys G4 s4 n4 t4 pw4=>?_⟩)
 have pw4:PairsAt G4 ys (b8 ps cs):=pw4
 have npt:pp≠t:=λ z=>by rw[z,t3]at n4;cases n4
 have ndt:d≠t:=λ z=>by rw[z,n3']at hd;cases hd
 refine f7 t4 (g7 (xs:=ys) (λ i Z G=>(Same H G/\G pp=some (.lst ys)/\PairsAt G ys (b8 ps cs))/\G t=some (.dT (d8 ((b8 ps cs).take i) λ _=>0))/\∃ u,Z=[some (.ref x),some (.ref d),some (.ref t),u,none,none,none])
  ⟨⟨S3.trans s4,t4,pw4⟩,s4 _ _ t3,_,rfl⟩ (λ i Z G _ h=>h.1.2.1) ?_ ?_)
 ·rintro i y Z G hy ⟨⟨sm,hpp,pw⟩,ht,u,rfl⟩
  obtain⟨p,tp,hp,rfl,htp⟩:=pw.at hy
  refine E6 ht htp (by rw[j8,List.length_take];omega) ?_
  rw[T2 (F:=λ _=>0) (D4 nd hp),<- b9 hp]
  exact⟨⟨sm.put n3',by rw[a5 npt];exact hpp,B4 pw ht⟩,a6,_,rfl⟩
 ·rintro Z G ⟨⟨sm,hpp,pw⟩,ht,u,rfl⟩
  rw[pw.1,List.take_length]at ht
  exact r_ftwo (hh.same sm) sm (sm _ _ hd) h0 n3' ndt hh hd ht λ F H' s' t' sF nF=>q t F H' s' n3' t' sF nF
end
section
variable {K:PySem.W.Frag}{cl:Addr}
def Y8 (K:PySem.W.Frag):TS:=
 (b7 (d7 (tOp o8 (tC (.int 1)) (tOp z9 (tOp B8 (d3 (d4 K) [] E0 (a0 (gv 0) (a0 (tC (.int 0)) a7))) (tC (.int 5))) (tOp e8 (j6 (a0 (tC (.int 2)) (a0 (tC (.int 3)) (a0 (tC (.int 5)) a7)))) (tOp z9 (d3 (d4 K) [] E0 (a0 (gv 0) (a0 (tC (.int 0)) a7))) (tC (.int 3)))))) (a8 1))
 (b7 (d7 (d3 o4 [] E0 (a0 (d3 (d4 K) [] E0 (a0 (gv 0) (a0 (tC (.int 1)) a7))) (a0 (gv 1) a7))) (a8 2))
 (b7 (d7 (j6 a7) (a8 3))
 (b7 (v5 (a3j (a0 (gv 1) a7)) (a8 4)
  (b7 (d7 (tOp z9 (tOp U9 (tOp o8 (tOp o8 (d3 (d4 K) [] E0 (a0 (gv 0) (a0 (tOp o8 (tC (.int 3)) (gv 4)) a7))) (tOp U9 (tC (.int 7)) (gv 4))) (tC (.int 1))) (tC (.int 48271))) (tC (.int 2147483647))) (a8 5))
  (b7 (d7 (tOp e8 (tOp o8 (j6 (a0 (tC (.str "all")) a7)) (tSl slG (gv 2) a1b (a3k (gv 4)))) (tOp z9 (tOp B8 (gv 5) (tC (.int 3))) (tOp o8 (gv 4) (tC (.int 1))))) (a8 6))
  (b7 (sIf (X1 (bT (tOp eqG (tOp z9 (gv 5) (tC (.int 3))) (tC (.int 1)))) (bT (tOp gtG (gv 4) (tC (.int 0)))))
   (d7 (tOp e8 (gv 2) (tOp subG (gv 4) (tC (.int 1)))) (a8 6))
   g6)
  tp_two))))
 (f9 (gv 3))))))
theorem three_at7 {i:Int}(h0:0<=i)(h1:i < 3):∃ d:Int,atI ([.int 2,.int 3,.int 5]:List V) i=some (.int d)/\0 < d/\d<=24:=by
 have:i=0\/i=1\/i=2:=by omega
 rcases this with rfl | rfl | rfl
 ·exact⟨2,rfl,by decide,by decide⟩
 ·exact⟨3,rfl,by decide,by decide⟩
 ·exact⟨5,rfl,by decide,by decide⟩
theorem a4l {a:Addr}{ns:List Int}{H:Hp}{D:Ends}(hS:SqL K H a (ns.map V.int))(q:∀ l (xs:List V) (ps:List (Str×Str)) H',Same H H'->H l=none->H' l=some (.lst xs)->PairsAt H' xs ps->Good ps->D.rt (.ref l) H'):
  Y8 K D [some (.ref a),none,none,none,none,none,none] H:=by
 have hs:=sz
 refine⟨a,ns,0,rfl,hS,by decide,⟨by decide,by decide⟩,few rfl,b6 λ p0 G0 n0 s0 t0=>?_⟩
 generalize M4 ns 0=c0
 refine⟨a,ns,0,rfl,s0.seq hS,by decide,by decide,?_⟩
 generalize M4 ns 0=c1
 obtain⟨d,hd,d0,d24⟩:=three_at7 (Int.emod_nonneg c1 (show(3:Int)≠0 by decide)) (Int.emod_lt_of_pos c1 (show(0:Int) < 3 by decide))
 refine C4 t0 hd ⟨d0,?_⟩
 have m1:=Int.emod_nonneg (c0 / 5) (show d≠0 by omega)
 have m2:=Int.emod_lt_of_pos (c0 / 5) d0
 generalize c0 / 5 % d=e at *
 refine⟨a,ns,1,rfl,s0.seq hS,by decide,_,_,rfl,by omega,by omega,λ p zs G1 s1 n1 t1 hl hn=>?_⟩
 refine⟨few rfl,b6 λ l G2 n2 s2 t2=>?_⟩
 have S1:=s0.trans s1
 have nl:H l=none:=S1.free n2
 have npl:p≠l:=λ z=>by rw[z,n2]at t1;cases t1
 refine g8 ⟨⟨by omega,by omega⟩,?_⟩
 refine X3 (λ i Z G=>(Same H G/\G p=some (.lst (sts zs)))/\(∃ xs qs,G l=some (.lst xs)/\PairsAt G xs qs/\qs.length=i/\qs.map (·.1)=zs.take i/\∀ (j:Nat) r,qs[j]?=some r->r.2 = "all" \/ r.2∈zs.take j)/\∃ u v w,Z=[some (.ref a),some (.int (1 + e)),some (.ref p),some (.ref l),u,v,w])
  ⟨⟨S1.trans s2,s2 _ _ t1⟩,⟨[],[],t2,.nil,rfl,by simp,λ j r e=>by simp at e⟩,_,_,_,rfl⟩ ?_ ?_
 ·rintro i Z G hi ⟨⟨sm,hp⟩,⟨xs,qs,hg,pa,ql,qn,qa⟩,u,v,w,rfl⟩
  have hi2:i < zs.length:=by omega
  refine⟨a,ns,3 + (0 + i),rfl,sm.seq hS,by omega,.inl (.inl ⟨by decide,by decide⟩),a0w (by decide) (by decide),by decide,?_⟩
  generalize (M4 ns (3 + (0 + ↑i)) + 7 * (0 + ↑i) + 1) * 48271 % 2147483647=dr
  refine⟨few rfl,b6 λ pa1 G3 n3 s3 t3=>?_⟩
  refine slL_i (s3 _ _ hp) (b6 λ pa2 G4 n4 s4 t4=>?_)
  rw[cut_take zs i (by omega)]at t4
  refine C5 (s4 _ _ t3) t4 (by simp;omega) (b6 λ pa3 G5 n5 s5 t5=>⟨⟨by decide,by decide⟩,by omega,?_⟩)
  have w1:=Int.emod_nonneg (dr / 3) (show(0 + (i:Int)) + 1≠0 by omega)
  have w2:=Int.emod_lt_of_pos (dr / 3) (show 0 < (0 + (i:Int)) + 1 by omega)
  obtain⟨ab,hab,hok⟩:=all_at (zs.take i) w1 (by rw[List.length_take];omega)
  refine C4 t5 hab ?_
  have S35:=(s3.trans s4).trans s5
  replace sm:=sm.trans S35
  replace hp:=S35 _ _ hp
  replace hg:=S35 _ _ hg
  replace pa:=pa.same S35
  have hzi:zs[i]?=some zs[i]:=by simp[hi2]
  have fin:∀ (b:Str) (D':Ends),(b = "all" \/ b∈zs.take i)->(D'.nx=λ Z G=>(Same H G/\G p=some (.lst (sts zs)))/\(∃ xs qs,G l=some (.lst xs)/\PairsAt G xs qs/\qs.length=i + 1/\qs.map (·.1)=zs.take (i + 1)/\∀ (j:Nat) r,qs[j]?=some r->r.2 = "all" \/ r.2∈zs.take j)/\∃ u v w,Z=[some (.ref a),some (.int (1 + e)),some (.ref p),some (.ref l),u,v,w]) →
    tp_fin D' [some (.ref a),some (.int (1 + e)),some (.ref p),some (.ref l),some (.int (0 + i)),some (.int dr),some (.str b)] G5:=by
   intro b D' hb hD
   refine X7 hg (C4 hp (by rw[Int.zero_add];exact atS hzi) ⟨few rfl,b6 λ t G6 n6 s6 t6=>M6 (s6 _ _ hg) ?_ ?_⟩)
   ·rw[pa.1,ql]
    omega
   ·rw[hD]
    refine⟨⟨(sm.trans s6).put nl,by rw[a5 npl];exact s6 _ _ hp⟩,⟨_,qs++[(zs[i],b)],a6,((pa.same s6).snoc t6).put (s6 _ _ hg),by simp[ql],by rw[List.map_append,qn,b9 hzi];rfl,λ j r e=>?_⟩,_,_,_,rfl⟩
    by_cases hj:j < qs.length
    ·rw[List.getElem?_append_left hj]at e
     exact qa j r e
    ·have hlt:=(Zg e).1
     rw[List.length_append]at hlt
     have:j=qs.length:=by simp at hlt;omega
     subst this
     simp at e
     subst e
     rw[ql]
     exact hb
  have two:∀ (b:Str) (D':Ends),(b = "all" \/ b∈zs.take i)->(D'.nx=λ Z G=>(Same H G/\G p=some (.lst (sts zs)))/\(∃ xs qs,G l=some (.lst xs)/\PairsAt G xs qs/\qs.length=i + 1/\qs.map (·.1)=zs.take (i + 1)/\∀ (j:Nat) r,qs[j]?=some r->r.2 = "all" \/ r.2∈zs.take j)/\∃ u v w,Z=[some (.ref a),some (.int (1 + e)),some (.ref p),some (.ref l),u,v,w]) →
    tp_two D' [some (.ref a),some (.int (1 + e)),some (.ref p),some (.ref l),some (.int (0 + i)),some (.int dr),some (.str b)] G5:=by
   intro b D' hb hD
   refine⟨by decide,C8 (λ h=>?_) (λ h=>fin b D' hb hD)⟩
   exact fin "all" D' (.inl rfl) hD
  refine⟨by decide,C8 (λ h=>?_) (λ h=>i8 rfl (two ab _ hok rfl))⟩
  refine a0j (λ h2=>?_) (λ h2=>two ab _ hok rfl)
  have hi0:i - 1 < zs.length:=by omega
  refine C4 hp (v:=.str zs[i - 1]) ?_ (two zs[i - 1] _ (.inr ?_) rfl)
  ·have:(0 + (i:Int)) - 1=((i - 1:Nat):Int):=by omega
   rw[this]
   exact atS (by simp[hi0])
  ·refine List.mem_iff_getElem?.mpr ⟨i - 1,?_⟩
   rw[List.getElem?_take_of_lt (by omega)]
   simp[hi0]
 ·rintro Z G ⟨⟨sm,hp⟩,⟨xs,qs,hg,pa,ql,qn,qa⟩,u,v,w,rfl⟩
  have hlz:zs.length=(1 + e).toNat:=by omega
  rw[<- hlz,List.take_length]at qn
  refine q l xs qs G sm nl hg pa ⟨by omega,by omega,by rw[qn];exact hn,λ i r e=>?_⟩
  rw[List.map_take,qn]
  exact qa i r e
def a1l:Sp:=λ vs H Q _=>∃ n B:Int,vs=[.int n,.int B]/\1<=B/\∀ p H',Same H H'->H p=none->H' p=some (.lst ((if n - n % B=n then[n - n % B] else[n - n % B,n - n % B + B]).map V.int))->Q (.ref p) H'
def a2q:TS:=
 (b7 (d7 (tOp subG (gv 0) (tOp z9 (gv 0) (gv 1))) (a8 2))
 (b7 (sIf (bT (tOp eqG (gv 2) (gv 0)))
  (f9 (j6 (a0 (gv 2) a7)))
  g6)
 (f9 (j6 (a0 (gv 2) (a0 (tOp o8 (gv 2) (gv 1)) a7))))))
theorem a6y {n B:Int}{H:Hp}{D:Ends}(hB:1<=B)(q:∀ p H',Same H H'->H p=none->H' p=some (.lst ((if n - n % B=n then[n - n % B] else[n - n % B,n - n % B + B]).map V.int))->D.rt (.ref p) H'):a2q D [some (.int n),some (.int B),none] H:=by
 refine⟨by omega,a0j (λ e=>⟨few rfl,b6 λ p G n1 s t=>q p G s n1 ?_⟩) (λ e=>⟨few rfl,b6 λ p G n1 s t=>q p G s n1 ?_⟩)⟩
 ·rw[if_pos e];exact t
 ·rw[if_neg e];exact t
end
structure TabW (cl:Addr) (H:Hp) (x tb:Addr) (ps:List (Str×Str)) (cs:List Str) (T:Str×Str->Int):Prop where
 hh:HouseAt cl H x ps cs
 ht:H tb=some (.dT (d8 (b8 ps cs) T))
 sm:A.B5 ("all" : Str) ps cs T
 nn:∀ q∈b8 ps cs,0<=T q
theorem TabW.same {cl:Addr}{H G:Hp}{x tb:Addr}{ps:List (Str×Str)}{cs:List Str}{T:Str×Str->Int}(h:TabW cl H x tb ps cs T)(s:Same H G):TabW cl G x tb ps cs T:=⟨h.hh.same s,s _ _ h.ht,h.sm,h.nn⟩
theorem next_in {B n m:Int}(hB:1<=B)(a:A.Near B n m)(d:B ∣ m):(((if n - n % B=n then[n - n % B] else[n - n % B,n - n % B + B]).map PyData.int).any λ e=>PyData.eqv e (.int m))=true:=by
 rw[List.any_eq_true]
 have hm:m∈(if n - n % B=n then[n - n % B] else[n - n % B,n - n % B + B]):=by
  rcases a.done hB d with⟨h1,h2⟩ | ⟨h1,h2⟩
  ·have:=Int.emod_eq_zero_of_dvd h1
   rw[if_pos (by omega)]
   simp
   omega
  ·have:n % B≠0:=λ z=>h1 (Int.dvd_of_emod_eq_zero z)
   rw[if_neg (by omega)]
   simp
   omega
 exact⟨.int m,List.mem_map.mpr ⟨m,hm,rfl⟩,by simp[PyData.eqv]⟩
theorem rd_ints (H:Hp):∀ l:List Int,a1B H (l.map V.int)=some (l.map PyData.int)
 | []=>rfl
 | x::r=>by
  have:=rd_ints H r
  show a1B H (V.int x::r.map V.int)=_
  unfold a1B at this ⊢
  rw[List.mapM_cons,this]
  rfl
section
variable {cl:Addr}
def p9 (cl:Addr):Sp:=λ vs H Q _=>∃ (x tb:Addr) (B:Int) (ps:List (Str×Str)) (cs:List Str) (T:Str×Str->Int),vs=[.ref x,.ref tb,.int B]/\TabW cl H x tb ps cs T/\1<=B/\B<=10 ^ 18 ∧
 ∀ d F H',Same H H'->TabW cl H' x d ps cs F->Q (.ref d) H'
def U5 (cl:Addr):TS:=
 (b7 (d7 (d3 (y4 cl) [] E0 (a0 (gv 0) (a0 (gv 1) (a0 (gv 2) a7)))) (a8 3))
 (b7 (sIf (J4 (ptG (d3 (J3 cl) [] E0 (a0 (gv 0) (a0 (gv 3) a7)))))
  (f9 (tC .non))
  g6)
 (b7 (v5 (iOf d9 (gv 1)) (a8 4)
  (sIf (bT (tOp (inG true) (tOp e8 (gv 3) (gv 4)) (d3 a1l [] E0 (a0 (tOp e8 (gv 1) (gv 4)) (a0 (gv 2) a7)))))
   (f9 (tC .non))
   g6))
 (f9 (gv 3)))))
theorem a2M {x tb:Addr}{B:Int}{ps:List (Str×Str)}{cs:List Str}{T:Str×Str->Int}{H:Hp}{D:Ends}(W:TabW cl H x tb ps cs T)(hB:1<=B)(hB2:B<=10 ^ 18)
  (q:∀ d F H',Same H H'->TabW cl H' x d ps cs F->D.rt (.ref d) H'):U5 cl D [some (.ref x),some (.ref tb),some (.int B),none,none] H:=by
 have hz:=sz
 have ln:(b8 ps cs).length<=225:=J9 W.hh.good W.hh.many
 refine⟨x,tb,B,ps,cs,_,T,rfl,W.hh,W.ht,a2n λ q h=>h,W.sm,W.nn,hB,hB2,λ d F G1 s1 n1 t1 R ev=>?_⟩
 have W1:=W.same s1
 refine⟨x,d,ps,cs,F,rfl,W1.hh,t1,R.sm,R.nn,λ G2 s2=>i8 rfl ?_⟩
 have W2:=W1.same s2
 have t2:=s2 _ _ t1
 have ntd:tb≠d:=λ z=>by have h:=W.ht;rw[z,n1]at h;cases h
 refine g8 (Nu.X6 W2.ht λ o=>?_)
 refine loop_dT (λ i Z G=>Same (upd G2 tb (.frz o (.dT (d8 (b8 ps cs) T)))) G/\∃ u,Z=[some (.ref x),some (.ref tb),some (.int B),some (.ref d),u])
  ⟨λ _ _ e=>e,_,rfl⟩ (λ i Z G _ h=>h.1 _ _ a6) ?_ ?_
 ·rintro i k v t Z G hi ⟨sm,u,rfl⟩ ht
  obtain⟨p,hp,rfl,rfl⟩:=a4i hi
  have hpm:=List.mem_of_getElem? hp
  have ht:G t=some (.tup [.str p.1,.str p.2]):=ht
  have hd:G d=some (.dT (d8 (b8 ps cs) F)):=sm _ _ (by rw[a5 (Ne.symm ntd)];exact t2)
  have htb:G tb=some (.frz o (.dT (d8 (b8 ps cs) T))):=sm _ _ a6
  refine m4 (.inl hd) ht (i6 hpm) (m4 (.inr ⟨o,htb⟩) ht (i6 hpm) ⟨T p,B,rfl,hB,λ pn G3 s3 n3 t3=>?_⟩)
  refine inL_i t3 (rd_ints _ _) (d:=.int (F p)) rfl ?_
  rw[next_in hB (R.nr p hpm) (ev p hpm)]
  exact i8 rfl ⟨sm.trans s3,_,rfl⟩
 ·rintro Z G ⟨sm,u,rfl⟩
  refine⟨⟨o,sm _ _ a6⟩,?_⟩
  have S:=B0 W2.ht sm
  have hd:upd G tb (.dT (d8 (b8 ps cs) T)) d=some (.dT (d8 (b8 ps cs) F)):=S _ _ t2
  have W3:=W2.same S
  exact q d F _ (s1.trans (s2.trans S)) ⟨W3.hh,hd,R.sm,R.nn⟩
def P2 (cl:Addr):Sp:=λ vs H Q _=>∃ (x tb:Addr) (c:Int) (ps:List (Str×Str)) (cs:List Str) (T:Str×Str->Int),vs=[.ref x,.ref tb,.int c]/\TabW cl H x tb ps cs T/\0<=c/\∀ H',Same H H'->Q (.bl true) H'
def tt_end (cl:Addr):TS:=
 (b7 (d7 N5 (a8 5))
 (b7 (v5 (iOf d9 (gv 1)) (a8 6)
  (d7 (tOp U9 (tOp e8 (gv 1) (gv 6)) (gv 3)) (W0 (gv 5) (gv 6) A9)))
 (f9 (tOp eqG (d3 (y4 cl) [] E0 (a0 (gv 0) (a0 (gv 5) (a0 (gv 3) a7)))) (gv 5)))))
def a0O (cl:Addr):TS:=
 (b7 (d7 (tOp o8 (tC (.int 2)) (tOp z9 (tOp B8 (gv 2) (tC (.int 3))) (tOp e8 (j6 (a0 (tC (.int 9)) (a0 (tC (.int 999)) (a0 (tOp subG (tOp powG (tC (.int 10)) (tC (.int 18))) (tC (.int 1))) a7)))) (tOp z9 (gv 2) (tC (.int 3)))))) (a8 3))
 (b7 (d7 (d3 (p9 cl) [] E0 (a0 (gv 0) (a0 (gv 1) (a0 (gv 3) a7)))) (a8 4))
 (b7 (sIf (bT (tOp (isG false) (gv 4) (tC .non)))
  (f9 (tC (.bl false)))
  g6)
 (b7 (sIf (X1 (bT (tOp leG (tOp U9 (tC (.int 2)) (gv 3)) (tOp powG (tC (.int 10)) (tC (.int 18))))) (bT (tOp (isG false) (d3 (p9 cl) [] E0 (a0 (gv 0) (a0 (gv 4) (a0 (tOp U9 (tC (.int 2)) (gv 3)) a7)))) (tC .non))))
  (f9 (tC (.bl false)))
  g6)
 (tt_end cl)))))
theorem r_tend {x tb:Addr}{B:Int}{u2 u4:Option V}{ps:List (Str×Str)}{cs:List Str}{T:Str×Str->Int}{H:Hp}{D:Ends}(W:TabW cl H x tb ps cs T)(hB:1<=B)(hB2:B<=10 ^ 18)
  (q:∀ H',Same H H'->D.rt (.bl true) H'):tt_end cl D [some (.ref x),some (.ref tb),u2,some (.int B),u4,none,none] H:=by
 have hz:=sz
 have ln:(b8 ps cs).length<=225:=J9 W.hh.good W.hh.many
 have nd:(b8 ps cs).Nodup:=pl_nd W.hh.good W.hh.nms
 refine .inr (b6 λ m G1 n1 s1 t1=>?_)
 have W1:=W.same s1
 have nmt:m≠tb:=λ z=>by have h:=W.ht;rw[<- z,n1]at h;cases h
 refine g8 (Nu.X6 W1.ht λ o=>?_)
 refine loop_dT (λ i Z G=>Same (upd H tb (.frz o (.dT (d8 (b8 ps cs) T)))) G/\G m=some (.dT (d8 ((b8 ps cs).take i) λ p=>T p * B))/\∃ u,Z=[some (.ref x),some (.ref tb),u2,some (.int B),u4,some (.ref m),u])
  ⟨a2c s1,by rw[a5 nmt];exact t1,_,rfl⟩ (λ i Z G _ h=>h.1 _ _ a6) ?_ ?_
 ·rintro i k v t Z G hi ⟨sm,hm,u,rfl⟩ ht
  obtain⟨p,hp,rfl,rfl⟩:=a4i hi
  have hpm:=List.mem_of_getElem? hp
  have ht:G t=some (.tup [.str p.1,.str p.2]):=ht
  have htb:G tb=some (.frz o (.dT (d8 (b8 ps cs) T))):=sm _ _ a6
  refine m4 (.inr ⟨o,htb⟩) ht (i6 hpm) ⟨.inl (.inr ⟨by omega,by omega⟩),E6 hm ht (by rw[j8,List.length_take];omega) ?_⟩
  rw[T2 (F:=λ p=>T p * B) (D4 nd hp),<- b9 hp]
  exact⟨sm.put (by rw[a5 nmt];exact n1),a6,_,rfl⟩
 ·rintro Z G ⟨sm,hm,u,rfl⟩
  rw[j8,List.take_length]at hm
  refine⟨⟨o,sm _ _ a6⟩,?_⟩
  have S:=B0 W.ht sm
  have hm2:upd G tb (.dT (d8 (b8 ps cs) T)) m=some (.dT (d8 (b8 ps cs) λ p=>T p * B)):=by rw[a5 nmt];exact hm
  have W2:=W.same S
  generalize upd G tb (.dT (d8 (b8 ps cs) T))=G2 at *
  refine⟨x,m,B,ps,cs,_,_,rfl,W2.hh,hm2,a2n λ q h=>h,A.sums_mul W.sm B,λ q hq=>Int.mul_nonneg (W.nn q hq) (by omega),hB,hB2,λ d F G3 s3 n3 t3 R ev=>?_⟩
  refine eqDT_i t3 (s3 _ _ hm2) (by rw[j8,j8]) (λ k v h=>?_) (q G3 (S.trans s3))
  obtain⟨p,hp,e⟩:=List.mem_map.mp h
  cases e
  have eF:F p=T p * B:=(R.nr p hp).ev (Int.dvd_mul_left ..)
  refine⟨F p,rfl,?_,λ v' h'=>?_⟩
  ·rw[eF]
   exact List.mem_map.mpr ⟨p,hp,rfl⟩
  ·obtain⟨p',hp',e'⟩:=List.mem_map.mp h'
   obtain⟨z1,z2⟩:=E5 (Prod.mk.inj e').1
   have:p'=p:=Prod.ext z1 z2
   subst this
   rw[<- (Prod.mk.inj e').2,eF]
theorem base_at {i:Int}(h0:0<=i)(h1:i < 3):∃ d:Int,atI ([.int 9,.int 999,.int (10 ^ (18:Int).toNat - 1)]:List V) i=some (.int d)/\0 < d/\d<=10 ^ 18 - 1:=by
 have:i=0\/i=1\/i=2:=by omega
 rcases this with rfl | rfl | rfl
 ·exact⟨9,rfl,by decide,by decide⟩
 ·exact⟨999,rfl,by decide,by decide⟩
 ·exact⟨10 ^ 18 - 1,rfl,by decide,by decide⟩
theorem a5A {x tb:Addr}{c:Int}{ps:List (Str×Str)}{cs:List Str}{T:Str×Str->Int}{H:Hp}{D:Ends}(W:TabW cl H x tb ps cs T)(q:∀ H',Same H H'->D.rt (.bl true) H'):a0O cl D [some (.ref x),some (.ref tb),some (.int c),none,none,none,none] H:=by
 have hz:=sz
 refine⟨by decide,⟨by decide,by decide,by decide +kernel⟩,few rfl,b6 λ pl G1 n1 s1 t1=>⟨by decide,?_⟩⟩
 obtain⟨d,hd,d0,d18⟩:=base_at (Int.emod_nonneg c (show(3:Int)≠0 by decide)) (Int.emod_lt_of_pos c (show(0:Int) < 3 by decide))
 refine C4 t1 hd ⟨d0,?_⟩
 have m1:=Int.emod_nonneg (c / 3) (show d≠0 by omega)
 have m2:=Int.emod_lt_of_pos (c / 3) d0
 generalize c / 3 % d=e at *
 have hB:1<=2 + e:=by omega
 have hB2:2 + e<=10 ^ 18:=by omega
 have W1:=W.same s1
 refine⟨x,tb,2 + e,ps,cs,T,rfl,W1,hB,hB2,λ d F G2 s2 W2=>i8 rfl ?_⟩
 have W3:=W1.same s2
 refine⟨.inl (.inl ⟨by decide,by decide⟩),⟨by decide,by decide,by decide +kernel⟩,a0j (λ h=>?_) (λ h=>?_)⟩
 ·have h:2 * (2 + e)<=10 ^ 18:=h
  refine⟨.inl (.inl ⟨by decide,by decide⟩),x,d,2 * (2 + e),ps,cs,F,rfl,W2,by omega,h,λ d' F' G3 s3 W4=>i8 rfl ?_⟩
  exact r_tend (W3.same s3) hB hB2 λ H' s'=>q H' ((s1.trans (s2.trans s3)).trans s')
 ·exact i8 rfl <| r_tend W3 hB hB2 λ H' s'=>q H' ((s1.trans s2).trans s')
end
theorem cut_nums (ns:List Int):∃ ys:List Int,a0i (ns.map V.int) (some 1) (some 61)=ys.map V.int/\ys.length<=60:=by
 refine⟨((ns.drop (HT.sIx ns.length 0 (some 1))).take (HT.sIx ns.length ns.length (some 61) - HT.sIx ns.length 0 (some 1))),?_,?_⟩
 ·unfold a0i
  rw[List.length_map,List.map_take,List.map_drop]
 ·rw[List.length_take,List.length_drop]
  have e1:HT.sIx ns.length 0 (some 1)=min 1 ns.length:=HT.a1a ..
  have e2:HT.sIx ns.length ns.length (some 61)=min 61 ns.length:=HT.a1a ..
  rw[e1,e2]
  omega
theorem cut_four (zs:List Str):a0i (sts zs) none (some 4)=sts (zs.take 4):=by
 unfold a0i
 rw[HT.a4A,show HT.sIx (sts zs).length (sts zs).length (some 4)=min 4 (sts zs).length from HT.a1a ..,List.drop_zero,Nat.sub_zero]
 rw[show sts (zs.take 4)=(sts zs).take 4 from List.map_take ..]
 rw[<- List.take_eq_take_min]
theorem count_at {i:Int}(h0:0<=i)(h1:i < 3):∃ d:Int,atI ([.int 5,.int 100,.int (10 ^ (18:Int).toNat + 1)]:List V) i=some (.int d)/\0 < d/\d<=10 ^ 18 + 1:=by
 have:i=0\/i=1\/i=2:=by omega
 rcases this with rfl | rfl | rfl
 ·exact⟨5,rfl,by decide,by decide⟩
 ·exact⟨100,rfl,by decide,by decide⟩
 ·exact⟨10 ^ 18 + 1,rfl,by decide,by decide⟩
section
variable {K:PySem.W.Frag}{cl:Addr}
def tl_try (cl:Addr):TS:=
 (sIf (J4 (ptG (d3 (P2 cl) [] E0 (a0 (gv 1) (a0 (d3 (L1 cl) [] E0 (a0 (gv 1) (a0 (gv 3) a7))) (a0 (tOp B8 (gv 7) (tC (.int 7))) a7))))))
  (f9 (tC (.bl false)))
  g6)
def tl_turn (cl:Addr):TS:=
 (b7 (d7 (tOp z9 (tOp U9 (tOp o8 (tOp z9 (tOp e8 (gv 5) (gv 6)) (tOp powG (tC (.int 10)) (tC (.int 30)))) (tC (.int 1))) (tOp o8 (tC (.int 48271)) (tOp U9 (tOp U9 (tC (.int 2)) (gv 6)) (gv 6)))) (tOp o8 (tOp powG (tC (.int 10)) (tC (.int 24))) (tC (.int 7)))) (a8 7))
 (b7 (d7 (tOp e8 (gv 2) (tOp z9 (tOp B8 (gv 7) (tC (.int 5))) (tCB a0m (a0 (gv 2) a7)))) (a8 4))
 (b7 (d7 (tOp z9 (tOp B8 (gv 7) (tC (.int 5000))) (tOp e8 (j6 (a0 (tC (.int 5)) (a0 (tC (.int 100)) (a0 (tOp o8 (tOp powG (tC (.int 10)) (tC (.int 18))) (tC (.int 1))) a7)))) (tOp z9 (gv 7) (tC (.int 3))))) (W0 (gv 3) (gv 4) A9))
 (sIf (tOrB (bT (tOp eqG (tOp z9 (gv 6) (tC (.int 6))) (tC (.int 5)))) (bT (tOp eqG (gv 6) (tOp subG (tCB a0m (a0 (gv 5) a7)) (tC (.int 1))))))
  (tl_try cl)
  g6))))
def tl_nums (K:PySem.W.Frag)(cl:Addr):TS:=
 (b7 (d7 (tSl (rSlS K) (gv 0) (a3k (tC (.int 1))) (a3k (tC (.int 61)))) (a8 5))
 (b7 (v5 (a3j (a0 (tCB a0m (a0 (gv 5) a7)) a7)) (a8 6)
  (tl_turn cl))
 (f9 (tC (.bl true)))))
def t77_law (K:PySem.W.Frag)(cl:Addr):TS:=
 (b7 (d7 (tMake cl (w8 cl) [] E0 (a0 (d3 (D5 K) [] E0 (a0 (gv 0) a7)) (a0 (tSl slG (d3 (A1 K) [] E0 (a0 (gv 0) a7)) a1b (a3k (tC (.int 4)))) a7))) (a8 1))
 (b7 (d7 (i9 cl "cells" (C1 cl) E0 (gv 1) a7) (a8 2))
 (b7 (d7 N5 (a8 3))
 (b7 (v5 (iOf d9 (gv 2)) (a8 4)
  (d7 (tOp z9 (tOp B8 (d3 (d4 K) [] E0 (a0 (gv 0) (a0 (tC (.int 0)) a7))) (tC (.int 3))) (tC (.int 5))) (W0 (gv 3) (gv 4) A9)))
 (b7 (sIf (J4 (ptG (d3 (P2 cl) [] E0 (a0 (gv 1) (a0 (d3 (L1 cl) [] E0 (a0 (gv 1) (a0 (gv 3) a7))) (a0 (tOp z9 (d3 (d4 K) [] E0 (a0 (gv 0) (a0 (tC (.int 1)) a7))) (tOp powG (tC (.int 10)) (tC (.int 40)))) a7))))))
  (f9 (tC (.bl false)))
  g6)
 (tl_nums K cl))))))
theorem cel_len {H:Hp}{x:Addr}{ps:List (Str×Str)}{cs:List Str}(hh:HouseAt cl H x ps cs):(d5 (b5 ps) cs).length<=1000:=by
 rw[K8]
 have h1:(b5 ps).length<=(b4 ps).length:=List.length_filter_le ..
 have h2:(b4 ps).length=ps.length:=List.length_map ..
 have:=hh.good.many
 have h3:=Nat.mul_le_mul (show(b5 ps).length<=24 by omega) hh.many
 omega
theorem r_turn {a x pc d pn:Addr}{ps:List (Str×Str)}{cs:List Str}{ws:List V}{N:Str×Str->Int}{ys:List Int}{i:Nat}{u4 u7:Option V}{H G:Hp}{D:Ends}(hh:HouseAt cl H x ps cs)(hl:H pc=some (.lst ws))(pw:PairsAt H ws (d5 (b5 ps) cs))(nd:H d=none)(sm:Same H G)(hn:G pn=some (.lst (ys.map V.int)))(npd:pn≠d)
  (hd:G d=some (.dT (d8 (d5 (b5 ps) cs) N)))(nn:∀ p∈d5 (b5 ps) cs,0<=N p/\N p<=10 ^ 18)(hi:i < ys.length)(hy:ys.length<=60)(ne:0 < (d5 (b5 ps) cs).length)
  (q:∀ N' G' u4 u7,Same H G'->G' pn=some (.lst (ys.map V.int))->G' d=some (.dT (d8 (d5 (b5 ps) cs) N'))->(∀ p∈d5 (b5 ps) cs,0<=N' p/\N' p<=10 ^ 18)->D.nx [some (.ref a),some (.ref x),some (.ref pc),some (.ref d),u4,some (.ref pn),some (.int (0 + i)),u7] G'):
  tl_turn cl D [some (.ref a),some (.ref x),some (.ref pc),some (.ref d),u4,some (.ref pn),some (.int (0 + i)),u7] G:=by
 have hz:=sz
 have hat:atI (ys.map V.int) (0 + (i:Int))=some (.int ys[i]):=by
  rw[Int.zero_add]
  exact D2 (by rw[List.getElem?_map,List.getElem?_eq_getElem hi];rfl)
 refine C4 hn hat ⟨⟨by decide,by decide,by decide +kernel⟩,by decide,⟨.inl (.inl ⟨by decide,by decide⟩),.inl (.inr ⟨by omega,by omega⟩),?_⟩⟩
 have b1:2 * (0 + (i:Int)) * (0 + i)<=120 * 60:=Int.mul_le_mul (by omega) (by omega) (by omega) (by omega)
 have b0:0<=2 * (0 + (i:Int)) * (0 + i):=Int.mul_nonneg (by omega) (by omega)
 refine⟨.inl (.inr ⟨by omega,by omega⟩),⟨by decide,by decide,by decide +kernel⟩,by decide,?_⟩
 have dr0:0<=(ys[i] % 10 ^ (30:Int).toNat + 1) * (48271 + 2 * (0 + (i:Int)) * (0 + i)) % (10 ^ (24:Int).toNat + 7):=Int.emod_nonneg _ (by decide)
 generalize (ys[i] % 10 ^ (30:Int).toNat + 1) * (48271 + 2 * (0 + (i:Int)) * (0 + i)) % (10 ^ (24:Int).toNat + 7)=dr at *
 refine⟨by decide,V3 (sm _ _ hl) ⟨by rw[pw.1];omega,?_⟩⟩
 have w1:=Int.emod_nonneg (dr / 5) (show(ws.length:Int)≠0 by rw[pw.1];omega)
 have w2:=Int.emod_lt_of_pos (dr / 5) (show 0 < (ws.length:Int) by rw[pw.1];omega)
 obtain⟨j,hj⟩:∃ j:Nat,dr / 5 % (ws.length:Int)=j:=⟨_,(Int.toNat_of_nonneg w1).symm⟩
 have hjl:j < ws.length:=by omega
 obtain⟨p,t,hp,ht1,ht⟩:=pw.at (i:=j) (x:=ws[j]) (List.getElem?_eq_getElem hjl)
 have hpm:=List.mem_of_getElem? hp
 refine C4 (sm _ _ hl) (v:=.ref t) (by rw[hj];exact D2 (by rw[List.getElem?_eq_getElem hjl,ht1])) ?_
 refine⟨by decide,⟨by decide,by decide,by decide +kernel⟩,few rfl,b6 λ pk G1 n1 s1 t1=>⟨by decide,?_⟩⟩
 obtain⟨e,he,e0,e18⟩:=count_at (Int.emod_nonneg dr (show(3:Int)≠0 by decide)) (Int.emod_lt_of_pos dr (show(0:Int) < 3 by decide))
 refine C4 t1 he ⟨e0,?_⟩
 have m1:=Int.emod_nonneg (dr / 5000) (show e≠0 by omega)
 have m2:=Int.emod_lt_of_pos (dr / 5000) e0
 have lc:(d5 (b5 ps) cs).length<=1000:=cel_len hh
 refine E6 (s1 _ _ hd) ((sm.trans s1) _ _ ht) (by rw[j8];omega) ?_
 rw[Y5 hpm]
 have nn2:∀ r∈d5 (b5 ps) cs,0<=(if r=p then dr / 5000 % e else N r)/\(if r=p then dr / 5000 % e else N r)<=10 ^ 18:=λ r hr=>by
  split
  ·omega
  ·exact nn r hr
 obtain⟨N2,eN⟩:∃ N2:Str×Str->Int,(λ x=>if x=p then dr / 5000 % e else N x)=N2:=⟨_,rfl⟩
 have nn2:∀ r∈d5 (b5 ps) cs,0<=N2 r/\N2 r<=10 ^ 18:=by rw[<- eN];exact nn2
 rw[eN]
 clear eN
 have hd2:upd G1 d (.dT (d8 (d5 (b5 ps) cs) N2)) d=some (.dT (d8 (d5 (b5 ps) cs) N2)):=a6
 have sm2:Same H (upd G1 d (.dT (d8 (d5 (b5 ps) cs) N2))):=(sm.trans s1).put nd
 have hn2:upd G1 d (.dT (d8 (d5 (b5 ps) cs) N2)) pn=some (.lst (ys.map V.int)):=by rw[a5 npd];exact s1 _ _ hn
 generalize upd G1 d (.dT (d8 (d5 (b5 ps) cs) N2))=G2 at *
 have fin:tl_try cl D [some (.ref a),some (.ref x),some (.ref pc),some (.ref d),some (.ref t),some (.ref pn),some (.int (0 + i)),some (.int dr)] G2:=by
  refine⟨x,d,ps,cs,N2,rfl,hh.same sm2,hd2,nn2,λ tb F G3 s3 n3 t3 sF nF=>⟨by decide,x,tb,_,ps,cs,F,rfl,⟨hh.same (sm2.trans s3),t3,sF,nF⟩,Int.ediv_nonneg dr0 (by decide),λ G4 s4=>i8 rfl ?_⟩⟩
  exact q N2 G4 _ _ (sm2.trans (s3.trans s4)) ((s3.trans s4) _ _ hn2) ((s3.trans s4) _ _ hd2) nn2
 have no:D.nx [some (.ref a),some (.ref x),some (.ref pc),some (.ref d),some (.ref t),some (.ref pn),some (.int (0 + i)),some (.int dr)] G2:=q N2 G2 _ _ sm2 hn2 hd2 nn2
 refine⟨by decide,C8 (λ h=>m5 rfl fin) (λ h=>V3 hn2 (C8 (λ h=>fin) (λ h=>no)))⟩
theorem r_nums {a x pc d:Addr}{ns:List Int}{ps:List (Str×Str)}{cs:List Str}{ws:List V}{N:Str×Str->Int}{u4:Option V}{H G:Hp}{D:Ends}(hS:SqL K G a (ns.map V.int))(hh:HouseAt cl H x ps cs)(hl:H pc=some (.lst ws))(pw:PairsAt H ws (d5 (b5 ps) cs))(nd:H d=none)(sm:Same H G)
  (hd:G d=some (.dT (d8 (d5 (b5 ps) cs) N)))(nn:∀ p∈d5 (b5 ps) cs,0<=N p/\N p<=10 ^ 18)(ne:0 < (d5 (b5 ps) cs).length)(q:∀ H',D.rt (.bl true) H'):
  tl_nums K cl D [some (.ref a),some (.ref x),some (.ref pc),some (.ref d),u4,none,none,none] G:=by
 have hz:=sz
 refine⟨a,_,rfl,hS,b6 λ pn G1 n1 s1 t1=>?_⟩
 obtain⟨ys,e,hy⟩:=cut_nums ns
 rw[e]at t1
 have npd:pn≠d:=λ z=>by rw[z,hd]at n1;cases n1
 refine g8 (V3 t1 ⟨⟨by omega,by simp;omega⟩,?_⟩)
 refine X3 (λ i Z G=>(Same H G/\G pn=some (.lst (ys.map V.int)))/\(∃ N,G d=some (.dT (d8 (d5 (b5 ps) cs) N))/\∀ p∈d5 (b5 ps) cs,0<=N p/\N p<=10 ^ 18)/\∃ u4 u6 u7,Z=[some (.ref a),some (.ref x),some (.ref pc),some (.ref d),u4,some (.ref pn),u6,u7])
  ⟨⟨sm.trans s1,t1⟩,⟨N,s1 _ _ hd,nn⟩,_,_,_,rfl⟩ ?_ ?_
 ·rintro i Z G hi ⟨⟨sm,hn⟩,⟨N,hd,nn⟩,u4,u6,u7,rfl⟩
  exact r_turn hh hl pw nd sm hn npd hd nn (by simp at hi;omega) hy ne λ N' G' u4 u7 s' n' d' nn'=>⟨⟨s',n'⟩,⟨N',d',nn'⟩,_,_,_,rfl⟩
 ·rintro Z G ⟨⟨sm,hn⟩,⟨N,hd,nn⟩,u4,u6,u7,rfl⟩
  exact q G
theorem cel_nd {ps:List (Str×Str)}{cs:List Str}(g:Good ps)(hc:Nms cs):(d5 (b5 ps) cs).Nodup:=by
 refine List.pairwise_flatMap.mpr ⟨λ n _=>List.pairwise_map.mpr (hc.2.imp λ h e=>h (by cases e;rfl)),?_⟩
 refine List.Pairwise.imp (λ h x hx y hy e=>?_) (show(b5 ps).Nodup from g.nms.2.sublist List.filter_sublist)
 obtain⟨_,_,rfl⟩:=List.mem_map.mp hx
 obtain⟨_,_,rfl⟩:=List.mem_map.mp hy
 cases e
 exact h rfl
theorem rows_some {ps:List (Str×Str)}(g:Good ps):b5 ps≠[]:=λ z=>by
 have g1:=g.one
 have hq:ps[ps.length - 1]?=some ps[ps.length - 1]:=List.getElem?_eq_getElem (by omega)
 generalize ps[ps.length - 1]=q at hq
 have hn:q.1∈b4 ps:=List.mem_map.mpr ⟨q,List.mem_of_getElem? hq,rfl⟩
 have:q.1∈b5 ps:=by
  refine List.mem_filter.mpr ⟨hn,List.isEmpty_iff.mpr (List.eq_nil_iff_forall_not_mem.mpr λ m hm=>?_)⟩
  have hm:(m,q.1)∈ps:=A.mem_bel.mp hm
  obtain⟨j,hj⟩:=List.mem_iff_getElem?.mp hm
  have hjl:=(Zg hj).1
  rcases g.abv j _ hj with e | e
  ·have e:q.1 = "all" := e
   rw[e]at hn
   exact all_out g hn
  ·have e:q.1∈(ps.take j).map (·.1):=e
   obtain⟨k,hk⟩:=List.mem_iff_getElem?.mp e
   rw[List.map_take]at hk
   have hkl:=(Zg hk).1
   rw[List.length_take]at hkl
   rw[List.getElem?_take_of_lt (by omega)]at hk
   have h2:(ps.map (·.1))[ps.length - 1]?=some q.1:=by rw[List.getElem?_map,hq];rfl
   have:=(List.getElem?_inj (l:=ps.map (·.1)) (by rw[List.length_map];omega) g.nms.2).mp (hk.trans h2.symm)
   omega
 rw[z]at this
 cases this
theorem r77_law {a:Addr}{ns:List Int}{H:Hp}{D:Ends}(hS:SqL K H a (ns.map V.int))(q:∀ H',D.rt (.bl true) H'):t77_law K cl D [some (.ref a),none,none,none,none,none,none,none] H:=by
 have hz:=sz
 refine⟨a,ns,rfl,hS,λ pl xs ps G1 s1 n1 t1 pa g=>?_⟩
 refine⟨a,ns,rfl,s1.seq hS,λ pc0 cs0 G2 s2 n2 t2 c1 c8 cn=>?_⟩
 refine slL_i t2 (b6 λ pc1 G3 n3 s3 t3=>?_)
 rw[cut_four]at t3
 have cn4:Nms (cs0.take 4):=⟨λ z hm=>cn.1 z (List.mem_of_mem_take hm),cn.2.sublist (List.take_sublist ..)⟩
 have c14:1<=(cs0.take 4).length:=by rw[List.length_take];omega
 have c84:(cs0.take 4).length<=8:=by rw[List.length_take];omega
 generalize cs0.take 4=cs at *
 have s13:=s2.trans s3
 intro x dx nx ndx _
 refine make_i g cn4 c14 c84 (s13 _ _ t1) (pa.same s13) t3 nx ndx λ G5 s5 hf=>⟨rfl,?_⟩
 have hh:=hf G5 λ _ _ _ e=>e
 clear hf
 have S5:=s1.trans (s13.trans s5)
 obtain⟨_,_,_,_,ex,_,_,_,_,e1,_⟩:=id hh
 refine k8 e1 rfl ⟨x,ps,cs,rfl,hh,λ pc ws G6 s6 n6 t6 pw=>?_⟩
 have pw:PairsAt G6 ws (d5 (b5 ps) cs):=pw
 have hh6:=hh.same s6
 have S6:=S5.trans s6
 have lc:=cel_len hh
 have ndp:(d5 (b5 ps) cs).Nodup:=cel_nd g cn4
 have ne:0 < (d5 (b5 ps) cs).length:=by
  rw[K8]
  have:=List.length_pos_iff.mpr (rows_some g)
  exact Nat.mul_pos this (by omega)
 refine .inr (b6 λ d G7 n7 s7 t7=>?_)
 have npd:pc≠d:=λ z=>by rw[z,n7]at t6;cases t6
 generalize hc0:M4 ns 0 / 3 % 5=v0
 have v0b:0<=v0/\v0<=4:=by
  have h1:=Int.emod_nonneg (M4 ns 0 / 3) (show(5:Int)≠0 by decide)
  have h2:=Int.emod_lt_of_pos (M4 ns 0 / 3) (show(0:Int) < 5 by decide)
  omega
 refine g8 (f7 (s7 _ _ t6) (g7 (xs:=ws) (λ i Z G=>(Same G6 G/\PairsAt G ws (d5 (b5 ps) cs))/\G d=some (.dT (d8 ((d5 (b5 ps) cs).take i) λ _=>v0))/\∃ u,Z=[some (.ref a),some (.ref x),some (.ref pc),some (.ref d),u,none,none,none])
  ⟨⟨s7,pw.same s7⟩,t7,_,rfl⟩ (λ i Z G _ h=>h.1.1 _ _ t6) ?_ ?_))
 ·rintro i y Z G hy ⟨⟨sm,pw⟩,hd,u,rfl⟩
  obtain⟨p,t,hp,rfl,ht⟩:=pw.at hy
  refine⟨a,ns,0,rfl,(S6.trans sm).seq hS,by decide,by decide,by decide,E6 hd ht (by rw[j8,List.length_take];omega) ?_⟩
  rw[hc0,T2 (F:=λ _=>v0) (D4 ndp hp),<- b9 hp]
  exact⟨⟨sm.put n7,B4 pw hd⟩,a6,_,rfl⟩
 ·rintro Z G ⟨⟨sm,pw8⟩,hd,u,rfl⟩
  rw[pw8.1,List.take_length]at hd
  have nn:∀ p∈d5 (b5 ps) cs,0<=(λ _:Str×Str=>v0) p/\(λ _:Str×Str=>v0) p<=10 ^ 18:=λ p _=>by dsimp only;omega
  refine⟨x,d,ps,cs,_,rfl,hh6.same sm,hd,nn,λ tb F G9 s9 n9 t9 sF nF=>?_⟩
  refine⟨a,ns,1,rfl,(S6.trans (sm.trans s9)).seq hS,by decide,⟨by decide,by decide,by decide +kernel⟩,by decide,x,tb,_,ps,cs,F,rfl,⟨hh6.same (sm.trans s9),t9,sF,nF⟩,Int.emod_nonneg _ (by decide),λ G10 s10=>i8 rfl ?_⟩
  have s90:=s9.trans s10
  exact r_nums ((S6.trans (sm.trans s90)).seq hS) hh6 t6 pw n7 (sm.trans s90) (s90 _ _ hd) nn ne q
end
end S8
end Tv
namespace P77
open PySem PySem.Spec PyProof.Rows L2 Tv
def top (i:Nat):Stmt:=PySem.Challenge.pw_tallyveil_k77_whole_rounded_and_rounded.main.body.getD i (.Pass ⟨0,0,0,0⟩)
abbrev L3:Stmt:=top 8
theorem a6z:FnScope ["thing"] ["thing"] (a4 L3):=⟨rfl,rfl,rfl,by decide +kernel,rfl,by decide +kernel,by decide +kernel⟩
abbrev a2r:Stmt:=top 9
theorem sc_name:FnScope ["thing"] ["thing"] (a4 a2r):=⟨rfl,rfl,rfl,by decide +kernel,rfl,by decide +kernel,by decide +kernel⟩
abbrev Y9:Stmt:=top 15
theorem sc_plain:FnScope ["text"] ["text"] (a4 Y9):=⟨rfl,rfl,rfl,by decide +kernel,rfl,by decide +kernel,by decide +kernel⟩
abbrev Z0:Stmt:=top 13
theorem sc_cname:FnScope ["thing", "ahead", "name"] ["thing", "ahead"] (a4 Z0):=⟨rfl,rfl,rfl,by decide +kernel,rfl,by decide +kernel,by decide +kernel⟩
abbrev P3:Stmt:=top 14
theorem sc_cabove:FnScope ["thing", "ahead", "above"] ["thing", "ahead"] (a4 P3):=⟨rfl,rfl,rfl,by decide +kernel,rfl,by decide +kernel,by decide +kernel⟩
abbrev Z1:Stmt:=top 12
theorem sc_ccols:FnScope ["columns", "names", "column"] ["columns"] (a4 Z1):=⟨rfl,rfl,rfl,by decide +kernel,rfl,by decide +kernel,by decide +kernel⟩
abbrev P4:Stmt:=top 11
theorem sc_cparts:FnScope ["parts", "above_of", "part", "name", "above"] ["parts"] (a4 P4):=⟨rfl,rfl,rfl,by decide +kernel,rfl,by decide +kernel,by decide +kernel⟩
abbrev P5:Stmt:=top 18
theorem sc_turned:FnScope ["above_of", "beneath_of", "part", "above"] ["above_of"] (a4 P5):=⟨rfl,rfl,rfl,by decide +kernel,rfl,by decide +kernel,by decide +kernel⟩
abbrev a2s:Stmt:=D3 (top 10) 0
theorem sc_init:FnScope ["self", "parts", "columns"] ["self", "parts", "columns"] (a4 a2s):=⟨rfl,rfl,rfl,by decide +kernel,rfl,by decide +kernel,by decide +kernel⟩
abbrev P6:Stmt:=D3 (top 10) 1
theorem sc_mparts:FnScope ["self"] ["self"] (a4 P6):=⟨rfl,rfl,rfl,by decide +kernel,rfl,by decide +kernel,by decide +kernel⟩
abbrev Z2:Stmt:=D3 (top 10) 3
theorem sc_mcols:FnScope ["self"] ["self"] (a4 Z2):=⟨rfl,rfl,rfl,by decide +kernel,rfl,by decide +kernel,by decide +kernel⟩
abbrev a2t:Stmt:=D3 (top 10) 5
theorem sc_mben:FnScope ["self", "part"] ["self", "part"] (a4 a2t):=⟨rfl,rfl,rfl,by decide +kernel,rfl,by decide +kernel,by decide +kernel⟩
abbrev P7:Stmt:=top 19
theorem sc_paired:FnScope ["parts", "columns", "pairs", "part", "column"] ["parts", "columns"] (a4 P7):=⟨rfl,rfl,rfl,by decide +kernel,rfl,by decide +kernel,by decide +kernel⟩
abbrev L4:Stmt:=D3 (top 10) 6
theorem a6A:FnScope ["self"] ["self"] (a4 L4):=⟨rfl,rfl,rfl,by decide +kernel,rfl,by decide +kernel,by decide +kernel⟩
abbrev Z3:Stmt:=D3 (top 10) 2
theorem sc_mrows:FnScope ["self"] ["self"] (a4 Z3):=⟨rfl,rfl,rfl,by decide +kernel,rfl,by decide +kernel,by decide +kernel⟩
abbrev P8:Stmt:=D3 (top 10) 7
theorem sc_mcells:FnScope ["self"] ["self"] (a4 P8):=⟨rfl,rfl,rfl,by decide +kernel,rfl,by decide +kernel,by decide +kernel⟩
abbrev P9:Stmt:=D3 (top 10) 4
theorem sc_mabove:FnScope ["self", "part"] ["self", "part"] (a4 P9):=⟨rfl,rfl,rfl,by decide +kernel,rfl,by decide +kernel,by decide +kernel⟩
abbrev a2u:Stmt:=top 23
theorem sc_sums:FnScope ["house", "sums", "part"] ["house"] (a4 a2u):=⟨rfl,rfl,rfl,by decide +kernel,rfl,by decide +kernel,by decide +kernel⟩
abbrev Q1:Stmt:=top 17
theorem sc_marked:FnScope ["places", "marks", "place"] ["places"] (a4 Q1):=⟨rfl,rfl,rfl,by decide +kernel,rfl,by decide +kernel,by decide +kernel⟩
abbrev Z4:Stmt:=top 16
theorem sc_among:FnScope ["house", "places", "marks"] ["house", "places"] (a4 Z4):=⟨rfl,rfl,rfl,by decide +kernel,rfl,by decide +kernel,by decide +kernel⟩
abbrev Z5:Stmt:=top 24
theorem sc_whole:FnScope ["house", "one"] ["house", "one"] (a4 Z5):=⟨rfl,rfl,rfl,by decide +kernel,rfl,by decide +kernel,by decide +kernel⟩
abbrev Q2:Stmt:=top 25
theorem sc_others:FnScope ["house", "one"] ["house", "one"] (a4 Q2):=⟨rfl,rfl,rfl,by decide +kernel,rfl,by decide +kernel,by decide +kernel⟩
abbrev a2v:Stmt:=top 28
theorem sc_sign:FnScope ["one"] ["one"] (a4 a2v):=⟨rfl,rfl,rfl,by decide +kernel,rfl,by decide +kernel,by decide +kernel⟩
abbrev Z6:Stmt:=top 27
theorem sc_given:FnScope ["house", "one", "sign"] ["house", "one"] (a4 Z6):=⟨rfl,rfl,rfl,by decide +kernel,rfl,by decide +kernel,by decide +kernel⟩
abbrev a2w:Stmt:=top 26
theorem sc_ends:FnScope ["house", "givers", "one", "place", "count", "ends"] ["house"] (a4 a2w):=⟨rfl,rfl,rfl,by decide +kernel,rfl,by decide +kernel,by decide +kernel⟩
abbrev Z7:Stmt:=top 34
theorem sc_cango:FnScope ["table", "step"] ["table", "step"] (a4 Z7):=⟨rfl,rfl,rfl,by decide +kernel,rfl,by decide +kernel,by decide +kernel⟩
abbrev Z8:Stmt:=top 35
theorem sc_start:FnScope ["ends", "step"] ["ends", "step"] (a4 Z8):=⟨rfl,rfl,rfl,by decide +kernel,rfl,by decide +kernel,by decide +kernel⟩
abbrev a2x:Stmt:=top 36
theorem sc_goal:FnScope ["ends", "step"] ["ends", "step"] (a4 a2x):=⟨rfl,rfl,rfl,by decide +kernel,rfl,by decide +kernel,by decide +kernel⟩
abbrev Z9:Stmt:=D3 (top 30) 0
theorem sc_winit:FnScope ["self", "house", "open_places", "ends", "place", "step", "steps"] ["self", "house", "open_places"] (a4 Z9):=⟨rfl,rfl,rfl,by decide +kernel,rfl,by decide +kernel,by decide +kernel⟩
abbrev L5:Stmt:=top 33
theorem a6B:FnScope ["web", "table", "first", "goal", "start", "came_by", "line", "turn", "here", "step", "one"] ["web", "table", "first"] (a4 L5):=⟨rfl,rfl,rfl,by decide +kernel,rfl,by decide +kernel,by decide +kernel⟩
abbrev a0a:Stmt:=top 32
theorem sc_short:FnScope ["web", "table", "first", "came_by", "one", "walk"] ["web", "table", "first"] (a4 a0a):=⟨rfl,rfl,rfl,by decide +kernel,rfl,by decide +kernel,by decide +kernel⟩
abbrev L6:Stmt:=top 31
theorem a6C:FnScope ["house", "table", "ring", "amount", "told", "place", "way"] ["house", "table", "ring", "amount"] (a4 L6):=⟨rfl,rfl,rfl,by decide +kernel,rfl,by decide +kernel,by decide +kernel⟩
abbrev a0b:Stmt:=top 40
theorem sc_isnum:FnScope ["thing"] ["thing"] (a4 a0b):=⟨rfl,rfl,rfl,by decide +kernel,rfl,by decide +kernel,by decide +kernel⟩
abbrev L7:Stmt:=top 41
theorem a6D:FnScope ["thing"] ["thing"] (a4 L7):=⟨rfl,rfl,rfl,by decide +kernel,rfl,by decide +kernel,by decide +kernel⟩
abbrev L8:Stmt:=top 42
theorem a6E:FnScope ["thing", "places", "fits"] ["thing", "places", "fits"] (a4 L8):=⟨rfl,rfl,rfl,by decide +kernel,rfl,by decide +kernel,by decide +kernel⟩
abbrev a2y:Stmt:=top 43
theorem sc_down:FnScope ["house", "numbers", "part", "beneath", "column", "total"] ["house", "numbers"] (a4 a2y):=⟨rfl,rfl,rfl,by decide +kernel,rfl,by decide +kernel,by decide +kernel⟩
abbrev Q3:Stmt:=top 44
theorem sc_across:FnScope ["house", "numbers", "part", "total"] ["house", "numbers"] (a4 Q3):=⟨rfl,rfl,rfl,by decide +kernel,rfl,by decide +kernel,by decide +kernel⟩
abbrev L9:Stmt:=top 38
theorem a6F:FnScope ["house", "numbers"] ["house", "numbers"] (a4 L9):=⟨rfl,rfl,rfl,by decide +kernel,rfl,by decide +kernel,by decide +kernel⟩
abbrev Q4:Stmt:=top 45
theorem sc_lineup:FnScope ["house", "row", "line"] ["house", "row"] (a4 Q4):=⟨rfl,rfl,rfl,by decide +kernel,rfl,by decide +kernel,by decide +kernel⟩
abbrev Q5:Stmt:=top 39
theorem sc_filled:FnScope ["house", "cells", "table", "place", "row", "column", "part"] ["house", "cells"] (a4 Q5):=⟨rfl,rfl,rfl,by decide +kernel,rfl,by decide +kernel,by decide +kernel⟩
abbrev Q6:Stmt:=top 48
theorem sc_uneven:FnScope ["table", "base"] ["table", "base"] (a4 Q6):=⟨rfl,rfl,rfl,by decide +kernel,rfl,by decide +kernel,by decide +kernel⟩
abbrev a0c:Stmt:=top 49
theorem sc_waygo:FnScope ["table", "ring", "base"] ["table", "ring", "base"] (a4 a0c):=⟨rfl,rfl,rfl,by decide +kernel,rfl,by decide +kernel,by decide +kernel⟩
abbrev M0:Stmt:=top 47
theorem a6G:FnScope ["house", "table", "base", "told", "uneven", "ring"] ["house", "table", "base"] (a4 M0):=⟨rfl,rfl,rfl,by decide +kernel,rfl,by decide +kernel,by decide +kernel⟩
abbrev a2z:Stmt:=top 51
theorem sc_cell:FnScope ["_law_script", "_law_k"] ["_law_script", "_law_k"] (a4 a2z):=⟨rfl,rfl,rfl,by decide +kernel,rfl,by decide +kernel,by decide +kernel⟩
abbrev Q7:Stmt:=top 52
theorem sc_lnames:FnScope ["_law_cell", "_law_many", "_law_size", "_law_at", "_law_beside", "_law_short", "_law_names_here", "_law_k", "_law_name", "_law_j", "_law_number"] ["_law_cell", "_law_many"] (a4 Q7):=⟨rfl,rfl,rfl,by decide +kernel,rfl,by decide +kernel,by decide +kernel⟩
abbrev Q8:Stmt:=top 53
theorem sc_lparts:FnScope ["_law_script", "_law_many", "_law_names_here", "_law_parts_here", "_law_k", "_law_draw", "_law_above"] ["_law_script"] (a4 Q8):=⟨rfl,rfl,rfl,by decide +kernel,rfl,by decide +kernel,by decide +kernel⟩
abbrev a0d:Stmt:=top 54
theorem sc_lcols:FnScope ["_law_script"] ["_law_script"] (a4 a0d):=⟨rfl,rfl,rfl,by decide +kernel,rfl,by decide +kernel,by decide +kernel⟩
abbrev a0e:Stmt:=top 55
theorem sc_lnext:FnScope ["_law_number", "_law_base", "_law_low"] ["_law_number", "_law_base"] (a4 a0e):=⟨rfl,rfl,rfl,by decide +kernel,rfl,by decide +kernel,by decide +kernel⟩
abbrev E8:Stmt:=top 56
theorem a5B:FnScope ["_law_house", "_law_table", "_law_base", "_law_found", "_law_place"] ["_law_house", "_law_table", "_law_base"] (a4 E8):=⟨rfl,rfl,rfl,by decide +kernel,rfl,by decide +kernel,by decide +kernel⟩
abbrev Q9:Stmt:=top 57
theorem sc_ltried:FnScope ["_law_house", "_law_table", "_law_cell", "_law_base", "_law_once", "_law_times", "_law_place"] ["_law_house", "_law_table", "_law_cell"] (a4 Q9):=⟨rfl,rfl,rfl,by decide +kernel,rfl,by decide +kernel,by decide +kernel⟩
abbrev a3C:Stmt:=top 58
theorem sc_law:FnScope ["_law_script", "_law_house", "_law_places", "_law_cells", "_law_place", "_law_numbers", "_law_k", "_law_draw"] ["_law_script"] (a4 a3C):=⟨rfl,rfl,rfl,by decide +kernel,rfl,by decide +kernel,by decide +kernel⟩
structure Txt (K:PySem.W.Frag) (mg:Str->Option Value) (C CW Visnum Viscount:Addr):Prop where
 clC:Cls K C
 mC:mg "House" = some (.ref C)
 clCW:Cls K CW
 mCW:mg "Web" = some (.ref CW)
 f_above_of:NoAttr K C "above_of"
 f_column_names:NoAttr K C "column_names"
 f_beneath_of:NoAttr K C "beneath_of"
 f_ends:NoAttr K CW "ends"
 f_steps_from:NoAttr K CW "steps_from"
 mVisnum:mg "is_number" = some (.ref Visnum)
 mViscount:mg "is_count" = some (.ref Viscount)
 n_isinstance:mg "isinstance" = none
 n_str:mg "str" = none
 n_list:mg "list" = none
 n_tuple:mg "tuple" = none
 n_len:mg "len" = none
 n_all:mg "all" = none
 n_range:mg "range" = none
 n_int:mg "int" = none
 n_bool:mg "bool" = none
 n_dict:mg "dict" = none
 n_reversed:mg "reversed" = none
 n_sum:mg "sum" = none
 n_min:mg "min" = none
 n_max:mg "max" = none
 g_ALL:∃ t,mg "ALL" = some (.str "all" t)
 g_DOWN:∃ t,mg "DOWN" = some (.str "down" t)
 g_ACROSS:∃ t,mg "ACROSS" = some (.str "across" t)
def j0 (C CW Visnum Viscount:Addr)(fns:List (Str×Sp))(mks mts:List (Str×Addr×Sp))(fvs:List (Addr×Sp))(fnd:List (Str×Sp×List V)):Tabs:={ fns:=fns,fnd:=fnd,mks:=mks,mts:=mts,fvs:=fvs,fld:=[("above_of",C),("column_names",C),("beneath_of",C),("ends",CW),("steps_from",CW)],glo:=[("ALL",V.str "all"),("DOWN",V.str "down"),("ACROSS",V.str "across"),("is_number",V.ref Visnum),("is_count",V.ref Viscount)],nog:=["isinstance", "str", "list", "tuple", "len", "all", "range", "int", "bool", "dict", "reversed", "sum", "min", "max"],scr:=["_law_script"] }
section
variable {P:Program}{w:World}{K:PySem.W.Frag}{mg:Str->Option Value}{base:Heap}{C CW Visnum Viscount:Addr}
theorem lib {k:Nat}{fns:List (Str×Sp)}{mks mts:List (Str×Addr×Sp)}{fvs:List (Addr×Sp)}{fnd:List (Str×Sp×List V)}(T:Txt K mg C CW Visnum Viscount)(h:Ents (FnE P w K mg base CX0 k) fns)(hm:Ents (MkE P w K mg base CX0 k) mks)(ht:Ents (λ m p=>Cls K p.1/\MtE P w K mg base CX0 k m p) mts)(hv:∀ p∈fvs,FvE P w K mg base CX0 k p)(hd:Ents (FdE P w K mg base CX0 k) fnd):Lib P w K mg base CX0 k (j0 C CW Visnum Viscount fns mks mts fvs fnd):=by
 refine lib_gen hd h hm ht (.cons ⟨T.clC,T.f_above_of⟩ (.cons ⟨T.clC,T.f_column_names⟩ (.cons ⟨T.clC,T.f_beneath_of⟩ (.cons ⟨T.clCW,T.f_ends⟩ (.cons ⟨T.clCW,T.f_steps_from⟩ (.nil)))))) (λ x v e=>?_) (λ x hx=>?_) hv
 ·have:Ents (λ x v=>∃ u,mg x=some u/\RelV v u) [("ALL",V.str "all"),("DOWN",V.str "down"),("ACROSS",V.str "across"),("is_number",V.ref Visnum),("is_count",V.ref Viscount)]:=.cons (by obtain⟨t,h⟩:=T.g_ALL;exact⟨_,h,_,rfl⟩) (.cons (by obtain⟨t,h⟩:=T.g_DOWN;exact⟨_,h,_,rfl⟩) (.cons (by obtain⟨t,h⟩:=T.g_ACROSS;exact⟨_,h,_,rfl⟩) (.cons ⟨_,T.mVisnum,rfl⟩ (.cons ⟨_,T.mViscount,rfl⟩ (.nil)))))
  exact this.get x v e
 ·simp only[j0,List.mem_cons,List.not_mem_nil,or_false]at hx
  rcases hx with rfl | rfl | rfl | rfl | rfl | rfl | rfl | rfl | rfl | rfl | rfl | rfl | rfl | rfl
  ·exact T.n_isinstance
  ·exact T.n_str
  ·exact T.n_list
  ·exact T.n_tuple
  ·exact T.n_len
  ·exact T.n_all
  ·exact T.n_range
  ·exact T.n_int
  ·exact T.n_bool
  ·exact T.n_dict
  ·exact T.n_reversed
  ·exact T.n_sum
  ·exact T.n_min
  ·exact T.n_max
theorem w_iswhole:wSs (wp 40) (cfg (j0 C CW Visnum Viscount [] [] [] [] []) K ["thing"] (a4 L3).names E0) (a9 L3)=a1V:=by kernel_rfl
theorem a6H {f:Addr}{fd:FuncData}(A:DefAt K mg "is_whole" L3 ["thing"] f fd)(T:Txt K mg C CW Visnum Viscount):FnE P w K mg base CX0 2 "is_whole" (F5):=
 A.ok (k:=0) 40 a6z (lib T (.nil) (.nil) (.nil) (λ p hp=>by cases hp) (.nil)) (λ vs H Q E h=>by obtain⟨x,S,rfl,_⟩:=h;rfl) w_iswhole (λ vs H Q E h=>by obtain⟨x,S,rfl,hk,q⟩:=h;exact a6k hk q)
theorem w_name:wSs (wp 40) (cfg (j0 C CW Visnum Viscount [] [] [] [] []) K ["thing"] (a4 a2r).names E0) (a9 a2r)=a3n:=by kernel_rfl
theorem ok_name {f:Addr}{fd:FuncData}(A:DefAt K mg "is_name" a2r ["thing"] f fd)(T:Txt K mg C CW Visnum Viscount):FnE P w K mg base CX0 2 "is_name" (M5):=
 A.ok (k:=0) 40 sc_name (lib T (.nil) (.nil) (.nil) (λ p hp=>by cases hp) (.nil)) (λ vs H Q E h=>by obtain⟨x,S,rfl,_⟩:=h;rfl) w_name (λ vs H Q E h=>by obtain⟨x,S,rfl,hk,hz,q⟩:=h;exact r_is_name hk hz q)
theorem w_plain:wSs (wp 40) (cfg (j0 C CW Visnum Viscount [] [] [] [] []) K ["text"] (a4 Y9).names E0) (a9 Y9)=X8:=by kernel_rfl
theorem ok_plain {f:Addr}{fd:FuncData}(A:DefAt K mg "plain_text" Y9 ["text"] f fd)(T:Txt K mg C CW Visnum Viscount):FnE P w K mg base CX0 2 "plain_text" (l9):=
 A.ok (k:=0) 40 sc_plain (lib T (.nil) (.nil) (.nil) (λ p hp=>by cases hp) (.nil)) (λ vs H Q E h=>by obtain⟨z,rfl,_⟩:=h;rfl) w_plain (λ vs H Q E h=>by obtain⟨z,rfl,hz,q⟩:=h;exact a4a hz q)
theorem w_cname:wSs (wp 40) (cfg (j0 C CW Visnum Viscount [("is_name",M5),("plain_text",l9)] [] [] [] []) K ["thing", "ahead", "name"] (a4 Z0).names E0) (a9 Z0)=O7:=by kernel_rfl
theorem ok_cname {f:Addr}{fd:FuncData}(A:DefAt K mg "checked_name" Z0 ["thing", "ahead"] f fd)(T:Txt K mg C CW Visnum Viscount)(hname:FnE P w K mg base CX0 2 "is_name" (M5))(hplain:FnE P w K mg base CX0 2 "plain_text" (l9)):FnE P w K mg base CX0 4 "checked_name" (j5):=
 A.ok (k:=2) 40 sc_cname (lib T (.cons (hname.mono (by decide)) (.cons (hplain.mono (by decide)) (.nil))) (.nil) (.nil) (λ p hp=>by cases hp) (.nil)) (λ vs H Q E h=>by obtain⟨z,l,ys,rfl,_⟩:=h;rfl) w_cname (λ vs H Q E h=>by obtain⟨z,l,ys,rfl,hl,hz,hn,q⟩:=h;exact a2b hl hz hn q)
theorem w_cabove:wSs (wp 40) (cfg (j0 C CW Visnum Viscount [("plain_text",l9)] [] [] [] []) K ["thing", "ahead", "above"] (a4 P3).names E0) (a9 P3)=N6:=by kernel_rfl
theorem ok_cabove {f:Addr}{fd:FuncData}(A:DefAt K mg "checked_above" P3 ["thing", "ahead"] f fd)(T:Txt K mg C CW Visnum Viscount)(hplain:FnE P w K mg base CX0 2 "plain_text" (l9)):FnE P w K mg base CX0 4 "checked_above" (v6):=
 A.ok (k:=2) 40 sc_cabove (lib T (.cons (hplain.mono (by decide)) (.nil)) (.nil) (.nil) (λ p hp=>by cases hp) (.nil)) (λ vs H Q E h=>by obtain⟨z,l,ys,rfl,_⟩:=h;rfl) w_cabove (λ vs H Q E h=>by obtain⟨z,l,ys,rfl,hl,hz,hn,q⟩:=h;exact a0T hl hz hn q)
theorem w_ccols:wSs (wp 40) (cfg (j0 C CW Visnum Viscount [("checked_name",j5)] [] [] [] []) K ["columns", "names", "column"] (a4 Z1).names E0) (a9 Z1)=F6:=by kernel_rfl
theorem ok_ccols {f:Addr}{fd:FuncData}(A:DefAt K mg "checked_columns" Z1 ["columns"] f fd)(T:Txt K mg C CW Visnum Viscount)(hcname:FnE P w K mg base CX0 4 "checked_name" (j5)):FnE P w K mg base CX0 6 "checked_columns" (o3):=
 A.ok (k:=4) 40 sc_ccols (lib T (.cons (hcname.mono (by decide)) (.nil)) (.nil) (.nil) (λ p hp=>by cases hp) (.nil)) (λ vs H Q E h=>by obtain⟨c,cs,rfl,_⟩:=h;rfl) w_ccols (λ vs H Q E h=>by obtain⟨c,cs,rfl,hc,hn,h1,h8,q⟩:=h;exact X9 hc hn h1 h8 q)
theorem w_cparts:wSs (wp 40) (cfg (j0 C CW Visnum Viscount [("checked_name",j5),("checked_above",v6)] [] [] [] []) K ["parts", "above_of", "part", "name", "above"] (a4 P4).names E0) (a9 P4)=N7:=by kernel_rfl
theorem ok_cparts {f:Addr}{fd:FuncData}(A:DefAt K mg "checked_parts" P4 ["parts"] f fd)(T:Txt K mg C CW Visnum Viscount)(hcname:FnE P w K mg base CX0 4 "checked_name" (j5))(hcabove:FnE P w K mg base CX0 4 "checked_above" (v6)):FnE P w K mg base CX0 6 "checked_parts" (w4):=
 A.ok (k:=4) 40 sc_cparts (lib T (.cons (hcname.mono (by decide)) (.cons (hcabove.mono (by decide)) (.nil))) (.nil) (.nil) (λ p hp=>by cases hp) (.nil)) (λ vs H Q E h=>by obtain⟨p,xs,ps,rfl,_⟩:=h;rfl) w_cparts (λ vs H Q E h=>by obtain⟨p,xs,ps,rfl,hp,pa,g,q⟩:=h;exact a0U hp pa g q)
theorem w_turned:wSs (wp 40) (cfg (j0 C CW Visnum Viscount [] [] [] [] []) K ["above_of", "beneath_of", "part", "above"] (a4 P5).names E0) (a9 P5)=O9:=by kernel_rfl
theorem ok_turned {f:Addr}{fd:FuncData}(A:DefAt K mg "turned_about" P5 ["above_of"] f fd)(T:Txt K mg C CW Visnum Viscount):FnE P w K mg base CX0 2 "turned_about" (x8):=
 A.ok (k:=0) 40 sc_turned (lib T (.nil) (.nil) (.nil) (λ p hp=>by cases hp) (.nil)) (λ vs H Q E h=>by obtain⟨a,ps,rfl,_⟩:=h;rfl) w_turned (λ vs H Q E h=>by obtain⟨a,ps,rfl,ha,g,q⟩:=h;exact a2d ha g q)
theorem w_init:wSs (wp 40) (cfg (j0 C CW Visnum Viscount [("checked_parts",w4),("checked_columns",o3),("turned_about",x8)] [] [] [] []) K ["self", "parts", "columns"] (a4 a2s).names E0) (a9 a2s)=Y0 C:=by kernel_rfl
theorem ok_init {f:Addr}{fd:FuncData}(M:Mk K C f)(F:Fun K "__init__" "House.__init__" a2s f fd)(b:Binds K fd ["self", "parts", "columns"] [])(T:Txt K mg C CW Visnum Viscount)(hcparts:FnE P w K mg base CX0 6 "checked_parts" (w4))(hccols:FnE P w K mg base CX0 6 "checked_columns" (o3))(hturned:FnE P w K mg base CX0 2 "turned_about" (x8)):MkE P w K mg base CX0 8 "House" (C,w8 C):=
 MkE.mk (k:=6) M T.mC F b 40 sc_init (lib T (.cons (hcparts.mono (by decide)) (.cons (hccols.mono (by decide)) (.cons (hturned.mono (by decide)) (.nil)))) (.nil) (.nil) (λ p hp=>by cases hp) (.nil)) (λ vs H Q E h=>by obtain⟨x,dx,p,c,xs,ps,cs,rfl,_⟩:=h;rfl) w_init (λ vs H Q E h=>by obtain⟨x,dx,p,c,xs,ps,cs,rfl,hx,hp,pa,g,hc,hn,h1,h8,q⟩:=h;exact a4c hx hp pa g hc hn h1 h8 q)
theorem w_mparts:wSs (wp 40) (cfg (j0 C CW Visnum Viscount [] [] [] [] []) K ["self"] (a4 P6).names E0) (a9 P6)=T9 C:=by kernel_rfl
theorem ok_mparts {f:Addr}{fd:FuncData}(M:Meth K C "parts" f)(F:Fun K "parts" "House.parts" P6 f fd)(b:Binds K fd ["self"] [])(T:Txt K mg C CW Visnum Viscount):MtE P w K mg base CX0 2 "parts" (C,x0 C):=
 MtE.mk (k:=0) M F b 40 sc_mparts (lib T (.nil) (.nil) (.nil) (λ p hp=>by cases hp) (.nil)) (λ vs H Q E h=>by obtain⟨x,ps,cs,rfl,_⟩:=h;rfl) w_mparts (λ vs H Q E h=>by obtain⟨x,ps,cs,rfl,hh,q⟩:=h;exact a2G hh q)
theorem w_mcols:wSs (wp 40) (cfg (j0 C CW Visnum Viscount [] [] [] [] []) K ["self"] (a4 Z2).names E0) (a9 Z2)=N8 C:=by kernel_rfl
theorem ok_mcols {f:Addr}{fd:FuncData}(M:Meth K C "columns" f)(F:Fun K "columns" "House.columns" Z2 f fd)(b:Binds K fd ["self"] [])(T:Txt K mg C CW Visnum Viscount):MtE P w K mg base CX0 2 "columns" (C,i7 C):=
 MtE.mk (k:=0) M F b 40 sc_mcols (lib T (.nil) (.nil) (.nil) (λ p hp=>by cases hp) (.nil)) (λ vs H Q E h=>by obtain⟨x,ps,cs,rfl,_⟩:=h;rfl) w_mcols (λ vs H Q E h=>by obtain⟨x,ps,cs,rfl,hh,q⟩:=h;exact a0W hh q)
theorem w_mben:wSs (wp 40) (cfg (j0 C CW Visnum Viscount [] [] [] [] []) K ["self", "part"] (a4 a2t).names E0) (a9 a2t)=N9 C:=by kernel_rfl
theorem ok_mben {f:Addr}{fd:FuncData}(M:Meth K C "beneath" f)(F:Fun K "beneath" "House.beneath" a2t f fd)(b:Binds K fd ["self", "part"] [])(T:Txt K mg C CW Visnum Viscount):MtE P w K mg base CX0 2 "beneath" (C,m3 C):=
 MtE.mk (k:=0) M F b 40 sc_mben (lib T (.nil) (.nil) (.nil) (λ p hp=>by cases hp) (.nil)) (λ vs H Q E h=>by obtain⟨x,ps,cs,k,rfl,_⟩:=h;rfl) w_mben (λ vs H Q E h=>by obtain⟨x,ps,cs,k,rfl,hh,hk,q⟩:=h;exact a0X hh hk q)
theorem w_paired:wSs (wp 40) (cfg (j0 C CW Visnum Viscount [] [] [] [] []) K ["parts", "columns", "pairs", "part", "column"] (a4 P7).names E0) (a9 P7)=a5i:=by kernel_rfl
theorem ok_paired {f:Addr}{fd:FuncData}(A:DefAt K mg "paired" P7 ["parts", "columns"] f fd)(T:Txt K mg C CW Visnum Viscount):FnE P w K mg base CX0 2 "paired" (B2):=
 A.ok (k:=0) 40 sc_paired (lib T (.nil) (.nil) (.nil) (λ p hp=>by cases hp) (.nil)) (λ vs H Q E h=>by obtain⟨p,c,xs,ys,rfl,_⟩:=h;rfl) w_paired (λ vs H Q E h=>by obtain⟨p,c,xs,ys,rfl,hp,hc,h1,h2,q⟩:=h;exact r_paired hp hc h1 h2 q)
theorem w_mplaces:wSs (wp 40) (cfg (j0 C CW Visnum Viscount [("paired",B2)] [] [("parts",C,x0 C)] [] []) K ["self"] (a4 L4).names E0) (a9 L4)=P0 C:=by kernel_rfl
theorem a6I {f:Addr}{fd:FuncData}(M:Meth K C "places" f)(F:Fun K "places" "House.places" L4 f fd)(b:Binds K fd ["self"] [])(T:Txt K mg C CW Visnum Viscount)(hpaired:FnE P w K mg base CX0 2 "paired" (B2))(hmparts:MtE P w K mg base CX0 2 "parts" (C,x0 C)):MtE P w K mg base CX0 4 "places" (C,h7 C):=
 MtE.mk (k:=2) M F b 40 a6A (lib T (.cons (hpaired.mono (by decide)) (.nil)) (.nil) (.cons (⟨T.clC,hmparts.mono (by decide)⟩) (.nil)) (λ p hp=>by cases hp) (.nil)) (λ vs H Q E h=>by obtain⟨x,ps,cs,rfl,_⟩:=h;rfl) w_mplaces (λ vs H Q E h=>by obtain⟨x,ps,cs,rfl,hh,q⟩:=h;exact a2f hh q)
theorem w_mrows:wSs (wp 40) (cfg (j0 C CW Visnum Viscount [] [] [] [] []) K ["self"] (a4 Z3).names E0) (a9 Z3)=Y1 C:=by kernel_rfl
theorem ok_mrows {f:Addr}{fd:FuncData}(M:Meth K C "rows" f)(F:Fun K "rows" "House.rows" Z3 f fd)(b:Binds K fd ["self"] [])(T:Txt K mg C CW Visnum Viscount):MtE P w K mg base CX0 2 "rows" (C,B6 C):=
 MtE.mk (k:=0) M F b 40 sc_mrows (lib T (.nil) (.nil) (.nil) (λ p hp=>by cases hp) (.nil)) (λ vs H Q E h=>by obtain⟨x,ps,cs,rfl,_⟩:=h;rfl) w_mrows (λ vs H Q E h=>by obtain⟨x,ps,cs,rfl,hh,q⟩:=h;exact a4d hh q)
theorem w_mcells:wSs (wp 40) (cfg (j0 C CW Visnum Viscount [("paired",B2)] [] [("rows",C,B6 C)] [] []) K ["self"] (a4 P8).names E0) (a9 P8)=U1 C:=by kernel_rfl
theorem ok_mcells {f:Addr}{fd:FuncData}(M:Meth K C "cells" f)(F:Fun K "cells" "House.cells" P8 f fd)(b:Binds K fd ["self"] [])(T:Txt K mg C CW Visnum Viscount)(hpaired:FnE P w K mg base CX0 2 "paired" (B2))(hmrows:MtE P w K mg base CX0 2 "rows" (C,B6 C)):MtE P w K mg base CX0 4 "cells" (C,C1 C):=
 MtE.mk (k:=2) M F b 40 sc_mcells (lib T (.cons (hpaired.mono (by decide)) (.nil)) (.nil) (.cons (⟨T.clC,hmrows.mono (by decide)⟩) (.nil)) (λ p hp=>by cases hp) (.nil)) (λ vs H Q E h=>by obtain⟨x,ps,cs,rfl,_⟩:=h;rfl) w_mcells (λ vs H Q E h=>by obtain⟨x,ps,cs,rfl,hh,q⟩:=h;exact a2H hh q)
theorem w_mabove:wSs (wp 40) (cfg (j0 C CW Visnum Viscount [] [] [] [] []) K ["self", "part"] (a4 P9).names E0) (a9 P9)=U2 C:=by kernel_rfl
theorem ok_mabove {f:Addr}{fd:FuncData}(M:Meth K C "above" f)(F:Fun K "above" "House.above" P9 f fd)(b:Binds K fd ["self", "part"] [])(T:Txt K mg C CW Visnum Viscount):MtE P w K mg base CX0 2 "above" (C,Y2 C):=
 MtE.mk (k:=0) M F b 40 sc_mabove (lib T (.nil) (.nil) (.nil) (λ p hp=>by cases hp) (.nil)) (λ vs H Q E h=>by obtain⟨x,ps,cs,i,r,rfl,_⟩:=h;rfl) w_mabove (λ vs H Q E h=>by obtain⟨x,ps,cs,i,r,rfl,hh,hr,q⟩:=h;exact a2I hh hr q)
theorem w_sums:wSs (wp 40) (cfg (j0 C CW Visnum Viscount [] [] [("parts",C,x0 C),("beneath",C,m3 C),("columns",C,i7 C),("rows",C,B6 C)] [] []) K ["house", "sums", "part"] (a4 a2u).names E0) (a9 a2u)=a3q C:=by kernel_rfl
theorem ok_sums {f:Addr}{fd:FuncData}(A:DefAt K mg "sums_of" a2u ["house"] f fd)(T:Txt K mg C CW Visnum Viscount)(hmparts:MtE P w K mg base CX0 2 "parts" (C,x0 C))(hmben:MtE P w K mg base CX0 2 "beneath" (C,m3 C))(hmcols:MtE P w K mg base CX0 2 "columns" (C,i7 C))(hmrows:MtE P w K mg base CX0 2 "rows" (C,B6 C)):FnE P w K mg base CX0 4 "sums_of" (M7 C):=
 A.ok (k:=2) 40 sc_sums (lib T (.nil) (.nil) (.cons (⟨T.clC,hmparts.mono (by decide)⟩) (.cons (⟨T.clC,hmben.mono (by decide)⟩) (.cons (⟨T.clC,hmcols.mono (by decide)⟩) (.cons (⟨T.clC,hmrows.mono (by decide)⟩) (.nil))))) (λ p hp=>by cases hp) (.nil)) (λ vs H Q E h=>by obtain⟨x,ps,cs,rfl,_⟩:=h;rfl) w_sums (λ vs H Q E h=>by obtain⟨x,ps,cs,rfl,hh,q⟩:=h;exact r_sums_of hh q)
theorem w_marked:wSs (wp 40) (cfg (j0 C CW Visnum Viscount [] [] [] [] []) K ["places", "marks", "place"] (a4 Q1).names E0) (a9 Q1)=R3.a5p:=by kernel_rfl
theorem ok_marked {f:Addr}{fd:FuncData}(A:DefAt K mg "marked" Q1 ["places"] f fd)(T:Txt K mg C CW Visnum Viscount):FnE P w K mg base CX0 2 "marked" (R3.T1):=
 A.ok (k:=0) 40 sc_marked (lib T (.nil) (.nil) (.nil) (λ p hp=>by cases hp) (.nil)) (λ vs H Q E h=>by obtain⟨l,zs,L,rfl,_⟩:=h;rfl) w_marked (λ vs H Q E h=>by obtain⟨l,zs,L,rfl,hl,pz,hL,q⟩:=h;exact R3.r_marked hl pz hL q)
theorem w_among:wSs (wp 40) (cfg (j0 C CW Visnum Viscount [("marked",R3.T1)] [] [("places",C,h7 C)] [] []) K ["house", "places", "marks"] (a4 Z4).names E0) (a9 Z4)=R3.t_among C:=by kernel_rfl
theorem ok_among {f:Addr}{fd:FuncData}(A:DefAt K mg "among" Z4 ["house", "places"] f fd)(T:Txt K mg C CW Visnum Viscount)(hmarked:FnE P w K mg base CX0 2 "marked" (R3.T1))(hmplaces:MtE P w K mg base CX0 4 "places" (C,h7 C)):FnE P w K mg base CX0 6 "among" (R3.Y4 C):=
 A.ok (k:=4) 40 sc_among (lib T (.cons (hmarked.mono (by decide)) (.nil)) (.nil) (.cons (⟨T.clC,hmplaces.mono (by decide)⟩) (.nil)) (λ p hp=>by cases hp) (.nil)) (λ vs H Q E h=>by obtain⟨x,l,zs,ps,cs,L,rfl,_⟩:=h;rfl) w_among (λ vs H Q E h=>by obtain⟨x,l,zs,ps,cs,L,rfl,hh,hl,pz,hL,q⟩:=h;exact R3.r_among hh hl pz hL q)
theorem w_whole:wSs (wp 40) (cfg (j0 C CW Visnum Viscount [] [] [] [] []) K ["house", "one"] (a4 Z5).names E0) (a9 Z5)=a2j:=by kernel_rfl
theorem ok_whole {f:Addr}{fd:FuncData}(A:DefAt K mg "whole_of" Z5 ["house", "one"] f fd)(T:Txt K mg C CW Visnum Viscount):FnE P w K mg base CX0 2 "whole_of" (F7):=
 A.ok (k:=0) 40 sc_whole (lib T (.nil) (.nil) (.nil) (λ p hp=>by cases hp) (.nil)) (λ vs H Q E h=>by obtain⟨x,t,ps,l,rfl,_⟩:=h;rfl) w_whole (λ vs H Q E h=>by obtain⟨x,t,ps,l,rfl,ht,hl,q⟩:=h;exact a6q ht hl q)
theorem w_others:wSs (wp 40) (cfg (j0 C CW Visnum Viscount [] [] [("beneath",C,m3 C),("columns",C,i7 C)] [] []) K ["house", "one"] (a4 Q2).names E0) (a9 Q2)=a0G C:=by kernel_rfl
theorem ok_others {f:Addr}{fd:FuncData}(A:DefAt K mg "others_of" Q2 ["house", "one"] f fd)(T:Txt K mg C CW Visnum Viscount)(hmben:MtE P w K mg base CX0 2 "beneath" (C,m3 C))(hmcols:MtE P w K mg base CX0 2 "columns" (C,i7 C)):FnE P w K mg base CX0 4 "others_of" (D6 C):=
 A.ok (k:=2) 40 sc_others (lib T (.nil) (.nil) (.cons (⟨T.clC,hmben.mono (by decide)⟩) (.cons (⟨T.clC,hmcols.mono (by decide)⟩) (.nil))) (λ p hp=>by cases hp) (.nil)) (λ vs H Q E h=>by obtain⟨x,t,ps,cs,l,rfl,_⟩:=h;rfl) w_others (λ vs H Q E h=>by obtain⟨x,t,ps,cs,l,rfl,hh,ht,hl,q⟩:=h;exact a5n hh ht hl q)
theorem w_sign:wSs (wp 40) (cfg (j0 C CW Visnum Viscount [] [] [] [] []) K ["one"] (a4 a2v).names E0) (a9 a2v)=S3.a3s:=by kernel_rfl
theorem ok_sign {f:Addr}{fd:FuncData}(A:DefAt K mg "sign_of" a2v ["one"] f fd)(T:Txt K mg C CW Visnum Viscount):FnE P w K mg base CX0 2 "sign_of" (S3.M8):=
 A.ok (k:=0) 40 sc_sign (lib T (.nil) (.nil) (.nil) (λ p hp=>by cases hp) (.nil)) (λ vs H Q E h=>by obtain⟨t,one,rfl,_⟩:=h;rfl) w_sign (λ vs H Q E h=>by obtain⟨t,one,rfl,ht,q⟩:=h;exact S3.r_sign_of ht q)
theorem w_given:wSs (wp 40) (cfg (j0 C CW Visnum Viscount [("sign_of",S3.M8),("whole_of",F7),("others_of",D6 C)] [] [] [] []) K ["house", "one", "sign"] (a4 Z6).names E0) (a9 Z6)=S3.a2k C:=by kernel_rfl
theorem ok_given {f:Addr}{fd:FuncData}(A:DefAt K mg "given_by" Z6 ["house", "one"] f fd)(T:Txt K mg C CW Visnum Viscount)(hsign:FnE P w K mg base CX0 2 "sign_of" (S3.M8))(hwhole:FnE P w K mg base CX0 2 "whole_of" (F7))(hothers:FnE P w K mg base CX0 4 "others_of" (D6 C)):FnE P w K mg base CX0 6 "given_by" (S3.F9 C):=
 A.ok (k:=4) 40 sc_given (lib T (.cons (hsign.mono (by decide)) (.cons (hwhole.mono (by decide)) (.cons (hothers.mono (by decide)) (.nil)))) (.nil) (.nil) (λ p hp=>by cases hp) (.nil)) (λ vs H Q E h=>by obtain⟨x,t,ps,cs,one,rfl,_⟩:=h;rfl) w_given (λ vs H Q E h=>by obtain⟨x,t,ps,cs,one,rfl,hh,ht,h1,q⟩:=h;exact S3.a6s hh ht h1 q)
theorem w_ends:wSs (wp 40) (cfg (j0 C CW Visnum Viscount [("sums_of",M7 C),("given_by",S3.F9 C)] [] [("places",C,h7 C)] [] []) K ["house", "givers", "one", "place", "count", "ends"] (a4 a2w).names E0) (a9 a2w)=R3.a3u C:=by kernel_rfl
theorem ok_ends {f:Addr}{fd:FuncData}(A:DefAt K mg "ends_of" a2w ["house"] f fd)(T:Txt K mg C CW Visnum Viscount)(hsums:FnE P w K mg base CX0 4 "sums_of" (M7 C))(hgiven:FnE P w K mg base CX0 6 "given_by" (S3.F9 C))(hmplaces:MtE P w K mg base CX0 4 "places" (C,h7 C)):FnE P w K mg base CX0 8 "ends_of" (R3.M9 C):=
 A.ok (k:=6) 40 sc_ends (lib T (.cons (hsums.mono (by decide)) (.cons (hgiven.mono (by decide)) (.nil))) (.nil) (.cons (⟨T.clC,hmplaces.mono (by decide)⟩) (.nil)) (λ p hp=>by cases hp) (.nil)) (λ vs H Q E h=>by obtain⟨x,ps,cs,rfl,_⟩:=h;rfl) w_ends (λ vs H Q E h=>by obtain⟨x,ps,cs,rfl,hh,q⟩:=h;exact R3.r_ends_of hh q)
theorem w_cango:wSs (wp 40) (cfg (j0 C CW Visnum Viscount [] [] [] [] []) K ["table", "step"] (a4 Z7).names E0) (a9 Z7)=R3.a5o:=by kernel_rfl
theorem ok_cango {f:Addr}{fd:FuncData}(A:DefAt K mg "can_go" Z7 ["table", "step"] f fd)(T:Txt K mg C CW Visnum Viscount):FnE P w K mg base CX0 2 "can_go" (R3.B3):=
 A.ok (k:=0) 40 sc_cango (lib T (.nil) (.nil) (.nil) (λ p hp=>by cases hp) (.nil)) (λ vs H Q E h=>by obtain⟨d,st,kvs,p,w,n,rfl,_⟩:=h;rfl) w_cango (λ vs H Q E h=>by obtain⟨d,st,kvs,p,w,n,rfl,hd,hs,hv,q⟩:=h;exact R3.r_can_go hd hs hv q)
theorem w_start:wSs (wp 40) (cfg (j0 C CW Visnum Viscount [] [] [] [] []) K ["ends", "step"] (a4 Z8).names E0) (a9 Z8)=R3.a2l:=by kernel_rfl
theorem ok_start {f:Addr}{fd:FuncData}(A:DefAt K mg "start_of" Z8 ["ends", "step"] f fd)(T:Txt K mg C CW Visnum Viscount):FnE P w K mg base CX0 2 "start_of" (R3.o5 1):=
 A.ok (k:=0) 40 sc_start (lib T (.nil) (.nil) (.nil) (λ p hp=>by cases hp) (.nil)) (λ vs H Q E h=>by obtain⟨d,st,kvs,ps,p,w,rfl,_⟩:=h;rfl) w_start (λ vs H Q E h=>by obtain⟨d,st,kvs,ps,p,w,rfl,hd,hs,hw,he,q⟩:=h;exact R3.a6t hd hs hw he q)
theorem w_goal:wSs (wp 40) (cfg (j0 C CW Visnum Viscount [] [] [] [] []) K ["ends", "step"] (a4 a2x).names E0) (a9 a2x)=R3.a3t:=by kernel_rfl
theorem ok_goal {f:Addr}{fd:FuncData}(A:DefAt K mg "goal_of" a2x ["ends", "step"] f fd)(T:Txt K mg C CW Visnum Viscount):FnE P w K mg base CX0 2 "goal_of" (R3.o5 (-1)):=
 A.ok (k:=0) 40 sc_goal (lib T (.nil) (.nil) (.nil) (λ p hp=>by cases hp) (.nil)) (λ vs H Q E h=>by obtain⟨d,st,kvs,ps,p,w,rfl,_⟩:=h;rfl) w_goal (λ vs H Q E h=>by obtain⟨d,st,kvs,ps,p,w,rfl,hd,hs,hw,he,q⟩:=h;exact R3.r_goal_of hd hs hw he q)
theorem w_winit:wSs (wp 40) (cfg (j0 C CW Visnum Viscount [("ends_of",R3.M9 C),("among",R3.Y4 C),("start_of",R3.o5 1),("goal_of",R3.o5 (-1))] [] [] [] []) K ["self", "house", "open_places", "ends", "place", "step", "steps"] (a4 Z9).names E0) (a9 Z9)=R3.a2m C CW:=by kernel_rfl
theorem ok_winit {f:Addr}{fd:FuncData}(M:Mk K CW f)(F:Fun K "__init__" "Web.__init__" Z9 f fd)(b:Binds K fd ["self", "house", "open_places"] [])(T:Txt K mg C CW Visnum Viscount)(hends:FnE P w K mg base CX0 8 "ends_of" (R3.M9 C))(hamong:FnE P w K mg base CX0 6 "among" (R3.Y4 C))(hstart:FnE P w K mg base CX0 2 "start_of" (R3.o5 1))(hgoal:FnE P w K mg base CX0 2 "goal_of" (R3.o5 (-1))):MkE P w K mg base CX0 10 "Web" (CW,R3.I0 C CW):=
 MkE.mk (k:=8) M T.mCW F b 40 sc_winit (lib T (.cons (hends.mono (by decide)) (.cons (hamong.mono (by decide)) (.cons (hstart.mono (by decide)) (.cons (hgoal.mono (by decide)) (.nil))))) (.nil) (.nil) (λ p hp=>by cases hp) (.nil)) (λ vs H Q E h=>by obtain⟨x,dx,h,l,zs,ps,cs,L,rfl,_⟩:=h;rfl) w_winit (λ vs H Q E h=>by obtain⟨x,dx,h,l,zs,ps,cs,L,rfl,hx,hh,hl,pz,hL,q⟩:=h;exact R3.a6u hx hh hl pz hL q)
theorem w_reached:wSs (wp 40) (cfg (j0 C CW Visnum Viscount [("start_of",R3.o5 1),("goal_of",R3.o5 (-1)),("can_go",R3.B3)] [] [] [] []) K ["web", "table", "first", "goal", "start", "came_by", "line", "turn", "here", "step", "one"] (a4 L5).names E0) (a9 L5)=R3.a3w CW:=by kernel_rfl
theorem a6J {f:Addr}{fd:FuncData}(A:DefAt K mg "reached" L5 ["web", "table", "first"] f fd)(T:Txt K mg C CW Visnum Viscount)(hstart:FnE P w K mg base CX0 2 "start_of" (R3.o5 1))(hgoal:FnE P w K mg base CX0 2 "goal_of" (R3.o5 (-1)))(hcango:FnE P w K mg base CX0 2 "can_go" (R3.B3)):FnE P w K mg base CX0 4 "reached" (R3.J1 CW):=
 A.ok (k:=2) 40 a6B (lib T (.cons (hstart.mono (by decide)) (.cons (hgoal.mono (by decide)) (.cons (hcango.mono (by decide)) (.nil)))) (.nil) (.nil) (λ p hp=>by cases hp) (.nil)) (λ vs H Q E h=>by obtain⟨x,tb,st,ps,O,p,w,tk,T,rfl,_⟩:=h;rfl) w_reached (λ vs H Q E h=>by obtain⟨x,tb,st,ps,O,p,w,tk,T,rfl,wa,htb,hT,hs,hp,hw,q⟩:=h;exact R3.a6w wa htb hT hs hp hw q)
theorem w_short:wSs (wp 40) (cfg (j0 C CW Visnum Viscount [("can_go",R3.B3),("reached",R3.J1 CW),("start_of",R3.o5 1)] [] [] [] []) K ["web", "table", "first", "came_by", "one", "walk"] (a4 a0a).names E0) (a9 a0a)=R3.a0H CW:=by kernel_rfl
theorem ok_short {f:Addr}{fd:FuncData}(A:DefAt K mg "shortest_ring" a0a ["web", "table", "first"] f fd)(T:Txt K mg C CW Visnum Viscount)(hcango:FnE P w K mg base CX0 2 "can_go" (R3.B3))(hreached:FnE P w K mg base CX0 4 "reached" (R3.J1 CW))(hstart:FnE P w K mg base CX0 2 "start_of" (R3.o5 1)):FnE P w K mg base CX0 6 "shortest_ring" (R3.D7 CW):=
 A.ok (k:=4) 40 sc_short (lib T (.cons (hcango.mono (by decide)) (.cons (hreached.mono (by decide)) (.cons (hstart.mono (by decide)) (.nil)))) (.nil) (.nil) (λ p hp=>by cases hp) (.nil)) (λ vs H Q E h=>by obtain⟨x,tb,st,ps,O,p,w,tk,T,rfl,_⟩:=h;rfl) w_short (λ vs H Q E h=>by obtain⟨x,tb,st,ps,O,p,w,tk,T,rfl,wa,htb,hT,hs,hp,hw,q0,q1⟩:=h;exact R3.a5q wa htb hT hs hp hw q0 q1)
theorem w_changed:wSs (wp 40) (cfg (j0 C CW Visnum Viscount [] [] [("places",C,h7 C)] [] []) K ["house", "table", "ring", "amount", "told", "place", "way"] (a4 L6).names E0) (a9 L6)=R3.a3y C:=by kernel_rfl
theorem a6K {f:Addr}{fd:FuncData}(A:DefAt K mg "changed" L6 ["house", "table", "ring", "amount"] f fd)(T:Txt K mg C CW Visnum Viscount)(hmplaces:MtE P w K mg base CX0 4 "places" (C,h7 C)):FnE P w K mg base CX0 6 "changed" (R3.E7 C):=
 A.ok (k:=4) 40 a6C (lib T (.nil) (.nil) (.cons (⟨T.clC,hmplaces.mono (by decide)⟩) (.nil)) (λ p hp=>by cases hp) (.nil)) (λ vs H Q E h=>by obtain⟨h,tb,r,k,zs,ps,cs,tk,T,St,rfl,_⟩:=h;rfl) w_changed (λ vs H Q E h=>by obtain⟨h,tb,r,k,zs,ps,cs,tk,T,St,rfl,hh,htb,hT,hr,hs,hp,h0,q⟩:=h;exact R3.r_changed hh htb hT hr hs hp h0 q)
theorem w_isnum:wSs (wp 40) (cfg (j0 C CW Visnum Viscount [("is_whole",F5)] [] [] [] []) K ["thing"] (a4 a0b).names E0) (a9 a0b)=R3.a0I:=by kernel_rfl
theorem ok_isnum {f:Addr}{fd:FuncData}(A:DefAt K mg "is_number" a0b ["thing"] f fd)(T:Txt K mg C CW Visnum Viscount)(hiswhole:FnE P w K mg base CX0 2 "is_whole" (F5)):FnE P w K mg base CX0 4 "is_number" (R3.l7):=
 A.ok (k:=2) 40 sc_isnum (lib T (.cons (hiswhole.mono (by decide)) (.nil)) (.nil) (.nil) (λ p hp=>by cases hp) (.nil)) (λ vs H Q E h=>by obtain⟨n,rfl,_⟩:=h;rfl) w_isnum (λ vs H Q E h=>by obtain⟨n,rfl,h0,q⟩:=h;exact R3.a5s h0 q)
theorem w_iscount:wSs (wp 40) (cfg (j0 C CW Visnum Viscount [("is_number",R3.l7)] [] [] [] []) K ["thing"] (a4 L7).names E0) (a9 L7)=S8.a2o:=by kernel_rfl
theorem a6L {f:Addr}{fd:FuncData}(A:DefAt K mg "is_count" L7 ["thing"] f fd)(T:Txt K mg C CW Visnum Viscount)(hisnum:FnE P w K mg base CX0 4 "is_number" (R3.l7)):FnE P w K mg base CX0 6 "is_count" (S8.m9):=
 A.ok (k:=4) 40 a6D (lib T (.cons (hisnum.mono (by decide)) (.nil)) (.nil) (.nil) (λ p hp=>by cases hp) (.nil)) (λ vs H Q E h=>by obtain⟨n,rfl,_⟩:=h;rfl) w_iscount (λ vs H Q E h=>by obtain⟨n,rfl,h0,h1,q⟩:=h;exact S8.a6x h0 h1 q)
theorem w_hasjust:wSs (wp 40) (cfg (j0 C CW Visnum Viscount [] [] [] [(Visnum,R3.l7),(Viscount,S8.m9)] []) K ["thing", "places", "fits"] (a4 L8).names E0) (a9 L8)=S8.a0M Visnum Viscount:=by kernel_rfl
theorem a6M {f:Addr}{fd:FuncData}(A:DefAt K mg "has_just" L8 ["thing", "places", "fits"] f fd)(T:Txt K mg C CW Visnum Viscount)(hisnum:FnE P w K mg base CX0 4 "is_number" (R3.l7))(hiscount:FnE P w K mg base CX0 6 "is_count" (S8.m9)):FnE P w K mg base CX0 8 "has_just" (S8.o6 Visnum Viscount):=
 A.ok (k:=6) 40 a6E (lib T (.nil) (.nil) (.nil) (λ p hp=>by rcases List.mem_cons.mp hp with e | hp;(rw[e];exact(FnE.mono hisnum (by decide)).val T.mVisnum);rw[List.mem_singleton.mp hp];exact(FnE.mono hiscount (by decide)).val T.mViscount) (.nil)) (λ vs H Q E h=>by obtain⟨d,l,f,zs,P,F,rfl,_⟩:=h;rfl) w_hasjust (λ vs H Q E h=>by obtain⟨d,l,f,zs,P,F,rfl,hd,hl,pz,hP,hf,q⟩:=h;exact S8.a5x hd hl pz hP hf q)
theorem w_down:wSs (wp 40) (cfg (j0 C CW Visnum Viscount [] [] [("parts",C,x0 C),("beneath",C,m3 C),("columns",C,i7 C)] [] []) K ["house", "numbers", "part", "beneath", "column", "total"] (a4 a2y).names E0) (a9 a2y)=R3.a0J C:=by kernel_rfl
theorem ok_down {f:Addr}{fd:FuncData}(A:DefAt K mg "sums_down_hold" a2y ["house", "numbers"] f fd)(T:Txt K mg C CW Visnum Viscount)(hmparts:MtE P w K mg base CX0 2 "parts" (C,x0 C))(hmben:MtE P w K mg base CX0 2 "beneath" (C,m3 C))(hmcols:MtE P w K mg base CX0 2 "columns" (C,i7 C)):FnE P w K mg base CX0 4 "sums_down_hold" (R3.J2 C):=
 A.ok (k:=2) 40 sc_down (lib T (.nil) (.nil) (.cons (⟨T.clC,hmparts.mono (by decide)⟩) (.cons (⟨T.clC,hmben.mono (by decide)⟩) (.cons (⟨T.clC,hmcols.mono (by decide)⟩) (.nil)))) (λ p hp=>by cases hp) (.nil)) (λ vs H Q E h=>by obtain⟨h,d,ps,cs,F,rfl,_⟩:=h;rfl) w_down (λ vs H Q E h=>by obtain⟨h,d,ps,cs,F,rfl,hh,hd,hF,q⟩:=h;exact R3.a5t hh hd hF q)
theorem w_across:wSs (wp 40) (cfg (j0 C CW Visnum Viscount [] [] [("rows",C,B6 C),("columns",C,i7 C)] [] []) K ["house", "numbers", "part", "total"] (a4 Q3).names E0) (a9 Q3)=R3.U4 C:=by kernel_rfl
theorem ok_across {f:Addr}{fd:FuncData}(A:DefAt K mg "sums_across_hold" Q3 ["house", "numbers"] f fd)(T:Txt K mg C CW Visnum Viscount)(hmrows:MtE P w K mg base CX0 2 "rows" (C,B6 C))(hmcols:MtE P w K mg base CX0 2 "columns" (C,i7 C)):FnE P w K mg base CX0 4 "sums_across_hold" (R3.J2 C):=
 A.ok (k:=2) 40 sc_across (lib T (.nil) (.nil) (.cons (⟨T.clC,hmrows.mono (by decide)⟩) (.cons (⟨T.clC,hmcols.mono (by decide)⟩) (.nil))) (λ p hp=>by cases hp) (.nil)) (λ vs H Q E h=>by obtain⟨h,d,ps,cs,F,rfl,_⟩:=h;rfl) w_across (λ vs H Q E h=>by obtain⟨h,d,ps,cs,F,rfl,hh,hd,hF,q⟩:=h;exact R3.a2L hh hd hF q)
theorem w_istable:wSs (wp 40) (cfg (j0 C CW Visnum Viscount [("has_just",S8.o6 Visnum Viscount),("sums_down_hold",R3.J2 C),("sums_across_hold",R3.J2 C)] [] [("places",C,h7 C)] [] []) K ["house", "numbers"] (a4 L9).names E0) (a9 L9)=S8.a0N C Visnum Viscount:=by kernel_rfl
theorem a6N {f:Addr}{fd:FuncData}(A:DefAt K mg "is_table" L9 ["house", "numbers"] f fd)(T:Txt K mg C CW Visnum Viscount)(hhasjust:FnE P w K mg base CX0 8 "has_just" (S8.o6 Visnum Viscount))(hmplaces:MtE P w K mg base CX0 4 "places" (C,h7 C))(hdown:FnE P w K mg base CX0 4 "sums_down_hold" (R3.J2 C))(hacross:FnE P w K mg base CX0 4 "sums_across_hold" (R3.J2 C)):FnE P w K mg base CX0 10 "is_table" (R3.J3 C):=
 A.ok (k:=8) 40 a6F (lib T (.cons (hhasjust.mono (by decide)) (.cons (hdown.mono (by decide)) (.cons (hacross.mono (by decide)) (.nil)))) (.nil) (.cons (⟨T.clC,hmplaces.mono (by decide)⟩) (.nil)) (λ p hp=>by cases hp) (.nil)) (λ vs H Q E h=>by obtain⟨h,d,ps,cs,F,rfl,_⟩:=h;rfl) w_istable (λ vs H Q E h=>by obtain⟨h,d,ps,cs,F,rfl,hh,hd,hF,h0,q⟩:=h;exact S8.a5y hh hd hF h0 q)
theorem w_lineup:wSs (wp 40) (cfg (j0 C CW Visnum Viscount [] [] [("above",C,Y2 C)] [] []) K ["house", "row", "line"] (a4 Q4).names E0) (a9 Q4)=S8.a3B C:=by kernel_rfl
theorem ok_lineup {f:Addr}{fd:FuncData}(A:DefAt K mg "line_up" Q4 ["house", "row"] f fd)(T:Txt K mg C CW Visnum Viscount)(hmabove:MtE P w K mg base CX0 2 "above" (C,Y2 C)):FnE P w K mg base CX0 4 "line_up" (S8.N0 C):=
 A.ok (k:=2) 40 sc_lineup (lib T (.nil) (.nil) (.cons (⟨T.clC,hmabove.mono (by decide)⟩) (.nil)) (λ p hp=>by cases hp) (.nil)) (λ vs H Q E h=>by obtain⟨x,r,ps,cs,rfl,_⟩:=h;rfl) w_lineup (λ vs H Q E h=>by obtain⟨x,r,ps,cs,rfl,hh,hr,q⟩:=h;exact S8.r_line_up hh hr q)
theorem w_filled:wSs (wp 40) (cfg (j0 C CW Visnum Viscount [("has_just",S8.o6 Visnum Viscount),("line_up",S8.N0 C)] [] [("cells",C,C1 C),("places",C,h7 C)] [] []) K ["house", "cells", "table", "place", "row", "column", "part"] (a4 Q5).names E0) (a9 Q5)=S8.a5z C Visnum Viscount:=by kernel_rfl
theorem ok_filled {f:Addr}{fd:FuncData}(A:DefAt K mg "filled" Q5 ["house", "cells"] f fd)(T:Txt K mg C CW Visnum Viscount)(hhasjust:FnE P w K mg base CX0 8 "has_just" (S8.o6 Visnum Viscount))(hmcells:MtE P w K mg base CX0 4 "cells" (C,C1 C))(hmplaces:MtE P w K mg base CX0 4 "places" (C,h7 C))(hlineup:FnE P w K mg base CX0 4 "line_up" (S8.N0 C)):FnE P w K mg base CX0 10 "filled" (S8.L1 C):=
 A.ok (k:=8) 40 sc_filled (lib T (.cons (hhasjust.mono (by decide)) (.cons (hlineup.mono (by decide)) (.nil))) (.nil) (.cons (⟨T.clC,hmcells.mono (by decide)⟩) (.cons (⟨T.clC,hmplaces.mono (by decide)⟩) (.nil))) (λ p hp=>by cases hp) (.nil)) (λ vs H Q E h=>by obtain⟨x,d,ps,cs,N,rfl,_⟩:=h;rfl) w_filled (λ vs H Q E h=>by obtain⟨x,d,ps,cs,N,rfl,hh,hd,h0,q⟩:=h;exact S8.r_filled hh hd h0 q)
theorem w_uneven:wSs (wp 40) (cfg (j0 C CW Visnum Viscount [] [] [] [] []) K ["table", "base"] (a4 Q6).names E0) (a9 Q6)=S8.O0:=by kernel_rfl
theorem ok_uneven {f:Addr}{fd:FuncData}(A:DefAt K mg "uneven_places" Q6 ["table", "base"] f fd)(T:Txt K mg C CW Visnum Viscount):FnE P w K mg base CX0 2 "uneven_places" (S8.L0):=
 A.ok (k:=0) 40 sc_uneven (lib T (.nil) (.nil) (.nil) (λ p hp=>by cases hp) (.nil)) (λ vs H Q E h=>by obtain⟨d,B,P,F,rfl,_⟩:=h;rfl) w_uneven (λ vs H Q E h=>by obtain⟨d,B,P,F,rfl,hd,hP,hB,q⟩:=h;exact S8.r_uneven hd hP hB q)
theorem w_waygo:wSs (wp 40) (cfg (j0 C CW Visnum Viscount [] [] [] [] []) K ["table", "ring", "base"] (a4 a0c).names E0) (a9 a0c)=S8.a0K:=by kernel_rfl
theorem ok_waygo {f:Addr}{fd:FuncData}(A:DefAt K mg "way_to_go" a0c ["table", "ring", "base"] f fd)(T:Txt K mg C CW Visnum Viscount):FnE P w K mg base CX0 2 "way_to_go" (S8.a4k):=
 A.ok (k:=0) 40 sc_waygo (lib T (.nil) (.nil) (.nil) (λ p hp=>by cases hp) (.nil)) (λ vs H Q E h=>by obtain⟨tb,r,B,tk,P,T,zs,St,rfl,_⟩:=h;rfl) w_waygo (λ vs H Q E h=>by obtain⟨tb,r,B,tk,P,T,zs,St,rfl,htb,hT,hr,hs,hp,hl,hm,hB,q⟩:=h;exact S8.r_way htb hT hr hs hp hl hm hB q)
theorem w_rounded:wSs (wp 40) (cfg (j0 C CW Visnum Viscount [("is_count",S8.m9),("changed",R3.E7 C),("uneven_places",S8.L0),("shortest_ring",R3.D7 CW),("way_to_go",S8.a4k)] [("Web",CW,R3.I0 C CW)] [] [] []) K ["house", "table", "base", "told", "uneven", "ring"] (a4 M0).names E0) (a9 M0)=S8.a3A C CW:=by kernel_rfl
theorem a6O {f:Addr}{fd:FuncData}(A:DefAt K mg "rounded" M0 ["house", "table", "base"] f fd)(T:Txt K mg C CW Visnum Viscount)(hiscount:FnE P w K mg base CX0 6 "is_count" (S8.m9))(hchanged:FnE P w K mg base CX0 6 "changed" (R3.E7 C))(huneven:FnE P w K mg base CX0 2 "uneven_places" (S8.L0))(hshort:FnE P w K mg base CX0 6 "shortest_ring" (R3.D7 CW))(hwinit:MkE P w K mg base CX0 10 "Web" (CW,R3.I0 C CW))(hwaygo:FnE P w K mg base CX0 2 "way_to_go" (S8.a4k)):FnE P w K mg base CX0 12 "rounded" (S8.y4 C):=
 A.ok (k:=10) 40 a6G (lib T (.cons (hiscount.mono (by decide)) (.cons (hchanged.mono (by decide)) (.cons (huneven.mono (by decide)) (.cons (hshort.mono (by decide)) (.cons (hwaygo.mono (by decide)) (.nil)))))) (.cons (hwinit.mono (by decide)) (.nil)) (.nil) (λ p hp=>by cases hp) (.nil)) (λ vs H Q E h=>by obtain⟨x,tb,B,ps,cs,tk,T,rfl,_⟩:=h;rfl) w_rounded (λ vs H Q E h=>by obtain⟨x,tb,B,ps,cs,tk,T,rfl,hh,htb,hT,sT,h0,hB,hB2,q⟩:=h;exact S8.r_rounded hh htb hT sT h0 hB hB2 q)
theorem w_cell:wSs (wp 40) (cfg (j0 C CW Visnum Viscount [] [] [] [] []) K ["_law_script", "_law_k"] (a4 a2z).names E0) (a9 a2z)=T8 K:=by kernel_rfl
theorem ok_cell {f:Addr}{fd:FuncData}(A:DefAt K mg "_law_cell_at" a2z ["_law_script", "_law_k"] f fd)(T:Txt K mg C CW Visnum Viscount):FnE P w K mg base CX0 2 "_law_cell_at" (d4 K):=
 A.ok (k:=0) 40 sc_cell (lib T (.nil) (.nil) (.nil) (λ p hp=>by cases hp) (.nil)) (λ vs H Q E h=>by obtain⟨a,ns,k,rfl,_⟩:=h;rfl) w_cell (λ vs H Q E h=>by obtain⟨a,ns,k,rfl,hS,hk,q⟩:=h;exact a2F hS hk q)
theorem w_lnames:wSs (wp 40) (cfg (j0 C CW Visnum Viscount [] [] [] [] []) K ["_law_cell", "_law_many", "_law_size", "_law_at", "_law_beside", "_law_short", "_law_names_here", "_law_k", "_law_name", "_law_j", "_law_number"] (a4 Q7).names E0) (a9 Q7)=a0F:=by kernel_rfl
theorem ok_lnames {f:Addr}{fd:FuncData}(A:DefAt K mg "_law_names" Q7 ["_law_cell", "_law_many"] f fd)(T:Txt K mg C CW Visnum Viscount):FnE P w K mg base CX0 2 "_law_names" (o4):=
 A.ok (k:=0) 40 sc_lnames (lib T (.nil) (.nil) (.nil) (λ p hp=>by cases hp) (.nil)) (λ vs H Q E h=>by obtain⟨c,m,rfl,_⟩:=h;rfl) w_lnames (λ vs H Q E h=>by obtain⟨c,m,rfl,h0,h24,q⟩:=h;exact a5l h0 h24 q)
theorem w_lparts:wSs (wp 40) (cfg (j0 C CW Visnum Viscount [("_law_cell_at",d4 K),("_law_names",o4)] [] [] [] []) K ["_law_script", "_law_many", "_law_names_here", "_law_parts_here", "_law_k", "_law_draw", "_law_above"] (a4 Q8).names E0) (a9 Q8)=S8.Y8 K:=by kernel_rfl
theorem ok_lparts {f:Addr}{fd:FuncData}(A:DefAt K mg "_law_parts" Q8 ["_law_script"] f fd)(T:Txt K mg C CW Visnum Viscount)(hcell:FnE P w K mg base CX0 2 "_law_cell_at" (d4 K))(hlnames:FnE P w K mg base CX0 2 "_law_names" (o4)):FnE P w K mg base CX0 4 "_law_parts" (D5 K):=
 A.ok (k:=2) 40 sc_lparts (lib T (.cons (hcell.mono (by decide)) (.cons (hlnames.mono (by decide)) (.nil))) (.nil) (.nil) (λ p hp=>by cases hp) (.nil)) (λ vs H Q E h=>by obtain⟨a,ns,rfl,_⟩:=h;rfl) w_lparts (λ vs H Q E h=>by obtain⟨a,ns,rfl,hS,q⟩:=h;exact S8.a4l hS q)
theorem w_lcols:wSs (wp 40) (cfg (j0 C CW Visnum Viscount [("_law_cell_at",d4 K),("_law_names",o4)] [] [] [] []) K ["_law_script"] (a4 a0d).names E0) (a9 a0d)=U3 K:=by kernel_rfl
theorem ok_lcols {f:Addr}{fd:FuncData}(A:DefAt K mg "_law_columns" a0d ["_law_script"] f fd)(T:Txt K mg C CW Visnum Viscount)(hcell:FnE P w K mg base CX0 2 "_law_cell_at" (d4 K))(hlnames:FnE P w K mg base CX0 2 "_law_names" (o4)):FnE P w K mg base CX0 4 "_law_columns" (A1 K):=
 A.ok (k:=2) 40 sc_lcols (lib T (.cons (hcell.mono (by decide)) (.cons (hlnames.mono (by decide)) (.nil))) (.nil) (.nil) (λ p hp=>by cases hp) (.nil)) (λ vs H Q E h=>by obtain⟨a,ns,rfl,_⟩:=h;rfl) w_lcols (λ vs H Q E h=>by obtain⟨a,ns,rfl,hS,q⟩:=h;exact a2J hS q)
theorem w_lnext:wSs (wp 40) (cfg (j0 C CW Visnum Viscount [] [] [] [] []) K ["_law_number", "_law_base", "_law_low"] (a4 a0e).names E0) (a9 a0e)=S8.a2q:=by kernel_rfl
theorem ok_lnext {f:Addr}{fd:FuncData}(A:DefAt K mg "_law_next" a0e ["_law_number", "_law_base"] f fd)(T:Txt K mg C CW Visnum Viscount):FnE P w K mg base CX0 2 "_law_next" (S8.a1l):=
 A.ok (k:=0) 40 sc_lnext (lib T (.nil) (.nil) (.nil) (λ p hp=>by cases hp) (.nil)) (λ vs H Q E h=>by obtain⟨n,B,rfl,_⟩:=h;rfl) w_lnext (λ vs H Q E h=>by obtain⟨n,B,rfl,hB,q⟩:=h;exact S8.a6y hB q)
theorem a6P:wSs (wp 40) (cfg (j0 C CW Visnum Viscount [("rounded",S8.y4 C),("is_table",R3.J3 C),("_law_next",S8.a1l)] [] [] [] []) K ["_law_house", "_law_table", "_law_base", "_law_found", "_law_place"] (a4 E8).names E0) (a9 E8)=S8.U5 C:=by kernel_rfl
theorem a5C {f:Addr}{fd:FuncData}(A:DefAt K mg "_law_rounded" E8 ["_law_house", "_law_table", "_law_base"] f fd)(T:Txt K mg C CW Visnum Viscount)(hrounded:FnE P w K mg base CX0 12 "rounded" (S8.y4 C))(histable:FnE P w K mg base CX0 10 "is_table" (R3.J3 C))(hlnext:FnE P w K mg base CX0 2 "_law_next" (S8.a1l)):FnE P w K mg base CX0 14 "_law_rounded" (S8.p9 C):=
 A.ok (k:=12) 40 a5B (lib T (.cons (hrounded.mono (by decide)) (.cons (histable.mono (by decide)) (.cons (hlnext.mono (by decide)) (.nil)))) (.nil) (.nil) (λ p hp=>by cases hp) (.nil)) (λ vs H Q E h=>by obtain⟨x,tb,B,ps,cs,T,rfl,_⟩:=h;rfl) a6P (λ vs H Q E h=>by obtain⟨x,tb,B,ps,cs,T,rfl,W,hB,hB2,q⟩:=h;exact S8.a2M W hB hB2 q)
theorem w_ltried:wSs (wp 40) (cfg (j0 C CW Visnum Viscount [("_law_rounded",S8.p9 C),("rounded",S8.y4 C)] [] [] [] []) K ["_law_house", "_law_table", "_law_cell", "_law_base", "_law_once", "_law_times", "_law_place"] (a4 Q9).names E0) (a9 Q9)=S8.a0O C:=by kernel_rfl
theorem ok_ltried {f:Addr}{fd:FuncData}(A:DefAt K mg "_law_tried" Q9 ["_law_house", "_law_table", "_law_cell"] f fd)(T:Txt K mg C CW Visnum Viscount)(hlrounded:FnE P w K mg base CX0 14 "_law_rounded" (S8.p9 C))(hrounded:FnE P w K mg base CX0 12 "rounded" (S8.y4 C)):FnE P w K mg base CX0 16 "_law_tried" (S8.P2 C):=
 A.ok (k:=14) 40 sc_ltried (lib T (.cons (hlrounded.mono (by decide)) (.cons (hrounded.mono (by decide)) (.nil))) (.nil) (.nil) (λ p hp=>by cases hp) (.nil)) (λ vs H Q E h=>by obtain⟨x,tb,c,ps,cs,T,rfl,_⟩:=h;rfl) w_ltried (λ vs H Q E h=>by obtain⟨x,tb,c,ps,cs,T,rfl,W,hc,q⟩:=h;exact S8.a5A W q)
theorem w_law:wSs (wp 40) (cfg (j0 C CW Visnum Viscount [("_law_parts",D5 K),("_law_columns",A1 K),("_law_cell_at",d4 K),("_law_tried",S8.P2 C),("filled",S8.L1 C)] [("House",C,w8 C)] [("cells",C,C1 C)] [] []) K ["_law_script", "_law_house", "_law_places", "_law_cells", "_law_place", "_law_numbers", "_law_k", "_law_draw"] (a4 a3C).names E0) (a9 a3C)=S8.t77_law K C:=by kernel_rfl
theorem ok_law {f:Addr}{fd:FuncData}(F:Fun K "law" "law" a3C f fd)(T:Txt K mg C CW Visnum Viscount)(hlparts:FnE P w K mg base CX0 4 "_law_parts" (D5 K))(hlcols:FnE P w K mg base CX0 4 "_law_columns" (A1 K))(hinit:MkE P w K mg base CX0 8 "House" (C,w8 C))(hmcells:MtE P w K mg base CX0 4 "cells" (C,C1 C))(hcell:FnE P w K mg base CX0 2 "_law_cell_at" (d4 K))(hltried:FnE P w K mg base CX0 16 "_law_tried" (S8.P2 C))(hfilled:FnE P w K mg base CX0 10 "filled" (S8.L1 C)):FnOk P w K mg base CX0 18 f fd ["_law_script"] (spLaw K):=
 fn_wp (k:=16) 40 F sc_law (lib T (.cons (hlparts.mono (by decide)) (.cons (hlcols.mono (by decide)) (.cons (hcell.mono (by decide)) (.cons (hltried.mono (by decide)) (.cons (hfilled.mono (by decide)) (.nil)))))) (.cons (hinit.mono (by decide)) (.nil)) (.cons (⟨T.clC,hmcells.mono (by decide)⟩) (.nil)) (λ p hp=>by cases hp) (.nil)) (λ vs H Q E h=>by obtain⟨a,ns,rfl,_⟩:=h;rfl) w_law (λ vs H Q E h=>by obtain⟨a,ns,rfl,hS,hl,q⟩:=h;exact S8.r77_law hS q)
end
theorem all_mk {l:PySem.W.OpenLaw}{w:World}{K:PySem.W.Frag}{h:Heap}{mg:Str->Option Value}{fa C CW:Addr}(X:K.In h)(G:h.Ns mainGlobals mg)(hfa:mg "law" = some (.ref fa))
  {fiswhole fname fplain fcname fcabove fccols fcparts fturned finit fmparts fmcols fmben fpaired fmplaces fmrows fmcells fmabove fsums fmarked famong fwhole fothers fsign fgiven fends fcango fstart fgoal fwinit freached fshort fchanged fisnum fiscount fhasjust fdown facross fistable flineup ffilled funeven fwaygo frounded fcell flnames flparts flcols flnext flrounded fltried flaw:Addr}
  (aC:ClsIn K "House" C)
  (aCW:ClsIn K "Web" CW)
  (liswhole:DefIn K "is_whole" L3 fiswhole)
  (lname:DefIn K "is_name" a2r fname)
  (lplain:DefIn K "plain_text" Y9 fplain)
  (lcname:DefIn K "checked_name" Z0 fcname)
  (lcabove:DefIn K "checked_above" P3 fcabove)
  (lccols:DefIn K "checked_columns" Z1 fccols)
  (lcparts:DefIn K "checked_parts" P4 fcparts)
  (lturned:DefIn K "turned_about" P5 fturned)
  (linit:MetIn K C "__init__" "House.__init__" a2s finit)
  (lmparts:MetIn K C "parts" "House.parts" P6 fmparts)
  (lmcols:MetIn K C "columns" "House.columns" Z2 fmcols)
  (lmben:MetIn K C "beneath" "House.beneath" a2t fmben)
  (lpaired:DefIn K "paired" P7 fpaired)
  (lmplaces:MetIn K C "places" "House.places" L4 fmplaces)
  (lmrows:MetIn K C "rows" "House.rows" Z3 fmrows)
  (lmcells:MetIn K C "cells" "House.cells" P8 fmcells)
  (lmabove:MetIn K C "above" "House.above" P9 fmabove)
  (lsums:DefIn K "sums_of" a2u fsums)
  (lmarked:DefIn K "marked" Q1 fmarked)
  (lamong:DefIn K "among" Z4 famong)
  (lwhole:DefIn K "whole_of" Z5 fwhole)
  (lothers:DefIn K "others_of" Q2 fothers)
  (lsign:DefIn K "sign_of" a2v fsign)
  (lgiven:DefIn K "given_by" Z6 fgiven)
  (lends:DefIn K "ends_of" a2w fends)
  (lcango:DefIn K "can_go" Z7 fcango)
  (lstart:DefIn K "start_of" Z8 fstart)
  (lgoal:DefIn K "goal_of" a2x fgoal)
  (lwinit:MetIn K CW "__init__" "Web.__init__" Z9 fwinit)
  (lreached:DefIn K "reached" L5 freached)
  (lshort:DefIn K "shortest_ring" a0a fshort)
  (lchanged:DefIn K "changed" L6 fchanged)
  (lisnum:DefIn K "is_number" a0b fisnum)
  (liscount:DefIn K "is_count" L7 fiscount)
  (lhasjust:DefIn K "has_just" L8 fhasjust)
  (ldown:DefIn K "sums_down_hold" a2y fdown)
  (lacross:DefIn K "sums_across_hold" Q3 facross)
  (listable:DefIn K "is_table" L9 fistable)
  (llineup:DefIn K "line_up" Q4 flineup)
  (lfilled:DefIn K "filled" Q5 ffilled)
  (luneven:DefIn K "uneven_places" Q6 funeven)
  (lwaygo:DefIn K "way_to_go" a0c fwaygo)
  (lrounded:DefIn K "rounded" M0 frounded)
  (lcell:DefIn K "_law_cell_at" a2z fcell)
  (llnames:DefIn K "_law_names" Q7 flnames)
  (llparts:DefIn K "_law_parts" Q8 flparts)
  (llcols:DefIn K "_law_columns" a0d flcols)
  (llnext:DefIn K "_law_next" a0e flnext)
  (llrounded:DefIn K "_law_rounded" E8 flrounded)
  (lltried:DefIn K "_law_tried" Q9 fltried)
  (llaw:DefIn K "law" a3C flaw)
  (f_above_of:PySem.W.findIn K (.ref C) "above_of" = some none)
  (f_column_names:PySem.W.findIn K (.ref C) "column_names" = some none)
  (f_beneath_of:PySem.W.findIn K (.ref C) "beneath_of" = some none)
  (f_ends:PySem.W.findIn K (.ref CW) "ends" = some none)
  (f_steps_from:PySem.W.findIn K (.ref CW) "steps_from" = some none)
  (z_isinstance:PySem.W.nsIn K mainGlobals "isinstance" = some none)
  (z_str:PySem.W.nsIn K mainGlobals "str" = some none)
  (z_list:PySem.W.nsIn K mainGlobals "list" = some none)
  (z_tuple:PySem.W.nsIn K mainGlobals "tuple" = some none)
  (z_len:PySem.W.nsIn K mainGlobals "len" = some none)
  (z_all:PySem.W.nsIn K mainGlobals "all" = some none)
  (z_range:PySem.W.nsIn K mainGlobals "range" = some none)
  (z_int:PySem.W.nsIn K mainGlobals "int" = some none)
  (z_bool:PySem.W.nsIn K mainGlobals "bool" = some none)
  (z_dict:PySem.W.nsIn K mainGlobals "dict" = some none)
  (z_reversed:PySem.W.nsIn K mainGlobals "reversed" = some none)
  (z_sum:PySem.W.nsIn K mainGlobals "sum" = some none)
  (z_min:PySem.W.nsIn K mainGlobals "min" = some none)
  (z_max:PySem.W.nsIn K mainGlobals "max" = some none)
  {t_ALL:Tok}(g_ALL:PySem.W.nsIn K mainGlobals "ALL" = some (some (.str "all" t_ALL)))
  {t_DOWN:Tok}(g_DOWN:PySem.W.nsIn K mainGlobals "DOWN" = some (some (.str "down" t_DOWN)))
  {t_ACROSS:Tok}(g_ACROSS:PySem.W.nsIn K mainGlobals "ACROSS" = some (some (.str "across" t_ACROSS)))
  : ∃ fd:FuncData,(∀ (s:Shared) (v:Value),BindsTo s fd ⟨[v],[]⟩ [("_law_script",v)])/\∀ base:Heap,K.In base->base.Ns mainGlobals mg->FnOk l.prog w K mg base CX0 18 fa fd ["_law_script"] (spLaw K):=by
 have e:=hfa.symm.trans (llaw.nm X G)
 cases e
 have T:Txt K mg C CW fisnum fiscount:=⟨aC.cl,aC.nm X G,aCW.cl,aCW.nm X G,f_above_of,f_column_names,f_beneath_of,f_ends,f_steps_from,lisnum.nm X G,liscount.nm X G,PySem.W.mg_none_of X G z_isinstance,PySem.W.mg_none_of X G z_str,PySem.W.mg_none_of X G z_list,PySem.W.mg_none_of X G z_tuple,PySem.W.mg_none_of X G z_len,PySem.W.mg_none_of X G z_all,PySem.W.mg_none_of X G z_range,PySem.W.mg_none_of X G z_int,PySem.W.mg_none_of X G z_bool,PySem.W.mg_none_of X G z_dict,PySem.W.mg_none_of X G z_reversed,PySem.W.mg_none_of X G z_sum,PySem.W.mg_none_of X G z_min,PySem.W.mg_none_of X G z_max,⟨_,PySem.W.mg_of X G g_ALL⟩,⟨_,PySem.W.mg_of X G g_DOWN⟩,⟨_,PySem.W.mg_of X G g_ACROSS⟩⟩
 refine⟨Tv.fdOf K "law" "law" a3C fa,λ s v=>.of_eq rfl,λ base _ _=>?_⟩
 have hiswhole:=a6H (P:=l.prog) (w:=w) (base:=base) (DefIn.at X G liswhole λ _ _ _ _ _ _ us hl=>by obtain⟨_,rfl⟩:=us1 hl;rfl) T
 have hname:=ok_name (P:=l.prog) (w:=w) (base:=base) (DefIn.at X G lname λ _ _ _ _ _ _ us hl=>by obtain⟨_,rfl⟩:=us1 hl;rfl) T
 have hplain:=ok_plain (P:=l.prog) (w:=w) (base:=base) (DefIn.at X G lplain λ _ _ _ _ _ _ us hl=>by obtain⟨_,rfl⟩:=us1 hl;rfl) T
 have hcname:=ok_cname (P:=l.prog) (w:=w) (base:=base) (DefIn.at X G lcname λ _ _ _ _ _ _ us hl=>by obtain⟨_,_,rfl⟩:=us2 hl;rfl) T hname hplain
 have hcabove:=ok_cabove (P:=l.prog) (w:=w) (base:=base) (DefIn.at X G lcabove λ _ _ _ _ _ _ us hl=>by obtain⟨_,_,rfl⟩:=us2 hl;rfl) T hplain
 have hccols:=ok_ccols (P:=l.prog) (w:=w) (base:=base) (DefIn.at X G lccols λ _ _ _ _ _ _ us hl=>by obtain⟨_,rfl⟩:=us1 hl;rfl) T hcname
 have hcparts:=ok_cparts (P:=l.prog) (w:=w) (base:=base) (DefIn.at X G lcparts λ _ _ _ _ _ _ us hl=>by obtain⟨_,rfl⟩:=us1 hl;rfl) T hcname hcabove
 have hturned:=ok_turned (P:=l.prog) (w:=w) (base:=base) (DefIn.at X G lturned λ _ _ _ _ _ _ us hl=>by obtain⟨_,rfl⟩:=us1 hl;rfl) T
 have hinit:=ok_init (P:=l.prog) (w:=w) (base:=base) (MetIn.mk aC linit) linit.fn (linit.fn.binds λ _ _ _ _ _ _ us hl=>by obtain⟨_,_,_,rfl⟩:=us3 hl;rfl) T hcparts hccols hturned
 have hmparts:=ok_mparts (P:=l.prog) (w:=w) (base:=base) lmparts.mt lmparts.fn (lmparts.fn.binds λ _ _ _ _ _ _ us hl=>by obtain⟨_,rfl⟩:=us1 hl;rfl) T
 have hmcols:=ok_mcols (P:=l.prog) (w:=w) (base:=base) lmcols.mt lmcols.fn (lmcols.fn.binds λ _ _ _ _ _ _ us hl=>by obtain⟨_,rfl⟩:=us1 hl;rfl) T
 have hmben:=ok_mben (P:=l.prog) (w:=w) (base:=base) lmben.mt lmben.fn (lmben.fn.binds λ _ _ _ _ _ _ us hl=>by obtain⟨_,_,rfl⟩:=us2 hl;rfl) T
 have hpaired:=ok_paired (P:=l.prog) (w:=w) (base:=base) (DefIn.at X G lpaired λ _ _ _ _ _ _ us hl=>by obtain⟨_,_,rfl⟩:=us2 hl;rfl) T
 have hmplaces:=a6I (P:=l.prog) (w:=w) (base:=base) lmplaces.mt lmplaces.fn (lmplaces.fn.binds λ _ _ _ _ _ _ us hl=>by obtain⟨_,rfl⟩:=us1 hl;rfl) T hpaired hmparts
 have hmrows:=ok_mrows (P:=l.prog) (w:=w) (base:=base) lmrows.mt lmrows.fn (lmrows.fn.binds λ _ _ _ _ _ _ us hl=>by obtain⟨_,rfl⟩:=us1 hl;rfl) T
 have hmcells:=ok_mcells (P:=l.prog) (w:=w) (base:=base) lmcells.mt lmcells.fn (lmcells.fn.binds λ _ _ _ _ _ _ us hl=>by obtain⟨_,rfl⟩:=us1 hl;rfl) T hpaired hmrows
 have hmabove:=ok_mabove (P:=l.prog) (w:=w) (base:=base) lmabove.mt lmabove.fn (lmabove.fn.binds λ _ _ _ _ _ _ us hl=>by obtain⟨_,_,rfl⟩:=us2 hl;rfl) T
 have hsums:=ok_sums (P:=l.prog) (w:=w) (base:=base) (DefIn.at X G lsums λ _ _ _ _ _ _ us hl=>by obtain⟨_,rfl⟩:=us1 hl;rfl) T hmparts hmben hmcols hmrows
 have hmarked:=ok_marked (P:=l.prog) (w:=w) (base:=base) (DefIn.at X G lmarked λ _ _ _ _ _ _ us hl=>by obtain⟨_,rfl⟩:=us1 hl;rfl) T
 have hamong:=ok_among (P:=l.prog) (w:=w) (base:=base) (DefIn.at X G lamong λ _ _ _ _ _ _ us hl=>by obtain⟨_,_,rfl⟩:=us2 hl;rfl) T hmarked hmplaces
 have hwhole:=ok_whole (P:=l.prog) (w:=w) (base:=base) (DefIn.at X G lwhole λ _ _ _ _ _ _ us hl=>by obtain⟨_,_,rfl⟩:=us2 hl;rfl) T
 have hothers:=ok_others (P:=l.prog) (w:=w) (base:=base) (DefIn.at X G lothers λ _ _ _ _ _ _ us hl=>by obtain⟨_,_,rfl⟩:=us2 hl;rfl) T hmben hmcols
 have hsign:=ok_sign (P:=l.prog) (w:=w) (base:=base) (DefIn.at X G lsign λ _ _ _ _ _ _ us hl=>by obtain⟨_,rfl⟩:=us1 hl;rfl) T
 have hgiven:=ok_given (P:=l.prog) (w:=w) (base:=base) (DefIn.at X G lgiven λ _ _ _ _ _ _ us hl=>by obtain⟨_,_,rfl⟩:=us2 hl;rfl) T hsign hwhole hothers
 have hends:=ok_ends (P:=l.prog) (w:=w) (base:=base) (DefIn.at X G lends λ _ _ _ _ _ _ us hl=>by obtain⟨_,rfl⟩:=us1 hl;rfl) T hsums hgiven hmplaces
 have hcango:=ok_cango (P:=l.prog) (w:=w) (base:=base) (DefIn.at X G lcango λ _ _ _ _ _ _ us hl=>by obtain⟨_,_,rfl⟩:=us2 hl;rfl) T
 have hstart:=ok_start (P:=l.prog) (w:=w) (base:=base) (DefIn.at X G lstart λ _ _ _ _ _ _ us hl=>by obtain⟨_,_,rfl⟩:=us2 hl;rfl) T
 have hgoal:=ok_goal (P:=l.prog) (w:=w) (base:=base) (DefIn.at X G lgoal λ _ _ _ _ _ _ us hl=>by obtain⟨_,_,rfl⟩:=us2 hl;rfl) T
 have hwinit:=ok_winit (P:=l.prog) (w:=w) (base:=base) (MetIn.mk aCW lwinit) lwinit.fn (lwinit.fn.binds λ _ _ _ _ _ _ us hl=>by obtain⟨_,_,_,rfl⟩:=us3 hl;rfl) T hends hamong hstart hgoal
 have hreached:=a6J (P:=l.prog) (w:=w) (base:=base) (DefIn.at X G lreached λ _ _ _ _ _ _ us hl=>by obtain⟨_,_,_,rfl⟩:=us3 hl;rfl) T hstart hgoal hcango
 have hshort:=ok_short (P:=l.prog) (w:=w) (base:=base) (DefIn.at X G lshort λ _ _ _ _ _ _ us hl=>by obtain⟨_,_,_,rfl⟩:=us3 hl;rfl) T hcango hreached hstart
 have hchanged:=a6K (P:=l.prog) (w:=w) (base:=base) (DefIn.at X G lchanged λ _ _ _ _ _ _ us hl=>by obtain⟨_,_,_,_,rfl⟩:=us4 hl;rfl) T hmplaces
 have hisnum:=ok_isnum (P:=l.prog) (w:=w) (base:=base) (DefIn.at X G lisnum λ _ _ _ _ _ _ us hl=>by obtain⟨_,rfl⟩:=us1 hl;rfl) T hiswhole
 have hiscount:=a6L (P:=l.prog) (w:=w) (base:=base) (DefIn.at X G liscount λ _ _ _ _ _ _ us hl=>by obtain⟨_,rfl⟩:=us1 hl;rfl) T hisnum
 have hhasjust:=a6M (P:=l.prog) (w:=w) (base:=base) (DefIn.at X G lhasjust λ _ _ _ _ _ _ us hl=>by obtain⟨_,_,_,rfl⟩:=us3 hl;rfl) T hisnum hiscount
 have hdown:=ok_down (P:=l.prog) (w:=w) (base:=base) (DefIn.at X G ldown λ _ _ _ _ _ _ us hl=>by obtain⟨_,_,rfl⟩:=us2 hl;rfl) T hmparts hmben hmcols
 have hacross:=ok_across (P:=l.prog) (w:=w) (base:=base) (DefIn.at X G lacross λ _ _ _ _ _ _ us hl=>by obtain⟨_,_,rfl⟩:=us2 hl;rfl) T hmrows hmcols
 have histable:=a6N (P:=l.prog) (w:=w) (base:=base) (DefIn.at X G listable λ _ _ _ _ _ _ us hl=>by obtain⟨_,_,rfl⟩:=us2 hl;rfl) T hhasjust hmplaces hdown hacross
 have hlineup:=ok_lineup (P:=l.prog) (w:=w) (base:=base) (DefIn.at X G llineup λ _ _ _ _ _ _ us hl=>by obtain⟨_,_,rfl⟩:=us2 hl;rfl) T hmabove
 have hfilled:=ok_filled (P:=l.prog) (w:=w) (base:=base) (DefIn.at X G lfilled λ _ _ _ _ _ _ us hl=>by obtain⟨_,_,rfl⟩:=us2 hl;rfl) T hhasjust hmcells hmplaces hlineup
 have huneven:=ok_uneven (P:=l.prog) (w:=w) (base:=base) (DefIn.at X G luneven λ _ _ _ _ _ _ us hl=>by obtain⟨_,_,rfl⟩:=us2 hl;rfl) T
 have hwaygo:=ok_waygo (P:=l.prog) (w:=w) (base:=base) (DefIn.at X G lwaygo λ _ _ _ _ _ _ us hl=>by obtain⟨_,_,_,rfl⟩:=us3 hl;rfl) T
 have hrounded:=a6O (P:=l.prog) (w:=w) (base:=base) (DefIn.at X G lrounded λ _ _ _ _ _ _ us hl=>by obtain⟨_,_,_,rfl⟩:=us3 hl;rfl) T hiscount hchanged huneven hshort hwinit hwaygo
 have hcell:=ok_cell (P:=l.prog) (w:=w) (base:=base) (DefIn.at X G lcell λ _ _ _ _ _ _ us hl=>by obtain⟨_,_,rfl⟩:=us2 hl;rfl) T
 have hlnames:=ok_lnames (P:=l.prog) (w:=w) (base:=base) (DefIn.at X G llnames λ _ _ _ _ _ _ us hl=>by obtain⟨_,_,rfl⟩:=us2 hl;rfl) T
 have hlparts:=ok_lparts (P:=l.prog) (w:=w) (base:=base) (DefIn.at X G llparts λ _ _ _ _ _ _ us hl=>by obtain⟨_,rfl⟩:=us1 hl;rfl) T hcell hlnames
 have hlcols:=ok_lcols (P:=l.prog) (w:=w) (base:=base) (DefIn.at X G llcols λ _ _ _ _ _ _ us hl=>by obtain⟨_,rfl⟩:=us1 hl;rfl) T hcell hlnames
 have hlnext:=ok_lnext (P:=l.prog) (w:=w) (base:=base) (DefIn.at X G llnext λ _ _ _ _ _ _ us hl=>by obtain⟨_,_,rfl⟩:=us2 hl;rfl) T
 have hlrounded:=a5C (P:=l.prog) (w:=w) (base:=base) (DefIn.at X G llrounded λ _ _ _ _ _ _ us hl=>by obtain⟨_,_,_,rfl⟩:=us3 hl;rfl) T hrounded histable hlnext
 have hltried:=ok_ltried (P:=l.prog) (w:=w) (base:=base) (DefIn.at X G lltried λ _ _ _ _ _ _ us hl=>by obtain⟨_,_,_,rfl⟩:=us3 hl;rfl) T hlrounded hrounded
 exact ok_law llaw.fn T hlparts hlcols hinit hmcells hcell hltried hfilled
theorem walkW {l:PySem.W.OpenLaw}{n k:Nat}{q:Program}{loose:List Str}{XP:(Str->Option Value)->Heap->Prop}{YP:World->Heap->Prop}{d:DefRec}{K:World->PySem.W.Frag}{CX:World->CXT}{sp:World->Sp}{x:Str}
  (hn:l.most=some n)(hn2:n<=sizeLine)(hdf:d.params.defaults=[])(hr:Room k callerA)(hY:∀ (w:World) (h:Heap),YP w h->(K w).In h)
  (F:∀ (w:World) (mg:Str->Option Value) (fa:Addr) (h:Heap),(K w).In h->h.Ns mainGlobals mg->mg d.name=some (.ref fa)->∃ fd:FuncData,(∀ (s:Shared) (u:Value),BindsTo s fd ⟨[u],[]⟩ [(x,u)])/\∀ base:Heap,(K w).In base->base.Ns mainGlobals mg->FnOk l.prog w (K w) mg base (CX w) k fa fd [x] (sp w))
  (hsp:∀ (w:World) (H:Hp) (a:Addr) (ns:List Int),ns.length<=n->Only H->SqL (K w) H a (ns.map V.int)->sp w [.ref a] H (λ v _=>v=.bl true) λ _ _ _=>False)
  (hCX:∀ (w:World) (H:Hp) (s:Shared) (e:Value) (s':Shared),CX w [] H s (λ _ _ _=>False) e s'->False):PySem.W.WalkO q loose XP YP l.row.toRowW d [] (λ f vs=>PySem.call f vs):=by
 refine Att.a4E hn hdf λ w s₀ s₁ mg mb fa o pm cd doc a vs ns G Y ho hd hcd hmg hobj hints hlen hg=>?_
 have KX:=hY w _ Y
 obtain⟨fd,hb,hF⟩:=F w mg fa _ KX G.T.g hmg
 exact law_call KX G.T.g G.T.b G.T.builtins G.T.nolimit hg hobj hints (Nat.le_trans hlen hn2) hr hF hb (λ H hO hS=>hsp w H a ns hlen hO hS) λ H e s'=>hCX w H s₁ e s'
theorem walkX {q:Program}{loose:List Str}{XP:(Str->Option Value)->Heap->Prop}{Ya:World->Shared}{r:PySem.W.RowW}{d:DefRec}{kwd:List (Str×Expr)}{run:Value->List Value->Sem Value}{K:World->PySem.W.Frag}
  (hY:∀ (w:World),(K w).In (Ya w).heap)(h:PySem.W.WalkO q loose XP (λ w h=>(K w).In h) r d kwd run):PySem.W.WalkX q loose XP (λ s=>s) Ya r d kwd run:=
 λ w s₀ s₁ mg mb G y a o pm cd doc dV kV h1 h2 h3 h4 h5 h6 args vals as L=>h w s₀ s₁ mg mb G (PySem.W.Frag.In.keeps (by rw[show s₀=Ya w from y];exact hY w) L.keeps) a o pm cd doc dV kV h1 h2 h3 h4 h5 h6 args vals as
noncomputable def beg (w:World):Shared:=(PySem.W.fencedOpening treeTable pw w 8000).getD {}
noncomputable def fin (w:World):Shared:=(PySem.W.Fast.tw14082659384304107361 PySem.W.Fast.tw14364793385576792824 pw w (beg w).heap.objs.size ((beg w).heap.nsMap mainGlobals "__annotations__") 8000 (beg w) (PySem.W.topStub pw)).getD {}
theorem fin_of {w:World}{s:Shared}(h:PySem.W.openEnds treeTable pw w 8000=some s):s=fin w:=by
 unfold PySem.W.openEnds at h
 obtain⟨a,ha,hb⟩:=Option.bind_eq_some_iff.mp h
 have eb:beg w=a:=by unfold beg;rw[ha];rfl
 unfold PySem.W.topFrom at hb
 split at hb
 ·obtain⟨b,h1,h2⟩:=Option.bind_eq_some_iff.mp hb
  split at h2
  ·cases h2
   rw[PySem.W.Fast.te14082659384304107361,PySem.W.Fast.te14364793385576792824]at h1
   unfold fin
   rw[eb,h1]
   rfl
  ·cases h2
 ·cases hb
theorem left:PySem.W.LeftO pw vw [] xt (λ s=>s) fin 8000:=λ w=>by
 have h:=seen1 w
 obtain⟨s,hs,e⟩:=Option.map_eq_some_iff.mp h
 rw[hs]
 show some (PySem.W.openSeen vw [] (importedModules pw.main.body) xt true s,s)=some (PySem.W.openGood vw [],fin w)
 rw[show PySem.W.openSeen vw [] (importedModules pw.main.body) xt true s=PySem.W.openGood vw [] from congrArg Prod.fst e,<- fin_of hs]
noncomputable def K (w:World):PySem.W.Frag:=(List.range 700).filterMap λ a=>((fin w).heap.get? a).map λ o=>(a,o)
theorem k_in (w:World):(K w).In (fin w).heap:=λ a o e=>by
 unfold K at e
 generalize List.range 700=l at e
 induction l with
 | nil=>cases e
 | cons x r ih=>
  rw[List.filterMap_cons]at e
  cases hx:(fin w).heap.get? x with
  | none=>rw[hx]at e;exact ih e
  | some y=>
   rw[hx]at e
   have e:List.lookup a ((x,y)::r.filterMap λ a=>((fin w).heap.get? a).map λ o=>(a,o))=some o:=e
   rw[List.lookup_cons]at e
   by_cases q:a=x
   ·subst q
    rw[beq_self_eq_true]at e
    have e:some y=some o:=e
    rw[hx,e]
   ·have q:(a==x)=false:=beq_eq_false_iff_ne.mpr q
    rw[q]at e
    exact ih e
def xA (K:PySem.W.Frag)(x:Str):Addr:=match PySem.W.nsIn K mainGlobals x with
 | some (some (.ref a))=>a
 | _=>0
def xM (K:PySem.W.Frag)(c x:Str):Addr:=match PySem.W.findIn K (.ref (xA K c)) x with
 | some (some (.ref a))=>a
 | _=>0
def xT (K:PySem.W.Frag)(x:Str):Tok:=match PySem.W.nsIn K mainGlobals x with
 | some (some (.str _ t))=>t
 | some (some (.int _ t))=>t
 | _=>0
theorem use {l:PySem.W.OpenLaw}{w:World}{h:Heap}{mg:Str->Option Value}{fa:Addr}(X:(K w).In h)(G:h.Ns mainGlobals mg)(hfa:mg "law" = some (.ref fa)):∃ fd:FuncData,(∀ (s:Shared) (v:Value),BindsTo s fd ⟨[v],[]⟩ [("_law_script",v)])/\∀ base:Heap,(K w).In base->base.Ns mainGlobals mg->FnOk l.prog w (K w) mg base CX0 18 fa fd ["_law_script"] (spLaw (K w)):=
 all_mk (l:=l) (w:=w) (K:=K w) (C:=xA (K w) "House") (CW:=xA (K w) "Web") (fiswhole:=xA (K w) "is_whole") (fname:=xA (K w) "is_name") (fplain:=xA (K w) "plain_text") (fcname:=xA (K w) "checked_name") (fcabove:=xA (K w) "checked_above") (fccols:=xA (K w) "checked_columns") (fcparts:=xA (K w) "checked_parts") (fturned:=xA (K w) "turned_about") (finit:=xM (K w) "House" "__init__") (fmparts:=xM (K w) "House" "parts") (fmcols:=xM (K w) "House" "columns") (fmben:=xM (K w) "House" "beneath") (fpaired:=xA (K w) "paired") (fmplaces:=xM (K w) "House" "places") (fmrows:=xM (K w) "House" "rows") (fmcells:=xM (K w) "House" "cells") (fmabove:=xM (K w) "House" "above") (fsums:=xA (K w) "sums_of") (fmarked:=xA (K w) "marked") (famong:=xA (K w) "among") (fwhole:=xA (K w) "whole_of") (fothers:=xA (K w) "others_of") (fsign:=xA (K w) "sign_of") (fgiven:=xA (K w) "given_by") (fends:=xA (K w) "ends_of") (fcango:=xA (K w) "can_go") (fstart:=xA (K w) "start_of") (fgoal:=xA (K w) "goal_of") (fwinit:=xM (K w) "Web" "__init__") (freached:=xA (K w) "reached") (fshort:=xA (K w) "shortest_ring") (fchanged:=xA (K w) "changed") (fisnum:=xA (K w) "is_number") (fiscount:=xA (K w) "is_count") (fhasjust:=xA (K w) "has_just") (fdown:=xA (K w) "sums_down_hold") (facross:=xA (K w) "sums_across_hold") (fistable:=xA (K w) "is_table") (flineup:=xA (K w) "line_up") (ffilled:=xA (K w) "filled") (funeven:=xA (K w) "uneven_places") (fwaygo:=xA (K w) "way_to_go") (frounded:=xA (K w) "rounded") (fcell:=xA (K w) "_law_cell_at") (flnames:=xA (K w) "_law_names") (flparts:=xA (K w) "_law_parts") (flcols:=xA (K w) "_law_columns") (flnext:=xA (K w) "_law_next") (flrounded:=xA (K w) "_law_rounded") (fltried:=xA (K w) "_law_tried") (flaw:=xA (K w) "law") (t_ALL:=xT (K w) "ALL") (t_DOWN:=xT (K w) "DOWN") (t_ACROSS:=xT (K w) "ACROSS") X G hfa
  (by kernel_rfl) (by kernel_rfl) (by kernel_rfl) (by kernel_rfl) (by kernel_rfl) (by kernel_rfl) (by kernel_rfl) (by kernel_rfl) (by kernel_rfl) (by kernel_rfl) (by kernel_rfl) (by kernel_rfl) (by kernel_rfl) (by kernel_rfl) (by kernel_rfl) (by kernel_rfl) (by kernel_rfl) (by kernel_rfl) (by kernel_rfl) (by kernel_rfl) (by kernel_rfl) (by kernel_rfl) (by kernel_rfl) (by kernel_rfl) (by kernel_rfl) (by kernel_rfl) (by kernel_rfl) (by kernel_rfl) (by kernel_rfl) (by kernel_rfl) (by kernel_rfl) (by kernel_rfl) (by kernel_rfl) (by kernel_rfl) (by kernel_rfl) (by kernel_rfl) (by kernel_rfl) (by kernel_rfl) (by kernel_rfl) (by kernel_rfl) (by kernel_rfl) (by kernel_rfl) (by kernel_rfl) (by kernel_rfl) (by kernel_rfl) (by kernel_rfl) (by kernel_rfl) (by kernel_rfl) (by kernel_rfl) (by kernel_rfl) (by kernel_rfl) (by kernel_rfl) (by kernel_rfl) (by kernel_rfl) (by kernel_rfl) (by kernel_rfl) (by kernel_rfl) (by kernel_rfl) (by kernel_rfl) (by kernel_rfl) (by kernel_rfl) (by kernel_rfl) (by kernel_rfl) (by kernel_rfl) (by kernel_rfl) (by kernel_rfl) (by kernel_rfl) (by kernel_rfl) (by kernel_rfl) (by kernel_rfl) (by kernel_rfl) (by kernel_rfl) (by kernel_rfl) (by kernel_rfl) (by kernel_rfl)
end P77
open PySem PySem.W PyProof.Rows
set_option maxRecDepth 100000 in
set_option maxHeartbeats 0 in
theorem PySem.Challenge.cw_tallyveil_k77_whole_rounded_and_rounded_holds : PySem.Challenge.rw_tallyveil_k77_whole_rounded_and_rounded.Holds := by
 w_on;o_law
 refine holds_openX (q:=P77.vw) (loose:=[]) (Xt:=P77.xt) (XP:=XL P77.vw []) (Yf:=λ s=>s) (Ya:=P77.fin) (N:=8000) P77.left (λ s e=>xl_of s (Bool.and_eq_true_iff.mp e).1) XL.keeps (by rfl) (by rfl) (by rfl) (λ s e=>recFacts_of (Bool.and_eq_true_iff.mp e).2) (by rfl) (by first | assumption | decide +kernel) (by decide +kernel) ⟨rfl,rfl,rfl,rfl,rfl,by decide +kernel⟩ ?hw ?hc
 case hw=>w_witness2
 case hc=>
  exact P77.walkX P77.k_in (P77.walkW (l:=PySem.Challenge.rw_tallyveil_k77_whole_rounded_and_rounded) (n:=63) (k:=18) (x := "_law_script") (K:=P77.K) (CX:=λ w=>L2.CX0) (sp:=λ w=>Tv.spLaw (P77.K w)) rfl (by decide) rfl ⟨rfl,by decide,by decide⟩ (λ _ _ Y=>Y) (λ w mg fa h X G hfa=>P77.use X G hfa) (λ _ _ a ns hl _ hS=>⟨a,ns,rfl,hS,hl,λ _=>rfl⟩) λ _ _ _ _ _ z=>z)
#print axioms PySem.Challenge.cw_tallyveil_k77_whole_rounded_and_rounded_holds
