import PyProof.Rows.All
import Wide.All
import OpenK.AllK
import Wide.FinOn
import Lean
import PyProof.EqAt
import PyProof.EqKinds
import PyProof.TupleCall
import PyProof.NeKinds
import PyProof.CompFree
import KE.KIsAll
import OpenK.KOwn
import PyProof.RulesAs
import KE.RegKIsAll
import PyProof.ExcAttrAll.ValueError
import KE.KUnpack
import PyProof.Rows.StrWeight2
import PyProof.StrBlockI
import OpenK.KTop
import PyProof.ListStr
import PyProof.EnumMake
import PyProof.TupleIter
import PyProof.ListRange
import PyProof.PassesOwn
import PyProof.ExcInit
import PyProof.InstStoreFacts
import PyProof.DictFindH
import PyProof.DictIter
import PyProof.DictWalks
import PyProof.DictCompW
import PyProof.DictUpdate
import PyProof.SumWalk
import PyProof.ZipIter
import PyProof.TupleOfStr
import PySem.Challenge.RW_fanglue_k47_whole_cores
set_option Elab.async false
set_option linter.all false
set_option maxRecDepth 100000
open PySem renaming wpAny_bind->K9,wpAny_pure->Lf,sizeLine_eq->Lu,wpAny_mono->LG,wpAny_callSpecial?_slot->LV,foldedSetIterable->LX
open List renaming getElem?_eq_some_iff->La,getElem?_set_ne->Lb,getElem?_eq_getElem->Lc,mem_of_getElem?->Lg,getElem?_map->Lj,length_map->Ll,getElem?_set_self->Lm,mem_cons_of_mem->Ln,getElem?_eq_none->Lp,getElem?_append_right->Ls,getElem?_append_left->Lx,size_toArray->Ly,mem_cons_self->Lz,mem_singleton->LA,mem_cons->LB,mem_map->LC,getD_eq_getElem?_getD->LD,mem_range->LF,getElem?_range->LH,length_append->LI,getElem?_cons_succ->LK,getElem?_of_mem->LL,map_cons->LM,getElem?_cons_zero->LO,mem_append_right->LP,mem_append->LQ,not_mem_nil->LR,getElem?_replicate->LU,length_cons->L0,append_nil->L4,nodup_cons->L5,drop_eq_nil_of_le->L9,length_nil->Mc,getElem_mem->Md,take_of_length_le->Mh,nodup_append->Mj,take_succ->Mm,mem_append_left->Mq,getElem?_drop->Mr
open PySem.Heap renaming get?_push_of_some->Ld,get?_push_size->Lv,lt_size->Lw
open PySem.W renaming Frag->Le,mg_of->Mi
open Nat renaming le_refl->Lh,lt_of_lt_of_le->Lr,ne_of_lt->LJ,lt_succ_iff_lt_or_eq->LS,zero_le->LZ,le_trans->L6,not_lt_zero->L7,lt_or_ge->Mf,le_of_lt->Mn,lt_of_le_of_lt->Mo
open Option.some renaming inj->Li
open Bool renaming false_eq_true->Lk,and_true->Mp
open PySem.PassesOwn renaming never->LN
open Option renaming map_eq_some_iff->LY
open Array renaming getElem?_eq_some_iff->L8,getElem?_toList->Ma
open Prod renaming ext->Mb
open Int renaming toNat_of_nonneg->Mg
open PySem.Calls renaming spliced_cons->Ml
namespace L2
open PySem PySem.Spec PyProof.Rows
abbrev Key:=Sum Int Str
def rQ:Key->Value->Bool
 | .inl k,v=>Value.isInt k v
 | .inr x,v=>Value.isStrOf x v
def JQ (w:World):Key->Int
 | .inl k=>hashInt k
 | .inr x=>hashStr w x
theorem cI:∀{k:Key} {v:Value},rQ k v=true->(∃i t,k=Sum.inl i/\v=Value.int i t)\/(∃x t,k=Sum.inr x/\v=Value.str x t)
 | .inl i,v,h=>by
  obtain⟨t,e⟩:=Value.isInt_shape (k:=i) (v:=v) h
  exact .inl ⟨i,t,rfl,e⟩
 | .inr x,v,h=>by
  obtain⟨t,e⟩:=Value.isStrOf_shape (x:=x) (v:=v) h;exact .inr ⟨x,t,rfl,e⟩
theorem sI (i:Int) (t:Tok):rQ (.inl i) (.int i t)=true:=by simp [rQ,Value.isInt]
theorem zm (x:Str) (t:Tok):rQ (.inr x) (.str x t)=true:=by simp [rQ,Value.isStrOf]
theorem Fx (a b:Int):decide ((Sum.inl a:Key)=Sum.inl b)=(a == b):=by
 by_cases e:a=b
 ·subst e;simp
 ·have h:¬ (Sum.inl a:Key)=Sum.inl b:=λq=>e (Sum.inl.inj q);rw [decide_eq_false h];exact (beq_eq_false_iff_ne.mpr e).symm
theorem GO (a b:Str):decide ((Sum.inr a:Key)=Sum.inr b)=decide (a=b):=by
 by_cases e:a=b
 ·subst e;simp
 ·have h:¬ (Sum.inr a:Key)=Sum.inr b:=λq=>e (Sum.inr.inj q);rw [decide_eq_false h,decide_eq_false e]
theorem Hj (a:Int) (b:Str):decide ((Sum.inl a:Key)=Sum.inr b)=false:=decide_eq_false (λq=>nomatch q)
theorem GN (a:Str) (b:Int):decide ((Sum.inr a:Key)=Sum.inl b)=false:=decide_eq_false (λq=>nomatch q)
def dO (prog:Program) (w:World):PySem.KeyKind prog w Key where
 is:=rQ
 hash:=JQ w
 inj:=λv a b ha hb=>by
  rcases cI ha with ⟨i,t,rfl,rfl⟩|⟨x,t,rfl,rfl⟩
  ·rcases cI hb with ⟨j,u,rfl,e⟩|⟨y,u,rfl,e⟩
   ·injection e with e1 _;rw [e1]
   ·exact nomatch e
  ·rcases cI hb with ⟨j,u,rfl,e⟩|⟨y,u,rfl,e⟩
   ·exact nomatch e
   ·injection e with e1 _;rw [e1]
 byValue:=λk v h=>by
  rcases cI h with ⟨i,t,rfl,rfl⟩|⟨x,t,rfl,rfl⟩ <;> rfl
 pyHash:=λhv h=>by
  rcases cI hv with ⟨i,t,rfl,rfl⟩|⟨x,t,rfl,rfl⟩
  ·exact wpAny_pyHash_int h
  ·exact wpAny_pyHash_str h
 eqBool:=λhu hv h=>by
  rcases cI hu with ⟨i,t,rfl,rfl⟩|⟨x,t,rfl,rfl⟩
  ·rcases cI hv with ⟨j,u,rfl,rfl⟩|⟨y,u,rfl,rfl⟩
   ·rw [Fx] at h;exact wpAny_eqBool_int h
   ·rw [Hj] at h;exact SeqAt.EqAt.int_str i t y u _ _ _ _ h
  ·rcases cI hv with ⟨j,u,rfl,rfl⟩|⟨y,u,rfl,rfl⟩
   ·rw [GN] at h;exact SeqAt.EqAt.str_int x t j u _ _ _ _ h
   ·rw [GO] at h;exact wpAny_eqBool_str h
 «strs»:=λk x t v h=>by
  rcases cI h with ⟨i,u,rfl,e⟩|⟨y,u,rfl,e⟩
  ·exact nomatch e
  ·injection e with e1 _
   subst e1;cases v <;> rfl
theorem v7 (prog:Program) (w:World) (i:Int) (t:Tok):(dO prog w).is (.inl i) (.int i t)=true:=sI i t
theorem vq (prog:Program) (w:World) (x:Str) (t:Tok):(dO prog w).is (.inr x) (.str x t)=true:=zm x t
inductive V where
 | non|bl (b:Bool)|int (i:Int)|str (x:Str)|byt (b:Array UInt8)|flt (b:UInt64)|ref (a:Addr)|ty (n:String)
 deriving DecidableEq
def RelV:V->Value->Prop
 | .non,u=>u=Value.none
 | .bl b,u=>u=Value.bool b
 | .int i,u=>∃t,u=Value.int i t
 | .str x,u=>∃t,u=Value.str x t
 | .byt b,u=>∃t,u=Value.bytes b t
 | .flt b,u=>∃t,u=Value.float b t
 | .ref a,u=>u=Value.ref a
 | .ty n,u=>u=Value.type n
abbrev Vals:List V->List Value->Prop:=Paired RelV
theorem Vals.length {xs:List V} {us:List Value} (r:Vals xs us):xs.length=us.length:=Paired.length r
theorem Vals.get:∀{xs:List V} {us:List Value} {i:Nat} {x:V},Vals xs us->xs[i]?=some x->∃u,us[i]?=some u/\RelV x u
 | _,_,_,_,.nil,e=>by simp at e
 | _,_,0,_,.cons r _,e=>by simp at e;subst e;exact⟨_,rfl,r⟩
 | _,_,i + 1,x,.cons _ t,e=>by
  obtain⟨u,h1,h2⟩:=Vals.get (i:=i) (x:=x) t (by simpa using e);exact⟨u,by simpa using h1,h2⟩
theorem Vals.set {x:V} {u:Value} (r:RelV x u):∀{xs:List V} {us:List Value} (i:Nat),Vals xs us->Vals (xs.set i x) (us.set i u)
 | _,_,_,.nil=>.nil
 | _,_,0,.cons _ t=>.cons r t
 | _,_,i + 1,.cons q t=>.cons q (Vals.set r i t)
theorem Vals.append:∀{xs ys:List V} {us ws:List Value},Vals xs us->Vals ys ws->Vals (xs ++ ys) (us ++ ws)
 | _,_,_,_,.nil,s=>s
 | _,_,_,_,.cons r t,s=>.cons r (Vals.append t s)
theorem Vals.take:∀{xs:List V} {us:List Value} (n:Nat),Vals xs us->Vals (xs.take n) (us.take n)
 | _,_,0,_=>.nil
 | _,_,_ + 1,.nil=>.nil
 | _,_,n + 1,.cons r t=>.cons r (Vals.take n t)
theorem Vals.drop:∀{xs:List V} {us:List Value} (n:Nat),Vals xs us->Vals (xs.drop n) (us.drop n)
 | _,_,0,r=>r
 | _,_,_ + 1,.nil=>.nil
 | _,_,n + 1,.cons _ t=>Vals.drop n t
def Iu:Option V->Option Value->Prop
 | some v,some u=>RelV v u
 | none,none=>True
 | _,_=>False
def KV {κ:Type}:List (κ×V)->List (κ×Value)->Prop:=Paired λ(p:κ×V) (q:κ×Value)=>p.1=q.1/\RelV p.2 q.2
def kV:Key->V
 | .inl i=>.int i
 | .inr x=>.str x
inductive HO where
 | lst (xs:List V)
 | tup (xs:List V)
 | dK (kvs:List (Key×V))|dT (kvs:List (List Key×V))
 | set (S:Int->Bool) (n:Nat)
 | ins (C dx:Addr) (fs:List (Str×V))
 | own (x:Addr)
 | xd (fs:List (Str×V))
 | met (f x:Addr)
 | rng (lo hi:Int)
 | frz (o:Obj) (u:HO)
 | fU (q:Str)
 | cdr (c:Addr) (q:Str)
 | ext (φ:Heap->Prop)
abbrev Hp:=Addr->Option HO
def upd (H:Hp) (a:Addr) (o:HO):Hp:=λb=>if b=a then some o else H b
theorem av {H:Hp} {a:Addr} {o:HO}:upd H a o a=some o:=by unfold upd;rw [if_pos rfl]
theorem az {H:Hp} {a b:Addr} {o:HO} (h:b≠a):upd H a o b=H b:=by unfold upd;rw [if_neg h]
theorem bL {H:Hp} {a b:Addr} {o:HO} (h:H a=some o) (h':H b=none):a≠b:=by
 intro e;subst e;rw [h] at h';cases h'
def pD (h:Heap) (a:Addr) (its:Array Value):Prop:=∃o,h.get? a=some o/\o.cls=.type "tuple"/\(∃n,o.data=.seq its n)/\o.dict=none
theorem pD.tup {h:Heap} {a:Addr} {its:Array Value} (x:pD h a its):IsTup h a its:=let ⟨o,e,c,d,_⟩:=x;⟨o,e,c,d⟩
theorem pD.new (h:Heap) (its:Array Value):pD (h.push { cls:=.type "tuple",data:=.seq its }) h.objs.size its:=⟨_,Lv _ rfl,rfl,⟨_,rfl⟩,rfl⟩
section
variable (P:Program) (w:World)
def bH (H:Hp) (h:Heap) (a:Addr):HO->Prop
 | .lst xs=>xs.length<=sizeLine/\∃(its:List Value) (n:Nat),Vals xs its/\h.get? a=some { cls:=.type "list",data:=.seq its.toArray n }
 | .tup xs=>xs.length<=sizeLine/\∃its:List Value,Vals xs its/\pD h a its.toArray
 | .dK kvs=>kvs.length<=sizeLine/\(a == sysModules)=false/\∃vs,KV kvs vs/\h.DictOf (dO P w) a vs
 | .dT kvs=>kvs.length<=sizeLine/\(a == sysModules)=false/\∃xs:List (List Key×Addr×Value),
   Paired (λ(p:List Key×V) (q:List Key×Addr×Value)=>p.1=q.1/\H q.2.1=some (.tup (p.1.map kV))/\RelV p.2 q.2.2) kvs xs /\
   ∃o es ep,h.get? a=some o/\o.ExactDict/\o.data=.dict es ep/\es.toList=xs.map (entryOfKey (tupleKind (dO P w)))/\(xs.map (·.1)).Nodup
 | .set S n=>h.SetOf (intKind P w) a S n
 | .ins C dx fs=>H dx=some (.own a)/\fs.length<=1000/\dx≠a/\h.get? a=some (PySem.W.instObj C dx) /\
   ∃mA,h.Ns1 dx mA/\(∀f,Iu (fs.lookup f) (mA f))/\PySem.Within mA (fs.map (·.1))
 | .own _=>∃o,h.get? a=some o
 | .xd fs=>∃mA,h.Ns1 a mA/\∀f,Iu (fs.lookup f) (mA f)
 | .rng lo hi=>∃t u v,h.get? a=some { cls:=.type "range",data:=.fields #[.int lo t,.int hi u,.int 1 v] }
 | .frz o u=>h.get? a=some o/\bH H h a u
 | .fU q=>∃ps:Array Value,h.get? a=some { cls:=.none,data:=.fields ps }/\TriplesOk ps.toList/\∀pos cv,codeAmong pos ps.toList=some cv->∃c oc vs t,cv=.ref c/\H c=some (.frz oc (.own c))/\oc.data=.fields vs/\vs[1]?=some (.str q t)
 | .cdr c q=>(∃o,h.get? a=some o)/\∃oc vs t,H c=some (.frz oc (.own c))/\oc.data=.fields vs/\vs[1]?=some (.str q t)
 | .met f x=>h.get? a=some (PySem.W.methodObj (.ref f) (.ref x))
 | .ext φ=>φ h/\(∃o,h.get? a=some o)/\∀h1 h2:Heap,φ h1->(∀o,h1.get? a=some o->h2.get? a=some o)->φ h2
def kY (H:Hp) (h:Heap):Prop:=∀a o,H a=some o->bH P w H h a o
end
section
variable {P:Program} {w:World} {H H':Hp} {h h':Heap} {a:Addr} {o:HO}
theorem bH.lt (x:bH P w H h a o):a < h.objs.size:=by
 cases o with
 | lst xs=>obtain⟨_,_,_,_,e⟩:=x;exact Lw e
 | tup xs=>obtain⟨_,_,_,p⟩:=x;exact p.tup.lt
 | dK kvs=>obtain⟨_,_,_,_,o,_,_,e,_⟩:=x;exact Lw e
 | dT kvs=>obtain⟨_,_,_,_,o,_,_,e,_⟩:=x;exact Lw e
 | set S n=>obtain⟨o,_,_,_,e,_⟩:=x;exact Lw e
 | ins C dx fs=>obtain⟨_,_,_,e,_⟩:=x;exact Lw e
 | own y=>obtain⟨_,e⟩:=x;exact Lw e
 | xd fs=>obtain⟨_,⟨_,_,_,e,_⟩,_⟩:=x;exact Lw e
 | rng lo hi=>obtain⟨_,_,_,e⟩:=x;exact Lw e
 | frz ob u=>obtain⟨e,_⟩:=x;exact Lw e
 | fU q=>obtain⟨_,e,_⟩:=x;exact Lw e
 | cdr c q=>obtain⟨⟨_,e⟩,_⟩:=x;exact Lw e
 | met f y=>exact Lw (show h.get? a=some _ from x)
 | ext φ=>obtain⟨_,⟨_,e⟩,_⟩:=x;exact Lw e
theorem Paired.Jb {α β:Type} {F G:α->β->Prop}:∀{l₁:List α} {l₂:List β},Paired F l₁ l₂->(∀a b,F a b->G a b)->Paired G l₁ l₂
 | _,_,.nil,_=>.nil
 | _,_,.cons r t,f=>.cons (f _ _ r) (Paired.Jb t f)
theorem bH.p0 (x:bH P w H h a o) (k:∀b u,(b=a\/H b=some (.own a))->h.get? b=some u->h'.get? b=some u)
  (ho:∀b,H b=some (.own a)->H' b=some (.own a)) (ht:∀b xs,H b=some (.tup xs)->H' b=some (.tup xs)) (hz:∀b o u,H b=some (.frz o u)->H' b=some (.frz o u)):bH P w H' h' a o:=by
 induction o with
 | lst xs=>obtain⟨z,its,n,r,e⟩:=x;exact⟨z,its,n,r,k _ _ (.inl rfl) e⟩
 | tup xs=>obtain⟨z,its,r,ob,e,c⟩:=x;exact⟨z,its,r,ob,k _ _ (.inl rfl) e,c⟩
 | dK kvs=>obtain⟨z,y,vs,r,ob,es,ep,e,c⟩:=x;exact⟨z,y,vs,r,ob,es,ep,k _ _ (.inl rfl) e,c⟩
 | dT kvs =>
  obtain⟨z,y,xs,r,ob,es,ep,e,c⟩:=x
  exact⟨z,y,xs,Paired.Jb r λp q z=>⟨z.1,ht _ _ z.2.1,z.2.2⟩,ob,es,ep,k _ _ (.inl rfl) e,c⟩
 | set S n=>obtain⟨ob,es,ep,t,e,c⟩:=x;exact⟨ob,es,ep,t,k _ _ (.inl rfl) e,c⟩
 | ins C dx fs =>
  obtain⟨d,z,ne,e,mA,⟨od,es,ep,e2,c⟩,r⟩:=x
  exact⟨ho _ d,z,ne,k _ _ (.inl rfl) e,mA,⟨od,es,ep,k _ _ (.inr d) e2,c⟩,r⟩
 | own y=>obtain⟨ob,e⟩:=x;exact⟨ob,k _ _ (.inl rfl) e⟩
 | xd fs=>obtain⟨mA,⟨od,es,ep,e,c⟩,r⟩:=x;exact⟨mA,⟨od,es,ep,k _ _ (.inl rfl) e,c⟩,r⟩
 | rng lo hi=>obtain⟨t,u,v,e⟩:=x;exact⟨t,u,v,k _ _ (.inl rfl) e⟩
 | frz ob u ih=>obtain⟨e,q⟩:=x;exact⟨k _ _ (.inl rfl) e,ih q⟩
 | fU q =>
  obtain⟨ps,e,t,r⟩:=x;refine⟨ps,k _ _ (.inl rfl) e,t,λpos cv hc=>?_⟩;obtain⟨c,oc,vs,tt,e1,e2,e3⟩:=r pos cv hc
  exact⟨c,oc,vs,tt,e1,hz _ _ _ e2,e3⟩
 | cdr c q =>
  obtain⟨⟨o,e⟩,oc,vs,t,r1,r2⟩:=x
  exact⟨⟨o,k _ _ (.inl rfl) e⟩,oc,vs,t,hz _ _ _ r1,r2⟩
 | met f y =>
  have e:h.get? a=some (PySem.W.methodObj (.ref f) (.ref y)):=x;show h'.get? a=some (PySem.W.methodObj (.ref f) (.ref y))
  exact k a _ (.inl rfl) e
 | ext φ=>obtain⟨p,⟨o,e⟩,st⟩:=x;exact⟨st _ _ p λo q=>k _ _ (.inl rfl) q,⟨o,k _ _ (.inl rfl) e⟩,st⟩
theorem kY.lt (x:kY P w H h) (e:H a=some o):a < h.objs.size:=(x a o e).lt
theorem kY.fresh (x:kY P w H h) (e:h.objs.size<=a):H a=none:=by
 cases q:H a with
 | none=>rfl
 | some u=>exact absurd (Lr (x.lt q) e) (Nat.lt_irrefl _)
theorem kY.kept (x:kY P w H h) (k:∀b u,h.get? b=some u->h'.get? b=some u):kY P w H h':=λa o e =>
 (x a o e).p0 (λb u _ q=>k b u q) (λ_ q=>q) (λ_ _ q=>q) λ_ _ _ q=>q
theorem kY.laid (x:kY P w H h) (k:∀b u,h.get? b=some u->h'.get? b=some u) (hp:h.objs.size<=a) (new:bH P w (upd H a o) h' a o):kY P w (upd H a o) h':=λb u e=>by
 have hn:=x.fresh hp
 by_cases hb:b=a
 ·subst hb;rw [av] at e;cases e;exact new
 ·rw [az hb] at e;exact (x b u e).p0 (λc v _ q=>k c v q) (λc q=>by rw [az (bL q hn)];exact q) (λc xs q=>by rw [az (bL q hn)];exact q) λc o xs q=>by rw [az (bL q hn)];exact q
end
def Rd (H:Hp) (a:Addr) (u:HO):Prop:=H a=some u\/∃o,H a=some (.frz o u)
theorem Rd.ok {P:Program} {w:World} {H:Hp} {h:Heap} {a:Addr} {u:HO} (r:Rd H a u) (x:kY P w H h):bH P w H h a u:=by
 rcases r with r|⟨o,r⟩
 ·exact x a u r
 ·obtain⟨_,q⟩:=x a _ r;exact q
def Il:Option HO->Prop
 | some (.lst _)=>True
 | some (.dK _)=>True
 | some (.dT _)=>True
 | some (.set _ _)=>True
 | some (.ins _ _ _)=>True
 | some (.ext _)=>True
 | _=>False
section
variable {P:Program} {w:World} {H:Hp} {h h':Heap} {x e:Addr} {o':HO}
theorem kY.write (ok:kY P w H h) (mu:Il (H x)) (he:e=x\/H e=some (.own x)) (k:∀b u,b≠e->h.get? b=some u->h'.get? b=some u) (heo:∃u,h'.get? e=some u)
  (new:bH P w (upd H x o') h' x o'):kY P w (upd H x o') h':=λb u q=>by
 have nown:∀c y,H c=some (.own y)->c≠x:=λc y r z=>by subst z;rw [r] at mu;exact mu
 have ntup:∀c xs,H c=some (.tup xs)->c≠x:=λc xs r z=>by subst z;rw [r] at mu;exact mu
 have nfrz:∀c o xs,H c=some (.frz o xs)->c≠x:=λc o xs r z=>by subst z;rw [r] at mu;exact mu
 by_cases hb:b=x
 ·subst hb;rw [av] at q;cases q;exact new
 ·rw [az hb] at q
  by_cases hbe:b=e
  ·have q':H b=some (.own x):=by
    rcases he with z|z
    ·exact absurd (hbe.trans z) hb
    ·rw [hbe];exact z
   rw [q] at q';cases q';obtain⟨v,hv⟩:=heo;exact⟨v,by rw [hbe];exact hv⟩
  ·refine (ok b u q).p0 (λc v hc r=>k c v ?_ r) (λc r=>by rw [az (nown c b r)];exact r) (λc xs r=>by rw [az (ntup c xs r)];exact r) λc o xs r=>by rw [az (nfrz c o xs r)];exact r
   rcases hc with rfl|hc
   ·exact hbe
   ·rintro rfl;rcases he with z|z
    ·exact nown c b hc z
    ·rw [hc] at z;cases z;exact hb rfl
end
structure Un (fs ex:List Addr) (H H':Hp) (h h':Heap):Prop where
 keep:∀b o,h.get? b=some o->H b=none->b∉fs->b∉ex->h'.get? b=some o
 slot:∀b o,h.get? b=some o->H b=none->b∈fs->b∉ex->∃sl,h'.get? b=some { o with slots:=sl }
 free:∀b o,h.get? b=some o->H b=none->b∉ex->H' b=none
 there:∀b o,h.get? b=some o->b∉ex->∃o',h'.get? b=some o'
 tups:∀b xs,H b=some (.tup xs)->H' b=some (.tup xs)
 frzs:∀b o u,H b=some (.frz o u)->H' b=some (.frz o u)
 tbls:∀b q,H b=some (.fU q)->H' b=some (.fU q)
section
variable {fs fs' ex ex':List Addr} {H H1 H2:Hp} {h h1 h2 h':Heap} {a x e:Addr} {o:HO}
theorem Un.any (u:Un fs ex H H1 h h1) {b:Addr} {ob:Obj} (q:h.get? b=some ob) (n:H b=none) (hx:b∉ex):∃sl,h1.get? b=some { ob with slots:=sl }:=by
 by_cases hb:b∈fs
 ·exact u.slot b ob q n hb hx
 ·exact⟨ob.slots,u.keep b ob q n hb hx⟩
theorem Un.kept (k:∀b u,h.get? b=some u->h'.get? b=some u):Un fs ex H H h h' :=
 ⟨λb ob q _ _ _=>k b ob q,λb ob q _ _ _=>⟨ob.slots,k b ob q⟩,λ_ _ _ n _=>n,λb ob q _=>⟨ob,k b ob q⟩,λ_ _ q=>q,λ_ _ _ q=>q,λ_ _ q=>q⟩
theorem Un.refl:Un fs ex H H h h:=Un.kept λ_ _ q=>q
theorem Un.laid (k:∀b u,h.get? b=some u->h'.get? b=some u) (hp:h.objs.size<=a) (hn:H a=none):Un fs ex H (upd H a o) h h' where
 keep:=λb u q _ _ _=>k b u q
 slot:=λb u q _ _ _=>⟨u.slots,k b u q⟩
 free:=λb u q n _=>by rw [az (LJ (Lr (Lw q) hp))];exact n
 there:=λb u q _=>⟨u,k b u q⟩
 tups:=λb xs q=>by rw [az (bL q hn)];exact q
 frzs:=λb u xs q=>by rw [az (bL q hn)];exact q
 tbls:=λb ps q=>by rw [az (bL q hn)];exact q
theorem Un.write (mu:Il (H x)) (he:e=x\/H e=some (.own x)) (k:∀b u,b≠e->h.get? b=some u->h'.get? b=some u) (heo:∃u,h'.get? e=some u):Un fs ex H (upd H x o) h h':=by
 have hx:∀b,H b=none->b≠x:=λb n z=>by subst z;rw [n] at mu;exact mu
 have hb:∀b,H b=none->b≠e:=λb n z=>by
  subst z;rcases he with r|r
  ·exact hx b n r
  ·rw [n] at r;cases r
 have hm:∀b u,H b=some u->¬ Il (some u)->b≠x:=λb u q nm z=>by subst z;rw [q] at mu;exact nm mu
 refine⟨λb u q n _ _=>k b u (hb b n) q,λb u q n _ _=>⟨u.slots,k b u (hb b n) q⟩,λb u q n _=>by rw [az (hx b n)];exact n,λb u q _=>?_,
  λb xs q=>by rw [az (hm b _ q λz=>z)];exact q,λb u xs q=>by rw [az (hm b _ q λz=>z)];exact q,λb ps q=>by rw [az (hm b _ q λz=>z)];exact q⟩
 by_cases hbe:b=e
 ·subst hbe;exact heo
 ·exact⟨u,k b u hbe q⟩
end
def G5 (h:Heap) (H:Hp):List Addr:=(List.range h.objs.size).filter λa=>(H a).isSome
def uE (h:Heap) (H:Hp):Heap:=PySem.W.hideAll h (G5 h H)
theorem zt (h:Heap) (H:Hp):(uE h H).objs.size=h.objs.size:=PySem.W.hideAll_size _ _
theorem BE {h:Heap} {H:Hp} {b:Addr} {o:Obj} (e:h.get? b=some o) (n:H b=none):(uE h H).get? b=some o :=
 PySem.W.hideAll_get _ e λhm=>by
  have q:(H b).isSome=true:=(List.mem_filter.mp hm).2;rw [n] at q;simp at q
theorem Dx {h:Heap} {H:Hp} {b:Addr} {o:Obj} (e:(uE h H).get? b=some o):h.get? b=some o/\H b=none:=by
 have e':h.get? b=some o:=PySem.W.of_hideAll (G5 h H) e;refine⟨e',?_⟩
 cases q:H b with
 | none=>rfl
 | some x =>
  have hm:b∈G5 h H:=List.mem_filter.mpr ⟨LF.mpr (Lw e'),by simp [q]⟩;have z:(uE h H).get? b=none:=PySem.W.hideAll_none (G5 h H) hm;rw [z] at e;cases e
structure Mod (K:Le) (mg:Str->Option Value) (base:Heap):Prop where
 kin:K.In base
 glob:base.Ns mainGlobals mg
 blt:∃mb,base.Ns builtinsNs mb/\∀x:Str,x≠"__name__"->mb x=bootBuiltins x
 nolimit:base.NoLimit
 bm:∃bm ob,mg "__builtins__" = some (.ref bm)/\bm≠builtinsNs/\base.get? bm=some ob/\ob.cls=.type "module"/\ob.dict=some builtinsNs/\ob.data=.plain
structure Cx where
 prog:Program
 w:World
 K:Le
 mg:Str->Option Value
 base:Heap
 A:Around
 N:List Str
 s₀:Shared
 H₀:Hp
 env:Env
 outer:List Env
 stack:List Env
 ex:List Addr
 fn:Str->Bool
 calm:Bool
 pn:List (Addr×Obj)
 xe:Value->Shared->Prop
def lN (l:List Env):List Addr:=l.filterMap (·.frame)
abbrev Cx.fs (X:Cx):List Addr:=lN X.outer
def l9:List (Str×Str):=[("meet","meet.<locals>.<lambda>"),("core","core.<locals>.<lambda>"),("by_rests","by_rests.<locals>.behind")]
def tq (K:Le) (b:Addr):Option Str:=(l9.find? λp=>match PySem.W.tabIn K p.1 with|some (_,P)=>P == b|none=>false).map (·.2)
def DZ (K:Le) (H:Hp):Prop:=∀b q,tq K b=some q->H b=some (.fU q)
def ua (sc:Scope) (x:Str):Prop:=sc.names.lookup x=some .local\/sc.names.lookup x=some .cell\/sc.names.lookup x=some .free
def Loc (sc:Scope) (x:Str):Prop:=sc.names.lookup x=some .local\/sc.names.lookup x=some .cell
def Look (env:Env) (h:Heap) (m:Str->Option Value) (x:Str) (u:Value):Prop :=
 (env.kindOf x=some .local/\m x=some u)\/((env.kindOf x=some .cell\/env.kindOf x=some .free)/\∃c,env.cells.lookup x=some c/\h.IsCell c (some u))
structure Cx.Ok (X:Cx):Prop where
 mod:Mod X.K X.mg X.base
 kind:X.env.scope.kind=.function
 glob:X.env.globals=mainGlobals
 blt:X.env.builtins=builtinsNs
 above:X.s₀.heap.objs.size<=X.env.locals
 inj:∀x y c,X.env.cells.lookup x=some c->X.env.cells.lookup y=some c->x=y
 has:∀x,(X.env.kindOf x=some .cell\/X.env.kindOf x=some .free)->∃c,X.env.cells.lookup x=some c
 cab:∀x c,X.fn x=true->X.env.cells.lookup x=some c->X.s₀.heap.objs.size<=c
 hd:X.calm=true->X.A.handled=none
 frames:X.A.frames=some X.stack
 stk:X.stack=X.outer\/(X.stack=X.env :: X.outer/\X.env.frame=some X.env.locals)
 exf:∀b∈X.ex,b≠X.env.locals/\∀x c,X.env.cells.lookup x=some c->c≠b
 bs:∀b o,X.base.get? b=some o->X.s₀.heap.get? b=some o/\X.H₀ b=none
 bsz:X.base.objs.size<=X.s₀.heap.objs.size
 noex:∀b o,X.base.get? b=some o->b∉X.ex
 exfs:∀b∈X.ex,b∉X.fs
 lU:X.s₀.heap.FunFrames X.base X.outer
 frf:(∀b∈X.fs,X.H₀ b=none)/\DZ X.K X.H₀
structure Inv (X:Cx) (pins:List (Addr×Obj)) (σ:List (Option V)) (H:Hp) (s:Shared):Prop where
 ok:X.Ok
 os:s.os=X.s₀.os
 bare:AllBare s.gens
 base:Un X.fs X.ex X.H₀ H X.s₀.heap s.heap
 loc:∃m,s.heap.Ns X.env.locals m/\∀(i:Nat) (x:Str) (v:V),X.N[i]?=some x->σ[i]?=some (some v)->ua X.env.scope x->∃u,RelV v u/\Look X.env s.heap m x u
 cell:∀x c,X.env.cells.lookup x=some c->∃v,s.heap.IsCell c v
 free:H X.env.locals=none
 freeC:∀x c,X.env.cells.lookup x=some c->H c=none
 pin:∀p∈X.pn ++ pins,s.heap.get? p.1=some p.2/\H p.1=none/\p.1≠X.env.locals/\p.1∉X.fs/\∀v,p.2.data≠.cell v
 hok:kY X.prog X.w H s.heap
 len:σ.length=X.N.length
section
variable {X:Cx} {pins:List (Addr×Obj)} {σ:List (Option V)} {H H':Hp} {s:Shared} {h':Heap}
theorem Cx.Ok.JJ (ok:X.Ok) {b:Addr} {o:Obj} (e:X.base.get? b=some o):b∉X.fs:=λhb=>by
 have:=(ok.lU.mem hb).1;rw [e] at this;cases this
theorem Inv.bs (I:Inv X pins σ H s):∀b o,X.base.get? b=some o->s.heap.get? b=some o/\H b=none:=λb o e =>
 ⟨I.base.keep b o (I.ok.bs b o e).1 (I.ok.bs b o e).2 (I.ok.JJ e) (I.ok.noex b o e),I.base.free b o (I.ok.bs b o e).1 (I.ok.bs b o e).2 (I.ok.noex b o e)⟩
theorem Inv.bk (I:Inv X pins σ H s):∀b o,X.base.get? b=some o->s.heap.get? b=some o:=λb o e=>(I.bs b o e).1
theorem Inv.mod (I:Inv X pins σ H s):Mod X.K X.mg X.base:=I.ok.mod
theorem Inv.BI (I:Inv X pins σ H s):X.K.In s.heap:=I.ok.mod.kin.keeps I.bk
theorem Inv.lt (I:Inv X pins σ H s):X.env.locals < s.heap.objs.size:=let ⟨_,hn,_⟩:=I.loc;hn.lt
theorem Inv.sz (I:Inv X pins σ H s):X.s₀.heap.objs.size<=s.heap.objs.size:=L6 I.ok.above (Mn I.lt)
theorem Inv.JU (I:Inv X pins σ H s) {a:Addr} (h:s.heap.objs.size<=a):a∉X.fs:=λhb=>by
 obtain⟨_,o,ho,_⟩:=I.ok.lU.mem hb;exact absurd (Lr (Lw ho) (L6 I.sz h)) (Nat.lt_irrefl _)
theorem Inv.EG (I:Inv X pins σ H s):∀x c,X.env.cells.lookup x=some c->c≠X.env.locals:=λx c e z=>by
 obtain⟨v,o,ho,hd⟩:=I.cell x c e;obtain⟨m,⟨o',es,ep,ho',hd',_⟩,_⟩:=I.loc;rw [z,ho'] at ho;cases ho;rw [hd'] at hd;cases hd
theorem Inv.lU (I:Inv X pins σ H s):s.heap.FunFrames X.base X.outer:=by
 have all:∀(l:List Env),(∀b∈lN l,b∈X.fs)->X.s₀.heap.FunFrames X.base l->s.heap.FunFrames X.base l:=by
  intro l
  induction l with
  | nil=>intro _ _;trivial
  | cons env r ih =>
   intro hs hl;obtain⟨hk,⟨L,o,hf,hn,ho,hd⟩,hr⟩:=hl;have hL:L∈X.fs:=hs L (by unfold lN;rw [List.filterMap_cons,hf];exact Lz);obtain⟨sl,e⟩:=I.base.slot L o ho (I.ok.frf.1 L hL) hL λz=>I.ok.exfs L z hL;exact⟨hk,⟨L,_,hf,hn,e,hd⟩,ih (λb hb=>hs b (by unfold lN;rw [List.filterMap_cons,hf];exact Ln _ hb)) hr⟩
 exact all X.outer (λ_ hb=>hb) I.ok.lU
theorem Inv.stack (I:Inv X pins σ H s):s.heap.FunFrames X.base X.stack:=by
 rcases I.ok.stk with e|⟨e,hf⟩
 ·rw [e];exact I.lU
 ·rw [e];obtain⟨m,hn,_⟩:=I.loc;refine .cons (by rw [I.ok.kind];decide) hf hn ?_ I.lU;exact Heap.get?_none_of_le (L6 I.ok.bsz I.ok.above)
theorem Inv.lC (I:Inv X pins σ H s):∀b∈lN X.stack,b∈X.env.locals :: X.fs:=λb hb=>by
 rcases I.ok.stk with e|⟨e,hf⟩
 ·rw [e] at hb;exact Ln _ hb
 ·rw [e] at hb;unfold lN at hb;rw [List.filterMap_cons,hf] at hb;exact hb
theorem Inv.oZ (I:Inv X pins σ H s):∀b∈lN X.stack,H b=none:=λb hb=>by
 rcases LB.mp (I.lC b hb) with e|hb
 ·rw [e];exact I.free
 ·obtain⟨_,o,ho,_⟩:=I.ok.lU.mem hb;exact I.base.free b o ho (I.ok.frf.1 b hb) λz=>I.ok.exfs b z hb
theorem Inv.tb (I:Inv X pins σ H s):DZ X.K H:=λb q e=>I.base.tbls b q (I.ok.frf.2 b q e)
theorem Inv.step {g':Array GenState} {t':Nat} {d':Drawn} {ch:List Addr} (I:Inv X pins σ H s)
  (hch:∀b∈ch,(b∈X.ex\/X.s₀.heap.objs.size<=b)/\b≠X.env.locals/\(∀x c,X.env.cells.lookup x=some c->c≠b)/\∀p∈X.pn ++ pins,p.1≠b)
  (keep:∀b o,b≠X.env.locals->b∉X.fs->b∉ch->s.heap.get? b=some o->H b=none->h'.get? b=some o)
  (slot:∀b o,b≠X.env.locals->b∈X.fs->b∉ch->s.heap.get? b=some o->H b=none->∃sl,h'.get? b=some { o with slots:=sl }) (free:∀b o,b∉ch->s.heap.get? b=some o->H b=none->H' b=none)
  (there:∀b o,b∉ch->s.heap.get? b=some o->∃o',h'.get? b=some o')
  (tups:∀b xs,H b=some (.tup xs)->H' b=some (.tup xs)) (frzs:∀b o u,H b=some (.frz o u)->H' b=some (.frz o u)) (tbls:∀b q,H b=some (.fU q)->H' b=some (.fU q))
  (ns:∀m,s.heap.Ns X.env.locals m->h'.Ns X.env.locals m) (hok:kY X.prog X.w H' h') (hg:AllBare g') :
  Inv X pins σ H' { s with heap:=h',gens:=g',drawn:=d',toks:=t' }:=by
 have neL:∀b o,X.s₀.heap.get? b=some o->b≠X.env.locals:=λb o e=>LJ (Lr (Lw e) I.ok.above)
 have neC:∀b o,X.s₀.heap.get? b=some o->b∉X.ex->b∉ch:=λb o e hx hb=>by
  rcases (hch b hb).1 with z|z
  ·exact hx z
  ·exact absurd (Lr (Lw e) z) (Nat.lt_irrefl _)
 have cellK:∀x c,X.env.cells.lookup x=some c->∀v,s.heap.IsCell c v->h'.IsCell c v:=λx c e v ⟨o,ho,hd⟩=>by
  have nch:c∉ch:=λz=>(hch c z).2.2.1 x c e rfl
  by_cases hc:c∈X.fs
  ·obtain⟨sl,q⟩:=slot c o (I.EG x c e) hc nch ho (I.freeC x c e);exact⟨_,q,hd⟩
  ·exact⟨o,keep c o (I.EG x c e) hc nch ho (I.freeC x c e),hd⟩
 refine⟨I.ok,I.os,hg,⟨λb o e n hb hx=>?_,λb o e n hb hx=>?_,λb o e n hx=>?_,λb o e hx=>?_,λb xs e=>tups b xs (I.base.tups b xs e),λb o xs e=>frzs b o xs (I.base.frzs b o xs e),λb q e=>tbls b q (I.base.tbls b q e)⟩,?_,λx c e=>?_,?_,λx c e=>?_,λp hp=>?_,hok,I.len⟩
 ·exact keep b o (neL b o e) hb (neC b o e hx) (I.base.keep b o e n hb hx) (I.base.free b o e n hx)
 ·obtain⟨sl,e1⟩:=I.base.slot b o e n hb hx;obtain⟨sl',e2⟩:=slot b _ (neL b o e) hb (neC b o e hx) e1 (I.base.free b o e n hx);exact⟨sl',e2⟩
 ·obtain⟨o',e1⟩:=I.base.there b o e hx;exact free b o' (neC b o e hx) e1 (I.base.free b o e n hx)
 ·obtain⟨o',e1⟩:=I.base.there b o e hx;exact there b o' (neC b o e hx) e1
 ·obtain⟨m,hn,hl⟩:=I.loc;refine⟨m,ns m hn,λi x v e1 e2 e3=>?_⟩;obtain⟨u,r,l⟩:=hl i x v e1 e2 e3;refine⟨u,r,?_⟩;rcases l with l|⟨k,c,e,z⟩
  ·exact .inl l
  ·exact .inr ⟨k,c,e,cellK x c e _ z⟩
 ·obtain⟨v,z⟩:=I.cell x c e;exact⟨v,cellK x c e v z⟩
 ·obtain⟨m,⟨o,_,_,ho,_⟩,_⟩:=I.loc;exact free _ o (λz=>(hch _ z).2.1 rfl) ho I.free
 ·obtain⟨v,o,ho,hd⟩:=I.cell x c e;exact free c o (λz=>(hch c z).2.2.1 x c e rfl) ho (I.freeC x c e)
 ·obtain⟨e,n,ne,nf,d⟩:=I.pin p hp;have nch:p.1∉ch:=λz=>(hch p.1 z).2.2.2 p hp rfl;exact⟨keep p.1 p.2 ne nf nch e n,free p.1 p.2 nch e n,ne,nf,d⟩
theorem Inv.un {t':Nat} (I:Inv X pins σ H s) (u:Un X.fs [] H H' s.heap h') (hok:kY X.prog X.w H' h'):Inv X pins σ H' { s with heap:=h',toks:=t' }:=by
 obtain⟨m,⟨o,es,ep,ho,r⟩,_⟩:=id I.loc;obtain⟨sl,hL⟩:=u.any ho I.free (by simp)
 exact I.step (g':=s.gens) (d':=s.drawn) (ch:=[]) (λ_ z=>nomatch z) (λb o _ hb _ e n=>u.keep b o e n hb (by simp)) (λb o _ hb _ e n=>u.slot b o e n hb (by simp)) (λb o _ e n=>u.free b o e n (by simp)) (λb o _ e=>u.there b o e (by simp)) u.tups u.frzs u.tbls (λm' hm=>by
  obtain⟨o',es',ep',ho',r'⟩:=hm;rw [ho] at ho';cases ho'
  exact⟨_,es',ep',hL,r'⟩) hok I.bare
theorem Inv.call {g':Array GenState} {t':Nat} {d':Drawn} {ch:List Addr} (I:Inv X pins σ H s) (u:Un (lN X.stack) ch H H' s.heap h') (hok:kY X.prog X.w H' h') (hg:AllBare g')
  (hch:∀b∈ch,(b∈X.ex\/X.s₀.heap.objs.size<=b)/\b≠X.env.locals/\(∀x c,X.env.cells.lookup x=some c->c≠b)/\∀p∈X.pn ++ pins,p.1≠b) :
  Inv X pins σ H' { s with heap:=h',gens:=g',drawn:=d',toks:=t' }:=by
 obtain⟨m,⟨o,es,ep,ho,r⟩,_⟩:=id I.loc;obtain⟨sl,hL⟩:=u.any ho I.free λz=>(hch _ z).2.1 rfl
 exact I.step (ch:=ch) hch (λb o hL hb hc e n=>u.keep b o e n (λz=>(LB.mp (I.lC b z)).elim hL hb) hc) (λb o _ _ hc e n=>u.any e n hc) (λb o hc e n=>u.free b o e n hc) (λb o hc e=>u.there b o e hc) u.tups u.frzs u.tbls (λm' hm=>by
  obtain⟨o',es',ep',ho',r'⟩:=hm;rw [ho] at ho';cases ho'
  exact⟨_,es',ep',hL,r'⟩) hok hg
theorem Inv.turned {t':Nat} {it:Addr} (I:Inv X pins σ H s) (k:∀b o,b≠it->s.heap.get? b=some o->h'.get? b=some o) (hn:H it=none) (hL:it≠X.env.locals)
  (h1:it∈X.ex\/X.s₀.heap.objs.size<=it) (h2:∀x c,X.env.cells.lookup x=some c->c≠it) (h3:∀p∈X.pn ++ pins,p.1≠it):Inv X pins σ H { s with heap:=h',toks:=t' }:=by
 have nit:∀b u,H b=some u->b≠it:=λb u e z=>by rw [z,hn] at e;cases e
 refine I.step (g':=s.gens) (d':=s.drawn) (ch:=[it]) (λb hb=>?_) (λb o _ _ hc e _=>k b o (λz=>hc (by simp [z])) e) (λb o _ _ hc e _=>⟨o.slots,k b o (λz=>hc (by simp [z])) e⟩) (λ_ _ _ _ n=>n)
  (λb o hc e=>⟨o,k b o (λz=>hc (by simp [z])) e⟩) (λ_ _ e=>e) (λ_ _ _ e=>e) (λ_ _ e=>e) (λm hm=>?_) (λb u e=>?_) I.bare
 ·have e:b=it:=by simpa using hb
  subst e;exact⟨h1,hL,h2,h3⟩
 ·obtain⟨o,es,ep,ho,r⟩:=hm;exact⟨o,es,ep,k _ o (Ne.symm hL) ho,r⟩
 ·refine (I.hok b u e).p0 (λc v hc q=>k c v ?_ q) (λ_ q=>q) (λ_ _ q=>q) λ_ _ _ q=>q;rcases hc with z|z
  ·rw [z];exact nit b u e
  ·exact nit c _ z
theorem Inv.tok (I:Inv X pins σ H s) (t:Nat):Inv X pins σ H { s with toks:=t }:=I.un (h':=s.heap) (t':=t) Un.refl I.hok
theorem Inv.kept {t':Nat} (I:Inv X pins σ H s) (k:∀b u,s.heap.get? b=some u->h'.get? b=some u):Inv X pins σ H { s with heap:=h',toks:=t' }:=I.un (Un.kept k) (I.hok.kept k)
theorem Inv.laid {a:Addr} {o:HO} {t':Nat} (I:Inv X pins σ H s) (k:∀b u,s.heap.get? b=some u->h'.get? b=some u) (hp:s.heap.objs.size<=a) (new:bH X.prog X.w (upd H a o) h' a o) :
  Inv X pins σ (upd H a o) { s with heap:=h',toks:=t' }:=I.un (Un.laid k hp (I.hok.fresh hp)) (I.hok.laid k hp new)
theorem Inv.write {x e:Addr} {o:HO} {t':Nat} (I:Inv X pins σ H s) (mu:Il (H x)) (he:e=x\/H e=some (.own x)) (k:∀b u,b≠e->s.heap.get? b=some u->h'.get? b=some u) (heo:∃u,h'.get? e=some u)
  (new:bH X.prog X.w (upd H x o) h' x o):Inv X pins σ (upd H x o) { s with heap:=h',toks:=t' }:=I.un (Un.write mu he k heo) (I.hok.write mu he k heo new)
theorem Inv.ym {pins':List (Addr×Obj)} (I:Inv X pins σ H s) (h:∀p∈pins',s.heap.get? p.1=some p.2/\H p.1=none/\p.1≠X.env.locals/\p.1∉X.fs/\∀v,p.2.data≠.cell v):Inv X pins' σ H s :=
 ⟨I.ok,I.os,I.bare,I.base,I.loc,I.cell,I.free,I.freeC,λp hp=>(LQ.mp hp).elim (λz=>I.pin p (Mq _ z)) (h p),I.hok,I.len⟩
theorem vY {N:List Str} (hN:N.Nodup) {i j:Nat} {x:Str} (a:N[i]?=some x) (b:N[j]?=some x):i=j:=by
 obtain⟨h1,e1⟩:=La.mp a;obtain⟨h2,e2⟩:=La.mp b;exact (List.getElem_inj hN).mp (e1.trans e2.symm)
theorem sJ {M:Model} {A:Around} {E:Value->Shared->Prop} {i:Nat} {x:Str} {v:V} {u:Value} {Q:Unit->Shared->Prop} (I:Inv X pins σ H s) (hN:X.N.Nodup) (hi:X.N[i]?=some x) (hx:Loc X.env.scope x) (r:RelV v u)
  (h:∀s',Inv X pins (σ.set i (some v)) H s'->(∃a,Heap.SameBut a s.heap s'.heap/\(a=X.env.locals\/X.env.cells.lookup x=some a))->Q () s') (hf:X.fn x=true\/X.env.scope.names.lookup x=some .local:=by first|exact .inl rfl|exact .inr rfl|assumption):wpAny M A (storeName X.env x u) Q E s:=by
 obtain⟨m,hn,hl⟩:=id I.loc;have hcls:(X.env.scope.kind == .class || (X.env.scope.kind == .module && X.env.locals != X.env.globals))=false:=by rw [I.ok.kind];rfl
 have hiσ:i < σ.length:=by rw [I.len];exact (La.mp hi).1
 have EG:=I.EG
 have tracked:∀{a:Addr} {h':Heap},(∃o,s.heap.get? a=some o/\H a=none)->Heap.SameBut a s.heap h'->kY X.prog X.w H h':=λ{a h'} ha hs b ob e=>by
  obtain⟨_,_,hfree⟩:=ha;refine (I.hok b ob e).p0 (λc w' hc q=>(hs.2 c ?_).trans q) (λ_ q=>q) (λ_ _ q=>q) λ_ _ _ q=>q
  rintro rfl;rcases hc with rfl|hc
  ·rw [hfree] at e;cases e
  ·rw [hfree] at hc;cases hc
 rcases hx with hk|hk
 ·refine wpAny_storeName_local hk hn (λh' hn' hs=>?_) hcls;obtain⟨oL,_,_,hoL,_⟩:=id hn;refine h _ ⟨I.ok,I.os,I.bare,⟨λb o e n hb hx=>?_,λb o e n hb hx=>?_,I.base.free,λb o e hx=>?_,I.base.tups,I.base.frzs,I.base.tbls⟩,⟨_,hn',λj y v' e1 e2 e3=>?_⟩,λy c e=>?_,I.free,I.freeC,λp hp=>?_,tracked ⟨oL,hoL,I.free⟩ hs,by simpa using I.len⟩ ⟨_,hs,.inl rfl⟩
  ·exact (hs.2 b (LJ (Lr (Lw e) I.ok.above))).trans (I.base.keep b o e n hb hx)
  ·obtain⟨sl,e1⟩:=I.base.slot b o e n hb hx;exact⟨sl,(hs.2 b (LJ (Lr (Lw e) I.ok.above))).trans e1⟩
  ·obtain⟨o',e1⟩:=I.base.there b o e hx;exact⟨o',(hs.2 b (LJ (Lr (Lw e) I.ok.above))).trans e1⟩
  ·by_cases hj:j=i
   ·subst hj;rw [hi] at e1;cases e1;rw [Lm hiσ] at e2;cases e2;exact⟨u,r,.inl ⟨hk,by simp⟩⟩
   ·rw [Lb (Ne.symm hj)] at e2;obtain⟨u',r',q⟩:=hl j y v' e1 e2 e3;refine⟨u',r',?_⟩;rcases q with ⟨k,e⟩|⟨k,c,e,z⟩
    ·refine .inl ⟨k,?_⟩;have:y≠x:=λe=>hj (vY hN e1 (e▸hi));simp [this,e]
    ·exact .inr ⟨k,c,e,z.sameBut hs (EG y c e)⟩
  ·obtain⟨w',z⟩:=I.cell y c e;exact⟨w',z.sameBut hs (EG y c e)⟩
  ·obtain⟨e,n,ne,nf,d⟩:=I.pin p hp;exact⟨(hs.2 p.1 ne).trans e,n,ne,nf,d⟩
 ·have hfn:X.fn x=true:=by
   rcases hf with z|z
   ·exact z
   ·rw [z] at hk;cases hk
  obtain⟨c,hc⟩:=I.ok.has x (.inl hk);obtain⟨w',z⟩:=I.cell x c hc;refine wpAny_storeName_cell I.ok.kind hk hc z (λh' hc' hs=>?_);obtain⟨oc,hoc,hocd⟩:=id z;refine h { s with heap:=h' } ⟨I.ok,I.os,I.bare,⟨λb o e n hb hx=>?_,λb o e n hb hx=>?_,I.base.free,λb o e hx=>?_,I.base.tups,I.base.frzs,I.base.tbls⟩,⟨m,hn.sameBut hs (Ne.symm (EG x c hc)),λj y v' e1 e2 e3=>?_⟩,λy c' e=>?_,I.free,I.freeC,λp hp=>?_,tracked ⟨oc,hoc,I.freeC x c hc⟩ hs,by simpa using I.len⟩ ⟨c,hs,.inr hc⟩
  ·exact (hs.2 b (LJ (Lr (Lw e) (I.ok.cab x c hfn hc)))).trans (I.base.keep b o e n hb hx)
  ·obtain⟨sl,e1⟩:=I.base.slot b o e n hb hx;exact⟨sl,(hs.2 b (LJ (Lr (Lw e) (I.ok.cab x c hfn hc)))).trans e1⟩
  ·obtain⟨o',e1⟩:=I.base.there b o e hx;exact⟨o',(hs.2 b (LJ (Lr (Lw e) (I.ok.cab x c hfn hc)))).trans e1⟩
  ·by_cases hj:j=i
   ·subst hj;rw [hi] at e1;cases e1;rw [Lm hiσ] at e2;cases e2;exact⟨u,r,.inr ⟨.inl hk,c,hc,hc'⟩⟩
   ·rw [Lb (Ne.symm hj)] at e2;obtain⟨u',r',q⟩:=hl j y v' e1 e2 e3;refine⟨u',r',?_⟩;rcases q with q|⟨k,c',e,z'⟩
    ·exact .inl q
    ·refine .inr ⟨k,c',e,z'.sameBut hs ?_⟩
     rintro rfl;exact hj (vY hN e1 (I.ok.inj _ _ _ e hc▸hi))
  ·by_cases hcc:c'=c
   ·subst hcc;exact⟨_,hc'⟩
   ·obtain⟨w2,z2⟩:=I.cell y c' e;exact⟨w2,z2.sameBut hs hcc⟩
  ·obtain⟨e,n,ne,nf,d⟩:=I.pin p hp;refine⟨(hs.2 p.1 ?_).trans e,n,ne,nf,d⟩;intro q;rw [q,hoc] at e;have q':oc=p.2:=Li e;exact d w' (by rw [<- q'];exact hocd)
theorem mB {M:Model} {A:Around} {E:Value->Shared->Prop} {i:Nat} {x:Str} {v:V} {u:Value} {Q:Unit->Shared->Prop} (I:Inv X pins σ H s) (hN:X.N.Nodup) (hi:X.N[i]?=some x) (hx:Loc X.env.scope x) (r:RelV v u)
  (h:∀s',Inv X pins (σ.set i (some v)) H s'->Q () s') (hf:X.fn x=true\/X.env.scope.names.lookup x=some .local:=by first|exact .inl rfl|exact .inr rfl|assumption):wpAny M A (storeName X.env x u) Q E s :=
 sJ I hN hi hx r (λs' I' _=>h s' I') hf
theorem Inv.B4 {s':Shared} {ch:List Addr} (I:Inv X pins σ H s) (ho:s'.os=s.os) (u:Un (lN X.stack) ch H H' s.heap s'.heap) (hok:kY X.prog X.w H' s'.heap) (hg:AllBare s'.gens)
  (hch:∀b∈ch,(b∈X.ex\/X.s₀.heap.objs.size<=b)/\b≠X.env.locals/\(∀x c,X.env.cells.lookup x=some c->c≠b)/\∀p∈X.pn ++ pins,p.1≠b):Inv X pins σ H' s':=by
 obtain⟨h',g',d',t',o'⟩:=s';have e:o'=s.os:=ho;subst e;exact I.call (g':=g') (t':=t') (d':=d') u hok hg hch
end
abbrev XK:=Value->Option Addr->Hp->Prop
abbrev St:=List (Option V)
abbrev VK:=V->Hp->Prop
abbrev TE:=St->Hp->VK->Prop
abbrev TT:=St->Hp->(Bool->Hp->Prop)->Prop
abbrev TA:=St->Hp->(List V->Hp->Prop)->Prop
structure Ends where
 nx:St->Hp->Prop
 rt:VK
 bk:St->Hp->Prop:=λ_ _=>False
 ct:St->Hp->Prop:=λ_ _=>False
abbrev TS:=Ends->St->Hp->Prop
def EP (X:Cx) (pins:List (Addr×Obj)) (σ:St) (Q:VK) (u:Value) (s':Shared):Prop:=∃v H',Inv X pins σ H' s'/\RelV v u/\Q v H'
def TP (X:Cx) (pins:List (Addr×Obj)) (σ:St) (Q:Bool->Hp->Prop) (b:Bool) (s':Shared):Prop:=∃H',Inv X pins σ H' s'/\Q b H'
def AP (X:Cx) (pins:List (Addr×Obj)) (σ:St) (Q:List V->Hp->Prop) (us:List Value) (s':Shared):Prop:=∃vs H',Inv X pins σ H' s'/\Vals vs us/\Q vs H'
def SP (X:Cx) (pins:List (Addr×Obj)) (D:Ends) (f:Flow) (s':Shared):Prop :=
 match f with
 | .next=>∃σ' H',Inv X pins σ' H' s'/\D.nx σ' H'
 | .brk=>∃σ' H',Inv X pins σ' H' s'/\D.bk σ' H'
 | .cont=>∃σ' H',Inv X pins σ' H' s'/\D.ct σ' H'
 | .ret u=>∃v σ' H',Inv X pins σ' H' s'/\RelV v u/\D.rt v H'
def PE (X:Cx) (e:Expr) (t:TE):Prop :=
 ∀(pins:List (Addr×Obj)) (s:Shared) (σ:St) (H:Hp) (Q:VK),Inv X pins σ H s->t σ H Q->wpAny (model X.prog X.w) X.A (eval e X.env) (EP X pins σ Q) X.xe s
def PT (X:Cx) (e:Expr) (t:TT):Prop :=
 ∀(pins:List (Addr×Obj)) (s:Shared) (σ:St) (H:Hp) (Q:Bool->Hp->Prop),Inv X pins σ H s->t σ H Q->wpAny (model X.prog X.w) X.A (isTrue e X.env (eval e X.env)) (TP X pins σ Q) X.xe s
def PW (X:Cx) (e:Expr) (t:TT):Prop :=
 ∀(whole:Sem Value) (pins:List (Addr×Obj)) (s:Shared) (σ:St) (H:Hp) (Q:Bool->Hp->Prop),Inv X pins σ H s->t σ H Q->wpAny (model X.prog X.w) X.A (isTrue e X.env whole) (TP X pins σ Q) X.xe s
def PA (X:Cx) (es:List Expr) (t:TA):Prop :=
 ∀(pos:Pos) (pins:List (Addr×Obj)) (s:Shared) (σ:St) (H:Hp) (Q:List V->Hp->Prop),Inv X pins σ H s->t σ H Q->wpAny (model X.prog X.w) X.A (spliced (backTo pos (starEach es X.env))) (AP X pins σ Q) X.xe s
def PS (X:Cx) (st:Stmt) (t:TS):Prop :=
 ∀(pins:List (Addr×Obj)) (s:Shared) (σ:St) (H:Hp) (D:Ends),Inv X pins σ H s->t D σ H->wpAny (model X.prog X.w) X.A (exec st X.env) (SP X pins D) X.xe s
def yb (X:Cx) (st:List Stmt) (t:TS):Prop :=
 ∀(pins:List (Addr×Obj)) (s:Shared) (σ:St) (H:Hp) (D:Ends),Inv X pins σ H s->t D σ H->wpAny (model X.prog X.w) X.A (execs st X.env) (SP X pins D) X.xe s
theorem bP {α:Type} {t:Sem α} {Q Q':α->Shared->Prop} {M:Model} {A:Around} {E:Value->Shared->Prop} {s:Shared} (h:wpAny M A t Q E s) (hQ:∀a s,Q a s->Q' a s):wpAny M A t Q' E s:=LG h hQ λ_ _ x=>x
section
variable {X:Cx}
def Kh (i:Nat):TE:=λσ H Q=>∃v,σ[i]?=some (some v)/\Q v H
def tC (v:V):TE:=λ_ H Q=>Q v H
theorem dU {i:Nat} {x:Str} {pos:Pos} (hN:X.N[i]?=some x) (hv:ua X.env.scope x) (hd:(x == ("__debug__" : Str))=false:=by decide) (hcd:(x == ("__classdict__" : Str))=false:=by decide):PE X (.Name x pos) (Kh i):=by
 intro pins s σ H Q I h;obtain⟨v,e,h⟩:=h;obtain⟨m,hn,hl⟩:=I.loc;obtain⟨u,r,l⟩:=hl i x v hN e hv;have fin:EP X pins σ Q u s:=⟨v,H,I,r,h⟩;rcases l with ⟨hk,hm⟩|⟨hk,c,hc,hcell⟩
 ·exact wpAny_Name (wpAny_loadName_local I.ok.kind hk hn hm fin) hd
 ·rcases hk with hk|hk
  ·exact wpAny_Name (wpAny_loadName_cell I.ok.kind hk hc hcell fin) hd
  ·exact wpAny_Name (wpAny_loadName_free I.ok.kind hk hc hcell fin hcd) hd
theorem xg {i j pos}:PE X (.Constant (.int i) j pos) (tC (.int i)):=λ_ _ _ H _ I h=>wpAny_Constant_int ⟨.int i,H,I.tok _,⟨_,rfl⟩,h⟩
theorem Im {b j pos}:PE X (.Constant (.bool b) j pos) (tC (.bl b)):=λ_ _ _ H _ I h=>Constant_bool ⟨.bl b,H,I,rfl,h⟩
theorem Bm {j pos}:PE X (.Constant .none j pos) (tC .non):=λ_ _ _ H _ I h=>Constant_none ⟨.non,H,I,rfl,h⟩
theorem E8 {x j pos}:PE X (.Constant (.str x) j pos) (tC (.str x)):=λ_ _ _ H _ I h=>Calls.Constant_str ⟨.str x,H,I.tok _,⟨_,rfl⟩,h⟩
def Gl (X:Cx) (x:Str):Prop:=X.env.kindOf x=some .globalImplicit
theorem j4 {E:Value->Shared->Prop} {pins:List (Addr×Obj)} {s:Shared} {σ:St} {H:Hp} {x:Str} {u:Value} {pos:Pos} {Q:Value->Shared->Prop} (I:Inv X pins σ H s) (hg:Gl X x) (hm:X.mg x=some u) (h:Q u s)
  (hd:(x == ("__debug__" : Str))=false:=by decide):wpAny (model X.prog X.w) X.A (eval (.Name x pos) X.env) Q E s :=
 Calls.Name_function_global I.ok.kind hg (Calls.loadGlobal_global (by rw [I.ok.glob];exact I.mod.glob.keeps I.bk) hm h) hd
theorem lD {E:Value->Shared->Prop} {pins:List (Addr×Obj)} {s:Shared} {σ:St} {H:Hp} {x:Str} {u:Value} {pos:Pos} {Q:Value->Shared->Prop} (I:Inv X pins σ H s) (hg:Gl X x) (hm:X.mg x=none) (hv:bootBuiltins x=some u) (h:Q u s)
  (hn:x≠"__name__":=by decide) (hd:(x == ("__debug__" : Str))=false:=by decide):wpAny (model X.prog X.w) X.A (eval (.Name x pos) X.env) Q E s:=by
 obtain⟨mb,h1,h2⟩:=I.mod.blt;exact Calls.Name_function_global I.ok.kind hg (Calls.loadGlobal_builtin (by rw [I.ok.glob];exact I.mod.glob.keeps I.bk) hm (by rw [I.ok.blt];exact h1.keeps I.bk) ((h2 x hn).trans hv) h) hd
variable {a b:Expr} {ta tb:TE} {pos:Pos}
def tB (t:TE):TT:=λσ H Q=>t σ H λx H1=>∃c,x=.bl c/\Q c H1
theorem Ge {e:Expr} {t:TE} (h:PE X e t) (he:∀whole,isTrue e X.env whole=(do let v <- whole;standAt e.pos;holding [v] (truthy v)):=by intro _;rfl):PT X e (tB t):=by
 intro pins s σ H Q I hw;refine isTrue_plain (bP (h pins s σ H _ I hw) λv s1 ⟨x,H1,I1,r1,q1⟩=>?_) (he _);obtain⟨d,rfl,q⟩:=q1;cases r1;exact wpAny_truthy_bool ⟨H1,I1,q⟩
variable {tA tB':TT} {rest:List Expr}
def Ke (t u:TT):TT:=λσ H Q=>t σ H λc H1=>if c=true then u σ H1 Q else Q false H1
def K3 (t u:TT):TT:=λσ H Q=>t σ H λc H1=>if c=true then Q true H1 else u σ H1 Q
def Kk (t:TT):TT:=λσ H Q=>t σ H λc H1=>Q (!c) H1
theorem Eg (ha:PT X a tA):PW X (.BoolOp .And [a] pos) tA:=by
 intro wh pins s σ H Q I h;refine isTrue_and (bP (ha pins s σ H Q I h) λc s1 e=>?_)
 cases c with
 | true=>exact isTrue_and_nil e
 | false=>exact e
theorem E6 (ha:PT X a tA):PW X (.BoolOp .Or [a] pos) tA:=by
 intro wh pins s σ H Q I h;refine isTrue_or (bP (ha pins s σ H Q I h) λc s1 e=>?_)
 cases c with
 | false=>exact isTrue_or_nil e
 | true=>exact e
theorem Fo (ha:PT X a tA) (hb:PW X (.BoolOp .And (b :: rest) pos) tB'):PW X (.BoolOp .And (a :: b :: rest) pos) (Ke tA tB'):=by
 intro wh pins s σ H Q I h;refine isTrue_and (bP (ha pins s σ H _ I h) λc s1 ⟨H1,I1,q1⟩=>?_)
 cases c with
 | true=>exact hb wh pins s1 σ H1 Q I1 q1
 | false=>exact⟨H1,I1,q1⟩
theorem Jk (ha:PT X a tA) (hb:PW X (.BoolOp .Or (b :: rest) pos) tB'):PW X (.BoolOp .Or (a :: b :: rest) pos) (K3 tA tB'):=by
 intro wh pins s σ H Q I h;refine isTrue_or (bP (ha pins s σ H _ I h) λc s1 ⟨H1,I1,q1⟩=>?_)
 cases c with
 | true=>exact⟨H1,I1,q1⟩
 | false=>exact hb wh pins s1 σ H1 Q I1 q1
theorem G9 (ha:PT X a tA):PT X (.UnaryOp .Not a pos) (Kk tA):=by
 intro pins s σ H Q I h;exact isTrue_not (ha pins s σ H (λc H1=>Q (!c) H1) I h)
end
def fZ (K:Le) (H:Hp) (a:Addr) (xs:List V):Prop :=
 Rd H a (.lst xs) \/
  ∃(o:Obj) (its:Array Value) (n:Nat),K.lookup a=some o/\o.cls=.type "list"/\o.dict=none/\o.data=.seq its n/\its.size<=sizeLine/\Vals xs its.toList
def gr (K:Le) (H:Hp) (a:Addr) (xs:List V):Prop :=
 Rd H a (.tup xs) \/
  ∃(o:Obj) (its:Array Value) (n:Nat),K.lookup a=some o/\o.cls=.type "tuple"/\o.data=.seq its n/\its.size<=sizeLine/\Vals xs its.toList/\o.dict=none
def Ko:Value->Option V
 | .none=>some .non
 | .bool b=>some (.bl b)
 | .int i _=>some (.int i)
 | .str x _=>some (.str x)
 | .bytes b _=>some (.byt b)
 | .float b _=>some (.flt b)
 | .ref a=>some (.ref a)
 | .type n=>some (.ty n)
 | _=>none
theorem RelV.abs {x:V} {u:Value} (r:RelV x u):Ko u=some x:=by
 cases x with
 | non=>cases r;rfl
 | bl _=>cases r;rfl
 | int _=>obtain⟨t,rfl⟩:=r;rfl
 | str _=>obtain⟨t,rfl⟩:=r;rfl
 | byt _=>obtain⟨t,rfl⟩:=r;rfl
 | flt _=>obtain⟨t,rfl⟩:=r;rfl
 | ref _=>cases r;rfl
 | ty _=>cases r;rfl
theorem RelV.inj {x y:V} {u:Value} (r:RelV x u) (q:RelV y u):x=y:=Li (r.abs.symm.trans q.abs)
theorem Vals.inj:∀{xs ys:List V} {us:List Value},Vals xs us->Vals ys us->xs=ys
 | _,_,_,.nil,.nil=>rfl
 | _,_,_,.cons r t,.cons r' t'=>by rw [r.inj r',Vals.inj t t']
section
variable {X:Cx} {pins:List (Addr×Obj)} {σ:St} {H:Hp} {s:Shared} {a:Addr} {xs ys:List V}
theorem fZ.of {K:Le} (h:H a=some (.lst xs)):fZ K H a xs:=.inl (.inl h)
theorem gr.of {K:Le} (h:H a=some (.tup xs)):gr K H a xs:=.inl (.inl h)
theorem Inv.list (I:Inv X pins σ H s) (h:fZ X.K H a xs):∃its:List Value,Vals xs its/\PlainL s.heap a its.toArray/\xs.length<=sizeLine:=by
 rcases h with h|⟨o,its,n,hk,hc,hd,hs,hz,r⟩
 ·obtain⟨z,its,n,r,e⟩:=h.ok I.hok;exact⟨its,r,⟨_,n,e,rfl,rfl,rfl⟩,z⟩
 ·refine⟨its.toList,r,⟨o,n,I.BI a o hk,hc,hd,by simpa using hs⟩,?_⟩;have e:=r.length;simp only [Array.length_toList] at e;omega
theorem Inv.tuple (I:Inv X pins σ H s) (h:gr X.K H a xs):∃its:List Value,Vals xs its/\IsTup s.heap a its.toArray/\xs.length<=sizeLine:=by
 rcases h with h|⟨o,its,n,hk,hc,hs,hz,r,_⟩
 ·obtain⟨z,its,r,p⟩:=h.ok I.hok;exact⟨its,r,p.tup,z⟩
 ·refine⟨its.toList,r,⟨o,I.BI a o hk,hc,n,by simpa using hs⟩,?_⟩;have e:=r.length;simp only [Array.length_toList] at e;omega
theorem Inv.qg (I:Inv X pins σ H s) (h:fZ X.K H a xs) (h':fZ X.K H a ys):xs=ys:=by
 obtain⟨its,r,⟨o,n,e,_,_,d⟩,_⟩:=I.list h;obtain⟨its',r',⟨o',n',e',_,_,d'⟩,_⟩:=I.list h';rw [e] at e';cases e';rw [d] at d';injection d' with d1 _
 have:its=its':=by simpa using congrArg Array.toList d1
 subst this;exact r.inj r'
theorem Inv.iu (I:Inv X pins σ H s) (h:gr X.K H a xs) (h':gr X.K H a ys):xs=ys:=by
 obtain⟨its,r,⟨o,e,_,n,d⟩,_⟩:=I.tuple h;obtain⟨its',r',⟨o',e',_,n',d'⟩,_⟩:=I.tuple h';rw [e] at e';cases e';rw [d] at d';injection d' with d1 _
 have:its=its':=by simpa using congrArg Array.toList d1
 subst this;exact r.inj r'
end
abbrev Cx.cM (X:Cx) (E:Value->Shared->Prop):Cx:={ X with xe:=E }
abbrev Cx.sL (X:Cx):Cx:=X.cM λ_ _=>False
theorem Cx.Ok.cM {X:Cx} (ok:X.Ok) (E:Value->Shared->Prop):(X.cM E).Ok :=
 ⟨ok.mod,ok.kind,ok.glob,ok.blt,ok.above,ok.inj,ok.has,ok.cab,ok.hd,ok.frames,ok.stk,ok.exf,ok.bs,ok.bsz,ok.noex,ok.exfs,ok.lU,ok.frf⟩
theorem Cx.Ok.bG {X:Cx} {E:Value->Shared->Prop} (ok:(X.cM E).Ok):X.Ok :=
 ⟨ok.mod,ok.kind,ok.glob,ok.blt,ok.above,ok.inj,ok.has,ok.cab,ok.hd,ok.frames,ok.stk,ok.exf,ok.bs,ok.bsz,ok.noex,ok.exfs,ok.lU,ok.frf⟩
section
variable {X:Cx} {pins:List (Addr×Obj)} {σ:St} {H:Hp} {s:Shared} {E:Value->Shared->Prop}
theorem Inv.cM (I:Inv X pins σ H s) (E:Value->Shared->Prop):Inv (X.cM E) pins σ H s:=⟨I.ok.cM E,I.os,I.bare,I.base,I.loc,I.cell,I.free,I.freeC,I.pin,I.hok,I.len⟩
theorem Inv.bG (I:Inv (X.cM E) pins σ H s):Inv X pins σ H s:=⟨I.ok.bG,I.os,I.bare,I.base,I.loc,I.cell,I.free,I.freeC,I.pin,I.hok,I.len⟩
theorem SP.bG {D:Ends} {f:Flow} {s':Shared} (h:SP (X.cM E) pins D f s'):SP X pins D f s':=by
 cases f with
 | next=>obtain⟨σ',H',I,q⟩:=h;exact⟨σ',H',I.bG,q⟩
 | brk=>obtain⟨σ',H',I,q⟩:=h;exact⟨σ',H',I.bG,q⟩
 | cont=>obtain⟨σ',H',I,q⟩:=h;exact⟨σ',H',I.bG,q⟩
 | ret u=>obtain⟨v,σ',H',I,r,q⟩:=h;exact⟨v,σ',H',I.bG,r,q⟩
theorem yb.sL {st:List Stmt} {t:TS} (h:yb X.sL st t):yb X st t:=λpins s σ H D I hw =>
 LG (h pins s σ H D (I.cM _) hw) (λ_ _ q=>q.bG) λ_ _ z=>False.elim z
end
section
variable {X:Cx} {st:Stmt} {rest:List Stmt} {t u:TS} {e:Expr} {te:TE} {pos:Pos}
def IB:TS:=λD σ H=>D.nx σ H
def JR (t u:TS):TS:=λD σ H=>t { D with nx:=u D } σ H
theorem C7:yb X [] IB:=λ_ _ σ H _ I h=>wpAny_execs_nil ⟨σ,H,I,h⟩
theorem uX (h1:PS X st t) (h2:yb X rest u):yb X (st :: rest) (JR t u):=by
 intro pins s σ H D I h;refine wpAny_execs_cons (bP (h1 pins s σ H { D with nx:=u D } I h) λf s1 q=>?_)
 cases f with
 | next =>
  obtain⟨σ',H',I',q⟩:=q
  exact h2 pins s1 σ' H' D I' q
 | ret v=>exact q
 | brk=>exact q
 | cont=>exact q
theorem tN (h1:PS X st t):yb X [st] t:=by
 intro pins s σ H D I h;refine wpAny_execs_cons (bP (h1 pins s σ H D I h) λf s1 q=>?_)
 cases f with
 | next=>exact wpAny_execs_nil q
 | ret v=>exact q
 | brk=>exact q
 | cont=>exact q
def Fi:TS:=λD σ H=>D.bk σ H
theorem BB:PS X (.Break pos) Fi:=λ_ _ σ H _ I h=>wpAny_Break ⟨σ,H,I,h⟩
theorem Inv.quiet {pins:List (Addr×Obj)} {σ:St} {H:Hp} {s:Shared} (I:Inv X pins σ H s):interactive X.env=false:=by simp [interactive,I.ok.kind]
def Iy (te:TE):TS:=λD σ H=>te σ H λ_ H1=>D.nx σ H1
theorem uo (he:PE X e te) (hs:swapsWith e none pos.line X.env=pure false:=by rfl):PS X (.Expr e pos) (Iy te):=by
 intro pins s σ H D I h;exact wpAny_Expr_any (bP (he pins s σ H _ I h) λv s1 ⟨x,H1,I1,r1,q1⟩=>⟨σ,H1,I1,q1⟩) I.quiet hs
def Kt (te:TE):TS:=λD σ H=>te σ H D.rt
theorem Cy (he:PE X e te):PS X (.Return (some e) pos) (Kt te):=by
 intro pins s σ H D I h;exact wpAny_Return_some (bP (he pins s σ H _ I h) λv s1 ⟨x,H1,I1,r1,q1⟩=>⟨x,σ,H1,I1,r1,q1⟩)
def Kw (c:TT) (t u:TS):TS:=λD σ H=>c σ H λb H1=>if b=true then t D σ H1 else u D σ H1
theorem Ba {c:Expr} {a b:List Stmt} {tc:TT} (hc:PT X c tc) (ha:yb X a t) (hb:yb X b u):PS X (.If c a b pos) (Kw tc t u):=by
 intro pins s σ H D I h;refine wpAny_If (bP (hc pins s σ H _ I h) λd s1 ⟨H1,I1,q1⟩=>?_)
 cases d with
 | true=>exact ha pins s1 σ H1 D I1 q1
 | false=>exact hb pins s1 σ H1 D I1 q1
end
abbrev TG:=V->St->Hp->(St->Hp->Prop)->Prop
abbrev DW:=List V->St->Hp->(St->Hp->Prop)->Prop
def PG (X:Cx) (target:Expr) (t:TG):Prop :=
 ∀(pins:List (Addr×Obj)) (s:Shared) (σ:St) (H:Hp) (v:V) (u:Value) (Q:St->Hp->Prop),Inv X pins σ H s->RelV v u->t v σ H Q ->
  wpAny (model X.prog X.w) X.A (assign target X.env u) (λ_ s'=>∃σ' H',Inv X pins σ' H' s'/\Q σ' H') X.xe s
def Ho (X:Cx) (ts:List Expr) (t:DW):Prop :=
 ∀(pins:List (Addr×Obj)) (s:Shared) (σ:St) (H:Hp) (vs:List V) (us:List Value) (Q:St->Hp->Prop),Inv X pins σ H s->Vals vs us->t vs σ H Q ->
  wpAny (model X.prog X.w) X.A (assignInOrder ((assignEach ts X.env).map (·.2)) us) (λ_ s'=>∃σ' H',Inv X pins σ' H' s'/\Q σ' H') X.xe s
abbrev FT:=V->V->V->Hp->(Hp->Prop)->Prop
def GY (X:Cx) (t:FT):Prop :=
 ∀(pins:List (Addr×Obj)) (s:Shared) (σ:St) (H:Hp) (o i v:V) (ov iv u:Value) (Q:Hp->Prop),Inv X pins σ H s->RelV o ov->RelV i iv->RelV v u->t o i v H Q ->
  wpAny (model X.prog X.w) X.A (setItem ov iv u) (λ_ s'=>∃H',Inv X pins σ H' s'/\Q H') X.xe s
abbrev Ka:=V->V->Hp->VK->Prop
def KH (X:Cx) (op:Operator) (t:Ka):Prop :=
 ∀(pins:List (Addr×Obj)) (s:Shared) (σ:St) (H:Hp) (x y:V) (v u:Value) (Q:VK),Inv X pins σ H s->RelV x v->RelV y u->t x y H Q ->
  wpAny (model X.prog X.w) X.A (inplaceOp op v u) (EP X pins σ Q) X.xe s
section
variable {X:Cx} {pos:Pos}
def EY (i:Nat):TG:=λv σ H Q=>Q (σ.set i (some v)) H
theorem Eu {i:Nat} {x:Str} (hN:X.N.Nodup) (hi:X.N[i]?=some x) (hx:Loc X.env.scope x) (hf:X.fn x=true\/X.env.scope.names.lookup x=some .local:=by first|exact .inl rfl|exact .inr rfl|assumption):PG X (.Name x pos) (EY i):=by
 intro pins s σ H v u Q I r h;exact wpAny_assign_Name (mB I hN hi hx r (λs' I'=>⟨_,H,I',h⟩) hf)
def JT:DW:=λvs σ H Q=>vs=[]/\Q σ H
def Jh (t:TG) (u:DW):DW:=λvs σ H Q=>∃v r,vs=v :: r/\t v σ H λσ' H'=>u r σ' H' Q
theorem DT:Ho X [] JT:=by
 intro pins s σ H vs us Q I r h;obtain⟨e,h⟩:=h;subst e;cases r;exact assignInOrder_nil ⟨σ,H,I,h⟩
theorem Cn {e:Expr} {es:List Expr} {t:TG} {u:DW} (h1:PG X e t) (h2:Ho X es u)
  (hs:(assignEach (e :: es) X.env).map (·.2)=assign e X.env :: (assignEach es X.env).map (·.2):=by rfl):Ho X (e :: es) (Jh t u):=by
 intro pins s σ H vs us Q I r h;obtain⟨v,vr,e1,h⟩:=h;subst e1
 cases r with
 | cons r rr =>
  rw [hs];refine assignInOrder_cons (bP (h1 pins s σ H _ _ _ I r h) λ_ s1 ⟨σ1,H1,I1,q1⟩=>?_);exact h2 pins s1 σ1 H1 _ _ Q I1 rr q1
def JZ (K:Le) (n:Nat) (t:DW):TG:=λv σ H Q=>∃a xs,v=.ref a/\gr K H a xs/\xs.length=n/\t xs σ H Q
theorem FC {es:List Expr} {k:Nat} {t:DW} {n:Nat} (hc:X.calm=true) (h:Ho X es t)
  (hn:(assignEach es X.env).length=n:=by rfl) (hst:(assignEach es X.env).findIdx? (·.1)=none:=by rfl):PG X (.Tuple es k pos) (JZ X.K n t):=by
 intro pins s σ H v u Q I r hw;obtain⟨a,xs,e1,hq,hl,hw⟩:=hw;subst e1;cases r;obtain⟨its,rv,ht,hz⟩:=I.tuple hq;refine assign_Tuple_tuple (I.ok.hd hc) ht (by simp [hn,<- hl,rv.length]) hst λh' hx=>?_;have I1:Inv X pins σ H { s with heap:=h' }:=I.kept (t':=s.toks) λb o e=>hx b o (LJ (Lw e)) e;exact h pins _ σ H xs _ Q I1 (by simpa using rv) hw
def JM (to ti:TE) (t:FT):TG:=λv σ H Q=>to σ H λo H1=>ti σ H1 λi H2=>t o i v H2 λH3=>Q σ H3
theorem BJ {o i:Expr} {to ti:TE} {t:FT} (ho:PE X o to) (hi:PE X i ti) (hs:GY X t)
  (ha:∀v,assign (.Subscript o i pos) X.env v=(do
   let ov <- holding [v] (eval o X.env)
   let iv <- holding [v,ov] (eval i X.env)
   standAt pos
   holding [v,ov,iv] (setItem ov iv v)
   release [v,ov,iv] []):=by intro _;rfl):PG X (.Subscript o i pos) (JM to ti t):=by
 intro pins s σ H v u Q I r h;rw [ha];refine K9 (wpAny_holding (bP (ho pins s σ H _ I h) λov s1 hq0=>?_));obtain⟨x,H1,I1,r1,q1⟩:=hq0;refine K9 (wpAny_holding (bP (hi pins s1 σ H1 _ I1 q1) λiv s2 hq0=>?_));obtain⟨y,H2,I2,r2,q2⟩:=hq0;refine K9 (wpAny_standAt (K9 (wpAny_holding (bP (hs pins s2 σ H2 x y v ov iv u _ I2 r1 r2 r q2) λ_ s3 ⟨H3,I3,q3⟩=>?_))));exact wpAny_release ⟨σ,H3,I3,q3⟩
def FG (te:TE) (g:TG):TS:=λD σ H=>te σ H λx H1=>g x σ H1 D.nx
theorem xa {tg e:Expr} {te:TE} {g:TG} (he:PE X e te) (hg:PG X tg g) (hs:swapsWithSole [tg] e pos.line X.env=pure false:=by rfl) (hw:swappedStores [tg] e X.env=pure none:=by rfl)
  (h1:(assignEach [tg] X.env).map (·.2)=[assign tg X.env]:=by rfl):PS X (.Assign [tg] e pos) (FG te g):=by
 intro pins s σ H D I h;refine wpAny_Assign_stores (bP (he pins s σ H _ I h) λv s1 hq0=>?_) hs hw;obtain⟨x,H1,I1,r1,q1⟩:=hq0;rw [h1];exact bP (hg pins s1 σ H1 x v _ I1 r1 q1) λ_ s2 q=>q
theorem ju {i:Nat} {x:Str} {e:Expr} {te:TE} {pos':Pos} (hN:X.N.Nodup) (hi:X.N[i]?=some x) (hx:Loc X.env.scope x) (he:PE X e te) (hs:swapsWith e (some (.Name x pos')) pos.line X.env=pure false:=by rfl) (hf:X.fn x=true\/X.env.scope.names.lookup x=some .local:=by first|exact .inl rfl|exact .inr rfl|assumption) :
  PS X (.Assign [.Name x pos'] e pos) (FG te (EY i)):=by
 intro pins s σ H D I h;refine wpAny_Assign_Name (bP (he pins s σ H _ I h) λv s1 hq0=>?_) hs;obtain⟨y,H1,I1,r1,q1⟩:=hq0;exact mB I1 hN hi hx r1 (λs2 I2=>⟨_,H1,I2,q1⟩) hf
def Kr (i:Nat) (te:TE) (ti:Ka):TS:=λD σ H=>∃x,σ[i]?=some (some x)/\te σ H λy H1=>ti x y H1 λz H2=>D.nx (σ.set i (some z)) H2
theorem GV {i:Nat} {x:Str} {e:Expr} {te:TE} {op:Operator} {ti:Ka} {pos':Pos} (hN:X.N.Nodup) (hi:X.N[i]?=some x) (hx:Loc X.env.scope x) (he:PE X e te) (ho:KH X op ti) (hf:X.fn x=true\/X.env.scope.names.lookup x=some .local:=by first|exact .inl rfl|exact .inr rfl|assumption) :
  PS X (.AugAssign (.Name x pos') op e pos) (Kr i te ti):=by
 intro pins s σ H D I h;obtain⟨v,e1,h⟩:=h;obtain⟨m,hn,hl⟩:=I.loc;have vis:ua X.env.scope x:=by rcases hx with k|k;exact .inl k;exact .inr (.inl k)
 obtain⟨u,r,l⟩:=hl i x v hi e1 vis;refine wpAny_AugAssign_Name ?_
 have go:wpAny (model X.prog X.w) X.A (eval e X.env) (λw s₂=>wpAny (model X.prog X.w) X.A (inplaceOp op u w) (λr s₃=>wpAny (model X.prog X.w) X.A (storeName X.env x r) (λ_=>SP X pins D .next) X.xe s₃) X.xe s₂) X.xe s:=by
  refine bP (he pins s σ H _ I h) λw s1 hq0=>?_;obtain⟨y,H1,I1,r1,q1⟩:=hq0;refine bP (ho pins s1 σ H1 v y u w _ I1 r r1 q1) λz s2 hq0=>?_;obtain⟨zv,H2,I2,r2,q2⟩:=hq0;exact mB I2 hN hi hx r2 (λs3 I3=>⟨_,H2,I3,q2⟩) hf
 rcases l with ⟨hk,hm⟩|⟨hk,c,hc,hcell⟩
 ·exact wpAny_loadName_local I.ok.kind hk hn hm go
 ·rcases hk with hk|hk
  ·exact wpAny_loadName_cell I.ok.kind hk hc hcell go
  ·rcases hx with k|k
   ·have:X.env.scope.names.lookup x=some .free:=hk;rw [k] at this;cases this
   ·have:X.env.scope.names.lookup x=some .free:=hk;rw [k] at this;cases this
end
section
variable {X:Cx} {pos:Pos}
def Hf (c:TT) (tb:TS):TS:=λD σ H=>∃W:Nat->St->Hp->Prop,(∃m,W m σ H)/\∀m σ H,W m σ H ->
 c σ H λb H1=>if b=true then ∃N:St->Hp->Prop,(∀σ' H',N σ' H'->∃m',m' < m/\W m' σ' H')/\tb { D with nx:=N,ct:=N,bk:=D.nx } σ H1 else D.nx σ H1
theorem vy {c:Expr} {body:List Stmt} {tc:TT} {tb:TS} (hp:PassesOwn (model X.prog X.w) X.A X.env X.xe) (hc:PT X c tc) (hb:yb X body tb):PS X (.While c body [] pos) (Hf tc tb):=by
 intro pins s σ H D I h;obtain⟨W,⟨m0,w0⟩,turn⟩:=h;refine wpAny_While (codeAny_whileLoop (λn s'=>∃σ' H',Inv X pins σ' H' s'/\W n σ' H') ?_ m0 ⟨σ,H,I,w0⟩)
 rintro n s1 ⟨σ1,H1,I1,w1⟩;refine wpAny_passesOwn hp (bP (hc pins s1 σ1 H1 _ I1 (turn n σ1 H1 w1)) λb s2 ⟨H2,I2,q2⟩=>?_)
 cases b with
 | true =>
  obtain⟨N,hN,q2⟩:=q2;rw [if_pos rfl];refine wpAny_passesOwn hp (bP (hb pins s2 σ1 H2 _ I2 q2) λf s3 q3=>?_)
  cases f with
  | next =>
   obtain⟨σ3,H3,I3,n3⟩:=q3;obtain⟨m',hm,w3⟩:=hN σ3 H3 n3
   exact⟨m',hm,σ3,H3,I3,w3⟩
  | cont =>
   obtain⟨σ3,H3,I3,n3⟩:=q3;obtain⟨m',hm,w3⟩:=hN σ3 H3 n3
   exact⟨m',hm,σ3,H3,I3,w3⟩
  | brk=>exact q3
  | ret v=>exact q3
 | false =>
  rw [if_neg Bool.false_ne_true];exact wpAny_execs_nil ⟨σ1,H2,I2,q2⟩
end
structure It where
 go:Nat->Hp->Prop
 yld:Nat->Hp->V->Hp->Prop
 stop:Nat->Hp->Prop
def lH (X:Cx) (pins:List (Addr×Obj)) (H:Hp) (b:Addr):Prop :=
 H b=none/\b≠X.env.locals/\b∉X.fs/\(b∈X.ex\/X.s₀.heap.objs.size<=b)/\(∀x c,X.env.cells.lookup x=some c->c≠b)/\∀p∈X.pn ++ pins,p.1≠b
theorem Inv.w6 {X:Cx} {pins:List (Addr×Obj)} {σ:St} {H H':Hp} {s:Shared} {b:Addr} (I:Inv X pins σ H s) (hb:s.heap.objs.size<=b) (hn:H' b=none):lH X pins H' b:=by
 refine⟨hn,Nat.ne_of_gt (Lr I.lt hb),I.JU hb,.inr (L6 I.sz hb),λx c e z=>?_,λp hp z=>?_⟩
 ·obtain⟨v,q⟩:=I.cell x c e;exact absurd (Lr q.lt (by rw [z];exact hb)) (Nat.lt_irrefl _)
 ·exact absurd (Lr (Lw (I.pin p hp).1) (by rw [z];exact hb)) (Nat.lt_irrefl _)
structure Turn (P:Program) (w:World) (K:Le) (tg:Expr) (J:It) (fp:List Addr) (it:Addr) (tn:Nat->Heap->Prop):Prop where
 mem:it∈fp
 obj:∀i h,tn i h->∀b∈fp,∃o,h.get? b=some o/\∀v,o.data≠.cell v
 keep:∀i h h',tn i h->(∀b∈fp,∀o,h.get? b=some o->h'.get? b=some o)->tn i h'
 item:∀(X:Cx),X.prog=P->X.w=w->X.K=K->X.calm=true->∀(i:Nat) (pins:List (Addr×Obj)) (s:Shared) (σ:St) (H:Hp) (E:Value->Shared->Prop),Inv X pins σ H s->(∀b∈fp,lH X pins H b)->tn i s.heap->J.go i H ->
  wpAny (model P w) X.A (pyNext (.ref it)) (λr s1=>∃u,r=some u /\
   wpAny (model P w) X.A (letOwnedTupleGo tg (.ref it) u) (λ_ s2=>∃x H',Inv X pins σ H' s2/\RelV x u/\J.yld i H x H'/\tn (i + 1) s2.heap/\∀b∈fp,H' b=none) E s1) E s
 done:∀(X:Cx),X.prog=P->X.w=w->X.K=K->X.calm=true->∀(i:Nat) (pins:List (Addr×Obj)) (s:Shared) (σ:St) (H:Hp) (E:Value->Shared->Prop),Inv X pins σ H s->(∀b∈fp,lH X pins H b)->tn i s.heap->J.stop i H ->
  wpAny (model P w) X.A (pyNext (.ref it)) (λr s1=>r=none/\Inv X pins σ H s1) E s
 self:∀(A:Around) (i:Nat) (s:Shared) (Q:Value->Shared->Prop) (E:Value->Shared->Prop),tn i s.heap->Q (.ref it) s->wpAny (model P w) A (pyIter (.ref it)) Q E s
abbrev TI:=St->Hp->(It->Hp->Prop)->Prop
def Je (X:Cx) (pins:List (Addr×Obj)) (σ:St) (tg:Expr) (R:It->Hp->Prop) (itv:Value) (s2:Shared):Prop :=
 ∃(it:Addr) (fp:List Addr) (tn:Nat->Heap->Prop) (J:It) (H':Hp),itv=.ref it/\Inv X pins σ H' s2/\Turn X.prog X.w X.K tg J fp it tn/\tn 0 s2.heap/\(∀b∈fp,lH X pins H' b)/\R J H'
def PI (X:Cx) (tg iter:Expr) (wi:TI):Prop :=
 ∀(pins:List (Addr×Obj)) (s:Shared) (σ:St) (H:Hp) (R:It->Hp->Prop),Inv X pins σ H s->wi σ H R ->
  wpAny (model X.prog X.w) X.A (eval iter X.env) (λv s1=>wpAny (model X.prog X.w) X.A (pyIter v) (Je X pins σ tg R) X.xe s1) X.xe s
theorem vV {M:Model} {A:Around} {E:Value->Shared->Prop} {s:Shared} {tg:Expr} {it:Addr} {u:Value} {o:Obj} {n:String} {vs:Array Value} {Q:Unit->Shared->Prop} (ho:s.heap.get? it=some o) (hc:o.cls=.type n) (hd:o.data=.fields vs)
    (hn:["enumerate","zip","dict_itemiterator","dict_reverseitemiterator","odict_iterator","itertools.zip_longest","itertools.pairwise"].contains n=false) (hQ:Q () s):wpAny M A (letOwnedTupleGo tg (.ref it) u) Q E s:=by
  unfold letOwnedTupleGo
  cases tg <;> first
    | exact Lf hQ
    | (cases u <;> first
        | exact Lf hQ
        | (refine K9 (wpAny_load ho ?_)
           rw [hc,hd];show wpAny M A (if (["enumerate","zip","dict_itemiterator","dict_reverseitemiterator","odict_iterator","itertools.zip_longest","itertools.pairwise"].contains n && vs[0]? == some (rawInt _))=true then _ else _) Q E s
           rw [if_neg (by intro h;rw [hn,Bool.false_and] at h;cases h)]
           exact Lf hQ))
def Ju (K:Le) (a:Addr):It :=
 ⟨λi H=>∃xs x,fZ K H a xs/\xs[i]?=some x,λi H x H'=>H'=H/\∀xs,fZ K H a xs->xs[i]?=some x,λi H=>∃xs,fZ K H a xs/\xs.length<=i⟩
def JD (K:Le) (a:Addr):It :=
 ⟨λi H=>∃xs x,gr K H a xs/\xs[i]?=some x,λi H x H'=>H'=H/\∀xs,gr K H a xs->xs[i]?=some x,λi H=>∃xs,gr K H a xs/\xs.length<=i⟩
def EX (lo:Int) (n:Nat):It:=⟨λi _=>i < n,λi H x H'=>H'=H/\x=.int (lo + i),λi _=>n<=i⟩
theorem zu {P:Program} {w:World} {K:Le} {tg:Expr} (a it:Addr):Turn P w K tg (Ju K a) [it] it (λi h=>h.IsListIter it a i) where
 mem:=by simp
 obj:=λi h st b hb=>by
  have e:b=it:=by simpa using hb
  subst e;obtain⟨o,e,c,d⟩:=st;exact⟨o,e,λv z=>by rw [d] at z;cases z⟩
 keep:=λi h h' st k=>st.at λo e=>k it (by simp) o e
 item:=by
  intro X hP hw hK hc i pins s σ H E I hf st hg;subst hP hw hK;obtain⟨xs,x,hq,hx⟩:=hg;obtain⟨its,rv,p,hz⟩:=I.list hq;obtain⟨u,hu,ru⟩:=rv.get hx;obtain⟨f0,f1,f2,f3,f4,f5⟩:=hf it (by simp);refine wpAny_pyNext_list_item st p.isList (x:=u) (by simpa using hu) λh' st' sb=>?_;have I1:Inv X pins σ H { s with heap:=h' }:=I.turned (t':=s.toks) (λb o hb e=>(sb.2 b hb).trans e) f0 f1 f3 f4 f5;obtain⟨o,e,c,d⟩:=id st'
  exact⟨u,rfl,vV (s:={ s with heap:=h' }) e c d (by decide) ⟨x,H,I1,ru,⟨rfl,λys hy=>by rw [I.qg hy hq];exact hx⟩,st',λb hb=>(hf b hb).1⟩⟩
 done:=by
  intro X hP hw hK hc i pins s σ H E I hf st hg;subst hP hw hK;obtain⟨xs,hq,hx⟩:=hg;obtain⟨its,rv,p,hz⟩:=I.list hq;obtain⟨f0,f1,f2,f3,f4,f5⟩:=hf it (by simp);have hl:=rv.length;exact wpAny_pyNext_list_end (I.ok.hd hc) st p.isList (by simp;omega) λh' eb=>⟨rfl,I.turned (t':=s.toks) (λb o hb e=>eb b o hb e) f0 f1 f3 f4 f5⟩
 self:=λ_ _ _ _ _ st h=>wpAny_pyIter_listiter st h
theorem xA {P:Program} {w:World} {K:Le} {tg:Expr} (a it:Addr):Turn P w K tg (JD K a) [it] it (λi h=>h.IsTupleIter it a i) where
 mem:=by simp
 obj:=λi h st b hb=>by
  have e:b=it:=by simpa using hb
  subst e;obtain⟨o,e,c,d⟩:=st;exact⟨o,e,λv z=>by rw [d] at z;cases z⟩
 keep:=λi h h' st k=>st.at λo e=>k it (by simp) o e
 item:=by
  intro X hP hw hK hc i pins s σ H E I hf st hg;subst hP hw hK;obtain⟨xs,x,hq,hx⟩:=hg;obtain⟨its,rv,p,hz⟩:=I.tuple hq;obtain⟨u,hu,ru⟩:=rv.get hx;obtain⟨f0,f1,f2,f3,f4,f5⟩:=hf it (by simp);refine wpAny_pyNext_tuple_item st (show s.heap.IsTuple a its.toArray from p) (x:=u) (by simpa using hu) λh' st' sb=>?_;have I1:Inv X pins σ H { s with heap:=h' }:=I.turned (t':=s.toks) (λb o hb e=>(sb.2 b hb).trans e) f0 f1 f3 f4 f5
  obtain⟨o,e,c,d⟩:=id st';exact⟨u,rfl,vV (s:={ s with heap:=h' }) e c d (by decide) ⟨x,H,I1,ru,⟨rfl,λys hy=>by rw [I.iu hy hq];exact hx⟩,st',λb hb=>(hf b hb).1⟩⟩
 done:=by
  intro X hP hw hK hc i pins s σ H E I hf st hg;subst hP hw hK;obtain⟨xs,hq,hx⟩:=hg;obtain⟨its,rv,p,hz⟩:=I.tuple hq;obtain⟨f0,f1,f2,f3,f4,f5⟩:=hf it (by simp);have hl:=rv.length;exact wpAny_pyNext_tuple_end (I.ok.hd hc) st (show s.heap.IsTuple a its.toArray from p) (by simp;omega) λh' eb=>⟨rfl,I.turned (t':=s.toks) (λb o hb e=>eb b o hb e) f0 f1 f3 f4 f5⟩
 self:=λ_ _ _ _ _ st h=>wpAny_pyIter_tupleiter st h
theorem xv {P:Program} {w:World} {K:Le} {tg:Expr} (it:Addr) (lo:Int) (n:Nat):Turn P w K tg (EX lo n) [it] it (λi h=>IsRangeIter h it (lo + (i:Nat) * 1) ((n:Int) - (i:Nat)) 1) where
 mem:=by simp
 obj:=λi h st b hb=>by
  have e:b=it:=by simpa using hb
  subst e
  exact⟨_,st,λv z=>by
   have z':Data.fields _=Data.cell v:=z
   cases z'⟩
 keep:=λi h h' st k=>k it (by simp) _ st
 item:=by
  intro X hP hw hK hc i pins s σ H E I hf st hg;subst hP hw hK;obtain⟨f0,f1,f2,f3,f4,f5⟩:=hf it (by simp);have W:=Walks.range (prog:=X.prog) (w:=X.w) (I.ok.hd hc) it lo 1 n;refine W.item i s _ _ hg st λv h' tk hv st' kk=>?_;obtain⟨t,rfl⟩:=hv;have I1:Inv X pins σ H { s with heap:=h',toks:=tk }:=I.turned (λb o hb e=>kk b o (by simpa using hb) e) f0 f1 f3 f4 f5;refine⟨_,rfl,vV (s:={ s with heap:=h',toks:=tk }) (n:="range_iterator") st' rfl rfl (by decide) ⟨.int (lo + i),H,I1,⟨t,?_⟩,⟨rfl,rfl⟩,st',λb hb=>(hf b hb).1⟩⟩
  rw [Int.mul_one]
 done:=by
  intro X hP hw hK hc i pins s σ H E I hf st hg;subst hP hw hK;obtain⟨f0,f1,f2,f3,f4,f5⟩:=hf it (by simp);exact wpAny_pyNext_range_end (I.ok.hd hc) st (by have:n<=i:=hg;omega) λh' eb=>⟨rfl,I.turned (t':=s.toks) (λb o hb e=>eb b o hb e) f0 f1 f3 f4 f5⟩
 self:=λ_ _ _ _ _ st h=>wpAny_pyIter_rangeiter st h
section
variable {X:Cx} {tg:Expr}
theorem vK {pins:List (Addr×Obj)} {σ:St} {H:Hp} {s:Shared} {R:It->Hp->Prop} {E:Value->Shared->Prop} {lo hi:Int} {t u v:Tok} {tk:Nat} (I:Inv X pins σ H s) (h1:-(2 ^ 62)<=lo) (h2:lo < 2 ^ 62) (h3:-(2 ^ 62)<=hi) (h4:hi < 2 ^ 62)
  (q:R (EX lo (hi - lo).toNat) H):wpAny (model X.prog X.w) X.A (pyIter (.ref s.heap.objs.size)) (Je X pins σ tg R) E { s with heap:=s.heap.push { cls:=.type "range",data:=.fields #[.int lo t,.int hi u,.int 1 v] },toks:=tk }:=by
 refine wpAny_pyIter_range (IsRange.new ..) (small_one h1 h2 h3 h4) ?_;have I1:Inv X pins σ H { s with heap:=s.heap.push { cls:=.type "range",data:=.fields #[.int lo t,.int hi u,.int 1 v] },toks:=tk }:=I.kept λb o e=>Ld _ e
 refine⟨(s.heap.push { cls:=.type "range",data:=.fields #[.int lo t,.int hi u,.int 1 v] }).objs.size,[(s.heap.push { cls:=.type "range",data:=.fields #[.int lo t,.int hi u,.int 1 v] }).objs.size],_,_,H,rfl,
  I1.kept (t':=tk) λb o e=>Ld _ e,xv _ lo (hi - lo).toNat,?_,λb hb=>?_,q⟩
 ·have e1:lo + ((0:Nat):Int) * 1=lo:=by simp
  have e2:(((hi - lo).toNat:Nat):Int) - ((0:Nat):Int)=Builtin.Range.rangeSize lo hi 1:=by rw [rangeSize_one];split <;> omega
  show IsRangeIter _ _ (lo + ((0:Nat):Int) * 1) ((((hi - lo).toNat:Nat):Int) - ((0:Nat):Int)) 1
  rw [e1,e2];exact Lv _ rfl
 ·have e:b=(s.heap.push { cls:=.type "range",data:=.fields #[.int lo t,.int hi u,.int 1 v] }).objs.size:=by simpa using hb
  subst e;exact I1.w6 (Lh _) (I1.hok.fresh (Lh _))
def Ia (ta:TA):TI:=λσ H R=>ta σ H λvs H1=>∃j:Int,vs=[.int j]/\-(2 ^ 62)<=j/\j < 2 ^ 62/\R (EX 0 j.toNat) H1
def IC (ta:TA):TI:=λσ H R=>ta σ H λvs H1=>∃i j:Int,vs=[.int i,.int j]/\(-(2 ^ 62)<=i/\i < 2 ^ 62/\-(2 ^ 62)<=j/\j < 2 ^ 62)/\R (EX i (j - i).toNat) H1
theorem j3 {a:Expr} {ta:TA} {p pos:Pos} (hg:Gl X "range") (hm:X.mg "range" = none) (ha:PA X [a] ta) (hs:starEach [a] X.env=[(false,eval a X.env)]:=by rfl):PI X tg (.Call (.Name "range" p) [a] [] pos) (Ia ta):=by
 intro pins s σ H R I h;refine Call_ (lD I hg hm boot_range (PyProof.Rows.callWith_type1 (bP (ha pos pins s σ H _ I h) λus s1 ⟨vs,H1,I1,r1,q1⟩=>?_) hs rfl));obtain⟨j,e,q1,q2,q⟩:=q1;subst e
 cases r1 with
 | cons r rr =>
  cases rr;obtain⟨t,rfl⟩:=r;exact call_range_1 (vK I1 (by omega) (by omega) q1 q2 (by simpa using q))
theorem zX {a b:Expr} {ta:TA} {p pos:Pos} (hg:Gl X "range") (hm:X.mg "range" = none) (ha:PA X [a,b] ta) (hs:starEach [a,b] X.env=[(false,eval a X.env),(false,eval b X.env)]:=by rfl) (hs2:starEach [b] X.env=[(false,eval b X.env)]:=by rfl) :
  PI X tg (.Call (.Name "range" p) [a,b] [] pos) (IC ta):=by
 intro pins s σ H R I h;refine Call_ (lD I hg hm boot_range (PyProof.Rows.callWith_type1 (bP (ha pos pins s σ H _ I h) λus s1 ⟨vs,H1,I1,r1,q1⟩=>?_) (by rw [hs,hs2]) (by rw [hs2];rfl)));obtain⟨i,j,e,⟨q1,q2,q3,q4⟩,q⟩:=q1;subst e
 cases r1 with
 | cons r rr =>
  cases rr with
  | cons r' rr =>
   cases rr;obtain⟨t,rfl⟩:=r;obtain⟨t',rfl⟩:=r';exact call_range_2 (vK I1 q1 q2 q3 q4 q)
def Km (wi:TI) (g:TG) (tb:TS):TS:=λD σ H=>wi σ H λJ H1=>∃W:Nat->Nat->St->Hp->Prop,(∃m,W 0 m σ H1)/\∀i m σ H,W i m σ H ->
 (J.stop i H/\D.nx σ H)\/(J.go i H/\∃N:St->Hp->Prop,(∀σ' H',N σ' H'->∃m',m' < m/\W (i + 1) m' σ' H')/\∀x H',J.yld i H x H'->g x σ H' λσ2 H2=>tb { D with nx:=N,ct:=N,bk:=D.nx } σ2 H2)
def nX (fp:List Addr) (h:Heap):List (Addr×Obj):=fp.filterMap λb=>(h.get? b).map λo=>(b,o)
theorem fJ {fp:List Addr} {h:Heap} {b:Addr} {o:Obj} (hb:b∈fp) (e:h.get? b=some o):(b,o)∈nX fp h:=List.mem_filterMap.mpr ⟨b,hb,by rw [e];rfl⟩
theorem zN {fp:List Addr} {h:Heap} {p:Addr×Obj} (hp:p∈nX fp h):p.1∈fp/\h.get? p.1=some p.2:=by
 obtain⟨b,hb,e⟩:=List.mem_filterMap.mp hp
 cases q:h.get? b with
 | none=>rw [q] at e;cases e
 | some o =>
  rw [q] at e;have e':(b,o)=p:=Li e;subst e';exact⟨hb,q⟩
theorem Inv.pinned {pins:List (Addr×Obj)} {σ:St} {H:Hp} {s:Shared} {fp:List Addr} (I:Inv X pins σ H s) (hf:∀b∈fp,lH X pins H b) (ho:∀b∈fp,∃o,s.heap.get? b=some o/\∀v,o.data≠.cell v):Inv X (pins ++ nX fp s.heap) σ H s :=
 I.ym λp hp=>(LQ.mp hp).elim (λz=>I.pin p (LP _ z)) λz=>by
  obtain⟨hb,e⟩:=zN z;obtain⟨f0,f1,f2,_⟩:=hf p.1 hb;obtain⟨o,e',d⟩:=ho p.1 hb;rw [e] at e';cases e';exact⟨e,f0,f1,f2,d⟩
theorem Inv.jG {pins pl:List (Addr×Obj)} {σ:St} {H:Hp} {s:Shared} (I:Inv X (pins ++ pl) σ H s):Inv X pins σ H s:=I.ym λp hp=>I.pin p (LP _ (Mq _ hp))
theorem nQ {iter:Expr} {body:List Stmt} {wi:TI} {g:TG} {tb:TS} {pos:Pos} (hp:PassesOwn (model X.prog X.w) X.A X.env X.xe) (hc:X.calm=true) (hi:PI X tg iter wi) (hg:PG X tg g) (hb:yb X body tb)
  (hs:∀x,LX iter X.env x=pure x:=by intro _;rfl):PS X (.For tg iter body [] pos) (Km wi g tb):=by
 intro pins s σ H D I h;refine wpAny_For (bP (hi pins s σ H _ I h) λv s1 h1=>bP h1 λitv s2 h2=>?_) hs;obtain⟨it,fp,tn,J,H2,e,I2,T,st2,f2,W,⟨m0,w0⟩,turn⟩:=h2;subst e;have stat:∀{H':Hp},(∀b∈fp,H' b=none)->∀b∈fp,lH X pins H' b:=λhn b hb=>⟨hn b hb,(f2 b hb).2⟩;refine codeAny_forLoop_any (λn s'=>∃i σ' H',Inv X pins σ' H' s'/\tn i s'.heap/\(∀b∈fp,H' b=none)/\W i n σ' H') ?_ m0 ⟨0,σ,H2,I2,st2,λb hb=>(f2 b hb).1,w0⟩
 rintro n s3 ⟨i,σ3,H3,I3,st3,fr3,w3⟩;rcases turn i n σ3 H3 w3 with ⟨stop,qn⟩|⟨go,N,hN,step⟩
 ·refine wpAny_passesOwn hp (bP (T.done X rfl rfl rfl hc i pins s3 σ3 H3 X.xe I3 (stat fr3) st3 stop) λr s4 ⟨hr,I4⟩=>?_);subst hr;exact wpAny_execs_nil ⟨σ3,H3,I4,qn⟩
 ·refine wpAny_passesOwn hp (bP (T.item X rfl rfl rfl hc i pins s3 σ3 H3 X.xe I3 (stat fr3) st3 go) λr s4 ⟨u,hr,h4⟩=>?_);subst hr;refine wpAny_passesOwn hp (bP h4 λ_ s5 hq0=>?_);obtain⟨x,H5,I5,r5,y5,st5,fr5⟩:=hq0;have I5':=I5.pinned (stat fr5) (T.obj _ _ st5);refine wpAny_passesOwn hp (bP (hg _ s5 σ3 H5 x u _ I5' r5 (step x H5 y5)) λ_ s6 ⟨σ6,H6,I6,q6⟩=>?_);refine wpAny_passesOwn hp (bP (hb _ s6 σ6 H6 _ I6 q6) λf s7 q7=>?_)
  have again:∀{σ7:St} {H7:Hp},Inv X (pins ++ nX fp s5.heap) σ7 H7 s7->N σ7 H7->∃m,m < n/\∃i σ' H',Inv X pins σ' H' s7/\tn i s7.heap/\(∀b∈fp,H' b=none)/\W i m σ' H':=λ{σ7 H7} I7 n7=>by
   obtain⟨m',hm,w7⟩:=hN σ7 H7 n7;refine⟨m',hm,i + 1,σ7,H7,I7.jG,T.keep _ _ _ st5 λb hb o e=>(I7.pin (b,o) (LP _ (LP _ (fJ hb e)))).1,λb hb=>?_,w7⟩;obtain⟨o,e,d⟩:=T.obj _ _ st5 b hb;exact (I7.pin (b,o) (LP _ (LP _ (fJ hb e)))).2.1
  cases f with
  | next=>obtain⟨σ7,H7,I7,n7⟩:=q7;exact again I7 n7
  | cont=>obtain⟨σ7,H7,I7,n7⟩:=q7;exact again I7 n7
  | brk=>obtain⟨σ7,H7,I7,q7⟩:=q7;exact⟨σ7,H7,I7.jG,q7⟩
  | ret v=>obtain⟨x7,σ7,H7,I7,r7,q7⟩:=q7;exact⟨x7,σ7,H7,I7.jG,r7,q7⟩
end
abbrev R2:=V->V->Hp->VK->Prop
def jq (X:Cx) (f:Value->Value->Sem Value) (r:R2):Prop :=
 ∀(pins:List (Addr×Obj)) (s:Shared) (σ:St) (H:Hp) (x y:V) (v u:Value) (Q:VK),Inv X pins σ H s->RelV x v->RelV y u->r x y H Q ->
  wpAny (model X.prog X.w) X.A (f v u) (EP X pins σ Q) X.xe s
def JF (X:Cx) (f:Value->Sem Value) (r:V->Hp->VK->Prop):Prop :=
 ∀(pins:List (Addr×Obj)) (s:Shared) (σ:St) (H:Hp) (x:V) (v:Value) (Q:VK),Inv X pins σ H s->RelV x v->r x H Q ->
  wpAny (model X.prog X.w) X.A (f v) (EP X pins σ Q) X.xe s
def e7 (X:Cx) (f:Value) (r:List V->Hp->VK->Prop):Prop :=
 ∀(pins:List (Addr×Obj)) (s:Shared) (σ:St) (H:Hp) (xs:List V) (us:List Value) (Q:VK),Inv X pins σ H s->Vals xs us->r xs H Q ->
  wpAny (model X.prog X.w) X.A (call f us) (EP X pins σ Q) X.xe s
def Hw (r:R2) (ta tb:TE):TE:=λσ H Q=>ta σ H λx H1=>tb σ H1 λy H2=>r x y H2 Q
def K0 (r:V->Hp->VK->Prop) (ta:TE):TE:=λσ H Q=>ta σ H λx H1=>r x H1 Q
def rI (C:Int->Int->Prop) (g:Int->Int->V):R2:=λx y H Q=>∃i j,x=.int i/\y=.int j/\C i j/\Q (g i j) H
def BA (g:Int->Int->V):R2:=λx y H Q=>∃i j,x=.int i/\y=.int j/\Q (g i j) H
def rU (g:Int->V):V->Hp->VK->Prop:=λx H Q=>∃i,x=.int i/\Q (g i) H
section
variable {X:Cx} {a b c:Expr} {ta tb tc:TE} {pos:Pos}
theorem Fv (ha:PE X a ta) (hb:PE X b tb) {pins:List (Addr×Obj)} {s:Shared} {σ:St} {H:Hp} {R:V->V->Hp->Prop} (I:Inv X pins σ H s)
  (h:ta σ H λx H1=>tb σ H1 λy H2=>R x y H2) {Q:Value->Shared->Prop} {f:Value->Value->Sem Value}
  (hf:∀v u s2 x y H2,Inv X pins σ H2 s2->RelV x v->RelV y u->R x y H2->wpAny (model X.prog X.w) X.A (f v u) Q X.xe s2) :
  wpAny (model X.prog X.w) X.A (eval a X.env) (λv s₁=>wpAny (model X.prog X.w) X.A (eval b X.env) (λu s₂=>wpAny (model X.prog X.w) X.A (f v u) Q X.xe s₂) X.xe s₁) X.xe s:=by
 refine bP (ha pins s σ H _ I h) λv s1 hq0=>?_;obtain⟨x,H1,I1,r1,q1⟩:=hq0;refine bP (hb pins s1 σ H1 _ I1 q1) λu s2 hq0=>?_;obtain⟨y,H2,I2,r2,q2⟩:=hq0;exact hf v u s2 x y H2 I2 r1 r2 q2
theorem IL {op:Operator} {r:R2} (ho:jq X (binaryOp op) r) (ha:PE X a ta) (hb:PE X b tb):PE X (.BinOp a op b pos) (Hw r ta tb):=by
 intro pins s σ H Q I h;exact wpAny_BinOp (Fv ha hb I h λv u s2 x y H2 I2 rx ry q=>ho pins s2 σ H2 x y v u Q I2 rx ry q)
theorem Io {op:UnaryOp} {r:V->Hp->VK->Prop} (ho:JF X (unaryOp op) r) (ha:PE X a ta):PE X (.UnaryOp op a pos) (K0 r ta):=by
 intro pins s σ H Q I h;exact UnaryOp_ (bP (ha pins s σ H _ I h) λv s1 ⟨x,H1,I1,r1,q1⟩=>ho pins s1 σ H1 x v Q I1 r1 q1)
theorem JA {f:Value->Value->Sem Value} {C:Int->Int->Prop} {g:Int->Int->Int}
  (rule:∀(i j:Int) (t u:Tok) (s:Shared) (Q:Value->Shared->Prop) (E:Value->Shared->Prop),C i j->Q (.int (g i j) s.toks) { s with toks:=s.toks + 1 }->wpAny (model X.prog X.w) X.A (f (.int i t) (.int j u)) Q E s) :
  jq X f (rI C λi j=>.int (g i j)):=by
 intro pins s σ H x y v u Q I rx ry h;obtain⟨i,j,rfl,rfl,hc,q⟩:=h;obtain⟨t,rfl⟩:=rx;obtain⟨t',rfl⟩:=ry;exact rule i j t t' s _ _ hc ⟨.int (g i j),H,I.tok _,⟨_,rfl⟩,q⟩
theorem HU {f:Value->Value->Sem Value} {g:Int->Int->Int}
  (rule:∀(i j:Int) (t u:Tok) (s:Shared) (Q:Value->Shared->Prop) (E:Value->Shared->Prop),Q (.int (g i j) s.toks) { s with toks:=s.toks + 1 }->wpAny (model X.prog X.w) X.A (f (.int i t) (.int j u)) Q E s) :
  jq X f (BA λi j=>.int (g i j)):=by
 intro pins s σ H x y v u Q I rx ry h;obtain⟨i,j,rfl,rfl,q⟩:=h;obtain⟨t,rfl⟩:=rx;obtain⟨t',rfl⟩:=ry;exact rule i j t t' s _ _ ⟨.int (g i j),H,I.tok _,⟨_,rfl⟩,q⟩
theorem Dq {f:Value->Value->Sem Value} {g:Int->Int->Bool}
  (rule:∀(i j:Int) (t u:Tok) (s:Shared) (Q:Value->Shared->Prop) (E:Value->Shared->Prop),Q (.bool (g i j)) s->wpAny (model X.prog X.w) X.A (f (.int i t) (.int j u)) Q E s) :
  jq X f (BA λi j=>.bl (g i j)):=by
 intro pins s σ H x y v u Q I rx ry h;obtain⟨i,j,rfl,rfl,q⟩:=h;obtain⟨t,rfl⟩:=rx;obtain⟨t',rfl⟩:=ry;exact rule i j t t' s _ _ ⟨.bl (g i j),H,I,rfl,q⟩
def Gp (i j:Int):Prop:=0<=j/\j<=1000000/\i.natAbs < 2 ^ 64
theorem FJ:jq X (binaryOp .Add) (BA λi j=>.int (i + j)):=HU λ_ _ _ _ _ _ _ q=>add_int q
theorem FX:jq X (binaryOp .Sub) (BA λi j=>.int (i - j)):=HU λ_ _ _ _ _ _ _ q=>sub_int q
theorem DY:jq X (binaryOp .Mod) (rI (λ_ j=>j≠0) λi j=>.int (i.fmod j)):=JA λ_ _ _ _ _ _ _ hc q=>mod_int' hc q
theorem Ga:jq X (binaryOp .Pow) (rI Gp λi j=>.int (i ^ j.toNat)):=JA λ_ _ _ _ _ _ _ hc q=>pow_int_small hc.1 hc.2.1 hc.2.2 q
theorem KZ {f:Value->Sem Value} {g:Int->Int}
  (rule:∀(i:Int) (t:Tok) (s:Shared) (Q:Value->Shared->Prop) (E:Value->Shared->Prop),Q (.int (g i) s.toks) { s with toks:=s.toks + 1 }->wpAny (model X.prog X.w) X.A (f (.int i t)) Q E s) :
  JF X f (rU λi=>.int (g i)):=by
 intro pins s σ H x v Q I rx h;obtain⟨i,rfl,q⟩:=h;obtain⟨t,rfl⟩:=rx;exact rule i t s _ _ ⟨.int (g i),H,I.tok _,⟨_,rfl⟩,q⟩
theorem Hb:JF X (unaryOp .USub) (rU λi=>.int (-i)):=KZ λ_ _ _ _ _ q=>neg_int q
end
section
variable {X:Cx} {a b c:Expr} {ta tb tc:TE} {pos:Pos}
theorem CC {pins:List (Addr×Obj)} {σ:St} {H:Hp} {s:Shared} {Q:VK} {k k':Bool} (I:Inv X pins σ H s) (q:Q (.bl k) H) (e:k=k'):EP X pins σ Q (.bool k') s:=by
 subst e;exact⟨.bl k,H,I,rfl,q⟩
theorem IW:jq X (compareOp .Lt) (BA λi j=>.bl (decide (i < j))):=Dq λ_ _ _ _ _ _ _ q=>lt_int q
theorem HR:jq X (compareOp .LtE) (BA λi j=>.bl (decide (i<=j))):=Dq λ_ _ _ _ _ _ _ q=>le_int q
theorem Ig:jq X (compareOp .Gt) (BA λi j=>.bl (decide (j < i))):=Dq λ_ _ _ _ _ _ _ q=>gt_int q
theorem HF:jq X (compareOp .GtE) (BA λi j=>.bl (decide (j<=i))):=Dq λ_ _ _ _ _ _ _ q=>ge_int q
theorem Hn:jq X (compareOp .Is) (λx y H Q=>y=.non/\Q (.bl (decide (x=.non))) H):=by
 intro pins s σ H x y v u Q I rx ry h;obtain⟨rfl,q⟩:=h;cases ry;refine is_none_gen (CC I q ?_)
 cases x <;> first
  | (cases rx;rfl)
  | (obtain⟨t,rfl⟩:=rx;rfl)
theorem Dh:jq X (compareOp .IsNot) (λx y H Q=>y=.non/\Q (.bl (!decide (x=.non))) H):=by
 intro pins s σ H x y v u Q I rx ry h;obtain⟨rfl,q⟩:=h;cases ry;refine isnot_none_gen (CC I q ?_)
 cases x <;> first
  | (cases rx;rfl)
  | (obtain⟨t,rfl⟩:=rx;rfl)
theorem jq.or {f:Value->Value->Sem Value} {r r':R2} (h:jq X f r) (h':jq X f r'):jq X f (λx y H Q=>r x y H Q\/r' x y H Q):=by
 intro pins s σ H x y v u Q I rx ry q;rcases q with q|q
 ·exact h pins s σ H x y v u Q I rx ry q
 ·exact h' pins s σ H x y v u Q I rx ry q
theorem f7 (b:Expr) {op:CmpOp} (h:op≠.In:=by decide) (h2:op≠.NotIn:=by decide):behindInMarks op b=false:=by
 have e1:(op == CmpOp.In)=false:=by cases op <;> first|rfl|exact absurd rfl h
 have e2:(op == CmpOp.NotIn)=false:=by cases op <;> first|rfl|exact absurd rfl h2
 cases b <;> simp [behindInMarks,e1,e2]
theorem C1 {op:CmpOp} {r:R2} (ho:jq X (compareOp op) r) (ha:PE X a ta) (hb:PE X b tb) (hm:behindInMarks op b=false):PE X (.Compare a [op] [b] pos) (Hw r ta tb):=by
 intro pins s σ H Q I h;exact wpAny_Compare1 (Fv ha hb I h λv u s2 x y H2 I2 rx ry q=>ho pins s2 σ H2 x y v u Q I2 rx ry q) hm
def IJ (t:TE):TT:=λσ H Q=>t σ H λx H'=>∃k,x=.bl k/\Q k H'
theorem mi {op:CmpOp} {r:R2} (ho:jq X (compareOp op) r) (ha:PE X a ta) (hb:PE X b tb) (hm:behindInMarks op b=false):PT X (.Compare a [op] [b] pos) (IJ (Hw r ta tb)):=by
 intro pins s σ H Q I h
 refine wpAny_isTrue_Compare1 (bP (ha pins s σ H _ I h) λv s1 ⟨x,H1,I1,r1,q1⟩=>bP (hb pins s1 σ H1 _ I1 q1) λu s2 ⟨y,H2,I2,r2,q2⟩ =>
  bP (ho pins s2 σ H2 x y v u _ I2 r1 r2 q2) λc s3 ⟨z,H3,I3,r3,k,e,q3⟩=>?_) hm
 subst e;cases r3;exact wpAny_truthy_bool ⟨H3,I3,q3⟩
theorem nD:(sizeLine:Nat) < 2 ^ 63:=by rw [sizeLine_eq];decide
theorem xx:jq X (binaryOp .Add) (λx y H Q=>∃i j,x=.str i/\y=.str j/\i.length + j.length<=sizeLine/\Q (.str (i ++ j)) H):=by
 intro pins s σ H x y v u Q I rx ry h;obtain⟨i,j,rfl,rfl,hz,q⟩:=h;obtain⟨t,rfl⟩:=rx;obtain⟨t',rfl⟩:=ry;exact add_str (λt' tk=>⟨.str (i ++ j),H,I.tok _,⟨_,rfl⟩,q⟩) hz
theorem vals1 {x:V} {us:List Value} (r:Vals [x] us):∃u,us=[u]/\RelV x u:=by
 cases r with
 | cons r1 r2=>cases r2;exact⟨_,rfl,r1⟩
theorem vals2 {x y:V} {us:List Value} (r:Vals [x,y] us):∃u w',us=[u,w']/\RelV x u/\RelV y w':=by
 cases r with
 | cons r1 r2 =>
  cases r2 with
  | cons r3 r4=>cases r4;exact⟨_,_,rfl,r1,r3⟩
theorem AG:e7 X (.builtin "abs") (λxs H Q=>∃i,xs=[.int i]/\Q (.int (if i < 0 then -i else i)) H):=by
 intro pins s σ H xs us Q I r h;obtain⟨i,rfl,q⟩:=h;obtain⟨u,rfl,t,rfl⟩:=vals1 r;exact call_abs_int λu tk=>⟨.int (if i < 0 then -i else i),H,I.tok _,⟨_,rfl⟩,q⟩
theorem y8 (hc:X.calm=true):e7 X (.builtin "max") (λxs H Q=>∃i j,xs=[.int i,.int j]/\Q (.int (if j > i then j else i)) H):=by
 intro pins s σ H xs us Q I r h;obtain⟨i,j,rfl,q⟩:=h;obtain⟨u,w',rfl,⟨t,rfl⟩,⟨t',rfl⟩⟩:=vals2 r;refine max_two_ints (I.ok.hd hc) λh' tk k=>⟨_,H,I.kept k,?_,q⟩
 by_cases hj:j > i
 ·rw [if_pos hj,if_pos hj];exact⟨_,rfl⟩
 ·rw [if_neg hj,if_neg hj];exact⟨_,rfl⟩
theorem zV (hc:X.calm=true):e7 X (.builtin "min") (λxs H Q=>∃i j,xs=[.int i,.int j]/\Q (.int (if j < i then j else i)) H):=by
 intro pins s σ H xs us Q I r h;obtain⟨i,j,rfl,q⟩:=h;obtain⟨u,w',rfl,⟨t,rfl⟩,⟨t',rfl⟩⟩:=vals2 r;refine min_two_ints (I.ok.hd hc) λh' tk k=>⟨_,H,I.kept k,?_,q⟩
 by_cases hj:j < i
 ·rw [if_pos hj,if_pos hj];exact⟨_,rfl⟩
 ·rw [if_neg hj,if_neg hj];exact⟨_,rfl⟩
theorem zz:e7 X (.type "int") (λxs H Q=>(∃i,xs=[.int i]/\Q (.int i) H)\/∃k,xs=[.bl k]/\Q (.int (if k then 1 else 0)) H):=by
 intro pins s σ H xs us Q I r h;rcases h with ⟨i,rfl,q⟩|⟨k,rfl,q⟩
 ·obtain⟨u,rfl,t,rfl⟩:=vals1 r;exact call_int_int ⟨.int i,H,I,⟨_,rfl⟩,q⟩
 ·obtain⟨u,rfl,r1⟩:=vals1 r;cases r1;exact call_int_bool ⟨.int (if k then 1 else 0),H,I.tok _,⟨_,rfl⟩,q⟩
end
structure dG (k:Nat) (A:Around):Prop where
 hd:A.handled=none
 dp:A.depth + 3 * k + 5 < recursionLimit
 un:A.units + 16 * k + 200 < cLine
theorem dG.mono {j k:Nat} {A:Around} (r:dG k A) (h:j<=k):dG j A:=⟨r.hd,by have:=r.dp;omega,by have:=r.un;omega⟩
theorem dG.deeper {k:Nat} {A:Around} (r:dG (k + 1) A) (env:Env):dG k (A.deeper env) :=
 ⟨r.hd,by have:=r.dp;show A.depth + 1 + 3 * k + 5 < _;omega,by have:=r.un;show A.units + 3 + 16 * k + 200 < _;omega⟩
theorem dG.depth {k:Nat} {A:Around} (r:dG k A):A.depth < recursionLimit:=by have:=r.dp;omega
theorem dG.units {k:Nat} {A:Around} (r:dG k A):A.units + 64 < cLine:=by have:=r.un;omega
def Kv:TA:=λ_ H Q=>Q [] H
def IS (ta:TE) (tr:TA):TA:=λσ H Q=>ta σ H λx H1=>tr σ H1 λxs H2=>Q (x :: xs) H2
section
variable {X:Cx} {e:Expr} {es:List Expr} {te:TE} {t:TA} {pos:Pos}
theorem gJ:PA X [] Kv:=λ_ _ _ _ H Q I h=>Calls.spliced_nil ⟨[],H,I,.nil,h⟩
theorem eG (ha:PE X e te) (hr:PA X es t) (hs:starEach (e :: es) X.env=(false,eval e X.env) :: starEach es X.env:=by rfl):PA X (e :: es) (IS te t):=by
 intro pos pins s σ H Q I h;rw [hs];show wpAny _ _ (spliced ((false,eval e X.env) :: backTo pos (starEach es X.env))) _ _ s
 refine Ml (bP (ha pins s σ H _ I h) λu s1 hq0=>?_);obtain⟨x,H1,I1,r1,q1⟩:=hq0;exact bP (hr pos pins s1 σ H1 _ I1 q1) λus s2 ⟨xs,H2,I2,r2,q2⟩=>⟨x :: xs,H2,I2,.cons r1 r2,q2⟩
def Ks (t:TA):TE:=λσ H Q=>t σ H λxs H1=>xs.length<=sizeLine/\∀p,H1 p=none->Q (.ref p) (upd H1 p (.tup xs))
def J7 (t:TA):TE:=λσ H Q=>t σ H λxs H1=>xs.length<=sizeLine/\∀p,H1 p=none->Q (.ref p) (upd H1 p (.lst xs))
theorem Gv {x1} (h:PA X es t):PE X (.Tuple es x1 pos) (Ks t):=by
 intro pins s σ H Q I hq;refine wpAny_Tuple_spliced (bP (h pos pins s σ H _ I hq) λus s1 ⟨xs,H1,I1,r,z,q⟩=>⟨by rw [<- r.length];exact z,?_⟩);have hf:H1 s1.heap.objs.size=none:=I1.hok.fresh (Lh _);refine⟨.ref s1.heap.objs.size,upd H1 s1.heap.objs.size (.tup xs),I1.laid (t':=s1.toks) (λb u e=>Ld _ e) (Lh _) ?_,rfl,q _ hf⟩;exact⟨z,us,r,⟨_,Lv _ rfl,rfl,⟨_,rfl⟩,rfl⟩⟩
theorem xU (h:PA X es t):PE X (.List es pos) (J7 t):=by
 intro pins s σ H Q I hq;refine wpAny_List_spliced (bP (h pos pins s σ H _ I hq) λus s1 ⟨xs,H1,I1,r,z,q⟩=>⟨by rw [<- r.length];exact z,?_⟩);have hf:H1 s1.heap.objs.size=none:=I1.hok.fresh (Lh _);refine⟨.ref s1.heap.objs.size,upd H1 s1.heap.objs.size (.lst xs),I1.laid (t':=s1.toks) (λb u e=>Ld _ e) (Lh _) ?_,rfl,q _ hf⟩;exact⟨z,us,0,r,Lv _ rfl⟩
end
abbrev Sp:=List V->Hp->VK->XK->Prop
abbrev A0:=List Env->Hp->Shared->XK->Value->Shared->Prop
structure ya (P:Program) (w:World) (K:Le) (mg:Str->Option Value) (base:Heap) (A:Around) (outer:List Env) (s:Shared) (H:Hp):Prop where
 frames:A.frames=some outer
 mod:Mod K mg base
 bs:∀b o,base.get? b=some o->s.heap.get? b=some o/\H b=none
 bsz:base.objs.size<=s.heap.objs.size
 lU:s.heap.FunFrames base outer
 frf:(∀b∈lN outer,H b=none)/\DZ K H
 hok:kY P w H s.heap
 bare:AllBare s.gens
def CE (outer:List Env) (P:Program) (w:World) (H:Hp) (s:Shared) (Q:VK) (u:Value) (s':Shared):Prop :=
 ∃v H',s'.os=s.os/\AllBare s'.gens/\Un (lN outer) [] H H' s.heap s'.heap/\kY P w H' s'.heap/\RelV v u/\Q v H'
def CR (CX:A0) (outer:List Env) (P:Program) (w:World) (H:Hp) (s:Shared) (Q:VK) (E:XK) (r:Result) (s':Shared):Prop :=
 match r with
 | .ok (.ret u)=>CE outer P w H s Q u s'
 | .ok _=>False
 | .error e=>CX outer H s E e s'
structure pU (P:Program) (w:World) (K:Le) (mg:Str->Option Value) (base:Heap) (CX:A0) (k:Nat) (f:Addr) (fd:FuncData) (ps:List Str) (sp:Sp):Prop where
 len:∀vs H Q E,sp vs H Q E->vs.length=ps.length
 run:∀(A:Around) (outer:List Env) (s:Shared) (H:Hp) (args:Args) (us:List Value) (vs:List V) (Q:VK) (E:XK),dG k A->ya P w K mg base A outer s H->BindsTo s fd args (ps.zip us)->Vals vs us->sp vs H Q E ->
  codeAny (model P w) A (.call (.ref f) args) (CR CX outer P w H s Q E) s
section
variable {X:Cx} {pins:List (Addr×Obj)} {σ:St} {H:Hp} {s s':Shared}
theorem Inv.di (I:Inv X pins σ H s):ya X.prog X.w X.K X.mg X.base X.A X.stack s H :=
 ⟨I.ok.frames,I.ok.mod,I.bs,L6 I.ok.bsz I.sz,I.stack,⟨I.oZ,I.tb⟩,I.hok,I.bare⟩
theorem Inv.after {Q:VK} {u:Value} (I:Inv X pins σ H s) (h:CE X.stack X.prog X.w H s Q u s'):EP X pins σ Q u s':=by
 obtain⟨v,H',os,bare,un,hok,r,q⟩:=h;obtain⟨hh,g,d,t,os'⟩:=s';obtain rfl:os'=s.os:=os;exact⟨v,H',I.call (h':=hh) (g':=g) (d':=d) (t':=t) (ch:=[]) un hok bare (λb z=>absurd z (by simp)),r,q⟩
end
def HS (sp:Sp) (dvs:List V) (E:XK) (t:TA):TE:=λσ H Q=>t σ H λvs H1=>sp (vs ++ dvs) H1 Q E
def Binds (K:Le) (fd:FuncData) (ps:List Str) (ds:List Value):Prop :=
 ∀(s:Shared) (us:List Value),K.In s.heap->(us ++ ds).length=ps.length->BindsTo s fd ⟨us,[]⟩ (ps.zip (us ++ ds))
theorem Binds.all {K:Le} {fd:FuncData} {ps:List Str} (h:∀us:List Value,us.length=ps.length->bindArgs fd ⟨us,[]⟩=pure (ps.zip us)):Binds K fd ps []:=λs us _ hl=>by
 rw [L4] at hl ⊢;exact .of_eq (h us hl)
def Passes (CX:A0) (X:Cx) (E:XK):Prop:=∀(pins:List (Addr×Obj)) (σ:St) (H:Hp) (s:Shared) (e:Value) (s':Shared),Inv X pins σ H s->CX X.stack H s E e s'->X.xe e s'
section
variable {X:Cx} {CX:A0} {k:Nat} {f C:Addr} {fd:FuncData} {ps:List Str} {sp:Sp} {dvs:List V} {ds:List Value} {E:XK} {x m:Str} {p pos apos:Pos} {e o:Expr} {es:List Expr} {ta:TE} {t:TA}
theorem He {pins:List (Addr×Obj)} {σ:St} {H:Hp} {s:Shared} {Q:VK} {us:List Value} {vs:List V} (F:pU X.prog X.w X.K X.mg X.base CX k f fd ps sp) (hr:dG k X.A) (hb:Binds X.K fd ps ds) (hd:Vals dvs ds) (hx:Passes CX X E)
  (I:Inv X pins σ H s) (r:Vals vs us) (h:sp (vs ++ dvs) H Q E):wpAny (model X.prog X.w) X.A (call (.ref f) us) (EP X pins σ Q) X.xe s:=by
 have r2:Vals (vs ++ dvs) (us ++ ds):=r.append hd;have hl:(us ++ ds).length=ps.length:=by rw [<- r2.length];exact F.len _ _ _ _ h
 refine wpAny_call (codeAny_mono (F.run X.A X.stack s H ⟨us,[]⟩ (us ++ ds) (vs ++ dvs) Q E hr I.di (hb s us I.BI hl) r2 h) λr s' hq=>?_)
 cases r with
 | error e=>exact hx pins σ H s e s' I hq
 | ok fl =>
  cases fl with
  | ret u=>exact I.after hq
  | next=>exact False.elim hq
  | brk=>exact False.elim hq
  | cont=>exact False.elim hq
theorem Dw (F:pU X.prog X.w X.K X.mg X.base CX k f fd ps sp) (hr:dG k X.A) (hg:Gl X x) (hm:X.mg x=some (.ref f)) (hk:PySem.W.keepIn X.K (.ref f)=true) (hb:Binds X.K fd ps ds) (hd:Vals dvs ds) (hx:Passes CX X E)
  (ha:PA X (e :: es) t) (hdb:(x == ("__debug__" : Str))=false:=by decide) (he:starEach (e :: es) X.env=(false,eval e X.env) :: starEach es X.env:=by rfl) (hpl:(backTo pos (starEach es X.env)).any (·.1)=false:=by rfl) :
  PE X (.Call (.Name x p) (e :: es) [] pos) (HS sp dvs E t):=by
 intro pins s σ H Q I h;refine wpAny_Call_Name_kw (j4 I hg hm ?_ hdb);refine PySem.W.callWith_K (h₀:=X.base) I.ok.mod.kin hk (bP (ha pos pins s σ H _ I h) λus s1 ⟨vs,H1,I1,r,q⟩=>⟨I1.BI,?_⟩) he hpl;exact He F hr hb hd hx I1 r q
end
structure aM (N P:List Str) (sc:Scope):Prop where
 kind:sc.kind=.function
 co:sc.isCoroutine=false
 gen:sc.isGenerator=false
 nd:N.Nodup
 pre:N.take P.length=P
 par:∀x∈P,sc.names.lookup x=some .local\/sc.names.lookup x=some .cell
 nofree:∀y∈sc.names,y.2≠.free
theorem se {kindOf:Str->Option NameKind} {x:Str}:∀{binds:List (Str×Value)} {m:Str->Option Value},(∀v,(x,v)∉binds)->bindL kindOf binds m x=m x
 | [],_,_=>rfl
 | (n,v) :: r,m,h=>by
  unfold bindL;rw [se λw hw=>h w (Ln _ hw)]
  split
  ·have:x≠n:=by rintro rfl;exact h v Lz
   simp [this]
  ·rfl
theorem sh {kindOf:Str->Option NameKind} {x:Str}:∀{binds:List (Str×Value)} {m:Str->Option Value},(∀v,(x,v)∉binds)->bindC kindOf binds m x=m x
 | [],_,_=>rfl
 | (n,v) :: r,m,h=>by
  unfold bindC;rw [sh λw hw=>h w (Ln _ hw)]
  split
  ·rfl
  ·have:x≠n:=by rintro rfl;exact h v Lz
   simp [this]
theorem sj {kindOf:Str->Option NameKind} {x:Str} {v:Value}:∀{P:List Str} {vs:List Value} {i:Nat} {m:Str->Option Value},P.Nodup->P[i]?=some x->vs[i]?=some v->kindOf x=some .local ->
  bindL kindOf (P.zip vs) m x=some v
 | [],_,_,_,_,h,_,_=>by simp at h
 | _ :: _,[],_,_,_,_,h,_=>by simp at h
 | p :: P,w :: vs,0,m,nd,h1,h2,hk=>by
  simp at h1 h2;subst h1;subst h2;show bindL kindOf ((p,w) :: P.zip vs) m p=_
  unfold bindL;rw [se λv hv=>(L5.mp nd).1 (List.of_mem_zip hv).1,if_pos hk]
  simp
 | p :: P,w :: vs,i + 1,m,nd,h1,h2,hk=>by
  show bindL kindOf ((p,w) :: P.zip vs) m x=_
  unfold bindL;exact sj (i:=i) (L5.mp nd).2 (by simpa using h1) (by simpa using h2) hk
theorem rK {kindOf:Str->Option NameKind} {x:Str} {v:Value}:∀{P:List Str} {vs:List Value} {i:Nat} {m:Str->Option Value},P.Nodup->P[i]?=some x->vs[i]?=some v->kindOf x≠some .local ->
  bindC kindOf (P.zip vs) m x=some v
 | [],_,_,_,_,h,_,_=>by simp at h
 | _ :: _,[],_,_,_,_,h,_=>by simp at h
 | p :: P,w :: vs,0,m,nd,h1,h2,hk=>by
  simp at h1 h2;subst h1;subst h2;show bindC kindOf ((p,w) :: P.zip vs) m p=_
  unfold bindC;rw [sh λv hv=>(L5.mp nd).1 (List.of_mem_zip hv).1,if_neg hk]
  simp
 | p :: P,w :: vs,i + 1,m,nd,h1,h2,hk=>by
  show bindC kindOf ((p,w) :: P.zip vs) m x=_
  unfold bindC;exact rK (i:=i) (L5.mp nd).2 (by simpa using h1) (by simpa using h2) hk
def start (N:List Str) (vs:List V):St:=vs.map some ++ List.replicate (N.length - vs.length) none
def kI (CX:A0) (P:Program) (w:World) (K:Le) (mg:Str->Option Value) (base:Heap) (N:List Str) (qual:Str) (scope:Scope) (f:Addr) (cd:Value) (A:Around) (outer:List Env) (s:Shared) (H:Hp) (E:XK):Cx where
 prog:=P
 w:=w
 K:=K
 mg:=mg
 base:=base
 A:=A.deeper (envOfC qual scope s.heap.objs.size f cd)
 N:=N
 s₀:=s
 H₀:=H
 env:=envOfC qual scope s.heap.objs.size f cd
 outer:=outer
 stack:=envOfC qual scope s.heap.objs.size f cd :: outer
 ex:=[]
 calm:=true
 fn:=λ_=>true
 pn:=[]
 xe:=λe s'=>wpAny (model P w) (A.deeper (envOfC qual scope s.heap.objs.size f cd)) (leaving (envOfC qual scope s.heap.objs.size f cd) e) (λ_ s''=>CX outer H s E e s'') (λe' s''=>CX outer H s E e' s'') s'
theorem wR {sc:Scope} {n:Nat} {x:Str} (h:sc.names.lookup x=some .cell):∃c,(cellsFrom n sc.names []).lookup x=some c:=by
 have q:=PySem.W.cellsFrom_some sc.names n [] (.inl h);exact Option.isSome_iff_exists.mp q
theorem zA {CX:A0} {P:Program} {w:World} {K:Le} {mg:Str->Option Value} {base:Heap} {N ps:List Str} {qual:Str} {scope:Scope} {f:Addr} {cd:Value} {A:Around} {outer:List Env} {s s1:Shared} {H:Hp} {E:XK} {us:List Value} {vs:List V}
  (S:aM N ps scope) (hd:A.handled=none) (e0:ya P w K mg base A outer s H) (hl:vs.length=ps.length) (r:Vals vs us)
  (x:InCallC s s.heap.objs.size (bindL (envOfC qual scope s.heap.objs.size f cd).kindOf (ps.zip us) λ_=>none) (cellsFrom (s.heap.objs.size + 1) scope.names []) (bindC (envOfC qual scope s.heap.objs.size f cd).kindOf (ps.zip us) λ_=>none) s1) :
  Inv (kI CX P w K mg base N qual scope f cd A outer s H E) [] (start N vs) H s1:=by
 have hpl:ps.length<=N.length:=by have:=congrArg List.length S.pre;rw [List.length_take] at this;omega
 obtain⟨h1,tk,rfl,hk⟩:=x.done;have noA:∀b:Addr,b∉(kI CX P w K mg base N qual scope f cd A outer s H E).ex:=λb z=>absurd (show b∈([]:List Addr) from z) (by simp)
 refine⟨⟨e0.mod,S.kind,rfl,rfl,Lh _,λy z c h1 h2=>?_,λy hy=>?_,λy c _ h=>?_,λ_=>hd,Around.frames_deeper e0.frames,.inr ⟨rfl,rfl⟩,λb z=>absurd z (noA b),e0.bs,e0.bsz,λb _ _=>noA b,λb z=>absurd z (noA b),e0.lU,e0.frf⟩,
  rfl,e0.bare,Un.kept hk,⟨_,x.toInCall.ns,λi y v h1 h2 h3=>?_⟩,λy c h=>⟨_,x.cell y c h⟩,e0.hok.fresh (Lh _),λy c h=>?_,λp hp=>absurd (show p∈([]:List (Addr×Obj)) from hp) (by simp),e0.hok.kept hk,?_⟩
 ·exact name_of_addr x.apart (PySem.mem_of_lookup h1) (PySem.mem_of_lookup h2)
 ·have hy:scope.names.lookup y=some .cell\/scope.names.lookup y=some .free:=hy;rcases hy with hy|hy
  ·exact wR hy
  ·exact absurd rfl (S.nofree _ (PySem.mem_of_lookup hy))
 ·exact Mn (x.above y c (PySem.mem_of_lookup h))
 ·have hi:i < vs.length:=by
   unfold start at h2
   by_cases hi:i < vs.length
   ·exact hi
   ·rw [Ls (by simpa using hi)] at h2;rw [LU] at h2
    split at h2 <;> cases h2
  have ha:vs[i]?=some v:=by
   unfold start at h2;rw [Lx (by simpa using hi),Lj] at h2
   cases e:vs[i]? with
   | none=>rw [e] at h2;cases h2
   | some a=>rw [e] at h2;cases h2;rfl
  obtain⟨u,hu,rv⟩:=r.get ha
  have hp:ps[i]?=some y:=by
   rw [<- S.pre,List.getElem?_take_of_lt (by omega)];exact h1
  have ndP:ps.Nodup:=by rw [<- S.pre];exact S.nd.sublist (List.take_sublist _ _)
  refine⟨u,rv,?_⟩;rcases S.par y (Lg hp) with k|k
  ·exact .inl ⟨k,sj ndP hp hu k⟩
  ·obtain⟨c,e⟩:=wR (n:=s.heap.objs.size + 1) k;refine .inr ⟨.inl k,c,e,?_⟩;have q:=x.cell y c e;rw [rK ndP hp hu (by show scope.names.lookup y≠_;rw [k];decide)] at q;exact q
 ·exact e0.hok.fresh (Mn (x.above y c (PySem.mem_of_lookup h)))
 ·unfold start;show _=N.length
  rw [LI,Ll,List.length_replicate];omega
theorem B8 {CX:A0} {P:Program} {w:World} {K:Le} {mg:Str->Option Value} {base:Heap} {k:Nat} {f:Addr} {name qual:Str} {params:Arguments} {body:List Stmt} {scope:Scope} {dV kV doc pm cdv ct oc:Value} {an od:Option Addr}
  {osl:Array (Option Value)} {N ps:List Str} {sp:Sp} (lk:K.lookup f=some ⟨oc,od,.func (PySem.W.fnOf name qual params body scope dV kV doc pm an cdv ct),osl⟩) (hcd:PySem.W.codeIn K cdv qual=true) (S:aM N ps scope)
  (len:∀vs H Q E,sp vs H Q E->vs.length=ps.length)
  (hbody:∀(A:Around) (outer:List Env) (s:Shared) (H:Hp) (vs:List V) (Q:VK) (E:XK),dG k (A.deeper (envOfC qual scope s.heap.objs.size f cdv))->sp vs H Q E ->
   ∃t,yb (kI CX P w K mg base N qual scope f cdv A outer s H E) body t/\t { nx:=λ_ H'=>Q .non H',rt:=Q } (start N vs) H) :
  pU P w K mg base CX (k + 1) f (PySem.W.fnOf name qual params body scope dV kV doc pm an cdv ct) ps sp:=by
 refine⟨len,λA outer s H args us vs Q E hr e0 hb r hsp=>?_⟩;have hl:=len _ _ _ _ hsp;have KX:K.In s.heap:=e0.mod.kin.keeps λb o e=>(e0.bs b o e).1;have lim:s.heap.NoLimit:=e0.mod.nolimit.keeps λb o e=>(e0.bs b o e).1
 have hkind:∀y∈ps.zip us,scope.names.lookup y.1=some .local\/(scope.names.lookup y.1=some .cell/\((cellsFrom (s.heap.objs.size + 1) scope.names []).lookup y.1).isSome=true):=fun⟨n,v⟩ hy=>by
  rcases S.par n (List.of_mem_zip hy).1 with q|q
  ·exact .inl q
  ·exact .inr ⟨q,PySem.W.cellsFrom_some _ _ _ (.inl q)⟩
 refine codeAny_call_function hr.depth (KX _ _ lk) rfl S.co S.gen rfl (PySem.W.codeRec_of KX hcd) (hb _ _ _ _ ?_);refine wpAny_newFunctionEnv_cells S.kind hkind λenv he s1 x=>?_;subst he;refine⟨lim.keeps x.toInCall.keep,codeAny_func ?_⟩;obtain⟨t,ht,hq⟩:=hbody A outer s H vs Q E (hr.deeper _) hsp;have I:Inv (kI CX P w K mg base N qual scope f cdv A outer s H E) [] (start N vs) H s1:=zA S hr.hd e0 hl r x
 refine LG (ht [] s1 (start N vs) H _ I hq) (λfl s' hs=>?_) λe s' hs=>hs
 have fin:∀{σ':St} {H':Hp} {v:V} {u:Value},Inv (kI CX P w K mg base N qual scope f cdv A outer s H E) [] σ' H' s'->RelV v u->Q v H'->CE outer P w H s Q u s' :=
  λ{σ' H' v u} J rv q=>⟨v,H',J.os,J.bare,J.base,J.hok,rv,q⟩
 cases fl with
 | ret u =>
  obtain⟨v,σ',H',J,rv,q⟩:=hs
  exact fin J rv q
 | next =>
  obtain⟨σ',H',J,q⟩:=hs
  exact fin (v:=V.non) (u:=Value.none) J rfl q
 | brk =>
  obtain⟨_,_,_,q⟩:=hs
  exact False.elim q
 | cont =>
  obtain⟨_,_,_,q⟩:=hs;exact False.elim q
section
variable {X:Cx} {x:Str} {p pos:Pos} {e:Expr} {es:List Expr} {t:TA} {id T:String} {r:List V->Hp->VK->Prop}
def J6 (r:List V->Hp->VK->Prop) (t:TA):TE:=λσ H Q=>t σ H λvs H1=>r vs H1 Q
theorem vI (hc:e7 X (.builtin id) r) (hg:Gl X x) (hm:X.mg x=none) (hv:bootBuiltins x=some (.builtin id)) (ha:PA X (e :: es) t) (hn:x≠"__name__":=by decide) (hdb:(x == ("__debug__" : Str))=false:=by decide)
  (he:starEach (e :: es) X.env=(false,eval e X.env) :: starEach es X.env:=by rfl) (hpl:(backTo pos (starEach es X.env)).any (·.1)=false:=by rfl):PE X (.Call (.Name x p) (e :: es) [] pos) (J6 r t):=by
 intro pins s σ H Q I h;refine wpAny_Call_Name_kw (lD I hg hm hv ?_ hn hdb);exact PyProof.Rows.callWith_builtin1 (bP (ha pos pins s σ H _ I h) λus s1 ⟨vs,H1,I1,r1,q1⟩=>hc pins s1 σ H1 vs us Q I1 r1 q1) he hpl
theorem kC (hc:e7 X (.type T) r) (hg:Gl X x) (hm:X.mg x=none) (hv:bootBuiltins x=some (.type T)) (ha:PA X (e :: es) t) (hn:x≠"__name__":=by decide) (hdb:(x == ("__debug__" : Str))=false:=by decide)
  (he:starEach (e :: es) X.env=(false,eval e X.env) :: starEach es X.env:=by rfl) (hpl:(backTo pos (starEach es X.env)).any (·.1)=false:=by rfl):PE X (.Call (.Name x p) (e :: es) [] pos) (J6 r t):=by
 intro pins s σ H Q I h;refine wpAny_Call_Name_kw (lD I hg hm hv ?_ hn hdb);exact PyProof.Rows.callWith_type1 (bP (ha pos pins s σ H _ I h) λus s1 ⟨vs,H1,I1,r1,q1⟩=>hc pins s1 σ H1 vs us Q I1 r1 q1) he hpl
end
end L2
namespace HT
open PySem PyProof.Rows
section
variable {prog:Program} {w:World} {A:Around} {E:Value->Shared->Prop} {s:Shared}
theorem DU {t b:Addr} {vs ws:List Value} {Q:Value->Shared->Prop} (ht:IsTup s.heap t vs.toArray) (hb:IsTup s.heap b ws.toArray) (hv:vs≠[])
  (h1:ws=[]->Q (.ref t) s) (h2:ws≠[]->Q (.ref s.heap.objs.size) { s with heap:=s.heap.push { cls:=.type "tuple",data:=.seq (vs ++ ws).toArray } })
  (hsz:vs.length + ws.length<=sizeLine):wpAny (model prog w) A (binaryOp .Add (.ref t) (.ref b)) Q E s:=by
 obtain⟨⟨cls,dd,data,sl⟩,ho,hc,n,hd⟩:=id ht;obtain⟨⟨cls2,dd2,data2,sl2⟩,ho2,hc2,n2,hd2⟩:=id hb;simp only at hc hd hc2 hd2;subst hc hd hc2 hd2;have e:vs.toArray ++ ws.toArray=(vs ++ ws).toArray:=by simp
 by_cases hw:ws=[]
 ·exact concat_meets ⟨_,ho,rfl⟩ ⟨_,ho2,rfl⟩ noFill_tuple_add seq_tuple_add PySem.F.slot_tuple_add PySem.F.entry_tuple_add (PySem.F.args_tuple_add_2 _ _)
   (tuple_addW1 t b vs.toArray ws.toArray n n2 dd dd2 sl sl2 (by simpa using hv) (by simp [hw])) ⟨ho,ho2,h1 hw⟩
 ·refine concat_meets ⟨_,ho,rfl⟩ ⟨_,ho2,rfl⟩ noFill_tuple_add seq_tuple_add PySem.F.slot_tuple_add PySem.F.entry_tuple_add (PySem.F.args_tuple_add_2 _ _)
   (tuple_addW2 t b vs.toArray ws.toArray n n2 dd dd2 sl sl2 (by simpa using hv) (by simpa using hw) (by rw [Ly,Ly];exact hsz)) ⟨ho,ho2,?_⟩
  rw [e];exact h2 hw
def fA (n d:Nat):Option Int->Nat
 | none=>d
 | some v=>if v < 0 then (v + (n:Int)).toNat else min v.toNat n
theorem yG (n d k:Nat):fA n d (some (k:Int))=min k n:=by
 show (if (k:Int) < 0 then ((k:Int) + (n:Int)).toNat else min (k:Int).toNat n)=min k n
 rw [if_neg (by omega),Int.toNat_natCast]
theorem Fj (n d:Nat) (hd:d<=n) (o:Option Int):fA n d o<=n:=by
 cases o with
 | none=>exact hd
 | some v =>
  show (if v < 0 then (v + (n:Int)).toNat else min v.toNat n)<=n
  by_cases hv:v < 0
  ·rw [if_pos hv];omega
  ·rw [if_neg hv];exact Nat.min_le_right _ _
theorem yy (v:Int) (n d:Nat):(if v < 0 then max (v + (n:Int)) 0 else min v (n:Int))=((fA n d (some v):Nat):Int):=by
 show (if v < 0 then max (v + (n:Int)) 0 else min v (n:Int))=(((if v < 0 then (v + (n:Int)).toNat else min v.toNat n):Nat):Int)
 by_cases hv:v < 0
 ·simp only [if_pos hv];omega
 ·simp only [if_neg hv];omega
theorem x5 (lo hi:Option Int) (n:Nat):Builtin.Slice.sliceAdjust lo hi 1 (n:Int)=(((fA n 0 lo:Nat):Int),((fA n n hi:Nat):Int)):=by
 have h1:¬ ((1:Int) < 0):=by omega
 unfold Builtin.Slice.sliceAdjust;simp only [h1,if_false];refine Mb ?_ ?_
 ·cases lo with
  | none=>rfl
  | some v=>exact yy v n 0
 ·cases hi with
  | none=>rfl
  | some v=>exact yy v n n
theorem xV (i j:Nat):Builtin.Slice.slicePlaces (i:Int) (j:Int) 1=j - i:=by
 unfold Builtin.Slice.slicePlaces;have h1:(1:Int) > 0:=by omega
 simp only [h1,if_true,Int.ediv_one]
 split <;> omega
theorem pA {v:Value} {o:Option Int} {Q:Option Int->Shared->Prop} (p:IsPart v o) (h:Q o s):wpAny (model prog w) A (Builtin.Slice.slicePartIndex v) Q E s:=by
 cases p with
 | none=>exact slicePart_none h
 | int i t=>exact slicePart_int h
theorem nY {sl:Addr} {vl vu:Value} {lo hi:Option Int} {n:Nat} {Q:Int×Int×Nat->Shared->Prop} (hs:s.heap.IsSliceOf sl vl vu .none) (pl:IsPart vl lo) (pu:IsPart vu hi)
  (h:Q (((fA n 0 lo:Nat):Int),1,fA n n hi - fA n 0 lo) s):wpAny (model prog w) A (Builtin.Slice.sliceApplied (.ref sl) (pure (n:Int))) Q E s:=by
 obtain⟨os,hos,hcs,hds⟩:=id hs;unfold Builtin.Slice.sliceApplied Builtin.Slice.sliceFields;refine K9 (K9 (wpAny_field hos hds (x:=vl) rfl (K9 (wpAny_field hos hds (x:=vu) rfl (K9 (wpAny_field hos hds (x:=.none) rfl (Lf ?_)))))));refine K9 (slicePart_none ?_);show wpAny _ _ (if ((1:Int) == 0)=true then _ else _) _ _ s
 rw [if_neg (by decide)];refine K9 (pA pl (K9 (pA pu (K9 (Lf ?_)))));show wpAny _ _ (match Builtin.Slice.sliceAdjust lo hi 1 (n:Int) with|(lo,hi)=>pure (lo,(1:Int),Builtin.Slice.slicePlaces lo hi 1)) _ _ s
 rw [x5 lo hi n];show wpAny _ _ (pure (((fA n 0 lo:Nat):Int),(1:Int),Builtin.Slice.slicePlaces ((fA n 0 lo:Nat):Int) ((fA n n hi:Nat):Int) 1)) _ _ s
 rw [xV];exact Lf h
theorem AD (xs:Array Value) (i k:Nat):((List.range k).filterMap λ(m:Nat)=>xs[((i:Int) + (m:Int) * 1).toNat]?).toArray=((xs.toList.drop i).take k).toArray:=by
 have e:(λ(m:Nat)=>xs[((i:Int) + (m:Int) * 1).toNat]?)=λm=>xs[i + m]?:=by
  funext m;have:((i:Int) + (m:Int) * 1).toNat=i + m:=by omega
  rw [this]
 rw [e];have:=pick_run xs i k;rw [List.filterMap_map] at this;have e2:((λx=>xs[x]?)∘λx=>i + x)=λm=>xs[i + m]?:=rfl;rw [e2] at this;rw [this]
theorem lT {t sl:Addr} {items:Array Value} {vl vu:Value} {lo hi:Option Int} {Q:Value->Shared->Prop} (ht:IsTup s.heap t items) (hs:s.heap.IsSliceOf sl vl vu .none) (pl:IsPart vl lo) (pu:IsPart vu hi)
  (hw:¬ (fA items.size 0 lo=0/\fA items.size items.size hi=items.size))
  (h:Q (.ref s.heap.objs.size) { s with heap:=s.heap.push { cls:=.type "tuple",data:=.seq ((items.toList.drop (fA items.size 0 lo)).take (fA items.size items.size hi - fA items.size 0 lo)).toArray } })
  (hsz:items.size<=sizeLine):wpAny (model prog w) A (getItem (.ref t) (.ref sl)) Q E s:=by
 have htake:sizeOk (.seq ((items.toList.drop (fA items.size 0 lo)).take (fA items.size items.size hi - fA items.size 0 lo)).toArray):=by
  show ((items.toList.drop (fA items.size 0 lo)).take (fA items.size items.size hi - fA items.size 0 lo)).toArray.size<=sizeLine
  rw [Ly,List.length_take,List.length_drop,Array.length_toList];omega
 have hj:fA items.size items.size hi<=items.size:=Fj _ _ (Lh _) hi;obtain⟨os,hos,hcs,hds⟩:=id hs;have hTs:s.TypeIs (.ref sl) "slice":=⟨os,hos,hcs⟩
 unfold getItem
 try with_reducible refine wpAny_holding ?_
 first|refine K9 (Lf ?_)|skip
 refine K9 (wpAny_sequenceKey ht.typeIs (by decide) ?_)
 refine K9 (LV (name:=Str.ofString "__getitem__") ht.typeIs PyProof.Rows.slot_tuple_getitem
  (wpAny_call_entry PyProof.Rows.slot_tuple_getitem ht.typeIs entry_tuple_getitem ?_ (args_tuple_getitem _ _)))
 show wpAny _ _ (Builtin.Tuple.tupleItemsOf (.ref t) >>= _) _ _ s
 refine K9 (tupleItemsOf_ ht ?_);refine K9 (wpAny_typeOf hTs ?_);rw [if_pos (by decide)];refine K9 (nY hs pl pu ?_)
 have hno:¬ ((((fA items.size 0 lo:Nat):Int) == 0 && (1:Int) == 1 && (fA items.size items.size hi - fA items.size 0 lo) == items.size)=true):=by
  intro q;rw [Bool.and_eq_true,Bool.and_eq_true] at q;have q1:((fA items.size 0 lo:Nat):Int)=0:=eq_of_beq q.1.1;have q2:fA items.size items.size hi - fA items.size 0 lo=items.size:=eq_of_beq q.2;exact hw ⟨by omega,by omega⟩
 show wpAny _ _ (if (((fA items.size 0 lo:Nat):Int) == 0 && (1:Int) == 1 && (fA items.size items.size hi - fA items.size 0 lo) == items.size)=true then _ else _) _ _ s
 rw [if_neg hno,AD]
 first
  | exact K9 (m:=Builtin.Tuple.tupleExact _) (wpAny_newObj_type (Lf ⟨_,rfl,Lf h⟩) htake)
  | exact K9 (m:=Builtin.Tuple.tupleExact _) (wpAny_newObj_type (K9 (Lf (Lf ⟨_,rfl,Lf h⟩))) htake)
  | exact K9 (K9 (m:=Builtin.Tuple.tupleExact _) (wpAny_newObj_type (Lf (Lf ⟨_,rfl,Lf h⟩)) htake))
  | exact K9 (K9 (m:=Builtin.Tuple.tupleExact _) (wpAny_newObj_type (Lf ⟨_,rfl,Lf h⟩) htake))
end
end HT
namespace L2
open PySem PySem.Spec PyProof.Rows
abbrev TO:=St->Hp->(Option Int->Hp->Prop)->Prop
def PO (X:Cx) (e:Option Expr) (t:TO):Prop :=
 ∀(pins:List (Addr×Obj)) (s:Shared) (σ:St) (H:Hp) (Q:Option Int->Hp->Prop),Inv X pins σ H s->t σ H Q ->
  wpAny (model X.prog X.w) X.A (evalPart e X.env) (λu s'=>∃o H',Inv X pins σ H' s'/\IsPart u o/\Q o H') X.xe s
def HX (t:TE):TO:=λσ H Q=>t σ H λx H1=>∃i,x=.int i/\Q (some i) H1
section
variable {X:Cx} {e:Expr} {te:TE} {lo hi:Option Expr} {tl th:TO} {pos p2:Pos}
theorem Dy (h:PE X e te):PO X (some e) (HX te):=by
 intro pins s σ H Q I hw;rw [evalPart_some];refine bP (h pins s σ H _ I hw) λu s1 hq0=>?_;obtain⟨x,H1,I1,r1,q1⟩:=hq0;obtain⟨i,rfl,q⟩:=q1;obtain⟨t,rfl⟩:=r1;exact⟨some i,H1,I1,.int i t,q⟩
def EL (X:Cx) (r:V->Option Int->Option Int->Hp->VK->Prop):Prop :=
 ∀(pins:List (Addr×Obj)) (s:Shared) (σ:St) (H:Hp) (x:V) (v vl vu:Value) (lo hi:Option Int) (sl:Addr) (Q:VK),Inv X pins σ H s->RelV x v->s.heap.IsSliceOf sl vl vu .none->IsPart vl lo->IsPart vu hi->r x lo hi H Q ->
  ∃T id,typeLookup (.type T) "__getitem__" = pure (some (.builtin id))/\s.TypeIs v T/\wpAny (model X.prog X.w) X.A (getItem v (.ref sl)) (EP X pins σ Q) X.xe s
theorem EL.or {r r':V->Option Int->Option Int->Hp->VK->Prop} (h:EL X r) (h':EL X r'):EL X (λx lo hi H Q=>r x lo hi H Q\/r' x lo hi H Q):=by
 intro pins s σ H x v vl vu lo hi sl Q I rx hs pl pu q;rcases q with q|q
 ·exact h pins s σ H x v vl vu lo hi sl Q I rx hs pl pu q
 ·exact h' pins s σ H x v vl vu lo hi sl Q I rx hs pl pu q
def KQ (r:V->Option Int->Option Int->Hp->VK->Prop) (te:TE) (tl th:TO):TE:=λσ H Q=>te σ H λx H1=>tl σ H1 λl H2=>th σ H2 λu H3=>r x l u H3 Q
theorem AY {r:V->Option Int->Option Int->Hp->VK->Prop} (hr:EL X r) (he:PE X e te) (hl:PO X lo tl) (hu:PO X hi th):PE X (.Subscript e (.Slice lo hi none p2) pos) (KQ r te tl th):=by
 intro pins s σ H Q I h;refine Subscript_ (bP (he pins s σ H _ I h) λv s1 hq0=>?_);obtain⟨x,H1,I1,r1,q1⟩:=hq0;refine wpAny_Slice (bP (hl pins s1 σ H1 _ I1 q1) λvl s2 ⟨l,H2,I2,pl,q2⟩=>bP (hu pins s2 σ H2 _ I2 q2) λvu s3 hq0=>?_);obtain⟨u,H3,I3,pu,q3⟩:=hq0;rw [evalPart_none];refine Lf ?_;have I4:Inv X pins σ H3 { s3 with heap:=s3.heap.push { cls:=.type "slice",data:=.fields #[vl,vu,.none] } }:=I3.kept (t':=s3.toks) λb ob q=>Ld _ q
 obtain⟨T,id,hT,ht,hg⟩:=hr pins { s3 with heap:=s3.heap.push { cls:=.type "slice",data:=.fields #[vl,vu,.none] } } σ H3 x v vl vu l u s3.heap.objs.size Q I4 r1 (Heap.IsSliceOf.new ..) pl pu q3
 show wpAny (model X.prog X.w) X.A (subscriptTail e (.Slice lo hi none p2) v (.ref s3.heap.objs.size)) (EP X pins σ Q) X.xe { s3 with heap:=s3.heap.push { cls:=.type "slice",data:=.fields #[vl,vu,.none] } }
 exact tail_any (ops:=[.ref s3.heap.objs.size,v]) ht hT hg (by with_unfolding_all rfl)
def qS (xs:List V) (lo hi:Option Int):List V:=(xs.drop (HT.fA xs.length 0 lo)).take (HT.fA xs.length xs.length hi - HT.fA xs.length 0 lo)
theorem oG (xs:List V) (lo hi:Option Int):(qS xs lo hi).length<=xs.length:=by
 unfold qS;rw [List.length_take,List.length_drop];omega
def Kd (K:Le):V->Option Int->Option Int->Hp->VK->Prop:=λx lo hi H Q=>∃a xs,x=.ref a/\gr K H a xs /\
 ¬ (HT.fA xs.length 0 lo=0/\HT.fA xs.length xs.length hi=xs.length)/\∀p,H p=none->Q (.ref p) (upd H p (.tup (qS xs lo hi)))
theorem G8:EL X (Kd X.K):=by
 intro pins s σ H x v vl vu lo hi sl Q I rx hs pl pu h;obtain⟨a,xs,rfl,hx,hw,q⟩:=h;cases rx;obtain⟨its,r,ht,hz⟩:=I.tuple hx;have hlen:its.toArray.size=xs.length:=by rw [Ly];exact r.length.symm
 refine⟨"tuple",_,PyProof.Rows.slot_tuple_getitem.lookup,ht.typeIs,?_⟩
 refine HT.lT ht hs pl pu (by rw [hlen];exact hw) ?_ (by rw [hlen];exact hz);rw [hlen];refine⟨.ref s.heap.objs.size,_,I.laid (t':=s.toks) (o:=.tup (qS xs lo hi)) (λb ob q=>Ld _ q) (Lh _) ?_,rfl,q _ (I.hok.fresh (Lh _))⟩;exact⟨L6 (oG xs lo hi) hz,_,(r.drop (HT.fA xs.length 0 lo)).take (HT.fA xs.length xs.length hi - HT.fA xs.length 0 lo),pD.new _ _⟩
def EN (K:Le):R2:=λx y H Q=>∃a b xs ys,x=.ref a/\y=.ref b/\gr K H a xs/\gr K H b ys/\xs≠[]/\xs.length + ys.length<=sizeLine /\
 (ys=[]->Q (.ref a) H)/\(ys≠[]->∀p,H p=none->Q (.ref p) (upd H p (.tup (xs ++ ys))))
theorem Vals.t7 {xs:List V} {us:List Value} (r:Vals xs us):us=[]↔xs=[]:=by
 cases r with
 | nil=>simp
 | cons _ _=>simp
theorem Et:jq X (binaryOp .Add) (EN X.K):=by
 intro pins s σ H x y v u Q I rx ry h;obtain⟨a,b,xs,ys,rfl,rfl,ha,hb,hx,hz,q1,q2⟩:=h;cases rx;cases ry;obtain⟨its,r1,p1,_⟩:=I.tuple ha;obtain⟨its2,r2,p2,_⟩:=I.tuple hb;refine HT.DU p1 p2 (λz=>hx (r1.t7.mp z)) (λz=>⟨.ref a,H,I,rfl,q1 (r2.t7.mp z)⟩) (λz=>?_) (by rw [<- r1.length,<- r2.length];exact hz);refine⟨.ref s.heap.objs.size,_,I.laid (t':=s.toks) (o:=.tup (xs ++ ys)) (λb ob q=>Ld _ q) (Lh _) ?_,rfl,q2 (λw=>z (r2.t7.mpr w)) _ (I.hok.fresh (Lh _))⟩
 exact⟨by rw [LI];exact hz,_,r1.append r2,pD.new _ _⟩
end
def rZ (n:Nat) (i:Int):Option Nat:=if 0<=i then (if i < n then some i.toNat else none) else if -(n:Int)<=i then some (i + n).toNat else none
def j6 {α:Type} (xs:List α) (i:Int):Option α:=(rZ xs.length i).bind λj=>xs[j]?
theorem o3 {n:Nat} {i:Int} {j:Nat} (h:rZ n i=some j):seqIndex? i n=some j/\j < n/\-(n:Int)<=i/\i < n:=by
 unfold rZ at h
 by_cases h0:0<=i
 ·rw [if_pos h0] at h
  by_cases h1:i < n
  ·rw [if_pos h1] at h;have e:i.toNat=j:=Li h;exact⟨by rw [seqIndex_of h0 h1,e],by omega,by omega,h1⟩
  ·rw [if_neg h1] at h;cases h
 ·rw [if_neg h0] at h
  by_cases h1:-(n:Int)<=i
  ·rw [if_pos h1] at h;have e:(i + n).toNat=j:=Li h;exact⟨by rw [seqIndex_neg (by omega) h1,e],by omega,h1,by omega⟩
  ·rw [if_neg h1] at h;cases h
theorem sR {α:Type} {xs:List α} {i:Int} {v:α} (h:j6 xs i=some v):∃j,seqIndex? i xs.length=some j/\xs[j]?=some v/\j < xs.length/\-(xs.length:Int)<=i/\i < xs.length:=by
 unfold j6 at h
 cases e:rZ xs.length i with
 | none=>rw [e] at h;cases h
 | some j =>
  rw [e] at h;obtain⟨h1,h2,h3,h4⟩:=o3 e;exact⟨j,h1,h,h2,h3,h4⟩
def m4 (b:Expr):Prop:=∀o i,subscripted b false o i=operate [o,i] (getItem o i)
def CO (X:Cx) (r:R2):Prop :=
 ∀(value slice:Expr) (pins:List (Addr×Obj)) (s:Shared) (σ:St) (H:Hp) (x y:V) (v u:Value) (Q:VK),Inv X pins σ H s->RelV x v->RelV y u->r x y H Q ->
  subscripted slice false v u=operate [v,u] (getItem v u)->wpAny (model X.prog X.w) X.A (subscriptTail value slice v u) (EP X pins σ Q) X.xe s
def K8 (X:Cx) (id:String) (r:V->List V->Hp->VK->Prop):Prop :=
 ∀(pins:List (Addr×Obj)) (s:Shared) (σ:St) (H:Hp) (x:V) (xs:List V) (v:Value) (us:List Value) (Q:VK),Inv X pins σ H s->RelV x v->Vals xs us->r x xs H Q ->
  wpAny (model X.prog X.w) X.A (call (.builtin id) (v :: us)) (EP X pins σ Q) X.xe s
section
variable {X:Cx} {a b:Expr} {ta tb:TE} {pos:Pos}
theorem CO.or {r r':R2} (h:CO X r) (h':CO X r'):CO X (λx y H Q=>r x y H Q\/r' x y H Q):=by
 intro value slice pins s σ H x y v u Q I rx ry q hs;rcases q with q|q
 ·exact h value slice pins s σ H x y v u Q I rx ry q hs
 ·exact h' value slice pins s σ H x y v u Q I rx ry q hs
theorem y4 {r:R2} (hr:CO X r) (ha:PE X a ta) (hb:PE X b tb) (hs:m4 b):PE X (.Subscript a b pos) (Hw r ta tb):=by
 intro pins s σ H Q I h;exact Subscript_ (Fv ha hb I h λv u s2 x y H2 I2 rx ry q=>hr a b pins s2 σ H2 x y v u Q I2 rx ry q (hs _ _))
def HM (K:Le):R2:=λx y H Q=>∃p xs i v,x=.ref p/\y=.int i/\fZ K H p xs/\j6 xs i=some v/\Q v H
def IF (K:Le):R2:=λx y H Q=>∃p xs i v,x=.ref p/\y=.int i/\gr K H p xs/\j6 xs i=some v/\Q v H
def Jr:R2:=λx y H Q=>∃z i c,x=.str z/\y=.int i/\z.length<=sizeLine/\j6 z.cps.toList i=some c/\Q (.str ⟨#[c]⟩) H
theorem yJ:CO X (HM X.K):=by
 intro value slice pins s σ H x y v u Q I rx ry h hs;obtain⟨p,xs,i,z,rfl,rfl,hq,he,q⟩:=h;cases rx;obtain⟨t,rfl⟩:=ry;obtain⟨its,r,pl,hz⟩:=I.list hq;obtain⟨j,h1,h2,h3,h4,h5⟩:=sR he;obtain⟨w,ew,rw'⟩:=r.get h2;have hl:=r.length;have hn:=nD;have fin:EP X pins σ Q w s:=⟨z,H,I,rw',q⟩
 by_cases h0:0<=i
 ·have hj:i.toNat=j:=by
   rw [seqIndex_of h0 h5] at h1;exact Li h1
  exact item_listR pl.isList h0 (by omega) (by rw [hj];simpa using ew) fin hs
 ·have hj:(i + (its.toArray.size:Int)).toNat=j:=by
   rw [seqIndex_neg (by omega) h4] at h1;rw [Ly,<- hl];exact Li h1
  exact subscriptTail_builtinR (x:=w) pl.isList.typeIs slot_list_getitem.lookup
   (wpAny_getItem_list_neg (Q:=λr s'=>r=w/\EP X pins σ Q r s') pl.isList (by omega) (by rw [Ly] <;> omega) (by omega) (by rw [hj];simpa using ew) ⟨rfl,fin⟩) hs
theorem Fg:CO X (IF X.K):=by
 intro value slice pins s σ H x y v u Q I rx ry h hs;obtain⟨p,xs,i,z,rfl,rfl,hq,he,q⟩:=h;cases rx;obtain⟨t,rfl⟩:=ry;obtain⟨its,r,pl,hz⟩:=I.tuple hq;obtain⟨j,h1,h2,h3,h4,h5⟩:=sR he;obtain⟨w,ew,rw'⟩:=r.get h2;have hl:=r.length;have hn:=nD;have fin:EP X pins σ Q w s:=⟨z,H,I,rw',q⟩
 exact subscriptTail_builtinR (x:=w) pl.typeIs slot_tuple_getitem.lookup
  (getItem_tuple (j:=j) (Q:=λr s'=>r=w/\EP X pins σ Q r s') pl (by omega) (by omega) (by rw [Ly,<- hl];exact h1) (by simpa using ew) ⟨rfl,fin⟩) hs
theorem Fu:CO X Jr:=by
 intro value slice pins s σ H x y v u Q I rx ry h hs;obtain⟨z,i,c,rfl,rfl,hz,he,q⟩:=h;obtain⟨t,rfl⟩:=rx;obtain⟨t',rfl⟩:=ry;obtain⟨j,h1,h2,h3,h4,h5⟩:=sR he;have hl:z.cps.toList.length=z.length:=by simp [Str.length]
 rw [hl] at h1 h4 h5;have hn:=nD
 exact tail_any (typeIs_str s z t) slot_str_getitem.lookup (getItem_str (c:=c) (by
  have e1:decide (i < -(2 ^ 63:Int))=false:=decide_eq_false (by omega);have e2:decide (i≥2 ^ 63)=false:=decide_eq_false (by omega)
  rw [e1,e2,Bool.or_false]) (by rw [h1];simpa using h2) ⟨.str ⟨#[c]⟩,H,I.tok _,⟨_,rfl⟩,q⟩) hs
def JY (K:Le):R2:=λx y H Q=>HM K x y H Q\/IF K x y H Q\/Jr x y H Q
theorem AE:CO X (JY X.K):=yJ.or (Fg.or Fu)
theorem xE (its:List Value) (n j:Nat) (u:Value):Obj.mapSeq (·.setIfInBounds j u) { cls:=.type "list",data:=.seq its.toArray n }={ cls:=.type "list",data:=.seq (its.set j u).toArray n }:=by
 simp [Obj.mapSeq]
theorem Inv.lst {pins:List (Addr×Obj)} {σ:St} {H:Hp} {s:Shared} {p:Addr} {xs:List V} (I:Inv X pins σ H s) (h:H p=some (.lst xs)) :
  ∃(its:List Value) (n:Nat),Vals xs its/\s.heap.get? p=some { cls:=.type "list",data:=.seq its.toArray n }/\xs.length<=sizeLine:=by
 obtain⟨z,its,n,r,e⟩:=I.hok p _ h;exact⟨its,n,r,e,z⟩
theorem Inv.Gf {pins:List (Addr×Obj)} {σ:St} {H:Hp} {s:Shared} {p:Addr} {xs ys:List V} {its its':List Value} {n n':Nat} {f:Obj->Obj} (I:Inv X pins σ H s) (h:H p=some (.lst xs))
  (ho:s.heap.get? p=some { cls:=.type "list",data:=.seq its.toArray n }) (hf:f { cls:=.type "list",data:=.seq its.toArray n }={ cls:=.type "list",data:=.seq its'.toArray n' }) (r:Vals ys its') (hz:ys.length<=sizeLine) (t:Nat) :
  Inv X pins σ (upd H p (.lst ys)) { s with heap:=s.heap.update p f,toks:=t }:=by
 have e:(s.heap.update p f).get? p=some { cls:=.type "list",data:=.seq its'.toArray n' }:=by
  rw [Heap.get?_update_self f ho (by rw [hf] <;> rfl),hf]
 refine I.write (x:=p) (e:=p) (by rw [h];trivial) (.inl rfl) (λb u hb q=>(Heap.get?_update_other _ _ (Ne.symm hb)).trans q) ⟨_,e⟩ ?_
 exact⟨hz,its',n',r,e⟩
def HE:V->V->V->Hp->(Hp->Prop)->Prop:=λo i v H Q=>∃p xs k j,o=.ref p/\i=.int k/\H p=some (.lst xs)/\rZ xs.length k=some j/\Q (upd H p (.lst (xs.set j v)))
theorem set_list:GY X HE:=by
 intro pins s σ H o i v ov iv u Q I ro ri rv h;obtain⟨p,xs,k,j,rfl,rfl,hp,hj,q⟩:=h;cases ro;obtain⟨t,rfl⟩:=ri;obtain⟨its,n,r,ho,hz⟩:=I.lst hp;obtain⟨h1,h2,h3,h4⟩:=o3 hj;have hl:=r.length;have hn:=nD
 have I':Inv X pins σ (upd H p (.lst (xs.set j v))) { s with heap:=s.heap.update p (Obj.mapSeq (·.setIfInBounds j u)) } :=
  I.Gf hp ho (xE its n j u) (r.set rv j) (by rw [List.length_set];exact hz) s.toks
 by_cases h0:0<=k
 ·have hk:k.toNat=j:=by
   rw [seqIndex_of h0 h4] at h1;exact Li h1
  exact PySem.W.ki_setAt ho h0 (by omega) (by rw [Ly,<- hl];exact h4) (by rw [hk];exact⟨_,I',q⟩)
 ·have hk:(k + (its.toArray.size:Int)).toNat=j:=by
   rw [seqIndex_neg (by omega) h3] at h1;rw [Ly,<- hl];exact Li h1
  exact PySem.W.ki_setBack ho (by omega) (by rw [Ly,<- hl];exact h3) (by omega) (by rw [hk];exact⟨_,I',q⟩)
theorem t5 (lo hi:Option Int) (n:Nat):(sliceBounds lo hi none n).1=((HT.fA n 0 lo:Nat):Int)/\(sliceBounds lo hi none n).2.1=((HT.fA n n hi:Nat):Int)/\(sliceBounds lo hi none n).2.2=1:=by
 refine⟨?_,?_,rfl⟩
 ·cases lo with
  | none=>simp [sliceBounds,HT.fA]
  | some i =>
   simp only [sliceBounds,HT.fA,Option.getD_none,show (1:Int) > 0 by decide,if_true]
   by_cases h:i < 0
   ·simp only [h,if_true] <;> omega
   ·simp only [h,if_false] <;> omega
 ·cases hi with
  | none=>simp [sliceBounds,HT.fA]
  | some i =>
   simp only [sliceBounds,HT.fA,Option.getD_none,show (1:Int) > 0 by decide,if_true]
   by_cases h:i < 0
   ·simp only [h,if_true] <;> omega
   ·simp only [h,if_false] <;> omega
theorem qW (its:List Value) (lo hi:Option Int):slicePick its.toArray lo hi none=((its.drop (HT.fA its.length 0 lo)).take (HT.fA its.length its.length hi - HT.fA its.length 0 lo)).toArray:=by
 obtain⟨h1,h2,h3⟩:=t5 lo hi its.toArray.size;unfold slicePick;rw [h1,h2,h3];simp only [sliceRange_one,pick_run,Ly] <;> rfl
def JX (K:Le):V->Option Int->Option Int->Hp->VK->Prop:=λx lo hi H Q=>∃a xs,x=.ref a/\fZ K H a xs/\∀p,H p=none->Q (.ref p) (upd H p (.lst (qS xs lo hi)))
theorem Ee:EL X (JX X.K):=by
 intro pins s σ H x v vl vu lo hi sl Q I rx hs pl pu h;obtain⟨a,xs,rfl,hx,q⟩:=h;cases rx;obtain⟨its,r,ht,hz⟩:=I.list hx;have hlen:=r.length;refine⟨"list",_,slot_list_getitem.lookup,ht.isList.typeIs,?_⟩
 refine wpAny_getItem_list_slice ht.isList hs pl pu .none (by simp) ?_ (by rw [Ly] <;> omega)
 rw [qW,<- hlen];refine⟨.ref s.heap.objs.size,_,I.laid (t':=s.toks) (o:=.lst (qS xs lo hi)) (λb ob q=>Ld _ q) (Lh _) ?_,rfl,q _ (I.hok.fresh (Lh _))⟩;exact⟨L6 (oG xs lo hi) hz,_,0,(r.drop (HT.fA xs.length 0 lo)).take (HT.fA xs.length xs.length hi - HT.fA xs.length 0 lo),Lv _ rfl⟩
theorem mV:e7 X (.builtin "len") (λxs H Q=>∃p ys,xs=[.ref p]/\(fZ X.K H p ys\/gr X.K H p ys)/\Q (.int ys.length) H):=by
 intro pins s σ H xs us Q I r h;obtain⟨p,ys,rfl,hq,q⟩:=h;obtain⟨u,rfl,rx⟩:=vals1 r;cases rx;have hn:=nD;rcases hq with hq|hq
 ·obtain⟨its,r',pl,hz⟩:=I.list hq;have hlen:=r'.length;exact Calls.call_len_list pl.isList (by simp only [Ly] <;> omega) ⟨.int ys.length,H,I.tok _,⟨s.toks + 1,by rw [Ly,hlen]⟩,q⟩
 ·obtain⟨its,r',pl,hz⟩:=I.tuple hq;have hlen:=r'.length;exact len_tuple pl (by simp only [Ly] <;> omega) ⟨.int ys.length,H,I.tok _,⟨s.toks + 1,by rw [Ly,hlen]⟩,q⟩
theorem uP:e7 X (.builtin "len") (λxs H Q=>∃z,xs=[.str z]/\z.length<=sizeLine/\Q (.int z.length) H):=by
 intro pins s σ H xs us Q I r h;obtain⟨z,rfl,hz,q⟩:=h;obtain⟨u,rfl,t,rfl⟩:=vals1 r;have hn:=nD;exact len_str (by omega) ⟨.int z.length,H,I.tok _,⟨_,rfl⟩,q⟩
theorem e7.or {f:Value} {r r':List V->Hp->VK->Prop} (h:e7 X f r) (h':e7 X f r'):e7 X f (λxs H Q=>r xs H Q\/r' xs H Q):=by
 intro pins s σ H xs us Q I rs q;rcases q with q|q
 ·exact h pins s σ H xs us Q I rs q
 ·exact h' pins s σ H xs us Q I rs q
theorem mD:e7 X (.type "list") (λxs H Q=>∃p ys,xs=[.ref p]/\(fZ X.K H p ys\/gr X.K H p ys)/\∀l,H l=none->Q (.ref l) (upd H l (.lst ys))):=by
 intro pins s σ H xs us Q I r h;obtain⟨p,ys,rfl,hq,q⟩:=h;obtain⟨u,rfl,rx⟩:=vals1 r;cases rx
 have fin:∀(its:List Value),Vals ys its->ys.length<=sizeLine->∀(h':Heap) (c':Nat),(∀b o',s.heap.get? b=some o'->h'.get? b=some o') ->
   h'.get? s.heap.objs.size=some { cls:=.type "list",dict:=none,data:=.seq its.toArray c',slots:=#[] }->EP X pins σ Q (.ref s.heap.objs.size) { s with heap:=h' }:=λits r' hz h' c' kp e =>
  ⟨.ref s.heap.objs.size,_,I.laid (t':=s.toks) kp (Lh _) (show bH X.prog X.w _ h' _ (.lst ys) from ⟨hz,its,c',r',e⟩),rfl,q _ (I.hok.fresh (Lh _))⟩
 rcases hq with hq|hq
 ·obtain⟨its,r',pl,hz⟩:=I.list hq;have hlen:=r'.length;obtain⟨o,ho,hc,n,hd⟩:=pl.isList;exact call_list_seq p (.inl rfl) ho hc hd (λh' c' kp e=>fin its r' hz h' c' kp e) (by simp only [Ly] <;> omega)
 ·obtain⟨its,r',pl,hz⟩:=I.tuple hq;have hlen:=r'.length;obtain⟨o,ho,hc,n,hd⟩:=pl;exact call_list_seq p (.inr rfl) ho hc hd (λh' c' kp e=>fin its r' hz h' c' kp e) (by simp only [Ly] <;> omega)
theorem rD:e7 X (.type "tuple") (λxs H Q=>∃p ys,xs=[.ref p]/\((fZ X.K H p ys/\∀l,H l=none->Q (.ref l) (upd H l (.tup ys)))\/(gr X.K H p ys/\Q (.ref p) H))):=by
 intro pins s σ H xs us Q I r h;obtain⟨p,ys,rfl,h⟩:=h;obtain⟨u,rfl,rx⟩:=vals1 r;cases rx;rcases h with ⟨hq,q⟩|⟨hq,q⟩
 ·obtain⟨its,r',pl,hz⟩:=I.list hq;have hlen:=r'.length;refine call_tuple_list pl.isList (λh' kp=>?_) (by simp only [Ly] <;> omega)
  have I1:Inv X pins σ H { s with heap:=h' }:=I.kept (t':=s.toks) kp
  have I2:Inv X pins σ (upd H h'.objs.size (.tup ys)) { s with heap:=h'.push { cls:=.type "tuple",data:=.seq its.toArray } } :=
   I1.laid (t':=s.toks) (λb o e=>Ld _ e) (Lh _) (show bH X.prog X.w _ _ _ (.tup ys) from ⟨hz,its,r',pD.new _ _⟩)
  exact⟨.ref h'.objs.size,_,I2,rfl,q _ (I1.hok.fresh (Lh _))⟩
 ·obtain⟨its,r',pl,hz⟩:=I.tuple hq;exact call_tuple_same pl ⟨.ref p,H,I,rfl,q⟩
def KD (K:Le) (T:String) (x:V) (H:Hp):Prop:=match x with
 | .str _=>T = "str"
 | .int _=>T = "int"
 | .ref p=>(T = "list"/\∃xs,fZ K H p xs)\/(T = "tuple"/\∃o,K.lookup p=some o/\o.cls=.type "tuple"/\o.dict=none) \/
   (T = "dict"/\((∃kvs,H p=some (.dK kvs))\/∃kvs,H p=some (.dT kvs)))\/(T = "set"/\∃S n,H p=some (.set S n))
 | _=>False
theorem Gs {pins:List (Addr×Obj)} {σ:St} {H:Hp} {s:Shared} {T:String} {x:V} {v:Value} (I:Inv X pins σ H s) (r:RelV x v) (ty:KD X.K T x H) :
  s.TypeIs v T/\∀a,v=.ref a->∃ob,s.heap.get? a=some ob/\ob.dict=none:=by
 cases x with
 | str z =>
  obtain⟨t,rfl⟩:=r;cases (show T = "str" from ty)
  exact⟨typeIs_str s z t,λ_ e=>nomatch e⟩
 | int i =>
  obtain⟨t,rfl⟩:=r;cases (show T = "int" from ty)
  exact⟨typeIs_int s i t,λ_ e=>nomatch e⟩
 | ref p =>
  cases r;rcases ty with ⟨rfl,xs,hq⟩|⟨rfl,o,hk,hc,hd⟩|⟨rfl,hk⟩|⟨rfl,S,n,hk⟩
  ·obtain⟨its,_,pl,_⟩:=I.list hq;refine⟨pl.isList.typeIs,λa e=>?_⟩;cases e;obtain⟨o,n,e,c,hd,_⟩:=pl;exact⟨o,e,hd⟩
  ·refine⟨⟨o,I.BI p o hk,hc⟩,λa e=>?_⟩;cases e;exact⟨o,I.BI _ o hk,hd⟩
  ·have z:∃o,s.heap.get? p=some o/\o.ExactDict:=by
    rcases hk with ⟨kvs,hk⟩|⟨kvs,hk⟩
    ·obtain⟨_,_,_,_,o,_,_,e,ex,_⟩:=I.hok p _ hk;exact⟨o,e,ex⟩
    ·obtain⟨_,_,_,_,o,_,_,e,ex,_⟩:=I.hok p _ hk;exact⟨o,e,ex⟩
   obtain⟨o,e,ex⟩:=z;refine⟨⟨o,e,ex.1⟩,λa e2=>?_⟩;cases e2;exact⟨o,e,ex.2.1⟩
  ·obtain⟨o,_,_,_,e,ex,_⟩:=I.hok p _ hk;refine⟨⟨o,e,ex.1⟩,λa e2=>?_⟩;cases e2
   exact⟨o,e,ex.2.1⟩
 | _=>exact False.elim ty
def K4 (K:Le) (T:String) (r:V->List V->Hp->VK->Prop) (to:TE) (t:TA):TE:=λσ H Q=>to σ H λx H1=>KD K T x H1/\t σ H1 λxs H2=>r x xs H2 Q
variable {o e:Expr} {es:List Expr} {to:TE} {t:TA} {name:Str} {apos cpos:Pos} {T id:String} {r:V->List V->Hp->VK->Prop}
theorem yX (pa:PlainAttrs T) (slot:Slot T name id) (hty:typeOf (.builtin id)=pure (.type "method_descriptor")) (hm:K8 X id r) (ho:PE X o to) (ha:PA X (e :: es) t)
  (hbase:attributeBase o name X.env (eval o X.env)=eval o X.env:=by rfl)
  (hfew:((backTo cpos (starEach (e :: es) X.env)).all (λx=>!x.1) && (backToKw cpos (keywordEach [] X.env)).all (λx=>x.1.isSome)
   && decide ((e :: es).length + ([]:List Keyword).length + (if ([]:List Keyword).isEmpty then 0 else 1) < 30))=true:=by rfl)
  (hline:(apos.endLine == cpos.line)=true:=by rfl) (hs:starEach (e :: es) X.env=(false,eval e X.env) :: starEach es X.env:=by rfl) (hplain:(backTo cpos (starEach es X.env)).any (·.1)=false:=by rfl) :
  PE X (.Call (.Attribute o name apos) (e :: es) [] cpos) (K4 X.K T r to t):=by
 intro pins s σ H Q I h;refine wpAny_Call_method_late hbase hfew hline rfl (bP (ho pins s σ H _ I h) λv s1 hq0=>?_);obtain⟨x,H1,I1,r1,ty,q1⟩:=hq0;obtain⟨h1,h2⟩:=Gs I1 r1 ty;refine⟨T,id,pa,slot,hty,h1,h2,?_⟩;have hA:=ha cpos pins s1 σ H1 _ I1 q1;rw [hs] at hA ⊢;refine Calls.callWith_builtin (by show (false || (backTo cpos (starEach es X.env)).any (·.1))=false;rw [hplain] <;> rfl) (Calls.evalArgs_plain ?_)
 exact bP hA λus s2 ⟨vs,H2,I2,r2,q2⟩=>hm pins s2 σ H2 x vs v us Q I2 r1 r2 q2
end
def Kj (X:Cx) (id:String) (r:V->List V->Hp->VK->Prop):Prop :=
 ∀(pins:List (Addr×Obj)) (s:Shared) (σ:St) (H:Hp) (x:V) (xs:List V) (v:Value) (us:List Value) (Q:VK),Inv X pins σ H s->RelV x v->Vals xs us->r x xs H Q ->
  wpAny (model X.prog X.w) X.A (call (.builtin id) (v :: us)) (EP X pins σ Q) X.xe s
theorem Vals.one:∀{x:V} {us:List Value},Vals [x] us->∃u,us=[u]/\RelV x u
 | _,_,.cons r .nil=>⟨_,rfl,r⟩
theorem Vals.two {x y:V} {us:List Value} (h:Vals [x,y] us):∃u v,us=[u,v]/\RelV x u/\RelV y v:=by
 cases h with
 | cons r q =>
  cases q with
  | cons q z=>cases z;exact⟨_,_,rfl,r,q⟩
theorem Vals.eraseIdx:∀{xs:List V} {us:List Value} (i:Nat),Vals xs us->Vals (xs.eraseIdx i) (us.eraseIdx i)
 | _,_,_,.nil=>.nil
 | _,_,0,.cons _ t=>t
 | _,_,i + 1,.cons r t=>.cons r (Vals.eraseIdx i t)
theorem rP {α:Type}:∀(l:List α) (i:Nat),(l.eraseIdx i).length<=l.length
 | [],_=>Lh _
 | _ :: _,0=>Nat.le_succ _
 | _ :: r,i + 1=>Nat.succ_le_succ (rP r i)
section
variable {X:Cx} {pins:List (Addr×Obj)} {σ:St} {H:Hp} {s:Shared} {l b:Addr} {xs ys zs:List V}
theorem Inv.FP {its its':List Value} {n:Nat} {f:Array Value->Array Value} {t':Nat} (I:Inv X pins σ H s) (hH:H l=some (.lst xs))
  (e:s.heap.get? l=some { cls:=.type "list",data:=.seq its.toArray n }) (hf:f its.toArray=its'.toArray) (hv:Vals ys its') (hz:ys.length<=sizeLine) :
  Inv X pins σ (upd H l (.lst ys)) { s with heap:=s.heap.update l (Obj.mapSeq f),toks:=t' }:=by
 have q:=PySem.IsL.update e f;rw [hf] at q;refine I.write (x:=l) (e:=l) (by rw [hH];exact trivial) (.inl rfl) (λb' u hb hu=>(Heap.get?_update_other s.heap (Obj.mapSeq f) (Ne.symm hb)).trans hu) ⟨_,q⟩ ?_;exact⟨hz,its',_,hv,q⟩
theorem Inv.J5 {its:List Value} {t':Nat} (I:Inv X pins σ H s) (hv:Vals ys its) (hz:ys.length<=sizeLine) :
  Inv X pins σ (upd H s.heap.objs.size (.lst ys)) { s with heap:=s.heap.push { cls:=.type "list",data:=.seq its.toArray },toks:=t' } :=
 I.laid (λ_ _ q=>Ld _ q) (Lh _) ⟨hz,its,0,hv,Lv _ rfl⟩
theorem Inv.fresh (I:Inv X pins σ H s):H s.heap.objs.size=none:=I.hok.fresh (Lh _)
theorem Inv.E7 (I:Inv X pins σ H s) (hH:H l=some (.lst xs)):xs.length<=sizeLine/\∃(its:List Value) (n:Nat),Vals xs its/\xs.length=its.length/\s.heap.get? l=some { cls:=.type "list",data:=.seq its.toArray n }:=by
 obtain⟨z,its,n,r,e⟩:=I.hok l _ hH;exact⟨z,its,n,r,r.length,e⟩
end
section
variable {X:Cx}
def CV:V->List V->Hp->VK->Prop:=λx vs H Q=>∃l xs y,x=.ref l/\vs=[y]/\H l=some (.lst xs)/\xs.length < sizeLine/\Q .non (upd H l (.lst (xs ++ [y])))
theorem rS:Kj X "list.append" CV:=by
 intro pins s σ H x vs v us Q I rx rv h;obtain⟨l,xs,y,rfl,rfl,hH,hz,q⟩:=h;cases rx;obtain⟨u,rfl,ru⟩:=rv.one;obtain⟨z,its,n,r,hl,e⟩:=I.E7 hH;refine call_meets F.slot_list_append ⟨_,e,rfl⟩ F.entry_list_append (F.args_list_append_2 _ _) (PySem.list_append l its.toArray n u (by rw [Ly];omega)) ⟨e,?_⟩;refine⟨.non,_,I.FP (its':=its ++ [u]) hH e (by simp) (r.append (.cons ru .nil)) ?_,rfl,q⟩;rw [LI,List.length_singleton]
 omega
def Fb:V->List V->Hp->VK->Prop:=λx vs H Q=>∃l xs i k y,x=.ref l/\vs=[.int i]/\H l=some (.lst xs)/\-(2 ^ 63)<=i/\i < 2 ^ 63/\seqIndex? i xs.length=some k/\xs[k]?=some y/\Q y (upd H l (.lst (xs.eraseIdx k)))
theorem wq:Kj X "list.pop" Fb:=by
 intro pins s σ H x vs v us Q I rx rv h;obtain⟨l,xs,i,k,y,rfl,rfl,hH,h1,h2,hk,hy,q⟩:=h;cases rx;obtain⟨u,rfl,ru⟩:=rv.one;obtain⟨t,rfl⟩:=ru;obtain⟨z,its,n,r,hl,e⟩:=I.E7 hH;obtain⟨w,hw,rw'⟩:=r.get hy
 refine call_meets F.slot_list_pop ⟨_,e,rfl⟩ F.entry_list_pop (F.args_list_pop_2 _ _)
  (MeetsSeq.list_pop_at l its.toArray n i t k w (fitsIndex_both h1 h2) (by rw [Ly,<- hl];exact hk) (by rw [<- Ma];exact hw) (by rw [Ly];omega)) ⟨e,?_⟩
 refine⟨y,_,I.FP (its':=its.eraseIdx k) hH e ?_ (r.eraseIdx k) ?_,rw',q⟩
 ·show its.toArray.eraseIdxIfInBounds k=(its.eraseIdx k).toArray
  rw [List.eraseIdxIfInBounds_toArray]
 ·have:=rP xs k;omega
end
end L2
namespace Att
open PySem PySem.W PySem.Calls PyProof.Rows
theorem oV {P:Params} {h:Heap}:∀(ns:List Int) (vs:List Value),WellAll P h vs (ns.map WData.int)->IntsAre vs ns:=by
 intro ns
 induction ns with
 | nil =>
  intro vs w;rw [List.map_nil] at w;cases w
  exact .nil
 | cons n ns ih =>
  intro vs w;rw [LM] at w
  cases w with
  | cons a b =>
   cases a;exact .cons _ _ (ih _ b)
theorem zB {l:OpenLaw} {n:Nat} (hn:l.most=some n) {P:Params} {h:Heap} {args:List WData} {vals:List Value}
  (hpre:l.row.toRowW.claim.pre args=true) (hwl:WellAll P h vals args) :
  ∃a vs ns,vals=[Value.ref a]/\args=[WData.list (ns.map WData.int)]/\h.get? a=some { cls:=.type "list",data:=.seq vs.toArray }/\IntsAre vs ns/\ns.length<=n:=by
 have hsh:WShape.hasAll [] args [.list .int]=true:=(pre_splitW hpre).1;have hc:l.pre.holds [] { args:=args }=true:=(pre_splitW hpre).2;obtain⟨d,r,rfl,h1,h2⟩:=hasAllW_cons hsh;obtain rfl:=hasAllW_nil h2;obtain⟨xs,rfl,h3⟩:=hasW_list h1;obtain⟨ns,rfl⟩:=items_int h3
 have hlen:ns.length<=n:=by
  unfold OpenLaw.pre at hc
  have h4:(WTm.not (.lt (.lit (.int (n:Int))) (.len (.arg 0)))).holds [] { args:=[.list (ns.map .int)] }=true:=by
   have h4:=(holds_andW hc).1;rw [hn] at h4;exact h4
  have h5:=condW_of h4 (w_not (w_lt w_lit (w_len_list (w_arg rfl))));rw [Ll] at h5;refine Nat.le_of_not_lt λq=>?_;have q':(n:Int) < ((ns.length:Nat):Int):=by omega
  first
   | (rw [decide_eq_true q'] at h5;exact absurd h5 (by decide))
   | (simp at h5;omega)
 cases hwl with
 | cons w1 w2 =>
  cases w2
  cases w1 with
  | list ho hall=>exact⟨_,_,ns,rfl,rfl,ho,oV ns _ hall,hlen⟩
theorem Ag (l:OpenLaw) (args:List WData):l.row.toRowW.claim.post args (.bool true) args=true :=
 postW_of (r:=l.row.toRowW) (X:=(true == true))
  (show WShape.has [] (.bool true) .bool=true by first|rfl|decide|simp [WShape.has,WShape.arms,WShape.armsAll])
  (show (WTm.eq .res (.lit (.bool true))).value [] { args:=args,res:=some (.bool true),after:=args }=some (.bool (true == true)) from w_eq_bool (w_res rfl) w_lit) rfl
theorem wD {l:OpenLaw} {n:Nat} {q:Program} {loose:List Str} {XP:(Str->Option Value)->Heap->Prop} {YP:World->Heap->Prop} {d:DefRec}
  (hn:l.most=some n) (hdf:d.params.defaults=[])
  (call:∀(w:World) (s₀ s₁:Shared) (mg mb:Str->Option Value) (fa:Addr) (o:Obj) (pm cd doc:Value) (a:Addr) (vs:List Value) (ns:List Int),
   Ground q loose [] XP w s₀ mg mb s₁.heap->YP w s₁.heap ->
   s₁.heap.get? fa=some o->o.data=.func (docDef d.name d.params d.body d.scope pm cd doc)->s₁.heap.CodeRec cd d.name->mg d.name=some (.ref fa) ->
   s₁.heap.get? a=some { cls:=.type "list",data:=.seq vs.toArray }->IntsAre vs ns->ns.length<=n->s₁.gens=#[] ->
   codeAny (model l.prog w) callerA (.call (.ref fa) ⟨[.ref a],[]⟩) (λr s'=>r=.ok (.ret (.bool true))/\OldK s₁.heap s'.heap/\s'.os=s₁.os/\AllBare s'.gens) s₁) :
  WalkO q loose XP YP l.row.toRowW d [] (λf vs=>PySem.call f vs):=by
 intro w s₀ s₁ mg mb G Y fa o pm cd doc dV kV ho hd hcd hD hmg hg args vals as hpre hlay hrd hwl hlo;obtain rfl:dV=.none:=Dflts.none hD hdf;obtain rfl:kV=.none:=Dflts.noKw hD;obtain⟨a,vs,ns,rfl,rfl,hobj,hints,hlen⟩:=zB hn hpre hwl;refine enter_call (codeAny_mono (call w s₀ s₁ mg mb fa o pm cd doc a vs ns G Y ho (fd_plain hd) hcd hmg hobj hints hlen hg) λr s' hq=>?_);obtain⟨rfl,h2,h3,h4⟩:=hq;exact⟨.inl ⟨.bool true,.bool true,[],rfl,λ_=>rfl,.bool true,Ag l _,λ_=>⟨List.Pairwise.nil,λ_ hm=>(nomatch hm)⟩⟩,h2,h3,h4⟩
end Att
namespace L2
open PySem PySem.Spec PyProof.Rows
theorem iH:∀{vs:List Value} {ns:List Int},IntsAre vs ns->Vals (ns.map V.int) vs
 | _,_,.nil=>.nil
 | _,_,.cons n t h=>.cons ⟨t,rfl⟩ (iH h)
theorem DA {K:Le} {b:Addr} {q:Str} (h:tq K b=some q):∃x c,(x,q)∈l9/\PySem.W.tabIn K x=some (c,b):=by
 unfold tq at h
 cases e:l9.find? λp=>match PySem.W.tabIn K p.1 with|some (_,P)=>P == b|none=>false with
 | none=>rw [e] at h;cases h
 | some p =>
  rw [e] at h;cases h;have m:=List.mem_of_find?_eq_some e;have z:=List.find?_some e;refine⟨p.1,?_⟩
  cases t:PySem.W.tabIn K p.1 with
  | none=>rw [t] at z;cases z
  | some r =>
   obtain⟨c,P⟩:=r;rw [t] at z;obtain rfl:P=b:=by simpa using z
   exact⟨c,m,rfl⟩
theorem A9 {P:Program} {w:World} {K:Le} {mg mb:Str->Option Value} {CX:A0} {k:Nat} {fa a:Addr} {fd:FuncData} {x:Str} {sp:Sp} {s₁:Shared} {vs:List Value} {ns:List Int}
  (KX:K.In s₁.heap) (hns:s₁.heap.Ns mainGlobals mg) (hb:s₁.heap.Ns builtinsNs mb) (hbb:∀x:Str,x≠"__name__"->mb x=bootBuiltins x) (hlim:s₁.heap.NoLimit) (hg:s₁.gens=#[])
  (ha:s₁.heap.get? a=some { cls:=.type "list",data:=.seq vs.toArray }) (hi:IntsAre vs ns) (hl:ns.length<=sizeLine) (hr:dG k callerA)
  (hbm:∃bm ob,mg "__builtins__" = some (.ref bm)/\bm≠builtinsNs/\s₁.heap.get? bm=some ob/\ob.cls=.type "module"/\ob.dict=some builtinsNs/\ob.data=.plain)
  (hnt:PySem.W.noTabs K=true) (htb:∀x c b,x∈l9.map (·.1)->PySem.W.tabIn K x=some (c,b)->PySem.W.CodeHd s₁.heap c b/\s₁.heap.get? b=some (PySem.W.tabObj #[]))
  (F:∀base:Heap,K.In base->base.Ns mainGlobals mg->pU P w K mg base CX k fa fd [x] sp) (hbind:∀(s:Shared) (u:Value),BindsTo s fd ⟨[u],[]⟩ [(x,u)])
  (hsp:∀H:Hp,fZ K H a (ns.map V.int)->sp [.ref a] H (λv _=>v=.bl true) λ_ _ _=>False)
  (hCX:∀H e s',CX [] H s₁ (λ_ _ _=>False) e s'->False) :
  codeAny (model P w) callerA (.call (.ref fa) ⟨[.ref a],[]⟩) (λr s'=>r=.ok (.ret (.bool true))/\OldK s₁.heap s'.heap/\s'.os=s₁.os/\AllBare s'.gens) s₁:=by
 have rv:=iH hi;have lenV:=hi.length
 have tab:∀{b:Addr} {q:Str},tq K b=some q->(∃c,PySem.W.CodeHd s₁.heap c b)/\s₁.heap.get? b=some (PySem.W.tabObj #[]):=λ{b q} e=>by
  obtain⟨x,c,m,t⟩:=DA e;obtain⟨h1,h2⟩:=htb x c b (LC.mpr ⟨_,m,rfl⟩) t;exact⟨⟨c,h1⟩,h2⟩
 have notab:∀{b:Addr} {o:Obj} {q:Str},K.lookup b=some o->tq K b=some q->False:=λ{b o q} e z=>by
  have e2:=(tab z).2;rw [KX b o e] at e2;cases e2;have h2:=List.all_eq_true.mp hnt (b,_) (PySem.W.mem_of_lookupK e);exact absurd (show false=true from h2) Bool.false_ne_true
 have core:∀H:Hp,(∀b,(H b=none/\tq K b=none)\/(∃o xs,H b=some (.frz o (.lst xs))/\b=a/\tq K b=none)\/∃q,H b=some (.fU q)/\tq K b=some q)->fZ K H a (ns.map V.int)->kY P w H s₁.heap->(H a≠none->K.lookup a=none) ->
   codeAny (model P w) callerA (.call (.ref fa) ⟨[.ref a],[]⟩) (λr s'=>r=.ok (.ret (.bool true))/\OldK s₁.heap s'.heap/\s'.os=s₁.os/\AllBare s'.gens) s₁:=by
  intro H hO hS hok hK;have base_of:∀{b:Addr} {o:Obj},s₁.heap.get? b=some o->H b=none->(uE s₁.heap H).get? b=some o:=λe n=>BE e n
  have noA:∀{b:Addr} {o:Obj} {es:Array DictEntry} {ep:Nat},s₁.heap.get? b=some o->o.data=.dict es ep->H b=none:=λ{b o es ep} e d=>by
   rcases hO b with z|⟨_,_,_,rfl,_⟩|⟨q,z,t⟩
   ·exact z.1
   ·rw [ha] at e;cases e;have d':Data.seq vs.toArray _=Data.dict es ep:=d;cases d'
   ·rw [(tab t).2] at e;cases e;have d':Data.fields #[]=Data.dict es ep:=d;cases d'
  have nsK:∀{b:Addr} {m:Str->Option Value},s₁.heap.Ns b m->(uE s₁.heap H).Ns b m:=λ{b m} ⟨o,es,ep,e,d,r⟩=>⟨o,es,ep,base_of e (noA e d),d,r⟩
  have hKb:K.In (uE s₁.heap H):=λb o e=>base_of (KX b o e) (by
   rcases hO b with z|⟨_,_,z,rfl,_⟩|⟨q,z,t⟩
   ·exact z.1
   ·rw [hK (by rw [z];simp)] at e;cases e
   ·exact (notab e t).elim)
  have hM:Mod K mg (uE s₁.heap H):=⟨hKb,nsK hns,⟨mb,nsK hb,hbb⟩,let ⟨mc,h1,h2⟩:=hlim;⟨mc,nsK h1,h2⟩,by
   obtain⟨bm,ob,b1,b2,b3,b4,b5⟩:=hbm;refine⟨bm,ob,b1,b2,base_of b3 ?_,b4,b5⟩;rcases hO bm with z|⟨_,_,_,rfl,_⟩|⟨q,z,t⟩
   ·exact z.1
   ·rw [ha] at b3;cases b3;simp at b4
   ·rw [(tab t).2] at b3;cases b3;simp at b4⟩
  have hTb:DZ K H:=λb q e=>by
   rcases hO b with z|⟨_,_,_,_,z⟩|⟨q',z,t⟩
   ·rw [z.2] at e;cases e
   ·rw [z] at e;cases e
   ·rw [t] at e;cases e;exact z
  have e0:ya P w K mg (uE s₁.heap H) callerA [] s₁ H:=⟨rfl,hM,λb o e=>Dx e,Nat.le_of_eq (zt _ _),trivial,⟨λb hb=>absurd (show b∈([]:List Addr) from hb) (by simp),hTb⟩,hok,.of_eq hg⟩;refine codeAny_mono ((F _ hKb (nsK hns)).run callerA [] s₁ H ⟨[.ref a],[]⟩ [.ref a] [.ref a] _ _ hr e0 (hbind s₁ (.ref a)) (.cons rfl .nil) (hsp H hS)) λr s' h=>?_
  cases r with
  | error e=>exact (hCX H e s' h).elim
  | ok fl =>
   cases fl with
   | next=>exact False.elim h
   | brk=>exact False.elim h
   | cont=>exact False.elim h
   | ret u =>
    obtain⟨v,H',os,bare,un,hok',r',q⟩:=h;have q':v=.bl true:=q;subst q';obtain rfl:u=Value.bool true:=r'
    have look:∀b o,s₁.heap.get? b=some o->s'.heap.get? b=some o\/(isCodeTable s₁.heap b/\o=PySem.W.tabObj #[]/\∃ps,s'.heap.get? b=some (PySem.W.tabObj ps)):=λb o e=>by
     rcases hO b with z|⟨ob,xs,z,rfl,_⟩|⟨q,z,t⟩
     ·exact .inl (un.keep b o e z.1 (by intro z;exact absurd (show b∈([]:List Addr) from z) (by simp)) (by simp))
     ·have z2:=un.frzs _ ob _ z;obtain⟨e1,_⟩:=hok _ _ z;obtain⟨e2,_⟩:=hok' _ _ z2;rw [e] at e1;cases e1;exact .inl e2
     ·obtain⟨⟨c,hc⟩,e1⟩:=tab t;obtain⟨ps,e2,_⟩:=hok' b _ (un.tbls b q z);rw [e] at e1;cases e1;exact .inr ⟨(hc.tab e).isCodeTable,rfl,ps,e2⟩
    refine⟨rfl,⟨λb o e=>?_,λb o e=>?_⟩,os,bare⟩
    ·rcases look b o e with z|⟨t,rfl,ps,z⟩
     ·exact .inl z
     ·exact .inr (.inl ⟨t,rfl,#[],ps,rfl,by rw [Array.empty_append];exact z⟩)
    ·rcases look b o e with z|⟨t,rfl,ps,z⟩
     ·exact⟨o,z⟩
     ·exact⟨_,z⟩
 have aTab:tq K a=none:=by
  cases e:tq K a with
  | none=>rfl
  | some q=>have z:=(tab e).2;rw [ha] at z;cases z
 have tblOk:∀(H:Hp) {b:Addr} {q:Str},tq K b=some q->bH P w H s₁.heap b (.fU q):=λH {b q} e=>⟨#[],(tab e).2,trivial,λpos cv z=>by cases z⟩
 cases hk:K.lookup a with
 | some o =>
  have e:=KX a o hk;rw [ha] at e;cases e;refine core (λb=>(tq K b).map HO.fU) (λb=>?_) (.inr ⟨_,vs.toArray,_,hk,rfl,rfl,rfl,by rw [Ly,lenV];exact hl,by simpa using rv⟩) (λb u z=>?_) λz=>absurd (by show (tq K a).map HO.fU=none;rw [aTab];rfl) z
  ·cases e:tq K b with
   | none=>exact .inl ⟨by rw [Option.map_none],rfl⟩
   | some q=>exact .inr (.inr ⟨q,by rw [Option.map_some],rfl⟩)
  ·have z':(tq K b).map HO.fU=some u:=z
   cases e:tq K b with
   | none=>rw [e] at z';cases z'
   | some q=>rw [e] at z';cases z';exact tblOk _ e
 | none =>
  refine core (λb=>if b=a then some (.frz { cls:=.type "list",data:=.seq vs.toArray } (.lst (ns.map V.int))) else (tq K b).map HO.fU) (λb=>?_) (.inl (.inr ⟨{ cls:=.type "list",data:=.seq vs.toArray },if_pos rfl⟩)) (λb u z=>?_) λ_=>hk
  ·by_cases hb:b=a
   ·exact .inr (.inl ⟨_,_,if_pos hb,hb,by rw [hb];exact aTab⟩)
   ·cases e:tq K b with
    | none=>exact .inl ⟨by rw [if_neg hb,Option.map_none],rfl⟩
    | some q=>exact .inr (.inr ⟨q,by rw [if_neg hb,Option.map_some],rfl⟩)
  ·by_cases hb:b=a
   ·have z':=(if_pos hb).symm.trans z;cases z';subst hb;exact⟨ha,by rw [Ll];exact hl,vs,_,rv,ha⟩
   ·have z':=(if_neg hb).symm.trans z
    cases e:tq K b with
    | none=>rw [e] at z';cases z'
    | some q=>rw [e] at z';cases z';exact tblOk _ e
theorem Dd {l:PySem.W.OpenLaw} {n k:Nat} {q:Program} {loose:List Str} {XP:(Str->Option Value)->Heap->Prop} {YP:World->Heap->Prop} {d:DefRec} {K:Params->Le} {CX:World->A0} {sp:World->Sp} {x:Str}
  (hn:l.most=some n) (hn2:n<=sizeLine) (hdf:d.params.defaults=[]) (hr:dG k callerA)
  (hnt:∀w:World,PySem.W.noTabs (K w.params)=true) (hrc:∀w:World,l9.all (λp=>(PySem.W.tabIn (K w.params) p.1).isNone || ((recsOf q).find? λe=>e.name == p.1).isSome)=true)
  (hY:∀(w:World) (h:Heap),YP w h->(K w.params).In h)
  (F:∀(w:World) (mg:Str->Option Value) (fa:Addr) (h:Heap),(K w.params).In h->h.Ns mainGlobals mg->mg d.name=some (.ref fa) ->
   ∃fd:FuncData,(∀(s:Shared) (u:Value),BindsTo s fd ⟨[u],[]⟩ [(x,u)]) /\
    ∀base:Heap,(K w.params).In base->base.Ns mainGlobals mg->pU l.prog w (K w.params) mg base (CX w) k fa fd [x] (sp w))
  (hsp:∀(w:World) (H:Hp) (a:Addr) (ns:List Int),ns.length<=n->fZ (K w.params) H a (ns.map V.int)->sp w [.ref a] H (λv _=>v=.bl true) λ_ _ _=>False)
  (hCX:∀(w:World) (H:Hp) (s:Shared) (e:Value) (s':Shared),CX w [] H s (λ_ _ _=>False) e s'->False) :
  PySem.W.WalkO q loose XP YP l.row.toRowW d [] (λf vs=>PySem.call f vs):=by
 refine Att.wD hn hdf λw s₀ s₁ mg mb fa o pm cd doc a vs ns G Y ho hd hcd hmg hobj hints hlen hg=>?_;have KX:=hY w _ Y;obtain⟨fd,hb,hF⟩:=F w mg fa _ KX G.T.g hmg;refine A9 KX G.T.g G.T.b G.T.builtins G.T.nolimit hg hobj hints (L6 hlen hn2) hr G.T.bmain (hnt w) (λx c b hx ht=>?_) hF hb (λH hS=>hsp w H a ns hlen hS) λH e s'=>hCX w H s₁ e s';obtain⟨p,hp,rfl⟩:=LC.mp hx;have z:=List.all_eq_true.mp (hrc w) p hp
 rw [ht] at z;have z2:((recsOf q).find? λe=>e.name == p.1).isSome=true:=by simpa using z
 obtain⟨dd,hd'⟩:=Option.isSome_iff_exists.mp z2;exact PySem.W.tab_of G.T KX hd' ht
def eY (s:Stmt):Arguments:=match s with
 | .FunctionDef _ a _ _ _ _ _ _ _ _=>a
 | _=>{ posonlyargs:=[],args:=[],vararg:=none,kwonlyargs:=[],kw_defaults:=[],kwarg:=none,defaults:=[] }
def cp (s:Stmt):List Stmt:=match s with
 | .FunctionDef _ _ b _ _ _ _ _ _ _=>b
 | _=>[]
def aq (s:Stmt):Scope:=match s with
 | .FunctionDef _ _ _ _ _ _ sc _ _ _=>sc
 | _=>{ kind:=.function,names:=[],isGenerator:=false,isCoroutine:=false }
abbrev Al:A0:=λ_ _ _ _ _ _=>False
abbrev E0:XK:=λ_ _ _=>False
theorem Iw {X:Cx}:Passes Al X E0:=λ_ _ _ _ _ _ _ h=>h.elim
structure uH (K:Le) (x qual:Str) (st:Stmt) (f:Addr) (fd:FuncData):Prop where
 ex:∃(oc:Value) (od:Option Addr) (kV doc pm:Value) (an:Option Addr) (cdv ct:Value) (osl:Array (Option Value)),
  fd=PySem.W.fnOf x qual (eY st) (cp st) (aq st) .none kV doc pm an cdv ct/\K.lookup f=some ⟨oc,od,.func fd,osl⟩/\PySem.W.codeIn K cdv qual=true
 kp:PySem.W.keepIn K (.ref f)=true
section
variable {P:Program} {w:World} {K:Le} {mg:Str->Option Value} {base:Heap}
theorem uH.ok {x qual:Str} {st:Stmt} {f:Addr} {fd:FuncData} {N ps:List Str} {k:Nat} {sp:Sp} (F:uH K x qual st f fd) (S:aM N ps (aq st)) (len:∀vs H Q E,sp vs H Q E->vs.length=ps.length)
  (hbody:∀(cdv:Value) (A:Around) (outer:List Env) (s:Shared) (H:Hp) (vs:List V) (Q:VK) (E:XK),dG k (A.deeper (envOfC qual (aq st) s.heap.objs.size f cdv))->sp vs H Q E ->
   ∃t,yb (kI Al P w K mg base N qual (aq st) f cdv A outer s H E).sL (cp st) t/\t { nx:=λ_ H'=>Q .non H',rt:=Q } (start N vs) H):pU P w K mg base Al (k + 1) f fd ps sp:=by
 obtain⟨oc,od,kV,doc,pm,an,cdv,ct,osl,rfl,lk,hcd⟩:=F.ex;refine B8 lk hcd S len λA outer s H vs Q E hr hsp=>?_;obtain⟨t,h,q⟩:=hbody cdv A outer s H vs Q E hr hsp;exact⟨t,h.sL,q⟩
theorem uH.binds {x qual:Str} {st:Stmt} {f:Addr} {fd:FuncData} {ps:List Str} (F:uH K x qual st f fd)
  (h:∀(kV doc pm:Value) (an:Option Addr) (cdv ct:Value) (us:List Value),us.length=ps.length->bindArgs (PySem.W.fnOf x qual (eY st) (cp st) (aq st) .none kV doc pm an cdv ct) ⟨us,[]⟩=pure (ps.zip us)):Binds K fd ps []:=by
 obtain⟨oc,od,kV,doc,pm,an,cdv,ct,osl,rfl,lk,hcd⟩:=F.ex;exact .all (h kV doc pm an cdv ct)
theorem xT {x qual:Str} {st:Stmt} {f:Addr} {oc:Value} {od an:Option Addr} {osl:Array (Option Value)} {kV doc pm cdv ct:Value} (l:K.lookup f=some ⟨oc,od,.func (PySem.W.fnOf x qual (eY st) (cp st) (aq st) .none kV doc pm an cdv ct),osl⟩)
  (c:PySem.W.codeIn K cdv qual=true) (k:PySem.W.keepIn K (.ref f)=true):uH K x qual st f (PySem.W.fnOf x qual (eY st) (cp st) (aq st) .none kV doc pm an cdv ct):=⟨⟨oc,od,kV,doc,pm,an,cdv,ct,osl,rfl,l,c⟩,k⟩
end
def ao (H H':Hp):Prop:=∀b o,H b=some o->H' b=some o
theorem ao.refl (H:Hp):ao H H:=λ_ _ h=>h
theorem ao.trans {H H1 H2:Hp} (a:ao H H1) (b:ao H1 H2):ao H H2:=λc o h=>b c o (a c o h)
theorem ao.free {H H':Hp} (e:ao H H') {l:Addr} (h:H' l=Option.none):H l=Option.none:=by
 cases q:H l with
 | none=>rfl
 | some o =>
  rw [e l o q] at h;cases h
theorem ao.seq {K:Le} {H H':Hp} {a:Addr} {xs:List V} (e:ao H H') (h:fZ K H a xs):fZ K H' a xs:=by
 rcases h with (h|⟨o,h⟩)|h
 ·exact .inl (.inl (e _ _ h))
 ·exact .inl (.inr ⟨o,e _ _ h⟩)
 ·exact .inr h
end L2
set_option maxHeartbeats 8000000
namespace L2
open PySem PySem.Spec PyProof.Rows
section
variable {κ:Type} [DecidableEq κ]
def putK (kvs:List (κ×V)) (k:κ) (v:V):List (κ×V) :=
 if (kvs.any λkv=>decide (kv.1=k))=true then kvs.map (λkv=>if kv.1=k then (kv.1,v) else kv) else kvs ++ [(k,v)]
theorem wg (kvs:List (κ×V)) (k:κ) (v:V):(putK kvs k v).length<=kvs.length + 1:=by
 unfold putK
 split
 ·rw [Ll];omega
 ·rw [LI,L0,Mc];omega
theorem KV.any {kvs:List (κ×V)} {vs:List (κ×Value)} (r:KV kvs vs) (k:κ):(kvs.any λkv=>decide (kv.1=k))=vs.any λkv=>decide (kv.1=k):=by
 unfold KV at r
 induction r with
 | nil=>rfl
 | cons h t ih=>rw [List.any_cons,List.any_cons,ih,h.1]
theorem KV.J8 {kvs:List (κ×V)} {vs:List (κ×Value)} (r:KV kvs vs) (k:κ) {y:V} {u:Value} (ry:RelV y u) :
  KV (kvs.map λkv=>if kv.1=k then (kv.1,y) else kv) (vs.map λkv=>if kv.1=k then (kv.1,u) else kv):=by
 unfold KV at r ⊢
 induction r with
 | nil=>exact .nil
 | @cons p q ps qs h t ih =>
  rw [LM,LM];refine .cons ?_ ih;obtain⟨h1,h2⟩:=h
  by_cases e:p.1=k
  ·rw [if_pos e,if_pos (h1.symm.trans e)];exact⟨h1,ry⟩
  ·rw [if_neg e,if_neg (λz=>e (h1.trans z))];exact⟨h1,h2⟩
theorem KV.put {kvs:List (κ×V)} {vs:List (κ×Value)} (r:KV kvs vs) (k:κ) {y:V} {u:Value} (ry:RelV y u):KV (putK kvs k y) (stored vs k u):=by
 unfold putK stored;rw [r.any k]
 by_cases e:(vs.any λkv=>decide (kv.1=k))=true
 ·rw [if_pos e,if_pos e];exact r.J8 k ry
 ·rw [if_neg e,if_neg e];exact Paired.snoc r ⟨rfl,ry⟩
theorem KV.length {kvs:List (κ×V)} {vs:List (κ×Value)} (r:KV kvs vs):kvs.length=vs.length:=Paired.length r
end
theorem HY {P:Program} {w:World} {k:Key} {u:Value} (r:RelV (kV k) u):(dO P w).is k u=true:=by
 cases k with
 | inl i=>obtain⟨t,e⟩:=(show ∃t,u=Value.int i t from r);subst e;exact v7 P w i t
 | inr x=>obtain⟨t,e⟩:=(show ∃t,u=Value.str x t from r);subst e;exact vq P w x t
section
variable {P:Program} {w:World} {H:Hp} {h:Heap} {a:Addr}
theorem IU {u:HO} (ok:kY P w H h) (e:Rd H a u):bH P w H h a u:=e.ok ok
theorem HJ {kvs:List (Key×V)} (ok:kY P w H h) (e:Rd H a (.dK kvs)):kvs.length<=sizeLine/\(a == sysModules)=false/\∃vs,KV kvs vs/\h.DictOf (dO P w) a vs :=
 show bH P w H h a (.dK kvs) from IU ok e
theorem Ip {kvs:List (Key×V)} (ok:kY P w H h) (e:H a=some (.dK kvs)):kvs.length<=sizeLine/\(a == sysModules)=false/\∃vs,KV kvs vs/\h.DictOf (dO P w) a vs:=HJ ok (.inl e)
end
section
variable {X:Cx} {pins:List (Addr×Obj)} {σ:St} {H:Hp} {s:Shared} {a:Addr} {y v:V} {u r:Value} {o:Option V} {A:Around} {E:Value->Shared->Prop}
theorem Inv.big (I:Inv X pins σ H s):sysModules < s.heap.objs.size:=by
 have h:mainGlobals < s.heap.objs.size:=(I.mod.glob.keeps I.bk).lt;exact Nat.lt_trans (by decide) h
theorem gv {h':Heap} {t':Nat} {ob:HO} (I:Inv X pins σ H s) (mu:Il (H a)) (hs:Heap.SameBut a s.heap h') (he:∃q,h'.get? a=some q) (new:bH X.prog X.w (upd H a ob) h' a ob) :
  Inv X pins σ (upd H a ob) { s with heap:=h',toks:=t' } :=
 I.write (x:=a) (e:=a) mu (.inl rfl) (λb q hb z=>(hs.2 b hb).trans z) he new
theorem Gg {P:Program} {w:World} {H':Hp} {h':Heap} {kvs:List (Key×V)} {vs:List (Key×Value)} (z:kvs.length<=sizeLine) (hd:(a == sysModules)=false) (rel:KV kvs vs) (dd:h'.DictOf (dO P w) a vs) :
  bH P w H' h' a (.dK kvs):=⟨z,hd,vs,rel,dd⟩
end
def Eo (i:Expr):Prop:=∀ov iv,subscripted i false ov iv=operate [ov,iv] (getItem ov iv)
theorem CZ {prog:Program} {w:World} {A:Around} {E:Value->Shared->Prop} {s:Shared} {env:Env} {value slice:Expr} {pos:Pos} {T id:String} {Q:Value->Shared->Prop}
  (hl:typeLookup (.type T) "__getitem__" = pure (some (.builtin id))) (hs:Eo slice)
  (h:wpAny (model prog w) A (eval value env) (λo s₁=>wpAny (model prog w) A (eval slice env) (λi s₂=>s₂.TypeIs o T/\wpAny (model prog w) A (getItem o i) Q E s₂) E s₁) E s) :
  wpAny (model prog w) A (eval (.Subscript value slice pos) env) Q E s:=by
 refine Subscript_ (LG h (λo s₁ h₁=>LG h₁ (λi s₂ h₂=>?_) λ_ _ x=>x) λ_ _ x=>x);obtain⟨hT,h₂⟩:=h₂;unfold subscriptTail;refine K9 ?_;rw [getitemInPython_of_ne hT.not_modules];refine K9 (wpAny_specialOf hT hl ?_)
 have fin:wpAny (model prog w) A (subscripted slice false o i) (λr s₃=>wpAny (model prog w) A (letTemporaryGo value o r >>= λ_=>pure r) Q E s₃) E s₂:=by
  rw [hs o i];exact wpAny_operating (LG h₂ (λr s₃ h₃=>K9 (wpAny_letTemporaryGo (Lf h₃))) λ_ _ x=>x)
 first
  | exact Lf (K9 fin)
  | exact K9 (Lf (K9 fin))
  | exact K9 fin
theorem BK {P:Program} {w:World} {H:Hp} (h:Heap) (hb:sysModules < h.objs.size):bH P w H (h.push { cls:=.type "dict",data:=.dict #[] }) h.objs.size (.dK []) :=
 ⟨LZ _,beq_eq_false_iff_ne.mpr (Ne.symm (LJ hb)),[],.nil,Heap.DictOf.new h⟩
def tT:List (TE×TE)->St->Hp->(List (V×V)->Hp->Prop)->Prop
 | [],_,H,Q=>Q [] H
 | (tk,tv) :: r,σ,H,Q=>tk σ H λx H1=>tv σ H1 λy H2=>tT r σ H2 λps H3=>Q ((x,y) :: ps) H3
abbrev VV:List (V×V)->List (Value×Value)->Prop:=Paired λp q=>RelV p.1 q.1/\RelV p.2 q.2
def HP (X:Cx) (pos:Pos) (keys:List (Option Expr)) (values:List Expr) (trs:List (TE×TE)):Prop :=
 ∀(pins:List (Addr×Obj)) (s:Shared) (σ:St) (H:Hp) (Q:List (V×V)->Hp->Prop),Inv X pins σ H s->tT trs σ H Q ->
  wpAny (model X.prog X.w) X.A (evalPairs (pairTrees keys values X.env pos)) (λvs s'=>∃ps H',Inv X pins σ H' s'/\VV ps vs/\Q ps H') X.xe s
theorem uF {X:Cx} {pos:Pos}:HP X pos [] [] []:=λpins s σ H Q I h=>pairTrees_nil_walk ⟨[],H,I,.nil,h⟩
theorem mF {X:Cx} {pos:Pos} {k v:Expr} {ks:List (Option Expr)} {vs:List Expr} {tk tv:TE} {trs:List (TE×TE)} (hk:PE X k tk) (hv:PE X v tv) (hr:HP X pos ks vs trs) :
  HP X pos (some k :: ks) (v :: vs) ((tk,tv) :: trs):=λpins s σ H Q I h =>
 pairTrees_cons_walk (bP (hk pins s σ H _ I h) λu s1 ⟨x,H1,I1,rx,q1⟩=>bP (hv pins s1 σ H1 _ I1 q1) λw2 s2 ⟨y,H2,I2,ry,q2⟩ =>
  bP (hr pins s2 σ H2 _ I2 q2) λws s3 ⟨ps,H3,I3,rel,q3⟩=>⟨(x,y) :: ps,H3,I3,.cons ⟨rx,ry⟩ rel,q3⟩)
def ny (kvs more:List (Key×V)):List (Key×V):=more.foldl (λacc kv=>putK acc kv.1 kv.2) kvs
theorem KV.merge:∀{more:List (Key×V)} {rs:List (Key×Value)} {kvs:List (Key×V)} {vs:List (Key×Value)},KV more rs->KV kvs vs->KV (ny kvs more) (merged vs rs):=by
 intro more rs kvs vs r;unfold KV at r
 induction r generalizing kvs vs with
 | nil=>intro q;exact q
 | @cons p q ps qs h t ih =>
  intro r0
  have e:KV (putK kvs p.1 p.2) (stored vs q.1 q.2):=by
   have:=r0.put p.1 h.2;rw [<- h.1];exact this
  exact ih e
theorem kP:∀(more kvs:List (Key×V)),(ny kvs more).length<=kvs.length + more.length
 | [],kvs=>by show kvs.length<=kvs.length + 0;omega
 | p :: r,kvs=>by
  have h1:=kP r (putK kvs p.1 p.2);have h2:=wg kvs p.1 p.2;show (ny (putK kvs p.1 p.2) r).length<=_
  rw [L0];omega
theorem qe {P:Program} {w:World}:∀{kvs:List (Key×V)} {ws:List (Value×Value)},VV (kvs.map λkv=>(kV kv.1,kv.2)) ws->∃rs,Carries (dO P w) ws rs/\KV kvs rs
 | [],_,r=>by rw [List.map_nil] at r;cases r;exact⟨[],True.intro,.nil⟩
 | p :: kvs,_,r=>by
  rw [LM] at r
  cases r with
  | @cons a b as bs h t =>
   obtain⟨rs,c,q⟩:=qe (P:=P) (w:=w) t;obtain⟨b1,b2⟩:=b;exact⟨(p.1,b2) :: rs,⟨HY h.1,rfl,c⟩,.cons ⟨rfl,h.2⟩ q⟩
def Jf (trs:List (TE×TE)):TE:=λσ H Q=>∀p,H p=none->tT trs σ (upd H p (.dK [])) λps H2=>H2 p=some (.dK [])/\∃kvs:List (Key×V),ps=kvs.map (λkv=>(kV kv.1,kv.2))/\kvs.length<=15/\Q (.ref p) (upd H2 p (.dK (ny [] kvs)))
theorem Dz {X:Cx} {pos:Pos} {keys:List (Option Expr)} {values:List Expr} {trs:List (TE×TE)} (h:HP X pos keys values trs) (hall:keys.all (·.isSome)=true) (hl:keys.length=values.length) (h0:keys≠[])
  (h15:keys.length<=15):PE X (.Dict keys values pos) (Jf trs):=by
 intro pins s σ H Q I q;have hn:=I.hok.fresh (Lh s.heap.objs.size);have I1:=I.laid (a:=s.heap.objs.size) (o:=.dK []) (h':=s.heap.push { cls:=.type "dict",data:=.dict #[] }) (t':=s.toks) (λ_ _ q=>Ld _ q) (Lh _) (BK s.heap I.big)
 refine wpAny_Dict_walk (knd:=dO X.prog X.w) hall hl h0 h15 (bP (h pins _ σ _ _ I1 (q _ hn)) λws s2 hq0=>?_);obtain⟨ps,H2,I2,rel,e,kvs,ep,lk,q2⟩:=hq0;subst ep;obtain⟨rs,c,rk⟩:=qe (P:=X.prog) (w:=X.w) rel;obtain⟨z,hd,vs0,r0,dd⟩:=Ip I2.hok e;cases r0;refine⟨rs,c,dd,λh' dd' hs=>⟨.ref s.heap.objs.size,_,?_,rfl,q2⟩⟩
 have hz:(ny [] kvs).length<=sizeLine:=by
  have h1:=kP kvs [];rw [Mc] at h1;rw [sizeLine_eq];omega
 have he:∃q,h'.get? s.heap.objs.size=some q:=let ⟨q,_,_,hq,_⟩:=dd';⟨q,hq⟩
 exact gv I2 (by rw [e];exact True.intro) hs he (Gg hz hd (rk.merge .nil) dd')
structure M1 (X:Cx) (o:Expr) (m:Str) (apos:Pos) (e:Expr) (cpos:Pos):Prop where
 base:attributeBase o m X.env (eval o X.env)=eval o X.env
 few:((backTo cpos (starEach [e] X.env)).all (λx=>!x.1) && (backToKw cpos (keywordEach [] X.env)).all (λx=>x.1.isSome)
  && decide (([e]:List Expr).length + ([]:List Keyword).length + (if ([]:List Keyword).isEmpty then 0 else 1) < 30))=true
 line:(apos.endLine == cpos.line)=true
 trees:backTo cpos (starEach [e] X.env)=[(false,eval e X.env)]
structure M2 (X:Cx) (o:Expr) (m:Str) (apos:Pos) (e f:Expr) (cpos:Pos):Prop where
 base:attributeBase o m X.env (eval o X.env)=eval o X.env
 few:((backTo cpos (starEach [e,f] X.env)).all (λx=>!x.1) && (backToKw cpos (keywordEach [] X.env)).all (λx=>x.1.isSome)
  && decide (([e,f]:List Expr).length + ([]:List Keyword).length + (if ([]:List Keyword).isEmpty then 0 else 1) < 30))=true
 line:(apos.endLine == cpos.line)=true
 trees:backTo cpos (starEach [e,f] X.env)=[(false,eval e X.env),(false,eval f X.env)]
end L2
namespace L2.L3
open PySem PySem.Spec PyProof.Rows
inductive D where
 | non|bl (b:Bool)|int (i:Int)|str (x:Str)|tup (xs:List D)|lst (xs:List D)|dct (ks:List Key) (xs:List D)|ty (n:String)|exc (c:Str)|cls (c:Str)|obj (P:Le->Hp->Addr->Prop)
def excAt (a C:Addr) (h:Heap):Prop:=∃o vs,h.get? a=some o/\o.cls=.ref C/\o.dict=none/\o.data=.fields vs
mutual
def Den (K:Le) (F:Hp):D->V->Prop
 | .non,v=>v=V.non
 | .bl b,v=>v=V.bl b
 | .int i,v=>v=V.int i
 | .str x,v=>v=V.str x
 | .ty n,v=>v=V.ty n
 | .exc c,v=>∃a C,v=V.ref a/\PySem.W.nsIn K mainGlobals c=some (some (.ref C))/\F a=some (.ext (excAt a C))
 | .cls c,v=>∃C,v=V.ref C/\PySem.W.nsIn K mainGlobals c=some (some (.ref C))
 | .tup ds,v=>∃a vs,v=V.ref a/\gr K F a vs/\ak K F ds vs
 | .lst ds,v=>∃a vs,v=V.ref a/\fZ K F a vs/\ak K F ds vs
 | .obj P,v=>∃a,v=V.ref a/\∀G,ao F G->P K G a
 | .dct ks ds,v=>∃a vs,v=V.ref a/\F a=some (.dK (ks.zip vs))/\vs.length=ks.length/\ak K F ds vs
def ak (K:Le) (F:Hp):List D->List V->Prop
 | [],vs=>vs=[]
 | d :: ds,vs=>∃v r,vs=v :: r/\Den K F d v/\ak K F ds r
end
theorem ao.bF {K:Le} {H H':Hp} {a:Addr} {xs:List V} (e:ao H H') (h:gr K H a xs):gr K H' a xs:=by
 rcases h with (h|⟨o,h⟩)|h
 ·exact .inl (.inl (e _ _ h))
 ·exact .inl (.inr ⟨o,e _ _ h⟩)
 ·exact .inr h
mutual
theorem Den.mono {K:Le} {F F':Hp} (s:ao F F'):∀(d:D) (v:V),Den K F d v->Den K F' d v
 | .non,_,h=>by simpa only [Den] using h
 | .bl _,_,h=>by simpa only [Den] using h
 | .int _,_,h=>by simpa only [Den] using h
 | .str _,_,h=>by simpa only [Den] using h
 | .ty _,_,h=>by simpa only [Den] using h
 | .cls _,_,h=>by simpa only [Den] using h
 | .exc _,v,h=>by
  simp only [Den] at h ⊢;obtain⟨a,C,e,z,q⟩:=h
  exact⟨a,C,e,z,s _ _ q⟩
 | .tup ds,v,h=>by
  simp only [Den] at h ⊢;obtain⟨a,vs,e,q,r⟩:=h
  exact⟨a,vs,e,ao.bF s q,ak.mono s ds vs r⟩
 | .lst ds,v,h=>by
  simp only [Den] at h ⊢;obtain⟨a,vs,e,q,r⟩:=h
  exact⟨a,vs,e,s.seq q,ak.mono s ds vs r⟩
 | .obj _,v,h=>by
  simp only [Den] at h ⊢;obtain⟨a,e,q⟩:=h
  exact⟨a,e,λG sG=>q G (s.trans sG)⟩
 | .dct ks ds,v,h=>by
  simp only [Den] at h ⊢;obtain⟨a,vs,e,q,l,r⟩:=h;exact⟨a,vs,e,s _ _ q,l,ak.mono s ds vs r⟩
theorem ak.mono {K:Le} {F F':Hp} (s:ao F F'):∀(ds:List D) (vs:List V),ak K F ds vs->ak K F' ds vs
 | [],_,h=>by simpa only [ak] using h
 | d :: ds,vs,h=>by
  simp only [ak] at h ⊢;obtain⟨v,r,e,a,b⟩:=h;exact⟨v,r,e,Den.mono s d v a,ak.mono s ds r b⟩
end
section
variable {K:Le} {F:Hp}
theorem bz {i:Int}:Den K F (.int i) (.int i):=by simp only [Den]
theorem hW {b:Bool}:Den K F (.bl b) (.bl b):=by simp only [Den]
theorem mX:Den K F .non .non:=by simp only [Den]
theorem kA {x:Str}:Den K F (.str x) (.str x):=by simp only [Den]
theorem fP {a:Addr} {vs:List V} {ds:List D} (h:gr K F a vs) (r:ak K F ds vs):Den K F (.tup ds) (.ref a):=by
 simp only [Den];exact⟨a,vs,rfl,h,r⟩
theorem gw {a:Addr} {vs:List V} {ds:List D} (h:fZ K F a vs) (r:ak K F ds vs):Den K F (.lst ds) (.ref a):=by
 simp only [Den];exact⟨a,vs,rfl,h,r⟩
theorem aH:ak K F [] []:=by simp only [ak]
theorem aD {d:D} {v:V} {ds:List D} {vs:List V} (h:Den K F d v) (r:ak K F ds vs):ak K F (d :: ds) (v :: vs):=by
 simp only [ak];exact⟨v,vs,rfl,h,r⟩
theorem ak.length:∀{ds:List D} {vs:List V},ak K F ds vs->ds.length=vs.length
 | [],vs,h=>by simp only [ak] at h;subst h;rfl
 | d :: ds,vs,h=>by
  simp only [ak] at h;obtain⟨v,r,rfl,_,b⟩:=h;simp [ak.length b]
theorem ak.get:∀{ds:List D} {vs:List V} {i:Nat} {d:D},ak K F ds vs->ds[i]?=some d->∃v,vs[i]?=some v/\Den K F d v
 | [],vs,i,d,h,e=>by simp at e
 | x :: ds,vs,i,d,h,e=>by
  simp only [ak] at h;obtain⟨v,r,rfl,a,b⟩:=h
  cases i with
  | zero=>simp at e;subst e;exact⟨v,rfl,a⟩
  | succ i=>simpa using ak.get b (by simpa using e)
theorem ak.HG:∀{ds:List D} {vs:List V} {i:Nat} {v:V},ak K F ds vs->vs[i]?=some v->∃d,ds[i]?=some d/\Den K F d v
 | [],vs,i,d,h,e=>by simp only [ak] at h;subst h;simp at e
 | x :: ds,vs,i,d,h,e=>by
  simp only [ak] at h;obtain⟨v,r,rfl,a,b⟩:=h
  cases i with
  | zero=>simp at e;subst e;exact⟨x,rfl,a⟩
  | succ i=>simpa using ak.HG b (by simpa using e)
theorem ak.append:∀{ds es:List D} {vs us:List V},ak K F ds vs->ak K F es us->ak K F (ds ++ es) (vs ++ us)
 | [],es,vs,us,h,g=>by simp only [ak] at h;subst h;exact g
 | x :: ds,es,vs,us,h,g=>by
  simp only [ak] at h;obtain⟨v,r,rfl,a,b⟩:=h;exact aD a (ak.append b g)
theorem ak.take:∀{ds:List D} {vs:List V} (n:Nat),ak K F ds vs->ak K F (ds.take n) (vs.take n)
 | _,_,0,_=>by simpa using aH
 | [],vs,n + 1,h=>by simp only [ak] at h;subst h;simpa using aH
 | x :: ds,vs,n + 1,h=>by
  simp only [ak] at h;obtain⟨v,r,rfl,a,b⟩:=h;exact aD a (ak.take n b)
theorem ak.drop:∀{ds:List D} {vs:List V} (n:Nat),ak K F ds vs->ak K F (ds.drop n) (vs.drop n)
 | _,_,0,h=>by simpa using h
 | [],vs,n + 1,h=>by simp only [ak] at h;subst h;simpa using aH
 | x :: ds,vs,n + 1,h=>by
  simp only [ak] at h;obtain⟨v,r,rfl,a,b⟩:=h;exact ak.drop n b
theorem ak.set {x:D} {v:V} (q:Den K F x v):∀{ds:List D} {vs:List V} (n:Nat),ak K F ds vs->ak K F (ds.set n x) (vs.set n v)
 | [],vs,n,h=>by simp only [ak] at h;subst h;simpa using aH
 | y :: ds,vs,0,h=>by
  simp only [ak] at h;obtain⟨w,r,rfl,a,b⟩:=h
  exact aD q b
 | y :: ds,vs,n + 1,h=>by
  simp only [ak] at h;obtain⟨w,r,rfl,a,b⟩:=h;exact aD a (ak.set q n b)
theorem rT (ns:List Int):ak K F (ns.map D.int) (ns.map V.int):=by
 induction ns with
 | nil=>exact aH
 | cons n r ih=>exact aD bz ih
end
mutual
def yW:D->Int
 | .int i=>hashInt i
 | .tup ds=>reduceHash (Builtin.Tuple.tupleHashOf (qf ds))
 | .non=>4238894112
 | _=>0
def qf:List D->List Int
 | []=>[]
 | d :: ds=>yW d :: qf ds
end
def bp (h:Heap) (d:Addr) (es:Array DictEntry) (ep:Nat):Prop:=∃o,h.get? d=some o/\o.ExactDict/\o.data=.dict es ep
def tG (row:Int×V×V) (e:DictEntry):Prop:=e.hash=row.1/\RelV row.2.1 e.key/\RelV row.2.2 e.val
def bR (p:Addr) (ep:Nat) (rows:List (Int×V×V)):HO:=.ext λh=>rows.length<=sizeLine/\(p == sysModules)=false/\∃es,bp h p es ep/\Paired tG rows es.toList
def bq (kvs:List (D×D)) (us vs:List V):List (Int×V×V):=(kvs.map λkv=>yW kv.1).zip (us.zip vs)
inductive Lo where
 | d (x:D)|own (xs:List D)|dic (kvs:List (D×D))
abbrev En:=List (Option Lo)
structure Base where
 F:Hp
 H:Hp
 N:Addr->Prop
 nb:∀p,N p->H p≠none
structure Rep (K:Le) (B:Base) (F H:Hp) (σ:St) (e:En):Prop where
 f0:ao B.F F
 fh:ao F H
 h0:ao B.H H
 nf:∀p,B.N p->F p=none
 dv:∀(i:Nat) x,e[i]?=some (some (.d x))->∃v,σ[i]?=some (some v)/\Den K F x v
 ov:∀(i:Nat) xs,e[i]?=some (some (.own xs))->∃p vs,σ[i]?=some (some (.ref p))/\H p=some (.lst vs)/\F p=none/\B.H p=none/\ak K F xs vs
 ne:∀(i j:Nat) xs ys p,i≠j->e[i]?=some (some (.own xs))->e[j]?=some (some (.own ys))->σ[i]?=some (some (.ref p))->σ[j]?=some (some (.ref p))->False
 mv:∀(i:Nat) kvs,e[i]?=some (some (.dic kvs))->∃p ep us vs,σ[i]?=some (some (.ref p))/\H p=some (bR p ep (bq kvs us vs))/\F p=none/\B.H p=none/\ak K F (kvs.map (·.1)) us/\ak K F (kvs.map (·.2)) vs
 nm:∀(i j:Nat) xs ys p,i≠j->e[i]?=some (some (.dic xs))->e[j]?=some (some (.dic ys))->σ[i]?=some (some (.ref p))->σ[j]?=some (some (.ref p))->False
section
variable {K:Le} {B:Base} {F H F' H':Hp} {σ:St} {e:En}
theorem Rep.ext (r:Rep K B F H σ e) (a:ao F F') (b:ao F' H') (c:ao H H') (n:∀p,H p≠none->F p=none->F' p=none):Rep K B F' H' σ e where
 f0:=r.f0.trans a
 fh:=b
 h0:=r.h0.trans c
 nf:=λp hp=>by
  refine n p (λz=>?_) (r.nf p hp);have q:=B.nb p hp
  cases w:B.H p with
  | none=>exact q w
  | some o=>rw [r.h0 _ _ w] at z;cases z
 dv:=λi x h=>let ⟨v,h1,h2⟩:=r.dv i x h;⟨v,h1,Den.mono a _ _ h2⟩
 ov:=λi xs h=>by
  obtain⟨p,vs,h1,h2,h3,h4,h5⟩:=r.ov i xs h;exact⟨p,vs,h1,c _ _ h2,n p (by rw [h2];simp) h3,h4,ak.mono a _ _ h5⟩
 ne:=r.ne
 mv:=λi xs h=>by
  obtain⟨p,ep,us,vs,h1,h2,h3,h4,h5,h6⟩:=r.mv i xs h;exact⟨p,ep,us,vs,h1,c _ _ h2,n p (by rw [h2];simp) h3,h4,ak.mono a _ _ h5,ak.mono a _ _ h6⟩
 nm:=r.nm
theorem Rep.mj (r:Rep K B F H σ e) {p:Addr} (h:H p=none):F p=none:=r.fh.free h
theorem bC {H:Hp} {p:Addr} {o:HO} (h:H p=none):ao H (upd H p o):=λb u q=>by rw [az (bL q h)];exact q
theorem rY {F H:Hp} {p:Addr} {o:HO} (h:ao F H):ao (upd F p o) (upd H p o):=λb u q=>by
 by_cases e:b=p
 ·subst e;rw [av] at q ⊢;exact q
 ·rw [az e] at q ⊢;exact h _ _ q
theorem Rep.laid (r:Rep K B F H σ e) {p:Addr} {o:HO} (h:H p=none):Rep K B (upd F p o) (upd H p o) σ e/\ao F (upd F p o):=by
 have hf:=r.mj h;refine⟨r.ext (bC hf) (rY r.fh) (bC h) λq hq hn=>?_,bC hf⟩
 by_cases z:q=p
 ·subst z;exact absurd h hq
 ·rw [az z];exact hn
theorem Rep.loose (r:Rep K B F H σ e) {p:Addr} {o:HO} (h:H p=none):Rep K B F (upd H p o) σ e :=
 r.ext (ao.refl _) (r.fh.trans (bC h)) (bC h) λ_ _ hn=>hn
theorem Rep.now (r:Rep K B F H σ e):Rep K ⟨F,B.H,B.N,B.nb⟩ F H σ e:=⟨ao.refl _,r.fh,r.h0,r.nf,r.dv,r.ov,r.ne,r.mv,r.nm⟩
theorem Rep.back {G:Hp} (s:ao B.F G) (r:Rep K ⟨G,B.H,B.N,B.nb⟩ F H σ e):Rep K B F H σ e:=⟨s.trans r.f0,r.fh,r.h0,r.nf,r.dv,r.ov,r.ne,r.mv,r.nm⟩
theorem aY {e:En} {i j:Nat} {l:Lo} {kvs:List (D×D)} (hl:∀z,l≠.dic z) (q:(e.set i (some l))[j]?=some (some (.dic kvs))):i≠j:=λz=>by
 subst z
 by_cases w:i < e.length
 ·rw [Lm w] at q;cases q;exact hl _ rfl
 ·rw [Lp (by simpa using w)] at q;cases q
theorem Rep.set (r:Rep K B F H σ e) {i:Nat} {v:V} {x:D} (h:Den K F x v) (hl:i < σ.length):Rep K B F H (σ.set i (some v)) (e.set i (some (.d x))) where
 f0:=r.f0
 fh:=r.fh
 h0:=r.h0
 nf:=r.nf
 dv:=λj y q=>by
  by_cases z:i=j
  ·subst z
   by_cases w:i < e.length
   ·rw [Lm w] at q;cases q;exact⟨v,Lm hl,h⟩
   ·rw [Lp (by simpa using w)] at q;cases q
  ·rw [Lb z] at q ⊢;exact r.dv j y q
 ov:=λj y q=>by
  by_cases z:i=j
  ·subst z
   by_cases w:i < e.length
   ·rw [Lm w] at q;cases q
   ·rw [Lp (by simpa using w)] at q;cases q
  ·rw [Lb z] at q ⊢;exact r.ov j y q
 ne:=λj k xs ys p hjk q1 q2 q3 q4=>by
  have own_ne:∀(j:Nat) (ys:List D),(e.set i (some (.d x)))[j]?=some (some (.own ys))->i≠j:=λj ys q z=>by
   subst z
   by_cases w:i < e.length
   ·rw [Lm w] at q;cases q
   ·rw [Lp (by simpa using w)] at q;cases q
  have z1:=own_ne j xs q1;have z2:=own_ne k ys q2;rw [Lb z1] at q1 q3;rw [Lb z2] at q2 q4;exact r.ne j k xs ys p hjk q1 q2 q3 q4
 mv:=λj y q=>by
  have z:i≠j:=aY (λ_ w=>by cases w) q;rw [Lb z] at q ⊢;exact r.mv j y q
 nm:=λj k xs ys p hjk q1 q2 q3 q4=>by
  have z1:=aY (λ_ w=>by cases w) q1;have z2:=aY (λ_ w=>by cases w) q2;rw [Lb z1] at q1 q3;rw [Lb z2] at q2 q4;exact r.nm j k xs ys p hjk q1 q2 q3 q4
theorem Rep.Au (r:Rep K B F H σ e) {i:Nat} {p:Addr} {vs:List V} {xs:List D} (h:H p=none) (hd:ak K F xs vs) (hl:i < σ.length) :
  Rep K B F (upd H p (.lst vs)) (σ.set i (some (.ref p))) (e.set i (some (.own xs))):=by
 have r1:=r.loose (o:=.lst vs) h;have hb:B.H p=none:=r.h0.free h
 have old:∀(j:Nat) (ys:List D),e[j]?=some (some (.own ys))->σ[j]?≠some (some (.ref p)):=λj ys q z=>by
  obtain⟨q1,_,h1,h2,_⟩:=r.ov j ys q;rw [z] at h1;cases h1;rw [h] at h2;cases h2
 refine⟨r1.f0,r1.fh,r1.h0,r1.nf,λj y q=>?_,λj y q=>?_,λj k ys zs q hjk q1 q2 q3 q4=>?_,λj y q=>?_,λj k ys zs q hjk q1 q2 q3 q4=>?_⟩
 ·by_cases z:i=j
  ·subst z
   by_cases w:i < e.length
   ·rw [Lm w] at q;cases q
   ·rw [Lp (by simpa using w)] at q;cases q
  ·rw [Lb z] at q ⊢;exact r1.dv j y q
 ·by_cases z:i=j
  ·subst z
   by_cases w:i < e.length
   ·rw [Lm w] at q;cases q;exact⟨p,vs,Lm hl,av,r.mj h,hb,hd⟩
   ·rw [Lp (by simpa using w)] at q;cases q
  ·rw [Lb z] at q ⊢;exact r1.ov j y q
 ·by_cases z1:i=j
  ·subst z1;rw [Lb hjk] at q2 q4
   by_cases w:i < e.length
   ·rw [Lm hl] at q3;cases q3;exact old k zs q2 q4
   ·rw [Lp (by simpa using w)] at q1;cases q1
  ·rw [Lb z1] at q1 q3
   by_cases z2:i=k
   ·subst z2;rw [Lm hl] at q4;cases q4;exact old j ys q1 q3
   ·rw [Lb z2] at q2 q4;exact r.ne j k ys zs q hjk q1 q2 q3 q4
 ·have z:i≠j:=aY (λ_ w=>by cases w) q;rw [Lb z] at q ⊢;exact r1.mv j y q
 ·have z1:=aY (λ_ w=>by cases w) q1;have z2:=aY (λ_ w=>by cases w) q2;rw [Lb z1] at q1 q3;rw [Lb z2] at q2 q4;exact r.nm j k ys zs q hjk q1 q2 q3 q4
theorem Rep.change (r:Rep K B F H σ e) {i:Nat} {p:Addr} {vs:List V} {xs ys:List D} (h:e[i]?=some (some (.own xs))) (hp:σ[i]?=some (some (.ref p))) (hd:ak K F ys vs) :
  Rep K B F (upd H p (.lst vs)) σ (e.set i (some (.own ys))):=by
 obtain⟨p',_,h1,h2,h3,h4,_⟩:=r.ov i xs h;rw [hp] at h1;cases h1;have wl:i < e.length:=(La.mp h).1;have fk:∀q o,F q=some o->q≠p:=λq o z w=>by subst w;rw [h3] at z;cases z
 have bk:∀q o,B.H q=some o->q≠p:=λq o z w=>by subst w;rw [h4] at z;cases z
 have ownAt:∀(j:Nat) (zs:List D),(e.set i (some (.own ys)))[j]?=some (some (.own zs))->∃ws,e[j]?=some (some (.own ws)):=λj zs q=>by
  by_cases z:i=j
  ·subst z;exact⟨xs,h⟩
  ·rw [Lb z] at q;exact⟨zs,q⟩
 refine⟨r.f0,λb o z=>by rw [az (fk b o z)];exact r.fh _ _ z,λb o z=>by rw [az (bk b o z)];exact r.h0 _ _ z,r.nf,λj y q=>?_,λj y q=>?_,λj k as bs q hjk q1 q2 q3 q4=>?_,λj y q=>?_,λj k as bs q hjk q1 q2 q3 q4=>?_⟩
 ·by_cases z:i=j
  ·subst z;rw [Lm wl] at q;cases q
  ·rw [Lb z] at q;exact r.dv j y q
 ·by_cases z:i=j
  ·subst z;rw [Lm wl] at q;cases q;exact⟨p,vs,hp,av,h3,h4,hd⟩
  ·rw [Lb z] at q;obtain⟨p2,us,g1,g2,g3,g4,g5⟩:=r.ov j y q;have:p2≠p:=λw=>by subst w;exact r.ne j i y xs p2 (Ne.symm z) q h g1 hp
   exact⟨p2,us,g1,by rw [az this];exact g2,g3,g4,g5⟩
 ·obtain⟨as',w1⟩:=ownAt j as q1;obtain⟨bs',w2⟩:=ownAt k bs q2;exact r.ne j k as' bs' q hjk w1 w2 q3 q4
 ·have z:i≠j:=aY (λ_ w=>by cases w) q;rw [Lb z] at q;obtain⟨p2,ep,us,ws,g1,g2,g3,g4,g5,g6⟩:=r.mv j y q;have:p2≠p:=λw=>by subst w;rw [h2] at g2;cases g2
  exact⟨p2,ep,us,ws,g1,by rw [az this];exact g2,g3,g4,g5,g6⟩
 ·have z1:=aY (λ_ w=>by cases w) q1;have z2:=aY (λ_ w=>by cases w) q2;rw [Lb z1] at q1;rw [Lb z2] at q2;exact r.nm j k as bs q hjk q1 q2 q3 q4
theorem Rep.freeze (r:Rep K B F H σ e) {i:Nat} {xs:List D} (h:e[i]?=some (some (.own xs))):∃F',ao F F'/\Rep K B F' H σ (e.set i (some (.d (.lst xs)))):=by
 obtain⟨p,vs,h1,h2,h3,h4,h5⟩:=r.ov i xs h;have wl:i < e.length:=(La.mp h).1;have s1:ao F (upd F p (.lst vs)):=bC h3;refine⟨upd F p (.lst vs),s1,r.f0.trans s1,λb o z=>?_,r.h0,λq hq=>?_,λj y q=>?_,λj y q=>?_,λj k as bs q hjk q1 q2 q3 q4=>?_,λj y q=>?_,λj k as bs q hjk q1 q2 q3 q4=>?_⟩
 ·by_cases w:b=p
  ·subst w;rw [av] at z;cases z;exact h2
  ·rw [az w] at z;exact r.fh _ _ z
 ·have:q≠p:=λw=>by subst w;exact B.nb _ hq h4
  rw [az this];exact r.nf q hq
 ·by_cases z:i=j
  ·subst z;rw [Lm wl] at q;cases q;exact⟨_,h1,gw (fZ.of av) (ak.mono s1 _ _ h5)⟩
  ·rw [Lb z] at q;obtain⟨v,a,b⟩:=r.dv j y q;exact⟨v,a,Den.mono s1 _ _ b⟩
 ·by_cases z:i=j
  ·subst z;rw [Lm wl] at q;cases q
  ·rw [Lb z] at q;obtain⟨p2,us,g1,g2,g3,g4,g5⟩:=r.ov j y q;have:p2≠p:=λw=>by subst w;exact r.ne j i y xs p2 (Ne.symm z) q h g1 h1
   exact⟨p2,us,g1,g2,by rw [az this];exact g3,g4,ak.mono s1 _ _ g5⟩
 ·have ownAt:∀(j:Nat) (zs:List D),(e.set i (some (.d (.lst xs))))[j]?=some (some (.own zs))->e[j]?=some (some (.own zs)):=λj zs q=>by
   by_cases z:i=j
   ·subst z;rw [Lm wl] at q;cases q
   ·rw [Lb z] at q;exact q
  exact r.ne j k as bs q hjk (ownAt j as q1) (ownAt k bs q2) q3 q4
 ·have z:i≠j:=aY (λ_ w=>by cases w) q;rw [Lb z] at q;obtain⟨p2,ep,us,ws,g1,g2,g3,g4,g5,g6⟩:=r.mv j y q;have:p2≠p:=λw=>by subst w;rw [h2] at g2;cases g2
  exact⟨p2,ep,us,ws,g1,g2,by rw [az this];exact g3,g4,ak.mono s1 _ _ g5,ak.mono s1 _ _ g6⟩
 ·have z1:=aY (λ_ w=>by cases w) q1;have z2:=aY (λ_ w=>by cases w) q2;rw [Lb z1] at q1;rw [Lb z2] at q2;exact r.nm j k as bs q hjk q1 q2 q3 q4
end
end L2.L3
namespace L2.L3
open PySem PySem.Spec PyProof.Rows
def notStar:Expr->Bool
 | .Starred _ _=>false
 | _=>true
theorem aZ {e:Expr} {es:List Expr} {env:Env} (h:notStar e=true):starEach (e :: es) env=(false,eval e env) :: starEach es env:=by
 cases e <;> first|rfl|cases h
abbrev TD:=En->(D->Prop)->Prop
abbrev TB:=En->(Bool->Prop)->Prop
abbrev fY:=En->(List D->Prop)->Prop
structure Ends3 where
 nx:En->Prop
 rt:D->Prop
 bk:En->Prop:=λ_=>False
 ct:En->Prop:=λ_=>False
abbrev bI:=Ends3->En->Prop
def wE (X:Cx) (e:Expr):TE:=λσ H Q=>∀(pins:List (Addr×Obj)) (s:Shared),Inv X pins σ H s->wpAny (model X.prog X.w) X.A (eval e X.env) (EP X pins σ Q) X.xe s
def wT (X:Cx) (e:Expr):TT:=λσ H Q=>∀(pins:List (Addr×Obj)) (s:Shared),Inv X pins σ H s->wpAny (model X.prog X.w) X.A (isTrue e X.env (eval e X.env)) (TP X pins σ Q) X.xe s
def wW (X:Cx) (e:Expr):TT:=λσ H Q=>∀(whole:Sem Value) (pins:List (Addr×Obj)) (s:Shared),Inv X pins σ H s->wpAny (model X.prog X.w) X.A (isTrue e X.env whole) (TP X pins σ Q) X.xe s
def wA (X:Cx) (es:List Expr):TA:=λσ H Q=>∀(pos:Pos) (pins:List (Addr×Obj)) (s:Shared),Inv X pins σ H s->wpAny (model X.prog X.w) X.A (spliced (backTo pos (starEach es X.env))) (AP X pins σ Q) X.xe s
def wS (X:Cx) (st:Stmt):TS:=λD σ H=>∀(pins:List (Addr×Obj)) (s:Shared),Inv X pins σ H s->wpAny (model X.prog X.w) X.A (exec st X.env) (SP X pins D) X.xe s
def wSs (X:Cx) (st:List Stmt):TS:=λD σ H=>∀(pins:List (Addr×Obj)) (s:Shared),Inv X pins σ H s->wpAny (model X.prog X.w) X.A (execs st X.env) (SP X pins D) X.xe s
section
variable {X:Cx} {e:Expr} {es:List Expr} {st:Stmt} {sts:List Stmt} {σ:St} {H:Hp}
theorem bO:PE X e (wE X e):=λpins s σ H Q I h=>h pins s I
theorem sZ:PT X e (wT X e):=λpins s σ H Q I h=>h pins s I
theorem Ir:PW X e (wW X e):=λwh pins s σ H Q I h=>h wh pins s I
theorem jh:PA X es (wA X es):=λpos pins s σ H Q I h=>h pos pins s I
theorem CB:PS X st (wS X st):=λpins s σ H D I h=>h pins s I
theorem fi:yb X sts (wSs X sts):=λpins s σ H D I h=>h pins s I
theorem dA {te:TE} {Q:VK} (h:PE X e te) (q:te σ H Q):wE X e σ H Q:=λpins s I=>h pins s σ H Q I q
theorem rL {te:TT} {Q:Bool->Hp->Prop} (h:PT X e te) (q:te σ H Q):wT X e σ H Q:=λpins s I=>h pins s σ H Q I q
theorem yU {te:TT} {Q:Bool->Hp->Prop} (h:PW X e te) (q:te σ H Q):wW X e σ H Q:=λwh pins s I=>h wh pins s σ H Q I q
theorem Ex {te:TA} {Q:List V->Hp->Prop} (h:PA X es te) (q:te σ H Q):wA X es σ H Q:=λpos pins s I=>h pos pins s σ H Q I q
theorem ei {te:TS} {D:Ends} (h:PS X st te) (q:te D σ H):wS X st D σ H:=λpins s I=>h pins s σ H D I q
theorem nC {te:TS} {D:Ends} (h:yb X sts te) (q:te D σ H):wSs X sts D σ H:=λpins s I=>h pins s σ H D I q
theorem aC {Q Q':VK} (h:wE X e σ H Q) (i:∀v H',Q v H'->Q' v H'):wE X e σ H Q':=λpins s I=>bP (h pins s I) λ_ _ ⟨v,H',I',r,q⟩=>⟨v,H',I',r,i v H' q⟩
theorem iQ {Q Q':Bool->Hp->Prop} (h:wT X e σ H Q) (i:∀v H',Q v H'->Q' v H'):wT X e σ H Q':=λpins s I=>bP (h pins s I) λb _ ⟨H',I',q⟩=>⟨H',I',i b H' q⟩
theorem yv {Q Q':Bool->Hp->Prop} (h:wW X e σ H Q) (i:∀v H',Q v H'->Q' v H'):wW X e σ H Q':=λwh pins s I=>bP (h wh pins s I) λb _ ⟨H',I',q⟩=>⟨H',I',i b H' q⟩
theorem cO {Q Q':List V->Hp->Prop} (h:wA X es σ H Q) (i:∀v H',Q v H'->Q' v H'):wA X es σ H Q':=λpos pins s I=>bP (h pos pins s I) λ_ _ ⟨v,H',I',r,q⟩=>⟨v,H',I',r,i v H' q⟩
theorem pj {pins:List (Addr×Obj)} {D D':Ends} {f:Flow} {s':Shared} (h:SP X pins D f s') (nx:∀σ H,D.nx σ H->D'.nx σ H) (rt:∀v H,D.rt v H->D'.rt v H) (bk:∀σ H,D.bk σ H->D'.bk σ H) (ct:∀σ H,D.ct σ H->D'.ct σ H):SP X pins D' f s':=by
 cases f with
 | next=>obtain⟨σ',H',I,q⟩:=h;exact⟨σ',H',I,nx _ _ q⟩
 | brk=>obtain⟨σ',H',I,q⟩:=h;exact⟨σ',H',I,bk _ _ q⟩
 | cont=>obtain⟨σ',H',I,q⟩:=h;exact⟨σ',H',I,ct _ _ q⟩
 | ret u=>obtain⟨v,σ',H',I,r,q⟩:=h;exact⟨v,σ',H',I,r,rt _ _ q⟩
theorem yT {D D':Ends} (h:wS X st D σ H) (nx:∀σ H,D.nx σ H->D'.nx σ H) (rt:∀v H,D.rt v H->D'.rt v H) (bk:∀σ H,D.bk σ H->D'.bk σ H) (ct:∀σ H,D.ct σ H->D'.ct σ H):wS X st D' σ H :=
 λpins s I=>bP (h pins s I) λ_ _ q=>pj q nx rt bk ct
theorem jJ {D D':Ends} (h:wSs X sts D σ H) (nx:∀σ H,D.nx σ H->D'.nx σ H) (rt:∀v H,D.rt v H->D'.rt v H) (bk:∀σ H,D.bk σ H->D'.bk σ H) (ct:∀σ H,D.ct σ H->D'.ct σ H):wSs X sts D' σ H :=
 λpins s I=>bP (h pins s I) λ_ _ q=>pj q nx rt bk ct
end
def RV (X:Cx) (B:Base) (σ:St) (env:En) (F:Hp) (Q:D->Prop):VK:=λv H'=>∃F' d,Rep X.K B F' H' σ env/\ao F F'/\Den X.K F' d v/\Q d
def RB (X:Cx) (B:Base) (σ:St) (env:En) (F:Hp) (Q:Bool->Prop):Bool->Hp->Prop:=λb H'=>∃F',Rep X.K B F' H' σ env/\ao F F'/\Q b
def RA (X:Cx) (B:Base) (σ:St) (env:En) (F:Hp) (Q:List D->Prop):List V->Hp->Prop:=λvs H'=>∃F' ds,Rep X.K B F' H' σ env/\ao F F'/\ak X.K F' ds vs/\Q ds
def RS (X:Cx) (B:Base) (D:Ends3):Ends where
 nx:=λσ' H'=>∃F' env',Rep X.K B F' H' σ' env'/\D.nx env'
 rt:=λv H'=>∃F' d,Rep X.K B F' H' [] []/\Den X.K F' d v/\D.rt d
 bk:=λσ' H'=>∃F' env',Rep X.K B F' H' σ' env'/\D.bk env'
 ct:=λσ' H'=>∃F' env',Rep X.K B F' H' σ' env'/\D.ct env'
structure QE (X:Cx) (e:Expr) (t:TD):Prop where
 of ::
 run:∀(B:Base) (σ:St) (F H:Hp) (env:En) (Q:D->Prop),Rep X.K B F H σ env->t env Q->wE X e σ H (RV X B σ env F Q)
instance {X:Cx} {e:Expr} {t:TD}:CoeFun (QE X e t) (λ_=>∀(B:Base) (σ:St) (F H:Hp) (env:En) (Q:D->Prop),Rep X.K B F H σ env->t env Q->wE X e σ H (RV X B σ env F Q)):=⟨QE.run⟩
structure QT (X:Cx) (e:Expr) (t:TB):Prop where
 of ::
 run:∀(B:Base) (σ:St) (F H:Hp) (env:En) (Q:Bool->Prop),Rep X.K B F H σ env->t env Q->wT X e σ H (RB X B σ env F Q)
instance {X:Cx} {e:Expr} {t:TB}:CoeFun (QT X e t) (λ_=>∀(B:Base) (σ:St) (F H:Hp) (env:En) (Q:Bool->Prop),Rep X.K B F H σ env->t env Q->wT X e σ H (RB X B σ env F Q)):=⟨QT.run⟩
structure QW (X:Cx) (e:Expr) (t:TB):Prop where
 of ::
 run:∀(B:Base) (σ:St) (F H:Hp) (env:En) (Q:Bool->Prop),Rep X.K B F H σ env->t env Q->wW X e σ H (RB X B σ env F Q)
instance {X:Cx} {e:Expr} {t:TB}:CoeFun (QW X e t) (λ_=>∀(B:Base) (σ:St) (F H:Hp) (env:En) (Q:Bool->Prop),Rep X.K B F H σ env->t env Q->wW X e σ H (RB X B σ env F Q)):=⟨QW.run⟩
structure QA (X:Cx) (es:List Expr) (t:fY):Prop where
 of ::
 run:∀(B:Base) (σ:St) (F H:Hp) (env:En) (Q:List D->Prop),Rep X.K B F H σ env->t env Q->wA X es σ H (RA X B σ env F Q)
instance {X:Cx} {es:List Expr} {t:fY}:CoeFun (QA X es t) (λ_=>∀(B:Base) (σ:St) (F H:Hp) (env:En) (Q:List D->Prop),Rep X.K B F H σ env->t env Q->wA X es σ H (RA X B σ env F Q)):=⟨QA.run⟩
structure QS (X:Cx) (st:Stmt) (t:bI):Prop where
 of ::
 run:∀(B:Base) (σ:St) (F H:Hp) (env:En) (D:Ends3),Rep X.K B F H σ env->t D env->wS X st (RS X B D) σ H
instance {X:Cx} {st:Stmt} {t:bI}:CoeFun (QS X st t) (λ_=>∀(B:Base) (σ:St) (F H:Hp) (env:En) (D:Ends3),Rep X.K B F H σ env->t D env->wS X st (RS X B D) σ H):=⟨QS.run⟩
structure o7 (X:Cx) (st:List Stmt) (t:bI):Prop where
 of ::
 run:∀(B:Base) (σ:St) (F H:Hp) (env:En) (D:Ends3),Rep X.K B F H σ env->t D env->wSs X st (RS X B D) σ H
instance {X:Cx} {st:List Stmt} {t:bI}:CoeFun (o7 X st t) (λ_=>∀(B:Base) (σ:St) (F H:Hp) (env:En) (D:Ends3),Rep X.K B F H σ env->t D env->wSs X st (RS X B D) σ H):=⟨o7.run⟩
section
variable {X:Cx} {a b c e:Expr} {es:List Expr} {ta tb tc:TD} {tA tB':TB} {ts:fY} {pos:Pos} {rest:List Expr}
def ag (i:Nat):TD:=λenv Q=>∃x,env[i]?=some (some (.d x))/\Q x
def cC (x:D):TD:=λ_ Q=>Q x
theorem qv (i:Nat) {x:Str} {pos:Pos} (hN:X.N[i]?=some x:=by rfl) (hv:ua X.env.scope x:=by first | exact Or.inl rfl | exact Or.inr (Or.inl rfl) | exact Or.inr (Or.inr rfl)) (hd:(x == ("__debug__" : Str))=false:=by decide)
  (hcd:(x == ("__classdict__" : Str))=false:=by decide):QE X (.Name x pos) (ag i):=by
 refine⟨?_⟩;intro B σ F H env Q r ⟨x,hx,q⟩;obtain⟨v,hv',hd'⟩:=r.dv i x hx;exact dA (dU hN hv hd hcd) ⟨v,hv',F,x,r,ao.refl _,hd',q⟩
theorem qc {te:TE} {v:V} {x:D} (h:PE X e (tC v)) (hd:∀F,Den X.K F x v):QE X e (cC x):=⟨λB σ F H env Q r q=>dA h ⟨F,x,r,ao.refl _,hd F,q⟩⟩
theorem aB {i j pos}:QE X (.Constant (.int i) j pos) (cC (.int i)):=qc (te:=tC (.int i)) xg λ_=>bz
theorem Ae {b j pos}:QE X (.Constant (.bool b) j pos) (cC (.bl b)):=qc (te:=tC (.bl b)) Im λ_=>hW
theorem Cm {j pos}:QE X (.Constant .none j pos) (cC .non):=qc (te:=tC .non) Bm λ_=>mX
theorem kF {x j pos}:QE X (.Constant (.str x) j pos) (cC (.str x)):=qc (te:=tC (.str x)) E8 λ_=>kA
def Kont (X:Cx) (B:Base) (σ:St) (env:En) (F:Hp) (Q:D->Prop) (Z:VK):Prop:=∀(v:V) (H' F':Hp) (d:D),Rep X.K B F' H' σ env->ao F F'->Den X.K F' d v->Q d->Z v H'
def wO (X:Cx) (r:R2) (f:D->D->(D->Prop)->Prop):Prop:=∀(B:Base) (σ:St) (F H:Hp) (env:En) (Q:D->Prop) (d d':D) (x y:V) (Z:VK),Rep X.K B F H σ env->Den X.K F d x->Den X.K F d' y->Kont X B σ env F Q Z->f d d' Q->r x y H Z
def aG (f:D->D->(D->Prop)->Prop) (ta tb:TD):TD:=λenv Q=>ta env λx=>tb env λy=>f x y Q
theorem RV.weaken {B:Base} {σ:St} {env:En} {F F':Hp} {Q:D->Prop} (s:ao F F') {v:V} {H:Hp} (h:RV X B σ env F' Q v H):RV X B σ env F Q v H:=by
 obtain⟨G,d,r,s',hd,q⟩:=h;exact⟨G,d,r,s.trans s',hd,q⟩
theorem two {r:R2} {f:D->D->(D->Prop)->Prop} (hf:wO X r f) (ha:QE X a ta) (hb:QE X b tb) {B:Base} {σ:St} {F H:Hp} {env:En} {Q:D->Prop} {Z:VK} (rp:Rep X.K B F H σ env) (hz:Kont X B σ env F Q Z) (h:aG f ta tb env Q) :
  Hw r (wE X a) (wE X b) σ H Z:=by
 refine aC (ha B σ F H env _ rp h) λx H1 hq0=>?_;obtain⟨F1,d,r1,s1,d1,q1⟩:=hq0;refine aC (hb B σ F1 H1 env _ r1 q1) λy H2 hq0=>?_;obtain⟨F2,d',r2,s2,d2,q2⟩:=hq0;exact hf B σ F2 H2 env Q d d' x y Z r2 (Den.mono s2 _ _ d1) d2 (λv H' F' d' r' s'=>hz v H' F' d' r' ((s1.trans s2).trans s')) q2
theorem JG {B:Base} {σ:St} {env:En} {F:Hp} {Q:D->Prop}:Kont X B σ env F Q (RV X B σ env F Q):=λv H' F' d r s hd q=>⟨F',d,r,s,hd,q⟩
theorem xl {op:Operator} {r:R2} {f:D->D->(D->Prop)->Prop} (ho:jq X (binaryOp op) r) (hf:wO X r f) (ha:QE X a ta) (hb:QE X b tb):QE X (.BinOp a op b pos) (aG f ta tb) :=
 ⟨λB σ F H env Q rp h=>dA (IL ho bO bO) (two hf ha hb rp JG h)⟩
theorem E2 {op:CmpOp} {r:R2} {f:D->D->(D->Prop)->Prop} (ho:jq X (compareOp op) r) (hf:wO X r f) (ha:QE X a ta) (hb:QE X b tb) (hm:behindInMarks op b=false):QE X (.Compare a [op] [b] pos) (aG f ta tb) :=
 ⟨λB σ F H env Q rp h=>dA (C1 ho bO bO hm) (two hf ha hb rp JG h)⟩
def aN (t:TD):TB:=λenv Q=>t env λx=>∃k,x=.bl k/\Q k
theorem kX {K:Le} {F:Hp} {k:Bool} {v:V} (h:Den K F (.bl k) v):v=.bl k:=by simpa only [Den] using h
theorem ik {op:CmpOp} {r:R2} {f:D->D->(D->Prop)->Prop} (ho:jq X (compareOp op) r) (hf:wO X r f) (ha:QE X a ta) (hb:QE X b tb) (hm:behindInMarks op b=false):QT X (.Compare a [op] [b] pos) (aN (aG f ta tb)):=by
 refine⟨?_⟩;intro B σ F H env Q rp h;refine rL (mi ho bO bO hm) ?_;show Hw r (wE X a) (wE X b) σ H λx H'=>∃k,x=.bl k/\RB X B σ env F Q k H'
 refine two hf ha hb rp (λv H' F' d r' s' hd q=>?_) h;obtain⟨k,rfl,q⟩:=q;exact⟨k,kX hd,F',r',s',q⟩
theorem nT {t:TD} (h:QE X e t) (he:∀whole,isTrue e X.env whole=(do let v <- whole;standAt e.pos;holding [v] (truthy v)):=by intro _;rfl):QT X e (aN t):=by
 refine⟨?_⟩;intro B σ F H env Q rp hq;refine rL (Ge bO he) ?_;refine aC (h B σ F H env _ rp hq) λv H' w=>?_;obtain⟨F',d,r',s',hd,k,rfl,q⟩:=w;exact⟨k,kX hd,F',r',s',q⟩
def qI (t u:TB):TB:=λenv Q=>t env λk=>if k=true then u env Q else Q false
def Am (t u:TB):TB:=λenv Q=>t env λk=>if k=true then Q true else u env Q
def nK (t:TB):TB:=λenv Q=>t env λk=>Q (!k)
theorem QW.t (h:QW X e tA):QT X e tA:=⟨λB σ F H env Q rp hq pins s I=>h B σ F H env Q rp hq _ pins s I⟩
theorem o8 (ha:QT X a tA):QW X (.BoolOp .And [a] pos) tA:=⟨λB σ F H env Q rp h=>yU (Eg sZ) (ha B σ F H env Q rp h)⟩
theorem xK (ha:QT X a tA):QW X (.BoolOp .Or [a] pos) tA:=⟨λB σ F H env Q rp h=>yU (E6 sZ) (ha B σ F H env Q rp h)⟩
theorem tO (ha:QT X a tA) (hb:QW X (.BoolOp .And (b :: rest) pos) tB'):QW X (.BoolOp .And (a :: b :: rest) pos) (qI tA tB'):=by
 refine⟨?_⟩;intro B σ F H env Q rp h;refine yU (Fo sZ Ir) ?_;refine iQ (ha B σ F H env _ rp h) λk H1 ⟨F1,r1,s1,q1⟩=>?_
 cases k with
 | true=>exact yv (hb B σ F1 H1 env Q r1 q1) λk2 H2 ⟨F2,r2,s2,q2⟩=>⟨F2,r2,s1.trans s2,q2⟩
 | false=>exact⟨F1,r1,s1,q1⟩
theorem wj (ha:QT X a tA) (hb:QW X (.BoolOp .Or (b :: rest) pos) tB'):QW X (.BoolOp .Or (a :: b :: rest) pos) (Am tA tB'):=by
 refine⟨?_⟩;intro B σ F H env Q rp h;refine yU (Jk sZ Ir) ?_;refine iQ (ha B σ F H env _ rp h) λk H1 ⟨F1,r1,s1,q1⟩=>?_
 cases k with
 | false=>exact yv (hb B σ F1 H1 env Q r1 q1) λk2 H2 ⟨F2,r2,s2,q2⟩=>⟨F2,r2,s1.trans s2,q2⟩
 | true=>exact⟨F1,r1,s1,q1⟩
theorem nZ (ha:QT X a tA):QT X (.UnaryOp .Not a pos) (nK tA):=⟨λB σ F H env Q rp h=>rL (G9 sZ) (iQ (ha B σ F H env _ rp h) λk H1 q=>q)⟩
def aw:fY:=λ_ Q=>Q []
def af (ta:TD) (tr:fY):fY:=λenv Q=>ta env λx=>tr env λxs=>Q (x :: xs)
theorem ah:QA X [] aw:=⟨λB σ F H env Q rp h=>Ex gJ ⟨F,[],rp,ao.refl _,aH,h⟩⟩
theorem ae (ha:QE X e ta) (hr:QA X es ts) (hs:starEach (e :: es) X.env=(false,eval e X.env) :: starEach es X.env:=by exact aZ rfl):QA X (e :: es) (af ta ts):=by
 refine⟨?_⟩;intro B σ F H env Q rp h;refine Ex (eG bO jh hs) ?_;refine aC (ha B σ F H env _ rp h) λx H1 hq0=>?_;obtain⟨F1,d,r1,s1,d1,q1⟩:=hq0;exact cO (hr B σ F1 H1 env _ r1 q1) λxs H2 ⟨F2,ds,r2,s2,d2,q2⟩=>⟨F2,d :: ds,r2,s1.trans s2,aD (Den.mono s2 _ _ d1) d2,q2⟩
def bU (t:fY):TD:=λenv Q=>t env λxs=>xs.length<=sizeLine/\Q (.tup xs)
def jx (t:fY):TD:=λenv Q=>t env λxs=>xs.length<=sizeLine/\Q (.lst xs)
theorem RV.GI {B:Base} {σ:St} {env:En} {F H:Hp} {Q:D->Prop} {ds:List D} {vs:List V} (r:Rep X.K B F H σ env) (hd:ak X.K F ds vs) (q:Q (.tup ds)):∀p,H p=none->RV X B σ env F Q (.ref p) (upd H p (.tup vs)):=λp hp=>by
 obtain⟨r2,s2⟩:=r.laid (o:=.tup vs) hp;exact⟨_,_,r2,s2,fP (gr.of av) (ak.mono s2 _ _ hd),q⟩
theorem RV.CP {B:Base} {σ:St} {env:En} {F H:Hp} {Q:D->Prop} {ds:List D} {vs:List V} (r:Rep X.K B F H σ env) (hd:ak X.K F ds vs) (q:Q (.lst ds)):∀p,H p=none->RV X B σ env F Q (.ref p) (upd H p (.lst vs)):=λp hp=>by
 obtain⟨r2,s2⟩:=r.laid (o:=.lst vs) hp;exact⟨_,_,r2,s2,gw (fZ.of av) (ak.mono s2 _ _ hd),q⟩
theorem a7 {x1} (h:QA X es ts):QE X (.Tuple es x1 pos) (bU ts):=by
 refine⟨?_⟩;intro B σ F H env Q rp hq;refine dA (Gv jh) ?_;refine cO (h B σ F H env _ rp hq) λvs H1 ⟨F1,ds,r1,s1,d1,z,q1⟩=>⟨by rw [<- d1.length];exact z,λp hp=>(RV.GI r1 d1 q1 p hp).weaken s1⟩
theorem lh (h:QA X es ts):QE X (.List es pos) (jx ts):=by
 refine⟨?_⟩;intro B σ F H env Q rp hq;refine dA (xU jh) ?_;refine cO (h B σ F H env _ rp hq) λvs H1 ⟨F1,ds,r1,s1,d1,z,q1⟩=>⟨by rw [<- d1.length];exact z,λp hp=>(RV.CP r1 d1 q1 p hp).weaken s1⟩
end
mutual
def aV:D->D->Bool
 | .non,.non=>true
 | .bl a,.bl b=>a == b
 | .bl a,.int b=>(if a then 1 else 0) == b
 | .int a,.bl b=>a == (if b then 1 else 0)
 | .int a,.int b=>a == b
 | .str a,.str b=>a == b
 | .tup a,.tup b=>dB a b
 | .lst a,.lst b=>dB a b
 | _,_=>false
def dB:List D->List D->Bool
 | [],[]=>true
 | a :: as,b :: bs=>aV a b && dB as bs
 | _,_=>false
end
mutual
def dep:D->Nat
 | .tup ds=>bV ds + 1
 | .lst ds=>bV ds + 1
 | .dct _ _=>1000
 | .obj _=>1000
 | .ty _=>1000
 | .exc _=>1000
 | .cls _=>1000
 | _=>0
def bV:List D->Nat
 | []=>0
 | d :: ds=>max (dep d) (bV ds)
end
def vL (ds es:List D) (j:Nat):Bool:=match ds[j]?,es[j]? with
 | some a,some b=>aV a b
 | _,_=>true
theorem qB (n:Nat) (e:Nat->Bool):(List.range (n + 1)).all e=(e 0 && (List.range n).all λi=>e (i + 1)):=by
 rw [List.range_succ_eq_map,List.all_cons,List.all_map];rfl
theorem tL:∀ds es:List D,((List.range (min ds.length es.length)).all (vL ds es) && (ds.length == es.length))=dB ds es
 | [],[]=>by simp [dB]
 | [],b :: es=>by simp [dB]
 | a :: ds,[]=>by simp [dB]
 | a :: ds,b :: es=>by
  have ih:=tL ds es;rw [L0,L0,Nat.succ_min_succ,qB];have e1:vL (a :: ds) (b :: es) 0=aV a b:=by simp [vL]
  have e2:(λi=>vL (a :: ds) (b :: es) (i + 1))=vL ds es:=by funext i;simp [vL]
  have e3:(ds.length + 1 == es.length + 1)=(ds.length == es.length):=by
   rw [Bool.eq_iff_iff];simp
  rw [e1,e2,e3,Bool.and_assoc,ih,dB]
section
variable {X:Cx} {pins:List (Addr×Obj)} {σ:St} {H F:Hp} {s:Shared}
theorem Inv.vb (I:Inv X pins σ H s) {a:Addr} {xs ys:List V} (h:gr X.K H a xs) (h':fZ X.K H a ys):False:=by
 obtain⟨_,_,⟨o,e1,c1,_⟩,_⟩:=I.tuple h;obtain⟨_,_,⟨o2,_,e2,c2,_⟩,_⟩:=I.list h';rw [e1] at e2;cases e2;rw [c1] at c2;injection c2 with z;exact absurd z (by decide)
mutual
theorem oX (I:Inv X pins σ H s) (fh:ao F H):∀(d d':D) (v:V),dep d < 1000->dep d' < 1000->Den X.K F d v->Den X.K F d' v->aV d d'=true
 | .non,d',v,h1,h2,e1,e2=>by
  simp only [Den] at e1;subst e1
  cases d' <;> simp only [Den] at e2 <;> first|rfl|(obtain⟨a,vs,z,_⟩:=e2;cases z;done)|(obtain⟨a,z,_⟩:=e2;cases z;done)|cases e2
 | .bl b,d',v,h1,h2,e1,e2=>by
  simp only [Den] at e1;subst e1
  cases d' <;> simp only [Den] at e2 <;> first|(obtain⟨a,vs,z,_⟩:=e2;cases z;done)|(obtain⟨a,z,_⟩:=e2;cases z;done)|(cases e2;simp [aV];done)|cases e2
 | .int b,d',v,h1,h2,e1,e2=>by
  simp only [Den] at e1;subst e1
  cases d' <;> simp only [Den] at e2 <;> first|(obtain⟨a,vs,z,_⟩:=e2;cases z;done)|(obtain⟨a,z,_⟩:=e2;cases z;done)|(cases e2;simp [aV];done)|cases e2
 | .str b,d',v,h1,h2,e1,e2=>by
  simp only [Den] at e1;subst e1
  cases d' <;> simp only [Den] at e2 <;> first|(obtain⟨a,vs,z,_⟩:=e2;cases z;done)|(obtain⟨a,z,_⟩:=e2;cases z;done)|(cases e2;simp [aV];done)|cases e2
 | .ty b,d',v,h1,h2,e1,e2=>by simp [dep] at h1
 | .exc b,d',v,h1,h2,e1,e2=>by simp [dep] at h1
 | .cls b,d',v,h1,h2,e1,e2=>by simp [dep] at h1
 | .dct _ _,d',v,h1,h2,e1,e2=>by simp [dep] at h1
 | .obj _,d',v,h1,h2,e1,e2=>by simp [dep] at h1
 | .tup ds,d',v,h1,h2,e1,e2=>by
  simp only [Den] at e1;obtain⟨a,vs,rfl,q,r⟩:=e1
  cases d' with
  | tup es =>
   simp only [Den] at e2;obtain⟨a',us,z,q',r'⟩:=e2;cases z;have:=I.iu (ao.bF fh q) (ao.bF fh q');subst this;simp only [aV]
   exact pE I fh ds es vs (by simp [dep] at h1;omega) (by simp [dep] at h2;omega) r r'
  | lst es =>
   simp only [Den] at e2;obtain⟨a',us,z,q',r'⟩:=e2;cases z
   exact (Inv.vb I (ao.bF fh q) (fh.seq q')).elim
  | dct _ _=>simp [dep] at h2
  | obj _=>simp [dep] at h2
  | exc _=>simp [dep] at h2
  | cls _=>simp [dep] at h2
  | _=>simp only [Den] at e2;cases e2
 | .lst ds,d',v,h1,h2,e1,e2=>by
  simp only [Den] at e1;obtain⟨a,vs,rfl,q,r⟩:=e1
  cases d' with
  | lst es =>
   simp only [Den] at e2;obtain⟨a',us,z,q',r'⟩:=e2;cases z;have:=I.qg (fh.seq q) (fh.seq q');subst this;simp only [aV]
   exact pE I fh ds es vs (by simp [dep] at h1;omega) (by simp [dep] at h2;omega) r r'
  | tup es =>
   simp only [Den] at e2;obtain⟨a',us,z,q',r'⟩:=e2;cases z
   exact (Inv.vb I (ao.bF fh q') (fh.seq q)).elim
  | dct _ _=>simp [dep] at h2
  | obj _=>simp [dep] at h2
  | exc _=>simp [dep] at h2
  | cls _=>simp [dep] at h2
  | _=>simp only [Den] at e2;cases e2
theorem pE (I:Inv X pins σ H s) (fh:ao F H):∀(ds es:List D) (vs:List V),bV ds < 1000->bV es < 1000->ak X.K F ds vs->ak X.K F es vs->dB ds es=true
 | [],es,vs,h1,h2,e1,e2=>by
  simp only [ak] at e1;subst e1
  cases es with
  | nil=>rfl
  | cons _ _=>simp only [ak] at e2;obtain⟨_,_,z,_⟩:=e2;cases z
 | d :: ds,es,vs,h1,h2,e1,e2=>by
  simp only [ak] at e1;obtain⟨v,r,rfl,a,b⟩:=e1
  cases es with
  | nil=>simp only [ak] at e2;cases e2
  | cons e es =>
   simp only [ak] at e2;obtain⟨v',r',z,a',b'⟩:=e2;cases z;simp only [bV] at h1 h2;simp only [dB,Bool.and_eq_true];exact⟨oX I fh d e v (by omega) (by omega) a a',pE I fh ds es r (by omega) (by omega) b b'⟩
end
theorem units_in1 (A:Around):A.in1.units=A.units + 1:=rfl
def Jm:D->Bool
 | .non=>true
 | .bl _=>true
 | .int _=>true
 | .str _=>true
 | _=>false
theorem tI (I:Inv X pins σ H s) (fh:ao F H):∀(d d':D) (A:Around) (x y:V) (u v:Value),Jm d=true->A.units + dep d < cLine->dep d' < 1000->Den X.K F d x->Den X.K F d' y->RelV x u->RelV y v ->
  SeqAt.RcAt A s u v (aV d d')/\SeqAt.RcNeAt A s u v (!aV d d')
 | .non,d',A,x,y,u,v,lf,hu,h2,e1,e2,r1,r2=>by
  simp only [Den] at e1;subst e1;cases r1;have hu0:A.units < cLine:=by omega
  cases d' with
  | ty _=>simp [dep] at h2
  | dct _ _=>simp [dep] at h2
  | obj _=>simp [dep] at h2
  | exc _=>simp [dep] at h2
  | cls _=>simp [dep] at h2
  | non=>simp only [Den] at e2;subst e2;cases r2;exact⟨SeqAt.RcAt.none_none,SeqAt.RcNeAt.none_none⟩
  | bl b=>simp only [Den] at e2;subst e2;cases r2;exact⟨SeqAt.RcAt.none_bool b,SeqAt.RcNeAt.none_bool b⟩
  | int b=>simp only [Den] at e2;subst e2;obtain⟨t,rfl⟩:=r2;exact⟨SeqAt.RcAt.none_int b t,SeqAt.RcNeAt.none_int b t⟩
  | str b=>simp only [Den] at e2;subst e2;obtain⟨t,rfl⟩:=r2;exact⟨SeqAt.RcAt.none_str b t,SeqAt.RcNeAt.none_str b t⟩
  | tup es =>
   simp only [Den] at e2;obtain⟨a,vs,rfl,q,r⟩:=e2;cases r2;obtain⟨its,rv,ht,hz⟩:=I.tuple (ao.bF fh q)
   exact⟨SeqAt.RcAt.none_tuple ht hu0,SeqAt.RcNeAt.none_tuple ht hu0⟩
  | lst es =>
   simp only [Den] at e2;obtain⟨a,vs,rfl,q,r⟩:=e2;cases r2;obtain⟨its,rv,ht,hz⟩:=I.list (fh.seq q)
   exact⟨SeqAt.RcAt.none_list ht.isList hu0,SeqAt.RcNeAt.none_list ht.isList hu0⟩
 | .bl b',d',A,x,y,u,v,lf,hu,h2,e1,e2,r1,r2=>by
  simp only [Den] at e1;subst e1;cases r1;have hu0:A.units < cLine:=by omega
  cases d' with
  | ty _=>simp [dep] at h2
  | dct _ _=>simp [dep] at h2
  | obj _=>simp [dep] at h2
  | exc _=>simp [dep] at h2
  | cls _=>simp [dep] at h2
  | non=>simp only [Den] at e2;subst e2;cases r2;exact⟨SeqAt.RcAt.bool_none b',SeqAt.RcNeAt.bool_none b'⟩
  | bl b=>simp only [Den] at e2;subst e2;cases r2;exact⟨by simpa only [aV] using SeqAt.RcAt.bool_bool b' b,by simpa only [aV] using SeqAt.RcNeAt.bool_bool b' b⟩
  | int b=>simp only [Den] at e2;subst e2;obtain⟨t,rfl⟩:=r2;exact⟨by simpa only [aV] using SeqAt.RcAt.bool_int b' b t,by simpa only [aV] using SeqAt.RcNeAt.bool_int b' b t⟩
  | str b=>simp only [Den] at e2;subst e2;obtain⟨t,rfl⟩:=r2;exact⟨SeqAt.RcAt.bool_str b' b t,SeqAt.RcNeAt.bool_str b' b t⟩
  | tup es =>
   simp only [Den] at e2;obtain⟨a,vs,rfl,q,r⟩:=e2;cases r2;obtain⟨its,rv,ht,hz⟩:=I.tuple (ao.bF fh q)
   exact⟨SeqAt.RcAt.bool_tuple b' ht hu0,SeqAt.RcNeAt.bool_tuple b' ht hu0⟩
  | lst es =>
   simp only [Den] at e2;obtain⟨a,vs,rfl,q,r⟩:=e2;cases r2;obtain⟨its,rv,ht,hz⟩:=I.list (fh.seq q)
   exact⟨SeqAt.RcAt.bool_list b' ht.isList hu0,SeqAt.RcNeAt.bool_list b' ht.isList hu0⟩
 | .int b',d',A,x,y,u,v,lf,hu,h2,e1,e2,r1,r2=>by
  simp only [Den] at e1;subst e1;obtain⟨t',rfl⟩:=r1;have hu0:A.units < cLine:=by omega
  cases d' with
  | ty _=>simp [dep] at h2
  | dct _ _=>simp [dep] at h2
  | obj _=>simp [dep] at h2
  | exc _=>simp [dep] at h2
  | cls _=>simp [dep] at h2
  | non=>simp only [Den] at e2;subst e2;cases r2;exact⟨SeqAt.RcAt.int_none b' t',SeqAt.RcNeAt.int_none b' t'⟩
  | bl b=>simp only [Den] at e2;subst e2;cases r2;exact⟨by simpa only [aV] using SeqAt.RcAt.int_bool b' t' b,by simpa only [aV] using SeqAt.RcNeAt.int_bool b' t' b⟩
  | int b=>simp only [Den] at e2;subst e2;obtain⟨t,rfl⟩:=r2;exact⟨by simpa only [aV] using SeqAt.RcAt.int_int b' t' b t,by simpa only [aV] using SeqAt.RcNeAt.int_int b' t' b t⟩
  | str b=>simp only [Den] at e2;subst e2;obtain⟨t,rfl⟩:=r2;exact⟨SeqAt.RcAt.int_str b' t' b t,SeqAt.RcNeAt.int_str b' t' b t⟩
  | tup es =>
   simp only [Den] at e2;obtain⟨a,vs,rfl,q,r⟩:=e2;cases r2;obtain⟨its,rv,ht,hz⟩:=I.tuple (ao.bF fh q)
   exact⟨SeqAt.RcAt.int_tuple b' t' ht hu0,SeqAt.RcNeAt.int_tuple b' t' ht hu0⟩
  | lst es =>
   simp only [Den] at e2;obtain⟨a,vs,rfl,q,r⟩:=e2;cases r2;obtain⟨its,rv,ht,hz⟩:=I.list (fh.seq q)
   exact⟨SeqAt.RcAt.int_list b' t' ht.isList hu0,SeqAt.RcNeAt.int_list b' t' ht.isList hu0⟩
 | .str b',d',A,x,y,u,v,lf,hu,h2,e1,e2,r1,r2=>by
  simp only [Den] at e1;subst e1;obtain⟨t',rfl⟩:=r1;have hu0:A.units < cLine:=by omega
  cases d' with
  | ty _=>simp [dep] at h2
  | dct _ _=>simp [dep] at h2
  | obj _=>simp [dep] at h2
  | exc _=>simp [dep] at h2
  | cls _=>simp [dep] at h2
  | non=>simp only [Den] at e2;subst e2;cases r2;exact⟨SeqAt.RcAt.str_none b' t',SeqAt.RcNeAt.str_none b' t'⟩
  | bl b=>simp only [Den] at e2;subst e2;cases r2;exact⟨SeqAt.RcAt.str_bool b' t' b,SeqAt.RcNeAt.str_bool b' t' b⟩
  | int b=>simp only [Den] at e2;subst e2;obtain⟨t,rfl⟩:=r2;exact⟨SeqAt.RcAt.str_int b' t' b t,SeqAt.RcNeAt.str_int b' t' b t⟩
  | str b=>simp only [Den] at e2;subst e2;obtain⟨t,rfl⟩:=r2;exact⟨by simpa only [aV] using SeqAt.RcAt.str_str b' t' b t,by simpa only [aV] using SeqAt.RcNeAt.str_str b' t' b t⟩
  | tup es =>
   simp only [Den] at e2;obtain⟨a,vs,rfl,q,r⟩:=e2;cases r2;obtain⟨its,rv,ht,hz⟩:=I.tuple (ao.bF fh q)
   exact⟨SeqAt.RcAt.str_tuple b' t' ht hu0,SeqAt.RcNeAt.str_tuple b' t' ht hu0⟩
  | lst es =>
   simp only [Den] at e2;obtain⟨a,vs,rfl,q,r⟩:=e2;cases r2;obtain⟨its,rv,ht,hz⟩:=I.list (fh.seq q)
   exact⟨SeqAt.RcAt.str_list b' t' ht.isList hu0,SeqAt.RcNeAt.str_list b' t' ht.isList hu0⟩
 | .ty _,d',A,x,y,u,v,lf,hu,h2,e1,e2,r1,r2=>(by cases lf)
 | .exc _,d',A,x,y,u,v,lf,hu,h2,e1,e2,r1,r2=>(by cases lf)
 | .cls _,d',A,x,y,u,v,lf,hu,h2,e1,e2,r1,r2=>(by cases lf)
 | .dct _ _,d',A,x,y,u,v,lf,hu,h2,e1,e2,r1,r2=>(by cases lf)
 | .obj _,d',A,x,y,u,v,lf,hu,h2,e1,e2,r1,r2=>(by cases lf)
 | .tup _,d',A,x,y,u,v,lf,hu,h2,e1,e2,r1,r2=>(by cases lf)
 | .lst _,d',A,x,y,u,v,lf,hu,h2,e1,e2,r1,r2=>(by cases lf)
theorem yA (I:Inv X pins σ H s) (fh:ao F H) (d d':D) (A:Around) (x y:V) (u v:Value) (hu:A.units + dep d < cLine) (h1:dep d < 1000) (h2:dep d' < 1000) (e1:Den X.K F d x) (e2:Den X.K F d' y) (r1:RelV x u) (r2:RelV y v) (k:SeqAt.RcAt A s u v (aV d d')) :
  SeqAt.EqAt A s u v (aV d d'):=by
 have hu0:A.units < cLine:=by omega
 by_cases z:u=v
 ·subst z;have:x=y:=r1.inj r2;subst this;rw [oX I fh d d' x h1 h2 e1 e2];exact SeqAt.EqAt.same u
 ·intro prog w E Q hq;unfold eqBool;refine wpAny_holding ?_;refine wpAny_ite_split (λhab=>absurd (eq_of_beq hab) z) (λ_=>?_)
  have nf:∀b t,u≠.float b t:=λb t w=>by
   subst w;cases x <;> first|(obtain⟨_,q⟩:=r1;cases q;done)|(cases r1;done)|skip
   cases d <;> simp only [Den] at e1 <;> first|(cases e1;done)|(obtain⟨_,_,z,_⟩:=e1;cases z;done)|(obtain⟨_,z,_⟩:=e1;cases z;done)
  cases u <;> cases v <;> first|exact absurd rfl (nf _ _)|exact K9 (k prog w E _ (wpAny_truthy_bool hq))
theorem EW (I:Inv X pins σ H s) (fh:ao F H) (ds0:List D) (d d':D) (A:Around) (x y:V) (u v:Value) (hl:d=.tup ds0\/d=.lst ds0) (hu:A.units + dep d < cLine) (h1:dep d < 1000) (h2:dep d' < 1000) (e1:Den X.K F d x) (e2:Den X.K F d' y) (r1:RelV x u) (r2:RelV y v)
  (rec:∀(es:List D),(d'=.tup es\/d'=.lst es)->∀(vs1 vs:List V) (its1 its:List Value),ak X.K F ds0 vs1->ak X.K F es vs->Vals vs1 its1->Vals vs its->∀(j:Nat) (h1:j < its1.length) (h2:j < its.length),SeqAt.EqAt A.in1 s its1[j] its[j] (vL ds0 es j)) :
  SeqAt.RcAt A s u v (aV d d')/\SeqAt.RcNeAt A s u v (!aV d d'):=by
 cases d with
 | non=>rcases hl with hl|hl <;> cases hl
 | bl _=>rcases hl with hl|hl <;> cases hl
 | int _=>rcases hl with hl|hl <;> cases hl
 | str _=>rcases hl with hl|hl <;> cases hl
 | ty _=>simp [dep] at h1
 | exc _=>simp [dep] at h1
 | cls _=>simp [dep] at h1
 | dct _ _=>simp [dep] at h1
 | obj _=>simp [dep] at h1
 | tup ds =>
  have z:ds=ds0:=by rcases hl with hl|hl <;> cases hl <;> rfl
  subst z;simp only [Den] at e1;obtain⟨a1,vs1,rfl,q1,g1⟩:=e1;cases r1;obtain⟨its1,rv1,ht1,hz1⟩:=I.tuple (ao.bF fh q1);simp only [dep] at hu h1;have hu0:A.units < cLine:=by omega
  cases d' with
  | ty _=>simp [dep] at h2
  | dct _ _=>simp [dep] at h2
  | obj _=>simp [dep] at h2
  | exc _=>simp [dep] at h2
  | cls _=>simp [dep] at h2
  | non=>simp only [Den] at e2;subst e2;cases r2;exact⟨SeqAt.RcAt.tuple_none ht1 hu0,SeqAt.RcNeAt.tuple_none ht1 hu0⟩
  | bl b=>simp only [Den] at e2;subst e2;cases r2;exact⟨SeqAt.RcAt.tuple_bool b ht1 hu0,SeqAt.RcNeAt.tuple_bool b ht1 hu0⟩
  | int b=>simp only [Den] at e2;subst e2;obtain⟨t,rfl⟩:=r2;exact⟨SeqAt.RcAt.tuple_int b t ht1 hu0,SeqAt.RcNeAt.tuple_int b t ht1 hu0⟩
  | str b=>simp only [Den] at e2;subst e2;obtain⟨t,rfl⟩:=r2;exact⟨SeqAt.RcAt.tuple_str b t ht1 hu0,SeqAt.RcNeAt.tuple_str b t ht1 hu0⟩
  | lst es =>
   simp only [Den] at e2;obtain⟨a,vs,rfl,q,r⟩:=e2;cases r2;obtain⟨its,rv,ht,hz⟩:=I.list (fh.seq q)
   exact⟨SeqAt.RcAt.tuple_list ht1 ht.isList hu0,SeqAt.RcNeAt.tuple_list ht1 ht.isList hu0⟩
  | tup es =>
   simp only [Den] at e2;obtain⟨a,vs,rfl,q,r⟩:=e2;cases r2;obtain⟨its,rv,ht,hz⟩:=I.tuple (ao.bF fh q);simp only [dep] at h2;have he:=rec es (.inl rfl) vs1 vs its1 its g1 r rv1 rv;have l1:its1.length=ds.length:=by rw [g1.length,rv1.length]
   have l2:its.length=es.length:=by rw [r.length,rv.length]
   have k1:=SeqAt.RcAt.tuples (e:=vL ds es) ht1 ht hu0 (λj h1 h2=>he j (by simpa using h1) (by simpa using h2));have k2:=SeqAt.RcNeAt.tuples (e:=vL ds es) ht1 ht hu0 (λj h1 h2=>he j (by simpa using h1) (by simpa using h2));rw [Ly,Ly,l1,l2,tL] at k1 k2
   exact⟨by simpa only [aV] using k1,by simpa only [aV] using k2⟩
 | lst ds =>
  have z:ds=ds0:=by rcases hl with hl|hl <;> cases hl <;> rfl
  subst z;simp only [Den] at e1;obtain⟨a1,vs1,rfl,q1,g1⟩:=e1;cases r1;obtain⟨its1,rv1,ht1,hz1⟩:=I.list (fh.seq q1);simp only [dep] at hu h1;have hu0:A.units < cLine:=by omega
  cases d' with
  | ty _=>simp [dep] at h2
  | dct _ _=>simp [dep] at h2
  | obj _=>simp [dep] at h2
  | exc _=>simp [dep] at h2
  | cls _=>simp [dep] at h2
  | non=>simp only [Den] at e2;subst e2;cases r2;exact⟨SeqAt.RcAt.list_none ht1.isList hu0,SeqAt.RcNeAt.list_none ht1.isList hu0⟩
  | bl b=>simp only [Den] at e2;subst e2;cases r2;exact⟨SeqAt.RcAt.list_bool b ht1.isList hu0,SeqAt.RcNeAt.list_bool b ht1.isList hu0⟩
  | int b=>simp only [Den] at e2;subst e2;obtain⟨t,rfl⟩:=r2;exact⟨SeqAt.RcAt.list_int b t ht1.isList hu0,SeqAt.RcNeAt.list_int b t ht1.isList hu0⟩
  | str b=>simp only [Den] at e2;subst e2;obtain⟨t,rfl⟩:=r2;exact⟨SeqAt.RcAt.list_str b t ht1.isList hu0,SeqAt.RcNeAt.list_str b t ht1.isList hu0⟩
  | tup es =>
   simp only [Den] at e2;obtain⟨a,vs,rfl,q,r⟩:=e2;cases r2;obtain⟨its,rv,ht,hz⟩:=I.tuple (ao.bF fh q)
   exact⟨SeqAt.RcAt.list_tuple ht1.isList ht hu0,SeqAt.RcNeAt.list_tuple ht1.isList ht hu0⟩
  | lst es =>
   simp only [Den] at e2;obtain⟨a,vs,rfl,q,r⟩:=e2;cases r2;obtain⟨its,rv,ht,hz⟩:=I.list (fh.seq q);simp only [dep] at h2;have he:=rec es (.inr rfl) vs1 vs its1 its g1 r rv1 rv;have l1:its1.length=ds.length:=by rw [g1.length,rv1.length]
   have l2:its.length=es.length:=by rw [r.length,rv.length]
   simp only [aV];rw [<- tL]
   by_cases hsz:ds.length=es.length
   ·have k1:=SeqAt.RcAt.lists (e:=vL ds es) ht1.isList ht.isList (by simp [l1,l2,hsz]) hu0 (λj h1 h2=>he j (by simpa using h1) (by simpa using h2));have k2:=SeqAt.RcNeAt.lists (e:=vL ds es) ht1.isList ht.isList (by simp [l1,l2,hsz]) hu0 (λj h1 h2=>he j (by simpa using h1) (by simpa using h2));rw [Ly,l1] at k1 k2;have e:(ds.length == es.length)=true:=by simp [hsz]
    rw [e,Mp,<- hsz,Nat.min_self];exact⟨k1,k2⟩
   ·have e:(ds.length == es.length)=false:=by simp [hsz]
    rw [e,Bool.and_false];have e2:(its1.toArray.size != its.toArray.size)=true:=by simp [l1,l2,hsz]
    exact⟨SeqAt.RcAt.lists_lengths ht1.isList ht.isList e2 hu0,SeqAt.RcNeAt.lists_lengths ht1.isList ht.isList e2 hu0⟩
mutual
theorem Ep (I:Inv X pins σ H s) (fh:ao F H):∀(d d':D) (A:Around) (x y:V) (u v:Value),A.units + dep d < cLine->dep d < 1000->dep d' < 1000->Den X.K F d x->Den X.K F d' y->RelV x u->RelV y v ->
  SeqAt.RcAt A s u v (aV d d')/\SeqAt.RcNeAt A s u v (!aV d d')
 | .ty _,d',A,x,y,u,v,hu,h1,h2,e1,e2,r1,r2=>by simp [dep] at h1
 | .exc _,d',A,x,y,u,v,hu,h1,h2,e1,e2,r1,r2=>by simp [dep] at h1
 | .cls _,d',A,x,y,u,v,hu,h1,h2,e1,e2,r1,r2=>by simp [dep] at h1
 | .dct _ _,d',A,x,y,u,v,hu,h1,h2,e1,e2,r1,r2=>by simp [dep] at h1
 | .obj _,d',A,x,y,u,v,hu,h1,h2,e1,e2,r1,r2=>by simp [dep] at h1
 | .non,d',A,x,y,u,v,hu,h1,h2,e1,e2,r1,r2=>tI I fh _ d' A x y u v rfl hu h2 e1 e2 r1 r2
 | .bl _,d',A,x,y,u,v,hu,h1,h2,e1,e2,r1,r2=>tI I fh _ d' A x y u v rfl hu h2 e1 e2 r1 r2
 | .int _,d',A,x,y,u,v,hu,h1,h2,e1,e2,r1,r2=>tI I fh _ d' A x y u v rfl hu h2 e1 e2 r1 r2
 | .str _,d',A,x,y,u,v,hu,h1,h2,e1,e2,r1,r2=>tI I fh _ d' A x y u v rfl hu h2 e1 e2 r1 r2
 | .tup ds,d',A,x,y,u,v,hu,h1,h2,e1,e2,r1,r2=>EW I fh ds _ d' A x y u v (.inl rfl) hu h1 h2 e1 e2 r1 r2 λes z2 vs1 vs its1 its g1 r rv1 rv =>
  AB I fh ds es A.in1 vs1 vs its1 its (by rw [units_in1];simp only [dep] at hu;omega) (by simp only [dep] at h1;omega) (by rcases z2 with rfl|rfl <;> (simp only [dep] at h2;omega)) g1 r rv1 rv
 | .lst ds,d',A,x,y,u,v,hu,h1,h2,e1,e2,r1,r2=>EW I fh ds _ d' A x y u v (.inr rfl) hu h1 h2 e1 e2 r1 r2 λes z2 vs1 vs its1 its g1 r rv1 rv =>
  AB I fh ds es A.in1 vs1 vs its1 its (by rw [units_in1];simp only [dep] at hu;omega) (by simp only [dep] at h1;omega) (by rcases z2 with rfl|rfl <;> (simp only [dep] at h2;omega)) g1 r rv1 rv
theorem AB (I:Inv X pins σ H s) (fh:ao F H):∀(ds es:List D) (A:Around) (xs ys:List V) (us vs:List Value),A.units + bV ds < cLine->bV ds < 1000->bV es < 1000->ak X.K F ds xs->ak X.K F es ys->Vals xs us->Vals ys vs ->
  ∀(j:Nat) (h1:j < us.length) (h2:j < vs.length),SeqAt.EqAt A s us[j] vs[j] (vL ds es j)
 | [],es,A,xs,ys,us,vs,hu,h1,h2,e1,e2,r1,r2,j,hj1,hj2=>by
  simp only [ak] at e1;subst e1;cases r1;simp at hj1
 | d :: ds,es,A,xs,ys,us,vs,hu,h1,h2,e1,e2,r1,r2,j,hj1,hj2=>by
  simp only [ak] at e1;obtain⟨x,xr,rfl,ax,bx⟩:=e1
  cases r1 with
  | cons rx rrx =>
  cases es with
  | nil=>simp only [ak] at e2;subst e2;cases r2;simp at hj2
  | cons e es =>
   simp only [ak] at e2;obtain⟨y,yr,rfl,ay,by'⟩:=e2
   cases r2 with
   | cons ry rry =>
   simp only [bV] at hu h1 h2
   cases j with
   | zero =>
    simp only [List.getElem_cons_zero];have e0:vL (d :: ds) (e :: es) 0=aV d e:=by simp [vL]
    rw [e0]
    exact yA I fh d e A x y _ _ (by omega) (by omega) (by omega) ax ay rx ry (Ep I fh d e A x y _ _ (by omega) (by omega) (by omega) ax ay rx ry).1
   | succ j =>
    simp only [List.getElem_cons_succ];have e0:vL (d :: ds) (e :: es) (j + 1)=vL ds es j:=by simp [vL]
    rw [e0];exact AB I fh ds es A xr yr _ _ (by omega) (by omega) (by omega) bx by' rrx rry j (by simpa using hj1) (by simpa using hj2)
end
theorem qx (I:Inv X pins σ H s) (fh:ao F H) (d d':D) (A:Around) (x y:V) (u v:Value) (hu:A.units + dep d < cLine) (h1:dep d < 1000) (h2:dep d' < 1000) (e1:Den X.K F d x) (e2:Den X.K F d' y) (r1:RelV x u) (r2:RelV y v) :
  SeqAt.EqAt A s u v (aV d d'):=yA I fh d d' A x y u v hu h1 h2 e1 e2 r1 r2 (Ep I fh d d' A x y u v hu h1 h2 e1 e2 r1 r2).1
end
end L2.L3
namespace L2.L3
open PySem PySem.Spec PyProof.Rows
section
variable {X:Cx} {a b c e:Expr} {es:List Expr} {ta tb tc:TD} {tA tB':TB} {ts:fY} {pos:Pos} {rest:List Expr}
def Ez (K:Le):R2:=λx y H Q=>∃l b xs zs,x=.ref l/\y=.ref b/\fZ K H l xs/\fZ K H b zs/\xs.length + zs.length<=sizeLine/\∀p,H p=none->Q (.ref p) (upd H p (.lst (xs ++ zs)))
theorem CY:jq X (binaryOp .Add) (Ez X.K):=by
 intro pins s σ H x y v u Q I rx ry h;obtain⟨l,b,xs,zs,rfl,rfl,hH,hB,hz,q⟩:=h;cases rx;cases ry;obtain⟨its,r,⟨⟨cls,dd,data,sl⟩,n,ho,hc,hdd,hd⟩,z⟩:=I.list hH;obtain⟨its2,r2,⟨⟨cls2,dd2,data2,sl2⟩,n2,ho2,hc2,hdd2,hd2⟩,z2⟩:=I.list hB;simp only at hc hdd hd hc2 hdd2 hd2;subst hc hdd hd hc2 hdd2 hd2;have ea:its.toArray ++ its2.toArray=(its ++ its2).toArray:=by simp
 refine concat_meets ⟨_,ho,rfl⟩ ⟨_,ho2,rfl⟩ noFill_list_add seq_list_add PySem.F.slot_list_add PySem.F.entry_list_add (PySem.F.args_list_add_2 _ _)
  (list_addW l b its.toArray its2.toArray n n2 none none sl sl2 (by rw [Ly,Ly,<- r.length,<- r2.length];exact hz)) ⟨ho,ho2,?_⟩
 rw [ea];exact⟨.ref _,_,I.J5 (t':=s.toks) (r.append r2) (by rw [LI];omega),rfl,q _ I.fresh⟩
def A4 (K:Le):R2:=λx y H Q=>∃a b ys,x=.ref a/\y=.ref b/\gr K H a []/\gr K H b ys/\Q (.ref b) H
theorem B3:jq X (binaryOp .Add) (A4 X.K):=by
 intro pins s σ H x y v u Q I rx ry h;obtain⟨l,b,zs,rfl,rfl,hH,hB,q⟩:=h;cases rx;cases ry;obtain⟨its,r,⟨⟨cls,dd,data,sl⟩,ho,hc,n,hd⟩,z⟩:=I.tuple hH;obtain⟨its2,r2,⟨⟨cls2,dd2,data2,sl2⟩,ho2,hc2,n2,hd2⟩,z2⟩:=I.tuple hB;cases r;simp only at hc hd hc2 hd2;subst hc hd hc2 hd2
 exact concat_meets ⟨_,ho,rfl⟩ ⟨_,ho2,rfl⟩ noFill_tuple_add seq_tuple_add PySem.F.slot_tuple_add PySem.F.entry_tuple_add (PySem.F.args_tuple_add_2 _ _)
  (tuple_addW0 l b _ _ n n2 dd dd2 sl sl2 (by simp)) ⟨ho,ho2,⟨.ref b,H,I,rfl,q⟩⟩
def fe (x y:D) (Q:D->Prop):Prop:=match x,y with
 | .int i,.int j=>Q (.int (i + j))
 | .str u,.str w=>u.length + w.length<=sizeLine/\Q (.str (u ++ w))
 | .lst u,.lst w=>u.length + w.length<=sizeLine/\Q (.lst (u ++ w))
 | .tup u,.tup w=>u.length + w.length<=sizeLine/\Q (.tup (u ++ w))
 | _,_=>False
def y1 (K:Le):R2:=λx y H Q=>BA (λi j=>.int (i + j)) x y H Q\/(∃i j,x=.str i/\y=.str j/\i.length + j.length<=sizeLine/\Q (.str (i ++ j)) H)\/Ez K x y H Q\/EN K x y H Q\/A4 K x y H Q
theorem Aa:jq X (binaryOp .Add) (y1 X.K):=FJ.or (xx.or (CY.or (Et.or B3)))
theorem FQ:wO X (y1 X.K) fe:=by
 intro B σ F H env Q d d' x y Z rp h1 h2 hz hf;unfold fe at hf
 split at hf
 ·simp only [Den] at h1 h2;subst h1 h2;exact .inl ⟨_,_,rfl,rfl,hz _ _ F _ rp (ao.refl _) bz hf⟩
 ·simp only [Den] at h1 h2;subst h1 h2;exact .inr (.inl ⟨_,_,rfl,rfl,hf.1,hz _ _ F _ rp (ao.refl _) kA hf.2⟩)
 ·simp only [Den] at h1 h2;obtain⟨p,vs,rfl,q,r⟩:=h1;obtain⟨p',vs',rfl,q',r'⟩:=h2;refine .inr (.inr (.inl ⟨p,p',vs,vs',rfl,rfl,rp.fh.seq q,rp.fh.seq q',by rw [<- r.length,<- r'.length];exact hf.1,λw hw=>?_⟩));obtain⟨r2,s2⟩:=rp.laid (o:=.lst (vs ++ vs')) hw;exact hz _ _ _ _ r2 s2 (gw (fZ.of av) (ak.mono s2 _ _ (r.append r'))) hf.2
 ·simp only [Den] at h1 h2;obtain⟨p,vs,rfl,q,r⟩:=h1;obtain⟨p',vs',rfl,q',r'⟩:=h2
  cases vs with
  | nil =>
   rename_i u w
   cases u with
   | cons _ _=>simp only [ak] at r;obtain⟨_,_,z,_⟩:=r;cases z
   | nil =>
    exact .inr (.inr (.inr (.inr ⟨p,p',vs',rfl,rfl,ao.bF rp.fh q,ao.bF rp.fh q',hz _ _ F _ rp (ao.refl _) (fP q' r') (by simpa using hf.2)⟩)))
  | cons v0 vr =>
   refine .inr (.inr (.inr (.inl ⟨p,p',v0 :: vr,vs',rfl,rfl,ao.bF rp.fh q,ao.bF rp.fh q',by simp,by rw [<- r.length,<- r'.length];exact hf.1,λw=>?_,λw z hw=>?_⟩)))
   ·subst w
    rename_i w
    have e:w=[]:=by
     cases w with
     | nil=>rfl
     | cons _ _=>simp only [ak] at r';obtain⟨_,_,z,_⟩:=r';cases z
    subst e;exact hz _ _ F _ rp (ao.refl _) (fP q r) (by simpa using hf.2)
   ·obtain⟨r2,s2⟩:=rp.laid (o:=.tup (v0 :: vr ++ vs')) hw;exact hz _ _ _ _ r2 s2 (fP (gr.of av) (ak.mono s2 _ _ (r.append r'))) hf.2
 ·exact hf.elim
theorem eU (ha:QE X a ta) (hb:QE X b tb):QE X (.BinOp a .Add b pos) (aG fe ta tb):=xl Aa FQ ha hb
def wY (C:Int->Int->Prop) (g:Int->Int->D) (x y:D) (Q:D->Prop):Prop:=match x,y with
 | .int i,.int j=>C i j/\Q (g i j)
 | _,_=>False
theorem yt {C:Int->Int->Prop} {g:Int->Int->Int}:wO X (rI C λi j=>.int (g i j)) (wY C λi j=>.int (g i j)):=by
 intro B σ F H env Q d d' x y Z rp h1 h2 hz hf;unfold wY at hf
 split at hf
 ·simp only [Den] at h1 h2;subst h1 h2;exact⟨_,_,rfl,rfl,hf.1,hz _ _ F _ rp (ao.refl _) bz hf.2⟩
 ·exact hf.elim
theorem G7 {g:Int->Int->Int}:wO X (BA λi j=>.int (g i j)) (wY (λ_ _=>True) λi j=>.int (g i j)):=by
 intro B σ F H env Q d d' x y Z rp h1 h2 hz hf;unfold wY at hf
 split at hf
 ·simp only [Den] at h1 h2;subst h1 h2;exact⟨_,_,rfl,rfl,hz _ _ F _ rp (ao.refl _) bz hf.2⟩
 ·exact hf.elim
theorem tY {g:Int->Int->Bool}:wO X (BA λi j=>.bl (g i j)) (wY (λ_ _=>True) λi j=>.bl (g i j)):=by
 intro B σ F H env Q d d' x y Z rp h1 h2 hz hf;unfold wY at hf
 split at hf
 ·simp only [Den] at h1 h2;subst h1 h2;exact⟨_,_,rfl,rfl,hz _ _ F _ rp (ao.refl _) hW hf.2⟩
 ·exact hf.elim
theorem Dk:jq X (binaryOp .Mult) (rI IntMulOk λi j=>.int (i * j)):=JA λ_ _ _ _ _ _ _ hc q=>mul_int q hc
def yD (_ j:Int):Prop:=j≠0/\j.natAbs.log2 < 9000
theorem Aq:jq X (binaryOp .FloorDiv) (rI yD λi j=>.int (i.fdiv j)):=JA λ_ _ _ _ _ _ _ hc q=>floordiv_int hc.1 q (.inl (PyProof.noPylong_of_log2 hc.2))
def A7 (_ j:Int):Prop:=j≠0
abbrev oR:=wY (λ_ _=>True) λi j=>.int (i - j)
abbrev x8:=wY IntMulOk λi j=>.int (i * j)
abbrev EB:=wY yD λi j=>.int (i.fdiv j)
abbrev pI:=wY A7 λi j=>.int (i.fmod j)
abbrev FR:=wY Gp λi j=>.int (i ^ j.toNat)
abbrev E9:=wY (λ_ _=>True) λi j=>.bl (decide (i < j))
abbrev Ky:=wY (λ_ _=>True) λi j=>.bl (decide (i<=j))
abbrev IK:=wY (λ_ _=>True) λi j=>.bl (decide (j < i))
abbrev KG:=wY (λ_ _=>True) λi j=>.bl (decide (j<=i))
theorem mM (ha:QE X a ta) (hb:QE X b tb):QE X (.BinOp a .Sub b pos) (aG oR ta tb):=xl FX G7 ha hb
theorem sv (ha:QE X a ta) (hb:QE X b tb):QE X (.BinOp a .Mult b pos) (aG x8 ta tb):=xl Dk yt ha hb
theorem Hd (ha:QE X a ta) (hb:QE X b tb):QE X (.BinOp a .FloorDiv b pos) (aG EB ta tb):=xl Aq yt ha hb
theorem kO (ha:QE X a ta) (hb:QE X b tb):QE X (.BinOp a .Mod b pos) (aG pI ta tb):=xl (r:=rI A7 λi j=>.int (i.fmod j)) DY yt ha hb
theorem EF (ha:QE X a ta) (hb:QE X b tb):QE X (.BinOp a .Pow b pos) (aG FR ta tb):=xl Ga yt ha hb
theorem Cv (ha:QE X a ta) (hb:QE X b tb):QT X (.Compare a [.Lt] [b] pos) (aN (aG E9 ta tb)):=ik IW tY ha hb (f7 _)
theorem Kb (ha:QE X a ta) (hb:QE X b tb):QT X (.Compare a [.LtE] [b] pos) (aN (aG Ky ta tb)):=ik HR tY ha hb (f7 _)
theorem Ej (ha:QE X a ta) (hb:QE X b tb):QT X (.Compare a [.Gt] [b] pos) (aN (aG IK ta tb)):=ik Ig tY ha hb (f7 _)
theorem JL (ha:QE X a ta) (hb:QE X b tb):QT X (.Compare a [.GtE] [b] pos) (aN (aG KG ta tb)):=ik HF tY ha hb (f7 _)
def KP (X:Cx) (r:V->Hp->VK->Prop) (f:D->(D->Prop)->Prop):Prop:=∀(B:Base) (σ:St) (F H:Hp) (env:En) (Q:D->Prop) (d:D) (x:V) (Z:VK),Rep X.K B F H σ env->Den X.K F d x->Kont X B σ env F Q Z->f d Q->r x H Z
def Cg (f:D->(D->Prop)->Prop) (ta:TD):TD:=λenv Q=>ta env λx=>f x Q
theorem JW {op:UnaryOp} {r:V->Hp->VK->Prop} {f:D->(D->Prop)->Prop} (ho:JF X (unaryOp op) r) (hf:KP X r f) (ha:QE X a ta):QE X (.UnaryOp op a pos) (Cg f ta):=by
 refine⟨?_⟩;intro B σ F H env Q rp h;refine dA (Io ho bO) ?_;refine aC (ha B σ F H env _ rp h) λx H1 hq0=>?_;obtain⟨F1,d,r1,s1,d1,q1⟩:=hq0;exact hf B σ F1 H1 env Q d x _ r1 d1 (λv H' F' d' r' s' hd q=>⟨F',d',r',s1.trans s',hd,q⟩) q1
def zU (x:D) (Q:D->Prop):Prop:=match x with
 | .int i=>Q (.int (-i))
 | _=>False
theorem EV (ha:QE X a ta):QE X (.UnaryOp .USub a pos) (Cg zU ta):=by
 refine JW Hb ?_ ha;intro B σ F H env Q d x Z rp h1 hz hf;unfold zU at hf
 split at hf
 ·simp only [Den] at h1;subst h1;exact⟨_,rfl,hz _ _ F _ rp (ao.refl _) bz hf⟩
 ·exact hf.elim
def El (X:Cx) (neg:Bool):R2:=λx y H Q=>∃(F:Hp) (d d':D),ao F H/\Den X.K F d x/\Den X.K F d' y/\X.A.units + dep d < cLine/\dep d < 1000/\dep d' < 1000/\Q (.bl (if neg then !aV d d' else aV d d')) H
theorem AM:jq X (compareOp .Eq) (El X false):=by
 intro pins s σ H x y v u Q I rx ry h;obtain⟨F,d,d',fh,h1,h2,hu,hd,hd',q⟩:=h;exact (Ep I fh d d' X.A x y v u hu hd hd' h1 h2 rx ry).1 X.prog X.w X.xe _ ⟨.bl _,H,I,rfl,q⟩
theorem tm:jq X (compareOp .NotEq) (El X true):=by
 intro pins s σ H x y v u Q I rx ry h;obtain⟨F,d,d',fh,h1,h2,hu,hd,hd',q⟩:=h;exact (Ep I fh d d' X.A x y v u hu hd hd' h1 h2 rx ry).2 X.prog X.w X.xe _ ⟨.bl _,H,I,rfl,q⟩
def gF (x y:D):Prop:=dep x<=60/\dep y<=60
def jm (x y:D) (Q:D->Prop):Prop:=gF x y/\Q (.bl (aV x y))
def nO (x y:D) (Q:D->Prop):Prop:=gF x y/\Q (.bl (!aV x y))
theorem EE (hu:X.A.units + 64 < cLine):wO X (El X false) jm:=by
 intro B σ F H env Q d d' x y Z rp h1 h2 hz hf;obtain⟨⟨l1,l2⟩,q⟩:=hf;exact⟨F,d,d',rp.fh,h1,h2,by omega,by omega,by omega,hz _ _ F _ rp (ao.refl _) hW q⟩
theorem B0 (hu:X.A.units + 64 < cLine):wO X (El X true) nO:=by
 intro B σ F H env Q d d' x y Z rp h1 h2 hz hf;obtain⟨⟨l1,l2⟩,q⟩:=hf;exact⟨F,d,d',rp.fh,h1,h2,by omega,by omega,by omega,hz _ _ F _ rp (ao.refl _) hW q⟩
theorem C0 (hu:X.A.units + 64 < cLine) (ha:QE X a ta) (hb:QE X b tb):QE X (.Compare a [.Eq] [b] pos) (aG jm ta tb):=E2 AM (EE hu) ha hb (f7 _)
theorem J1 (hu:X.A.units + 64 < cLine) (ha:QE X a ta) (hb:QE X b tb):QE X (.Compare a [.NotEq] [b] pos) (aG nO ta tb):=E2 tm (B0 hu) ha hb (f7 _)
theorem qr (hu:X.A.units + 64 < cLine) (ha:QE X a ta) (hb:QE X b tb):QT X (.Compare a [.Eq] [b] pos) (aN (aG jm ta tb)):=ik AM (EE hu) ha hb (f7 _)
theorem vA (hu:X.A.units + 64 < cLine) (ha:QE X a ta) (hb:QE X b tb):QT X (.Compare a [.NotEq] [b] pos) (aN (aG nO ta tb)):=ik tm (B0 hu) ha hb (f7 _)
def bS (x y:D) (Q:D->Prop):Prop:=match x,y with
 | .lst xs,.int i=>∃v,j6 xs i=some v/\Q v
 | .tup xs,.int i=>∃v,j6 xs i=some v/\Q v
 | .str z,.int i=>z.length<=sizeLine/\∃c,j6 z.cps.toList i=some c/\Q (.str ⟨#[c]⟩)
 | _,_=>False
theorem ak.j6 {K:Le} {F:Hp} {ds:List D} {vs:List V} {i:Int} {d:D} (r:ak K F ds vs) (h:j6 ds i=some d):∃v,L2.j6 vs i=some v/\Den K F d v:=by
 unfold L2.j6 at h ⊢;rw [<- r.length]
 cases e:rZ ds.length i with
 | none=>rw [e] at h;cases h
 | some j =>
  rw [e] at h;exact r.get h
theorem EI:wO X (JY X.K) bS:=by
 intro B σ F H env Q d d' x y Z rp h1 h2 hz hf;unfold bS at hf
 split at hf
 ·simp only [Den] at h1 h2;subst h2;obtain⟨p,vs,rfl,q,r⟩:=h1;obtain⟨v,hv,qv⟩:=hf;obtain⟨w,hw,dw⟩:=r.j6 hv;exact .inl ⟨p,vs,_,w,rfl,rfl,rp.fh.seq q,hw,hz _ _ F _ rp (ao.refl _) dw qv⟩
 ·simp only [Den] at h1 h2;subst h2;obtain⟨p,vs,rfl,q,r⟩:=h1;obtain⟨v,hv,qv⟩:=hf;obtain⟨w,hw,dw⟩:=r.j6 hv;exact .inr (.inl ⟨p,vs,_,w,rfl,rfl,ao.bF rp.fh q,hw,hz _ _ F _ rp (ao.refl _) dw qv⟩)
 ·simp only [Den] at h1 h2;subst h1 h2;obtain⟨hl,c,hc,qv⟩:=hf;exact .inr (.inr ⟨_,_,c,rfl,rfl,hl,hc,hz _ _ F _ rp (ao.refl _) kA qv⟩)
 ·exact hf.elim
theorem bf (ha:QE X a ta) (hb:QE X b tb) (hs:m4 b):QE X (.Subscript a b pos) (aG bS ta tb):=⟨λB σ F H env Q rp h=>dA (y4 AE bO bO hs) (two EI ha hb rp JG h)⟩
abbrev Jt:=En->(Option Int->Prop)->Prop
def lR (t:TD):Jt:=λenv Q=>t env λx=>∃i,x=.int i/\Q (some i)
def QO (X:Cx) (e:Option Expr) (t:Jt):Prop:=∃to:TO,PO X e to/\∀(B:Base) (σ:St) (F H:Hp) (env:En) (Q:Option Int->Prop) (Z:Option Int->Hp->Prop),Rep X.K B F H σ env->(∀o H' F',Rep X.K B F' H' σ env->ao F F'->Q o->Z o H')->t env Q->to σ H Z
theorem yo (h:QE X e ta):QO X (some e) (lR ta):=by
 refine⟨_,Dy bO,λB σ F H env Q Z rp hz hq=>?_⟩;refine aC (h B σ F H env _ rp hq) λx H1 hq0=>?_;obtain⟨F1,d,r1,s1,d1,i,hi,q1⟩:=hq0;subst hi;simp only [Den] at d1;exact⟨i,d1,hz _ _ F1 r1 s1 q1⟩
def cutD (xs:List D) (lo hi:Option Int):List D:=(xs.drop (HT.fA xs.length 0 lo)).take (HT.fA xs.length xs.length hi - HT.fA xs.length 0 lo)
def Ku (x:D) (lo hi:Option Int) (Q:D->Prop):Prop:=match x with
 | .lst xs=>Q (.lst (cutD xs lo hi))
 | .tup xs=>¬ (HT.fA xs.length 0 lo=0/\HT.fA xs.length xs.length hi=xs.length)/\Q (.tup (cutD xs lo hi))
 | _=>False
def EM (ta:TD) (tl th:Jt):TD:=λenv Q=>ta env λx=>tl env λlo=>th env λhi=>Ku x lo hi Q
theorem JS {lo hi:Option Expr} {tl th:Jt} {p2:Pos} (ha:QE X a ta) (hl:QO X lo tl) (hh:QO X hi th):QE X (.Subscript a (.Slice lo hi none p2) pos) (EM ta tl th):=by
 refine⟨?_⟩;intro B σ F H env Q rp h;obtain⟨tl',pl,ql⟩:=hl;obtain⟨th',ph,qh⟩:=hh;refine dA (AY (EL.or Ee G8) bO pl ph) ?_;refine aC (ha B σ F H env _ rp h) λx H1 hq0=>?_;obtain⟨F1,d,r1,s1,d1,q1⟩:=hq0;refine ql B σ F1 H1 env _ _ r1 (λlo' H2 F2 r2 s2 q2=>?_) q1;refine qh B σ F2 H2 env _ _ r2 (λhi' H3 F3 r3 s3 q3=>?_) q2;have d3:=Den.mono (s2.trans s3) _ _ d1;unfold Ku at q3
 split at q3
 ·simp only [Den] at d3;obtain⟨p,vs,rfl,q,r⟩:=d3;refine .inl ⟨p,vs,rfl,r3.fh.seq q,λw hw=>?_⟩;obtain⟨r4,s4⟩:=r3.laid (o:=.lst (qS vs lo' hi')) hw;refine⟨_,_,r4,((s1.trans s2).trans s3).trans s4,gw (fZ.of av) ?_,q3⟩;unfold qS cutD;rw [r.length];exact ak.mono s4 _ _ ((r.drop _).take _)
 ·simp only [Den] at d3;obtain⟨p,vs,rfl,q,r⟩:=d3;refine .inr ⟨p,vs,rfl,ao.bF r3.fh q,by rw [<- r.length];exact q3.1,λw hw=>?_⟩;obtain⟨r4,s4⟩:=r3.laid (o:=.tup (qS vs lo' hi')) hw;refine⟨_,_,r4,((s1.trans s2).trans s3).trans s4,fP (gr.of av) ?_,q3.2⟩;unfold qS cutD;rw [r.length];exact ak.mono s4 _ _ ((r.drop _).take _)
 ·exact q3.elim
def Call3 (X:Cx) (r:List V->Hp->VK->Prop) (f:List D->(D->Prop)->Prop):Prop:=∀(B:Base) (σ:St) (F H:Hp) (env:En) (Q:D->Prop) (ds:List D) (vs:List V) (Z:VK),Rep X.K B F H σ env->ak X.K F ds vs->Kont X B σ env F Q Z->f ds Q->r vs H Z
def aA (f:List D->(D->Prop)->Prop) (ts:fY):TD:=λenv Q=>ts env λxs=>f xs Q
theorem EU {r:List V->Hp->VK->Prop} {f:List D->(D->Prop)->Prop} (hf:Call3 X r f) (ha:QA X es ts) {B:Base} {σ:St} {F H:Hp} {env:En} {Q:D->Prop} (rp:Rep X.K B F H σ env) (h:aA f ts env Q):J6 r (wA X es) σ H (RV X B σ env F Q):=by
 refine cO (ha B σ F H env _ rp h) λvs H1 hq0=>?_;obtain⟨F1,ds,r1,s1,d1,q1⟩:=hq0;exact hf B σ F1 H1 env Q ds vs _ r1 d1 (λv H' F' d' r' s' hd q=>⟨F',d',r',s1.trans s',hd,q⟩) q1
theorem mH {id:String} {r:List V->Hp->VK->Prop} {f:List D->(D->Prop)->Prop} {x:Str} {p:Pos} (hc:e7 X (.builtin id) r) (hf:Call3 X r f) (hg:Gl X x) (hm:X.mg x=none) (hv:bootBuiltins x=some (.builtin id)) (ha:QA X (e :: es) ts)
  (hn:x≠"__name__":=by decide) (hdb:(x == ("__debug__" : Str))=false:=by decide) (he:starEach (e :: es) X.env=(false,eval e X.env) :: starEach es X.env:=by exact aZ rfl) (hpl:(backTo pos (starEach es X.env)).any (·.1)=false:=by rfl) :
  QE X (.Call (.Name x p) (e :: es) [] pos) (aA f ts):=⟨λB σ F H env Q rp h=>dA (vI hc hg hm hv jh hn hdb he hpl) (EU hf ha rp h)⟩
theorem pG {T:String} {r:List V->Hp->VK->Prop} {f:List D->(D->Prop)->Prop} {x:Str} {p:Pos} (hc:e7 X (.type T) r) (hf:Call3 X r f) (hg:Gl X x) (hm:X.mg x=none) (hv:bootBuiltins x=some (.type T)) (ha:QA X (e :: es) ts)
  (hn:x≠"__name__":=by decide) (hdb:(x == ("__debug__" : Str))=false:=by decide) (he:starEach (e :: es) X.env=(false,eval e X.env) :: starEach es X.env:=by exact aZ rfl) (hpl:(backTo pos (starEach es X.env)).any (·.1)=false:=by rfl) :
  QE X (.Call (.Name x p) (e :: es) [] pos) (aA f ts):=⟨λB σ F H env Q rp h=>dA (kC hc hg hm hv jh hn hdb he hpl) (EU hf ha rp h)⟩
end
theorem zy:bootBuiltins "abs" = some (.builtin "abs"):=by decide +kernel
theorem zc:bootBuiltins "all" = some (.builtin "all"):=by decide +kernel
theorem zM:bootBuiltins "max" = some (.builtin "max"):=by decide +kernel
theorem zR:bootBuiltins "min" = some (.builtin "min"):=by decide +kernel
theorem rR:bootBuiltins "len" = some (.builtin "len"):=by decide +kernel
theorem zG:bootBuiltins "int" = some (.type "int"):=by decide +kernel
theorem lG:bootBuiltins "list" = some (.type "list"):=by decide +kernel
theorem oq:bootBuiltins "tuple" = some (.type "tuple"):=by decide +kernel
section
variable {X:Cx} {a b c e:Expr} {es:List Expr} {ta tb tc:TD} {tA tB':TB} {ts:fY} {pos:Pos} {rest:List Expr}
def AO (ds:List D) (Q:D->Prop):Prop:=match ds with
 | [.int i]=>Q (.int (if i < 0 then -i else i))
 | _=>False
theorem GD:Call3 X (λxs H Q=>∃i,xs=[.int i]/\Q (.int (if i < 0 then -i else i)) H) AO:=by
 intro B σ F H env Q ds vs Z rp h hz hf;unfold AO at hf
 split at hf
 ·simp only [ak,Den] at h;obtain⟨v,r,rfl,rfl,rfl⟩:=h;exact⟨_,rfl,hz _ _ F _ rp (ao.refl _) bz hf⟩
 ·exact hf.elim
def fB (ds:List D) (Q:D->Prop):Prop:=match ds with
 | [.lst xs]=>Q (.int xs.length)
 | [.tup xs]=>Q (.int xs.length)
 | [.str z]=>z.length<=sizeLine/\Q (.int z.length)
 | _=>False
theorem Fz:Call3 X (λxs H Q=>(∃p ys,xs=[.ref p]/\(fZ X.K H p ys\/gr X.K H p ys)/\Q (.int ys.length) H)\/∃z,xs=[.str z]/\z.length<=sizeLine/\Q (.int z.length) H) fB:=by
 intro B σ F H env Q ds vs Z rp h hz hf;unfold fB at hf
 split at hf
 ·simp only [ak,Den] at h;obtain⟨v,r,rfl,⟨p,ys,rfl,q,r⟩,rfl⟩:=h;refine .inl ⟨p,ys,rfl,.inl (rp.fh.seq q),hz _ _ F _ rp (ao.refl _) bz ?_⟩;rw [<- r.length];exact hf
 ·simp only [ak,Den] at h;obtain⟨v,r,rfl,⟨p,ys,rfl,q,r⟩,rfl⟩:=h;refine .inl ⟨p,ys,rfl,.inr (ao.bF rp.fh q),hz _ _ F _ rp (ao.refl _) bz ?_⟩;rw [<- r.length];exact hf
 ·simp only [ak,Den] at h;obtain⟨v,r,rfl,rfl,rfl⟩:=h;exact .inr ⟨_,rfl,hf.1,hz _ _ F _ rp (ao.refl _) bz hf.2⟩
 ·exact hf.elim
def BR (ds:List D) (Q:D->Prop):Prop:=match ds with
 | [.int i,.int j]=>Q (.int (if j > i then j else i))
 | _=>False
def BM (ds:List D) (Q:D->Prop):Prop:=match ds with
 | [.int i,.int j]=>Q (.int (if j < i then j else i))
 | _=>False
theorem Gu:Call3 X (λxs H Q=>∃i j,xs=[.int i,.int j]/\Q (.int (if j > i then j else i)) H) BR:=by
 intro B σ F H env Q ds vs Z rp h hz hf;unfold BR at hf
 split at hf
 ·simp only [ak,Den] at h;obtain⟨v,r,rfl,rfl,v',r',rfl,rfl,rfl⟩:=h;exact⟨_,_,rfl,hz _ _ F _ rp (ao.refl _) bz hf⟩
 ·exact hf.elim
theorem FI:Call3 X (λxs H Q=>∃i j,xs=[.int i,.int j]/\Q (.int (if j < i then j else i)) H) BM:=by
 intro B σ F H env Q ds vs Z rp h hz hf;unfold BM at hf
 split at hf
 ·simp only [ak,Den] at h;obtain⟨v,r,rfl,rfl,v',r',rfl,rfl,rfl⟩:=h;exact⟨_,_,rfl,hz _ _ F _ rp (ao.refl _) bz hf⟩
 ·exact hf.elim
def tF (ds:List D) (Q:D->Prop):Prop:=match ds with
 | [.int i]=>Q (.int i)
 | [.bl k]=>Q (.int (if k then 1 else 0))
 | _=>False
theorem FH:Call3 X (λxs H Q=>(∃i,xs=[.int i]/\Q (.int i) H)\/∃k,xs=[.bl k]/\Q (.int (if k then 1 else 0)) H) tF:=by
 intro B σ F H env Q ds vs Z rp h hz hf;unfold tF at hf
 split at hf
 ·simp only [ak,Den] at h;obtain⟨v,r,rfl,rfl,rfl⟩:=h;exact .inl ⟨_,rfl,hz _ _ F _ rp (ao.refl _) bz hf⟩
 ·simp only [ak,Den] at h;obtain⟨v,r,rfl,rfl,rfl⟩:=h;exact .inr ⟨_,rfl,hz _ _ F _ rp (ao.refl _) bz hf⟩
 ·exact hf.elim
def pS (ds:List D) (Q:D->Prop):Prop:=match ds with
 | [.lst xs]=>Q (.lst xs)
 | [.tup xs]=>Q (.lst xs)
 | _=>False
theorem DN:Call3 X (λxs H Q=>∃p ys,xs=[.ref p]/\(fZ X.K H p ys\/gr X.K H p ys)/\∀l,H l=none->Q (.ref l) (upd H l (.lst ys))) pS:=by
 intro B σ F H env Q ds vs Z rp h hz hf;unfold pS at hf
 split at hf
 ·simp only [ak,Den] at h;obtain⟨v,r,rfl,⟨p,ys,rfl,q,r⟩,rfl⟩:=h;refine⟨p,ys,rfl,.inl (rp.fh.seq q),λw hw=>?_⟩;obtain⟨r2,s2⟩:=rp.laid (o:=.lst ys) hw;exact hz _ _ _ _ r2 s2 (gw (fZ.of av) (ak.mono s2 _ _ r)) hf
 ·simp only [ak,Den] at h;obtain⟨v,r,rfl,⟨p,ys,rfl,q,r⟩,rfl⟩:=h;refine⟨p,ys,rfl,.inr (ao.bF rp.fh q),λw hw=>?_⟩;obtain⟨r2,s2⟩:=rp.laid (o:=.lst ys) hw;exact hz _ _ _ _ r2 s2 (gw (fZ.of av) (ak.mono s2 _ _ r)) hf
 ·exact hf.elim
def eJ (ds:List D) (Q:D->Prop):Prop:=match ds with
 | [.lst xs]=>Q (.tup xs)
 | [.tup xs]=>Q (.tup xs)
 | _=>False
theorem BW:Call3 X (λxs H Q=>∃p ys,xs=[.ref p]/\((fZ X.K H p ys/\∀l,H l=none->Q (.ref l) (upd H l (.tup ys)))\/(gr X.K H p ys/\Q (.ref p) H))) eJ:=by
 intro B σ F H env Q ds vs Z rp h hz hf;unfold eJ at hf
 split at hf
 ·simp only [ak,Den] at h;obtain⟨v,r,rfl,⟨p,ys,rfl,q,r⟩,rfl⟩:=h;refine⟨p,ys,rfl,.inl ⟨rp.fh.seq q,λw hw=>?_⟩⟩;obtain⟨r2,s2⟩:=rp.laid (o:=.tup ys) hw;exact hz _ _ _ _ r2 s2 (fP (gr.of av) (ak.mono s2 _ _ r)) hf
 ·simp only [ak,Den] at h;obtain⟨v,r,rfl,⟨p,ys,rfl,q,r⟩,rfl⟩:=h;exact⟨p,ys,rfl,.inr ⟨ao.bF rp.fh q,hz _ _ F _ rp (ao.refl _) (fP q r) hf⟩⟩
 ·exact hf.elim
theorem oD:∀{bs:List Bool} {us:List Value},Vals (bs.map V.bl) us->LSm.BoolsAre us bs
 | [],_,r=>by rw [List.map_nil] at r;cases r;exact .nil
 | b :: bs,_,r=>by
  rw [LM] at r
  cases r with
  | cons h t=>cases (show _=Value.bool b from h);exact .cons b (oD t)
theorem xP {s:Shared} {h':Heap} {o:Obj} (hk:∀b x,b∉[s.heap.objs.size]->(s.heap.push o).get? b=some x->h'.get? b=some x):∀b x,s.heap.get? b=some x->h'.get? b=some x :=
 λb x e=>hk b x (λhm=>by rw [LA.mp hm] at e;exact Nat.lt_irrefl _ (Lw e)) (Ld _ e)
theorem Bc (hc:X.calm=true):e7 X (.builtin "all") (λxs H Q=>∃(p:Addr) (bs:List Bool),xs=[.ref p]/\fZ X.K H p (bs.map V.bl)/\Q (.bl (bs.all id)) H):=by
 intro pins s σ H xs us Q I r h;obtain⟨p,bs,rfl,hq,q⟩:=h;obtain⟨u,rfl,rx⟩:=vals1 r;cases rx;obtain⟨its,r',pl,hz⟩:=I.list hq;have hb:=oD r';have hl:=pl.isList;have hlt:p < s.heap.objs.size:=by obtain⟨_,e,_⟩:=hl;exact Lw e
 refine call_all_walk (wpAny_pyIter_list hl ?_)
 refine⟨s.heap.objs.size,[s.heap.objs.size,p],[s.heap.objs.size],its.toArray.size,_,_,λi=>(bs[i]?).getD true,rfl,Walks.list (A:=X.A.in1) (I.ok.hd hc) _ p (LJ hlt) its.toArray,
  ⟨⟨_,Lv _ rfl,rfl,rfl⟩,hl.push _⟩,λi v s' Q' E' hP hQ=>?_,λh' tk hk=>?_⟩
 ·obtain⟨b,e,rfl⟩:=hb.get i v (by simpa using hP);simp only [e,Option.getD_some] at hQ;exact wpAny_truthy_bool hQ
 ·have e:((List.range its.toArray.size).all λi=>(bs[i]?).getD true)=bs.all id:=by
   rw [Ly,hb.length];exact LSm.range_all bs
  rw [e];exact⟨.bl _,H,I.kept (t':=tk) (xP hk),rfl,q⟩
def boolsOf:List D->Option (List Bool)
 | []=>some []
 | .bl b :: r=>(boolsOf r).map (b :: ·)
 | _=>none
theorem wu (bs:List Bool):boolsOf (bs.map D.bl)=some bs:=by
 induction bs with
 | nil=>rfl
 | cons b r ih=>simp [boolsOf,ih]
theorem oI {K:Le} {F:Hp}:∀{ds:List D} {bs:List Bool} {vs:List V},boolsOf ds=some bs->ak K F ds vs->vs=bs.map V.bl
 | [],bs,vs,h,r=>by simp only [boolsOf] at h;cases h;simp only [ak] at r;subst r;rfl
 | .bl b :: ds,bs,vs,h,r=>by
  simp only [boolsOf] at h
  cases e:boolsOf ds with
  | none=>rw [e] at h;cases h
  | some bs' =>
   rw [e] at h;cases h;simp only [ak,Den] at r;obtain⟨v,r',rfl,rfl,r⟩:=r
   rw [oI e r];rfl
 | .non :: _,_,_,h,_=>by cases h
 | .int _ :: _,_,_,h,_=>by cases h
 | .str _ :: _,_,_,h,_=>by cases h
 | .tup _ :: _,_,_,h,_=>by cases h
 | .lst _ :: _,_,_,h,_=>by cases h
 | .dct _ _ :: _,_,_,h,_=>by cases h
 | .obj _ :: _,_,_,h,_=>by cases h
 | .ty _ :: _,_,_,h,_=>by cases h
 | .exc _ :: _,_,_,h,_=>by cases h
 | .cls _ :: _,_,_,h,_=>by cases h
def C6 (ds:List D) (Q:D->Prop):Prop:=match ds with
 | [.lst xs]=>∃bs,boolsOf xs=some bs/\Q (.bl (bs.all id))
 | _=>False
theorem Gw:Call3 X (λxs H Q=>∃(p:Addr) (bs:List Bool),xs=[.ref p]/\fZ X.K H p (bs.map V.bl)/\Q (.bl (bs.all id)) H) C6:=by
 intro B σ F H env Q ds vs Z rp h hz hf;unfold C6 at hf
 split at hf
 ·obtain⟨bs,hb,q⟩:=hf;simp only [ak,Den] at h;obtain⟨v,r,rfl,⟨p,ys,rfl,q',r⟩,rfl⟩:=h;have:=oI hb r;subst this;exact⟨p,bs,rfl,rp.fh.seq q',hz _ _ F _ rp (ao.refl _) hW q⟩
 ·exact hf.elim
end
section
variable {K:Le} {B:Base} {F H:Hp} {σ:St} {env:En}
theorem Rep.bare (r:Rep K B F H σ env):Rep K B F H [] [] :=
 ⟨r.f0,r.fh,r.h0,r.nf,λi x q=>by simp at q,λi x q=>by simp at q,λi j _ _ _ _ q=>by simp at q,λi x q=>by simp at q,λi j _ _ _ _ q=>by simp at q⟩
end
section
variable {X:Cx} {a b c e:Expr} {es:List Expr} {ta tb tc:TD} {tA tB':TB} {ts:fY} {pos:Pos} {rest:List Expr} {st:Stmt} {sts:List Stmt} {t u:bI}
def bQ:bI:=λD env=>D.nx env
def aI (t u:bI):bI:=λD env=>t { D with nx:=u D } env
theorem bt:o7 X [] bQ:=⟨λB σ F H env D rp h=>nC C7 ⟨F,env,rp,h⟩⟩
theorem ar (h1:QS X st t):o7 X [st] t:=⟨λB σ F H env D rp h=>nC (tN CB) (h1 B σ F H env D rp h)⟩
theorem aj (h1:QS X st t) (h2:o7 X sts u):o7 X (st :: sts) (aI t u):=by
 refine⟨?_⟩;intro B σ F H env D rp h;refine nC (uX CB fi) ?_;exact yT (h1 B σ F H env _ rp h) (λσ' H' ⟨F',env',rp',q⟩=>h2 B σ' F' H' env' D rp' q) (λ_ _ q=>q) (λ_ _ q=>q) (λ_ _ q=>q)
def jF:bI:=λD env=>D.bk env
theorem Bj:QS X (.Break pos) jF:=⟨λB σ F H env D rp h=>ei BB ⟨F,env,rp,h⟩⟩
def cz (te:TD):bI:=λD env=>te env D.rt
theorem a8 (he:QE X e ta):QS X (.Return (some e) pos) (cz ta):=by
 refine⟨?_⟩;intro B σ F H env D rp h;refine ei (Cy bO) ?_;exact aC (he B σ F H env _ rp h) λv H' ⟨F',d,r',s',hd,q⟩=>⟨F',d,r'.bare,hd,q⟩
def iI (c:TB) (t u:bI):bI:=λD env=>c env λk=>if k=true then t D env else u D env
theorem cL {xs ys:List Stmt} (hc:QT X c tA) (ha:o7 X xs t) (hb:o7 X ys u):QS X (.If c xs ys pos) (iI tA t u):=by
 refine⟨?_⟩;intro B σ F H env D rp h;refine ei (Ba sZ fi fi) ?_;refine iQ (hc B σ F H env _ rp h) λk H1 ⟨F1,r1,s1,q1⟩=>?_
 cases k with
 | true=>exact ha B σ F1 H1 env D r1 q1
 | false=>exact hb B σ F1 H1 env D r1 q1
def iP:bI:=λ_ _=>False
theorem vQ:QS X st iP:=⟨λ_ _ _ _ _ _ _ h=>h.elim⟩
abbrev o9:=D->En->(En->Prop)->Prop
abbrev uz:=List D->En->(En->Prop)->Prop
def wG (X:Cx) (tg:Expr):TG:=λv σ H Q=>∀(pins:List (Addr×Obj)) (s:Shared) (u:Value),Inv X pins σ H s->RelV v u ->
 wpAny (model X.prog X.w) X.A (assign tg X.env u) (λ_ s'=>∃σ' H',Inv X pins σ' H' s'/\Q σ' H') X.xe s
def Hx (X:Cx) (tg:List Expr):DW:=λvs σ H Q=>∀(pins:List (Addr×Obj)) (s:Shared) (us:List Value),Inv X pins σ H s->Vals vs us ->
 wpAny (model X.prog X.w) X.A (assignInOrder ((assignEach tg X.env).map (·.2)) us) (λ_ s'=>∃σ' H',Inv X pins σ' H' s'/\Q σ' H') X.xe s
theorem vO {tg:Expr}:PG X tg (wG X tg):=λpins s σ H v u Q I r h=>h pins s u I r
theorem EJ {tg:List Expr}:Ho X tg (Hx X tg):=λpins s σ H v u Q I r h=>h pins s u I r
theorem Jl {tg:Expr} {g:TG} {v:V} {σ:St} {H:Hp} {Q:St->Hp->Prop} (h:PG X tg g) (q:g v σ H Q):wG X tg v σ H Q:=λpins s u I r=>h pins s σ H v u Q I r q
theorem Cu {tg:List Expr} {g:DW} {v:List V} {σ:St} {H:Hp} {Q:St->Hp->Prop} (h:Ho X tg g) (q:g v σ H Q):Hx X tg v σ H Q:=λpins s u I r=>h pins s σ H v u Q I r q
theorem gS {tg:Expr} {v:V} {σ:St} {H:Hp} {Q Q':St->Hp->Prop} (h:wG X tg v σ H Q) (i:∀σ H,Q σ H->Q' σ H):wG X tg v σ H Q':=λpins s u I r=>bP (h pins s u I r) λ_ _ ⟨σ',H',I',q⟩=>⟨σ',H',I',i _ _ q⟩
theorem B6 {tg:List Expr} {v:List V} {σ:St} {H:Hp} {Q Q':St->Hp->Prop} (h:Hx X tg v σ H Q) (i:∀σ H,Q σ H->Q' σ H):Hx X tg v σ H Q':=λpins s u I r=>bP (h pins s u I r) λ_ _ ⟨σ',H',I',q⟩=>⟨σ',H',I',i _ _ q⟩
def RG (X:Cx) (B:Base) (F:Hp) (Q:En->Prop):St->Hp->Prop:=λσ' H'=>∃F' env',Rep X.K B F' H' σ' env'/\ao F F'/\Q env'
structure QG (X:Cx) (tg:Expr) (g:o9):Prop where
 of ::
 run:∀(B:Base) (σ:St) (F H:Hp) (env:En) (Q:En->Prop) (d:D) (v:V),Rep X.K B F H σ env->Den X.K F d v->g d env Q->wG X tg v σ H (RG X B F Q)
instance {X:Cx} {tg:Expr} {g:o9}:CoeFun (QG X tg g) (λ_=>∀(B:Base) (σ:St) (F H:Hp) (env:En) (Q:En->Prop) (d:D) (v:V),Rep X.K B F H σ env->Den X.K F d v->g d env Q->wG X tg v σ H (RG X B F Q)):=⟨QG.run⟩
structure Hr (X:Cx) (tg:List Expr) (g:uz):Prop where
 of ::
 run:∀(B:Base) (σ:St) (F H:Hp) (env:En) (Q:En->Prop) (ds:List D) (vs:List V),Rep X.K B F H σ env->ak X.K F ds vs->g ds env Q->Hx X tg vs σ H (RG X B F Q)
instance {X:Cx} {tg:List Expr} {g:uz}:CoeFun (Hr X tg g) (λ_=>∀(B:Base) (σ:St) (F H:Hp) (env:En) (Q:En->Prop) (ds:List D) (vs:List V),Rep X.K B F H σ env->ak X.K F ds vs->g ds env Q->Hx X tg vs σ H (RG X B F Q)):=⟨Hr.run⟩
def a9 (i:Nat):o9:=λx env Q=>Q (env.set i (some (.d x)))
theorem aQ {x:Str} (i:Nat) (hN:X.N.Nodup) (hi:X.N[i]?=some x:=by rfl) (hx:Loc X.env.scope x:=by first|exact Or.inl rfl|exact Or.inr rfl) (hf:X.fn x=true\/X.env.scope.names.lookup x=some .local:=by first|exact .inl rfl|exact .inr rfl):QG X (.Name x pos) (a9 i):=by
 refine⟨?_⟩;intro B σ F H env Q d v rp hd h pins s u I r;refine Eu (i:=i) hN hi hx hf pins s σ H v u _ I r ?_;refine⟨F,_,rp.set hd ?_,ao.refl _,h⟩;rw [I.len];exact (La.mp hi).1
def jg:uz:=λxs env Q=>xs=[]/\Q env
def cQ (g:o9) (gs:uz):uz:=λxs env Q=>∃x r,xs=x :: r/\g x env λenv'=>gs r env' Q
theorem fN:Hr X [] jg:=by
 refine⟨?_⟩;intro B σ F H env Q ds vs rp hd h;obtain⟨rfl,q⟩:=h;simp only [ak] at hd;exact Cu DT ⟨hd,F,env,rp,ao.refl _,q⟩
theorem bj {g:o9} {gs:uz} (h1:QG X e g) (h2:Hr X es gs) (hs:(assignEach (e :: es) X.env).map (·.2)=assign e X.env :: (assignEach es X.env).map (·.2):=by rfl):Hr X (e :: es) (cQ g gs):=by
 refine⟨?_⟩;intro B σ F H env Q ds vs rp hd h;obtain⟨x,r,rfl,q⟩:=h;simp only [ak] at hd;obtain⟨v,vr,rfl,a1,b1⟩:=hd;refine Cu (Cn vO EJ hs) ⟨v,vr,rfl,?_⟩;refine gS (h1 B σ F H env _ x v rp a1 q) λσ1 H1 hq0=>?_;obtain⟨F1,env1,r1,s1,q1⟩:=hq0;exact B6 (h2 B σ1 F1 H1 env1 Q r vr r1 (ak.mono s1 _ _ b1) q1) λσ2 H2 ⟨F2,env2,r2,s2,q2⟩=>⟨F2,env2,r2,s1.trans s2,q2⟩
def jo (n:Nat) (gs:uz):o9:=λx env Q=>∃xs,x=.tup xs/\xs.length=n/\gs xs env Q
theorem ig {k n:Nat} {gs:uz} (hc:X.calm=true) (h:Hr X es gs) (hn:(assignEach es X.env).length=n:=by rfl) (hst:(assignEach es X.env).findIdx? (·.1)=none:=by rfl):QG X (.Tuple es k pos) (jo n gs):=by
 refine⟨?_⟩;intro B σ F H env Q d v rp hd hq;obtain⟨xs,rfl,hl,q⟩:=hq;simp only [Den] at hd;obtain⟨p,vs,rfl,hs,r⟩:=hd;refine Jl (FC hc EJ hn hst) ⟨p,vs,rfl,ao.bF rp.fh hs,by rw [<- r.length];exact hl,?_⟩;exact h B σ F H env Q xs vs rp r q
def oW (te:TD) (g:o9):bI:=λD env=>te env λx=>g x env D.nx
theorem qj {tg:Expr} {g:o9} (he:QE X e ta) (hg:QG X tg g) (hs:swapsWithSole [tg] e pos.line X.env=pure false:=by rfl) (hw:swappedStores [tg] e X.env=pure none:=by rfl)
  (h1:(assignEach [tg] X.env).map (·.2)=[assign tg X.env]:=by rfl):QS X (.Assign [tg] e pos) (oW ta g):=by
 refine⟨?_⟩;intro B σ F H env D rp h;refine ei (xa bO vO hs hw h1) ?_;refine aC (he B σ F H env _ rp h) λv H1 hq0=>?_;obtain⟨F1,d,r1,s1,d1,q1⟩:=hq0;exact gS (hg B σ F1 H1 env _ d v r1 d1 q1) λσ2 H2 ⟨F2,env2,r2,s2,q2⟩=>⟨F2,env2,r2,q2⟩
def bJ (i:Nat) (te:TD):bI:=λD env=>te env λx=>D.nx (env.set i (some (.d x)))
theorem aS {x:Str} {pos':Pos} (i:Nat) (hN:X.N.Nodup) (he:QE X e ta) (hi:X.N[i]?=some x:=by rfl) (hx:Loc X.env.scope x:=by first|exact Or.inl rfl|exact Or.inr rfl) (hs:swapsWith e (some (.Name x pos')) pos.line X.env=pure false:=by rfl)
  (hf:X.fn x=true\/X.env.scope.names.lookup x=some .local:=by first|exact .inl rfl|exact .inr rfl):QS X (.Assign [.Name x pos'] e pos) (bJ i ta):=by
 refine⟨?_⟩;intro B σ F H env D rp h pins s I;refine ju (i:=i) hN hi hx bO hs hf pins s σ H _ I ?_;refine aC (he B σ F H env _ rp h) λv H1 ⟨F1,d,r1,s1,d1,q1⟩=>⟨F1,_,r1.set d1 ?_,q1⟩;rw [I.len];exact (La.mp hi).1
def ic (c:TB) (tb:bI):bI:=λD env=>∃(I:En->Prop) (μ:En->Nat),I env/\∀env,I env->c env λk=>if k=true then tb { D with nx:=λe'=>I e'/\μ e' < μ env,ct:=λe'=>I e'/\μ e' < μ env,bk:=D.nx } env else D.nx env
theorem jy {body:List Stmt} (hp:PassesOwn (model X.prog X.w) X.A X.env X.xe) (hc:QT X c tA) (hb:o7 X body t):QS X (.While c body [] pos) (ic tA t):=by
 refine⟨?_⟩;intro B σ F H env D rp h;obtain⟨I,μ,i0,turn⟩:=h;refine ei (vy hp sZ fi) ?_;refine⟨λm σ H=>∃F env,Rep X.K B F H σ env/\I env/\μ env=m,⟨_,F,env,rp,i0,rfl⟩,?_⟩
 rintro m σ1 H1 ⟨F1,env1,r1,i1,rfl⟩;refine iQ (hc B σ1 F1 H1 env1 _ r1 (turn env1 i1)) λk H2 ⟨F2,r2,s2,q2⟩=>?_
 cases k with
 | false=>exact⟨F2,env1,r2,q2⟩
 | true =>
  refine⟨λσ' H'=>∃F' env',Rep X.K B F' H' σ' env'/\I env'/\μ env' < μ env1,λσ' H' ⟨F',env',r',i',l⟩=>⟨_,l,F',env',r',i',rfl⟩,?_⟩;exact hb B σ1 F2 H2 env1 _ r2 q2
def turns (g:o9) (tb:bI) (Z:Ends3):List D->En->Prop
 | [],env=>Z.nx env
 | x :: xs,env=>g x env λenv'=>tb { Z with nx:=turns g tb Z xs,ct:=turns g tb Z xs,bk:=Z.nx } env'
def iM (z:Str):List D:=z.cps.toList.map λc=>.str ⟨#[c]⟩
def fw:D->Option (List D)
 | .lst xs=>some xs
 | .tup xs=>some xs
 | .str z=>some (iM z)
 | _=>none
def Ie (z:Str):It:=⟨λi _=>i < z.cps.size,λi H v H'=>H'=H/\∃c,z.cps[i]?=some c/\v=.str ⟨#[c]⟩,λi _=>z.cps.size<=i⟩
theorem vB {P:Program} {w:World} {K:Le} {tg:Expr} (it:Addr) (z:Str) (t:Tok) (nm:String) (hn:["enumerate","zip","dict_itemiterator","dict_reverseitemiterator","odict_iterator","itertools.zip_longest","itertools.pairwise"].contains nm=false)
  (W:∀A:Around,A.handled=none->Walks P w A it [it] [it] z.cps.size (SignAt z) (λi h=>h.IsStrIter it nm z t i)) (sf:∀(A:Around) (i:Nat) (s:Shared) (Q:Value->Shared->Prop) (E:Value->Shared->Prop),s.heap.IsStrIter it nm z t i->Q (.ref it) s->wpAny (model P w) A (pyIter (.ref it)) Q E s)
  (dn:∀(A:Around) (i:Nat) (s:Shared) (Q:Option Value->Shared->Prop) (E:Value->Shared->Prop),A.handled=none->s.heap.IsStrIter it nm z t i->z.cps[i]?=none->(∀h',Heap.ExtBut it s.heap h'->Q none { s with heap:=h' })->wpAny (model P w) A (pyNext (.ref it)) Q E s) :
  Turn P w K tg (Ie z) [it] it (λi h=>h.IsStrIter it nm z t i) where
 mem:=by simp
 obj:=λi h st b hb=>by
  have e:b=it:=by simpa using hb
  subst e;obtain⟨o,e,c,d⟩:=st;exact⟨o,e,λv z=>by rw [d] at z;cases z⟩
 keep:=λi h h' st k=>by
  obtain⟨o,e,c,d⟩:=st;exact⟨o,k it (by simp) o e,c,d⟩
 item:=by
  intro X hP hw hK hc i pins s σ H E I hf st hg;subst hP hw hK;obtain⟨f0,f1,f2,f3,f4,f5⟩:=hf it (by simp);refine (W X.A (I.ok.hd hc)).item i s _ _ hg st λv h' tk hv st' kk=>?_;obtain⟨c,u,hc',rfl⟩:=hv;have I1:Inv X pins σ H { s with heap:=h',toks:=tk }:=I.turned (λb o hb e=>kk b o (by simpa using hb) e) f0 f1 f3 f4 f5;obtain⟨o,e,c',d⟩:=id st';exact⟨_,rfl,vV (s:={ s with heap:=h',toks:=tk }) e c' d hn ⟨.str ⟨#[c]⟩,H,I1,⟨u,rfl⟩,⟨rfl,c,hc',rfl⟩,st',λb hb=>(hf b hb).1⟩⟩
 done:=by
  intro X hP hw hK hc i pins s σ H E I hf st hg;subst hP hw hK;obtain⟨f0,f1,f2,f3,f4,f5⟩:=hf it (by simp);have hg':z.cps.size<=i:=hg;exact dn X.A i s _ _ (I.ok.hd hc) st (by simp;exact hg') λh' eb=>⟨rfl,I.turned (t':=s.toks) (λb o hb e=>eb b o hb e) f0 f1 f3 f4 f5⟩
 self:=λA i s Q E st h=>sf A i s Q E st h
def IP (K:Le) (tl:TE):TI:=λσ H R=>tl σ H λx H1=>(∃a,x=.ref a/\(((∃xs,fZ K H1 a xs)/\R (Ju K a) H1)\/((∃xs,gr K H1 a xs)/\R (JD K a) H1)))\/∃z,x=.str z/\R (Ie z) H1
theorem AZ {tg l:Expr} {tl:TE} (hl:PE X l tl):PI X tg l (IP X.K tl):=by
 intro pins s σ H R I h;refine bP (hl pins s σ H _ I h) λv s1 hq0=>?_;obtain⟨x,H1,I1,r1,q1⟩:=hq0;rcases q1 with ⟨a,e,q⟩|⟨z,e,q⟩
 rotate_left
 ·subst e;obtain⟨t,rfl⟩:=r1
  have fin:∀(o:Obj) (nm:String),(∀v,o.data≠.cell v)->Turn X.prog X.w X.K tg (Ie z) [s1.heap.objs.size] s1.heap.objs.size (λi h=>h.IsStrIter s1.heap.objs.size nm z t i)->(s1.heap.push o).IsStrIter s1.heap.objs.size nm z t 0 ->
    Je X pins σ tg R (.ref s1.heap.objs.size) { s1 with heap:=s1.heap.push o }:=λo nm hcell T st=>by
   refine⟨s1.heap.objs.size,[s1.heap.objs.size],_,_,H1,rfl,I1.kept (t':=s1.toks) λb o e=>Ld _ e,T,st,λb hb=>?_,q⟩;have e:b=s1.heap.objs.size:=by simpa using hb
   subst e;exact I1.w6 (Lh _) (I1.hok.fresh (Lh _))
  cases ha:z.cps.all (· < 128)
  ·exact wpAny_pyIter_wide ha (fin _ "str_iterator" (λv e=>by cases e) (vB _ z t "str_iterator" (by decide) (λA hA=>Walks.strWide hA _ z t) (λA i s Q E st h=>wpAny_pyIter_striter_wide st h) (λA i s Q E hh st hx h=>wpAny_pyNext_wide_end hh st hx h)) ⟨_,Lv _ rfl,rfl,rfl⟩)
  ·exact wpAny_pyIter_ascii ha (fin _ "str_ascii_iterator" (λv e=>by cases e) (vB _ z t "str_ascii_iterator" (by decide) (λA hA=>Walks.strAscii hA _ z t) (λA i s Q E st h=>wpAny_pyIter_striter_ascii st h) (λA i s Q E hh st hx h=>wpAny_pyNext_ascii_end hh st hx h)) ⟨_,Lv _ rfl,rfl,rfl⟩)
 subst e;cases r1;rcases q with ⟨⟨xs,hq⟩,q⟩|⟨⟨xs,hq⟩,q⟩
 ·obtain⟨its,rv,p,hz⟩:=I1.list hq;refine wpAny_pyIter_list p.isList ?_;refine⟨s1.heap.objs.size,[s1.heap.objs.size],_,_,H1,rfl,I1.kept (t':=s1.toks) λb o e=>Ld _ e,zu a _,⟨_,Lv _ rfl,rfl,rfl⟩,λb hb=>?_,q⟩;have e:b=s1.heap.objs.size:=by simpa using hb
  subst e;exact I1.w6 (Lh _) (I1.hok.fresh (Lh _))
 ·obtain⟨its,rv,p,hz⟩:=I1.tuple hq;refine wpAny_pyIter_tuple (show s1.heap.IsTuple a its.toArray from p) ?_;refine⟨s1.heap.objs.size,[s1.heap.objs.size],_,_,H1,rfl,I1.kept (t':=s1.toks) λb o e=>Ld _ e,xA a _,⟨_,Lv _ rfl,rfl,rfl⟩,λb hb=>?_,q⟩;have e:b=s1.heap.objs.size:=by simpa using hb
  subst e;exact I1.w6 (Lh _) (I1.hok.fresh (Lh _))
theorem xi {K:Le} {F:Hp} (z:Str):ak K F (iM z) (z.cps.toList.map λc=>V.str ⟨#[c]⟩):=by
 unfold iM
 induction z.cps.toList with
 | nil=>exact aH
 | cons c r ih=>exact aD kA ih
def mI (te:TD) (g:o9) (tb:bI):bI:=λD env=>te env λx=>∃xs,fw x=some xs/\turns g tb D xs env
theorem drop_cons {α:Type} {xs:List α} {i:Nat} {x:α} (h:xs[i]?=some x):xs.drop i=x :: xs.drop (i + 1):=by
 obtain⟨hl,e⟩:=La.mp h;rw [List.drop_eq_getElem_cons hl,e]
theorem RS.same {B:Base} {G:Hp} {D:Ends3} (s:ao B.F G):(∀σ H,(RS X ⟨G,B.H,B.N,B.nb⟩ D).nx σ H->(RS X B D).nx σ H)/\(∀v H,(RS X ⟨G,B.H,B.N,B.nb⟩ D).rt v H->(RS X B D).rt v H) /\
  (∀σ H,(RS X ⟨G,B.H,B.N,B.nb⟩ D).bk σ H->(RS X B D).bk σ H)/\(∀σ H,(RS X ⟨G,B.H,B.N,B.nb⟩ D).ct σ H->(RS X B D).ct σ H) :=
 ⟨λ_ _ ⟨F',env',r,q⟩=>⟨F',env',r.back s,q⟩,λ_ _ ⟨F',d,r,hd,q⟩=>⟨F',d,r.back s,hd,q⟩,λ_ _ ⟨F',env',r,q⟩=>⟨F',env',r.back s,q⟩,λ_ _ ⟨F',env',r,q⟩=>⟨F',env',r.back s,q⟩⟩
theorem n9 {tg iter:Expr} {body:List Stmt} {g:o9} (hp:PassesOwn (model X.prog X.w) X.A X.env X.xe) (hc:X.calm=true) (hi:QE X iter ta) (hg:QG X tg g) (hb:o7 X body t)
  (hs:∀x,LX iter X.env x=pure x:=by intro _;rfl):QS X (.For tg iter body [] pos) (mI ta g t):=by
 refine⟨?_⟩;intro B σ F H env D rp h;refine ei (nQ hp hc (AZ bO) vO fi hs) ?_;refine aC (hi B σ F H env _ rp h) λv H1 hq0=>?_;obtain⟨F1,d,r1,s1,d1,xs,hx,q1⟩:=hq0
 have core:∀(a:Addr) (vs:List V) (J:It),ak X.K F1 xs vs->(∀(i:Nat) (x:V) (G H':Hp),ao F1 G->ao G H'->vs[i]?=some x->J.go i H')->(∀(i:Nat) (x:V) (G H':Hp) (y:V) (H'':Hp),ao F1 G->ao G H'->vs[i]?=some x->J.yld i H' y H''->H''=H'/\y=x) ->
   (∀(G H':Hp),ao F1 G->ao G H'->J.stop vs.length H') ->
   ∃W:Nat->Nat->St->Hp->Prop,(∃m,W 0 m σ H1)/\∀i m σ H,W i m σ H->(J.stop i H/\(RS X B D).nx σ H)\/(J.go i H/\∃N:St->Hp->Prop,(∀σ' H',N σ' H'->∃m',m' < m/\W (i + 1) m' σ' H') /\
    ∀x H',J.yld i H x H'->wG X tg x σ H' λσ2 H2=>wSs X body { RS X B D with nx:=N,ct:=N,bk:=(RS X B D).nx } σ2 H2):=by
  intro a vs J dl go yld stop;have hlen:=dl.length;refine⟨λi m σ H=>m=vs.length - i/\i<=vs.length/\∃F env,Rep X.K ⟨F1,B.H,B.N,B.nb⟩ F H σ env/\turns g t D (xs.drop i) env,⟨vs.length,by simp,LZ _,F1,env,r1.now,by simpa using q1⟩,?_⟩
  rintro i m σ2 H2 ⟨rfl,hi2,F2,env2,r2,q2⟩
  by_cases hlt:i < vs.length
  ·have hv:vs[i]?=some vs[i]:=by simp [hlt]
   obtain⟨dx,hdx,ddx⟩:=dl.HG hv;rw [drop_cons hdx] at q2;refine .inr ⟨go i _ F2 H2 r2.f0 r2.fh hv,λσ' H'=>∃F env,Rep X.K ⟨F1,B.H,B.N,B.nb⟩ F H' σ' env/\turns g t D (xs.drop (i + 1)) env,λσ' H' ⟨F',env',r',q'⟩=>⟨vs.length - (i + 1),by omega,rfl,by omega,F',env',r',q'⟩,λy H' hy=>?_⟩;obtain⟨rfl,rfl⟩:=yld i _ F2 H2 y H' r2.f0 r2.fh hv hy;have st:=hg ⟨F1,B.H,B.N,B.nb⟩ σ2 F2 _ env2 _ dx _ r2 (Den.mono r2.f0 _ _ ddx) q2
   refine gS st λσ3 H3 hq0=>?_;obtain⟨F3,env3,r3,s3,q3⟩:=hq0;have bd:=hb ⟨F1,B.H,B.N,B.nb⟩ σ3 F3 H3 env3 _ r3 q3;obtain⟨z1,z2,z3,z4⟩:=RS.same (X:=X) (B:=B) (D:=D) (r1.f0);exact jJ bd (λ_ _ q=>q) z2 z1 (λ_ _ q=>q)
  ·have e:i=vs.length:=by omega
   subst e;rw [L9 (by omega)] at q2;exact .inl ⟨stop F2 H2 r2.f0 r2.fh,F2,env2,r2.back r1.f0,q2⟩
 cases d with
 | lst ys =>
  simp only [fw] at hx;cases hx;simp only [Den] at d1;obtain⟨a,vs,rfl,q,r⟩:=d1;refine .inl ⟨a,rfl,.inl ⟨⟨vs,r1.fh.seq q⟩,core a vs (Ju X.K a) r (λi x G H' s1 s2 hv=>⟨vs,x,s2.seq (s1.seq q),hv⟩) (λi x G H' y H'' s1 s2 hv hy=>?_) (λG H' s1 s2=>⟨vs,s2.seq (s1.seq q),Lh _⟩)⟩⟩;obtain⟨e1,e2⟩:=hy;have:=e2 vs (s2.seq (s1.seq q));rw [hv] at this
  exact⟨e1,(Li this).symm⟩
 | tup ys =>
  simp only [fw] at hx;cases hx;simp only [Den] at d1;obtain⟨a,vs,rfl,q,r⟩:=d1;refine .inl ⟨a,rfl,.inr ⟨⟨vs,ao.bF r1.fh q⟩,core a vs (JD X.K a) r (λi x G H' s1 s2 hv=>⟨vs,x,ao.bF s2 (ao.bF s1 q),hv⟩) (λi x G H' y H'' s1 s2 hv hy=>?_) (λG H' s1 s2=>⟨vs,ao.bF s2 (ao.bF s1 q),Lh _⟩)⟩⟩;obtain⟨e1,e2⟩:=hy;have:=e2 vs (ao.bF s2 (ao.bF s1 q));rw [hv] at this
  exact⟨e1,(Li this).symm⟩
 | str z =>
  simp only [fw] at hx;cases hx;simp only [Den] at d1;subst d1;refine .inr ⟨z,rfl,core 0 (z.cps.toList.map λc=>V.str ⟨#[c]⟩) (Ie z) (xi z) (λi x G H' s1 s2 hv=>?_) (λi x G H' y H'' s1 s2 hv hy=>?_) (λG H' s1 s2=>?_)⟩
  ·have:=(La.mp hv).1;show i < z.cps.size
   simpa using this
  ·obtain⟨e1,c,hc,rfl⟩:=hy;rw [Lj,Ma,hc] at hv;exact⟨e1,Li hv⟩
  ·show z.cps.size<=_
   simp
 | _=>simp only [fw] at hx;cases hx
def aW (lo:Int) (n:Nat):List D:=(List.range n).map λ(i:Nat)=>D.int (lo + (i:Int))
def gq (f:List D->(Int->Nat->Prop)->Prop) (ts:fY) (g:o9) (tb:bI):bI:=λD env=>ts env λxs=>f xs λlo n=>turns g tb D (aW lo n) env
def hU (xs:List D) (Q:Int->Nat->Prop):Prop:=match xs with
 | [.int j]=>(-(2 ^ 62)<=j/\j < 2 ^ 62)/\Q 0 j.toNat
 | _=>False
def Du (xs:List D) (Q:Int->Nat->Prop):Prop:=match xs with
 | [.int i,.int j]=>(-(2 ^ 62)<=i/\i < 2 ^ 62/\-(2 ^ 62)<=j/\j < 2 ^ 62)/\Q i (j - i).toNat
 | _=>False
theorem u7 {tg:Expr} {body:List Stmt} {g:o9} (hg:QG X tg g) (hb:o7 X body t) {B:Base} {D:Ends3} {lo:Int} {n:Nat} {σ:St} {F1 H1:Hp} {env:En} (r1:Rep X.K B F1 H1 σ env) (q1:turns g t D (aW lo n) env) :
  ∃W:Nat->Nat->St->Hp->Prop,(∃m,W 0 m σ H1)/\∀i m σ H,W i m σ H->((EX lo n).stop i H/\(RS X B D).nx σ H)\/((EX lo n).go i H/\∃N:St->Hp->Prop,(∀σ' H',N σ' H'->∃m',m' < m/\W (i + 1) m' σ' H') /\
    ∀x H',(EX lo n).yld i H x H'->wG X tg x σ H' λσ2 H2=>wSs X body { RS X B D with nx:=N,ct:=N,bk:=(RS X B D).nx } σ2 H2):=by
 have hl:(aW lo n).length=n:=by simp [aW]
 refine⟨λi m σ H=>m=n - i/\i<=n/\∃F env,Rep X.K B F H σ env/\turns g t D ((aW lo n).drop i) env,⟨n,by simp,LZ _,F1,env,r1,by simpa using q1⟩,?_⟩
 rintro i m σ2 H2 ⟨rfl,hi2,F2,env2,r2,q2⟩
 by_cases hlt:i < n
 ·have hdx:(aW lo n)[i]?=some (L3.D.int (lo + (i:Int))):=by simp [aW,hlt]
  rw [drop_cons hdx] at q2;refine .inr ⟨hlt,λσ' H'=>∃F env,Rep X.K B F H' σ' env/\turns g t D ((aW lo n).drop (i + 1)) env,λσ' H' ⟨F',env',r',q'⟩=>⟨n - (i + 1),by omega,rfl,by omega,F',env',r',q'⟩,λy H' hy=>?_⟩;obtain⟨rfl,rfl⟩:=hy;refine gS (hg B σ2 F2 _ env2 _ _ _ r2 bz q2) λσ3 H3 hq0=>?_;obtain⟨F3,env3,r3,s3,q3⟩:=hq0;exact jJ (hb B σ3 F3 H3 env3 _ r3 q3) (λ_ _ q=>q) (λ_ _ q=>q) (λ_ _ q=>q) (λ_ _ q=>q)
 ·have e:i=n:=by omega
  subst e;rw [L9 (by omega)] at q2;exact .inl ⟨Lh _,F2,env2,r2,q2⟩
theorem gO {tg:Expr} {body:List Stmt} {g:o9} {p:Pos} {pos2:Pos} (hp:PassesOwn (model X.prog X.w) X.A X.env X.xe) (hc:X.calm=true) (hgl:Gl X "range") (hm:X.mg "range" = none) (ha:QA X [a] ts) (hg:QG X tg g) (hb:o7 X body t)
  (hst:starEach [a] X.env=[(false,eval a X.env)]:=by rfl) (hs:∀x,LX (.Call (.Name "range" p) [a] [] pos2) X.env x=pure x:=by intro _;rfl):QS X (.For tg (.Call (.Name "range" p) [a] [] pos2) body [] pos) (gq hU ts g t):=by
 refine⟨?_⟩;intro B σ F H env D rp h;refine ei (nQ hp hc (j3 hgl hm jh hst) vO fi hs) ?_;refine cO (ha B σ F H env _ rp h) λvs H1 hq0=>?_;obtain⟨F1,ds,r1,s1,d1,q1⟩:=hq0
 (try dsimp only at q1);unfold hU at q1
 split at q1
 ·simp only [ak,Den] at d1;obtain⟨v,r,rfl,rfl,rfl⟩:=d1;exact⟨_,rfl,q1.1.1,q1.1.2,u7 hg hb r1 q1.2⟩
 ·exact q1.elim
theorem Ct {tg:Expr} {body:List Stmt} {g:o9} {p:Pos} {pos2:Pos} (hp:PassesOwn (model X.prog X.w) X.A X.env X.xe) (hc:X.calm=true) (hgl:Gl X "range") (hm:X.mg "range" = none) (ha:QA X [a,b] ts) (hg:QG X tg g) (hb:o7 X body t)
  (hst:starEach [a,b] X.env=[(false,eval a X.env),(false,eval b X.env)]:=by rfl) (hst2:starEach [b] X.env=[(false,eval b X.env)]:=by rfl) (hs:∀x,LX (.Call (.Name "range" p) [a,b] [] pos2) X.env x=pure x:=by intro _;rfl) :
  QS X (.For tg (.Call (.Name "range" p) [a,b] [] pos2) body [] pos) (gq Du ts g t):=by
 refine⟨?_⟩;intro B σ F H env D rp h;refine ei (nQ hp hc (zX hgl hm jh hst hst2) vO fi hs) ?_;refine cO (ha B σ F H env _ rp h) λvs H1 hq0=>?_;obtain⟨F1,ds,r1,s1,d1,q1⟩:=hq0
 (try dsimp only at q1);unfold Du at q1
 split at q1
 ·simp only [ak,Den] at d1;obtain⟨v,r,rfl,rfl,v',r',rfl,rfl,rfl⟩:=d1;exact⟨_,_,rfl,q1.1,u7 hg hb r1 q1.2⟩
 ·exact q1.elim
def RF (X:Cx) (B:Base) (σ:St) (env:En) (F:Hp) (Q:List D->Prop):VK:=λv H'=>∃F' H1 p vs ds,v=.ref p/\H1 p=none/\H'=upd H1 p (.lst vs)/\Rep X.K B F' H1 σ env/\ao F F'/\ak X.K F' ds vs/\Q ds
structure QF (X:Cx) (e:Expr) (t:fY):Prop where
 of ::
 run:∀(B:Base) (σ:St) (F H:Hp) (env:En) (Q:List D->Prop),Rep X.K B F H σ env->t env Q->wE X e σ H (RF X B σ env F Q)
instance {X:Cx} {e:Expr} {t:fY}:CoeFun (QF X e t) (λ_=>∀(B:Base) (σ:St) (F H:Hp) (env:En) (Q:List D->Prop),Rep X.K B F H σ env->t env Q->wE X e σ H (RF X B σ env F Q)):=⟨QF.run⟩
def mE (ts:fY):fY:=λenv Q=>ts env λxs=>xs.length<=sizeLine/\Q xs
theorem lJ (h:QA X es ts):QF X (.List es pos) (mE ts):=by
 refine⟨?_⟩;intro B σ F H env Q rp hq;refine dA (xU jh) ?_;exact cO (h B σ F H env _ rp hq) λvs H1 ⟨F1,ds,r1,s1,d1,z,q1⟩=>⟨by rw [<- d1.length];exact z,λp hp=>⟨F1,H1,p,vs,ds,rfl,hp,rfl,r1,s1,d1,q1⟩⟩
def cw (i:Nat) (ts:fY):bI:=λD env=>ts env λxs=>D.nx (env.set i (some (.own xs)))
theorem dN {x:Str} {pos':Pos} (i:Nat) (hN:X.N.Nodup) (he:QF X e ts) (hi:X.N[i]?=some x:=by rfl) (hx:Loc X.env.scope x:=by first|exact Or.inl rfl|exact Or.inr rfl) (hs:swapsWith e (some (.Name x pos')) pos.line X.env=pure false:=by rfl)
  (hf:X.fn x=true\/X.env.scope.names.lookup x=some .local:=by first|exact .inl rfl|exact .inr rfl):QS X (.Assign [.Name x pos'] e pos) (cw i ts):=by
 refine⟨?_⟩;intro B σ F H env D rp h pins s I;refine ju (i:=i) hN hi hx bO hs hf pins s σ H _ I ?_;refine aC (he B σ F H env _ rp h) λv H' hq0=>?_;obtain⟨F1,H1,p,vs,ds,e1,hp,e2,r1,s1,d1,q1⟩:=hq0;subst e1 e2;refine⟨F1,_,r1.Au hp d1 ?_,q1⟩;rw [I.len];exact (La.mp hi).1
def dS (i:Nat) (te:TD):bI:=λD env=>∃xs,env[i]?=some (some (.own xs))/\xs.length < sizeLine/\te env λx=>D.nx (env.set i (some (.own (xs ++ [x]))))
theorem gA {x:Str} {px apos cpos:Pos} (i:Nat) (he:QE X e ta) (hN:X.N[i]?=some x:=by rfl) (hv:ua X.env.scope x:=by first | exact Or.inl rfl | exact Or.inr (Or.inl rfl) | exact Or.inr (Or.inr rfl)) (hd:(x == ("__debug__" : Str))=false:=by decide) (hcd:(x == ("__classdict__" : Str))=false:=by decide)
  (hbase:attributeBase (.Name x px) "append" X.env (eval (.Name x px) X.env)=eval (.Name x px) X.env:=by rfl)
  (hfew:((backTo cpos (starEach [e] X.env)).all (λx=>!x.1) && (backToKw cpos (keywordEach [] X.env)).all (λx=>x.1.isSome)
   && decide (([e]:List Expr).length + ([]:List Keyword).length + (if ([]:List Keyword).isEmpty then 0 else 1) < 30))=true:=by rfl)
  (hline:(apos.endLine == cpos.line)=true:=by rfl) (hst:starEach [e] X.env=(false,eval e X.env) :: starEach [] X.env:=by exact aZ rfl) (hplain:(backTo cpos (starEach ([]:List Expr) X.env)).any (·.1)=false:=by rfl)
  (hs:swapsWith (.Call (.Attribute (.Name x px) "append" apos) [e] [] cpos) none pos.line X.env=pure false:=by rfl) :
  QS X (.Expr (.Call (.Attribute (.Name x px) "append" apos) [e] [] cpos) pos) (dS i ta):=by
 refine⟨?_⟩;intro B σ F H env D rp h;refine ei (uo (yX PySem.F.plainAttrs_list PySem.F.slot_list_append PySem.F.type_list_append rS (dU hN hv hd hcd) (eG bO gJ hst) hbase hfew hline hst hplain) hs) ?_;obtain⟨xs,hx,hl,h⟩:=h;obtain⟨p,vs,h1,h2,h3,h4,h5⟩:=rp.ov i xs hx;refine⟨.ref p,h1,.inl ⟨rfl,vs,fZ.of h2⟩,?_⟩;refine aC (he B σ F H env _ rp h) λy H1 hq0=>?_;obtain⟨F1,d,r1,s1,d1,q1⟩:=hq0;obtain⟨p',vs',g1,g2,g3,g4,g5⟩:=r1.ov i xs hx
 rw [h1] at g1;cases g1;exact⟨p,vs',y,rfl,rfl,g2,by rw [<- g5.length];exact hl,F1,_,r1.change hx h1 (g5.append (aD d1 aH)),q1⟩
end
abbrev Fw:=List D->(D->Prop)->Prop
def Hv (K:Le) (f:Fw):Sp:=λvs H Q _=>∃(F:Hp) (ds:List D) (P:D->Prop),ao F H/\ak K F ds vs/\f ds P /\
 ∀(d:D) (v:V) (F' H':Hp),ao F F'->ao H H'->ao F' H'->(∀p,H p≠none->F p=none->F' p=none)->Den K F' d v->P d->Q v H'
structure Known (P:Program) (w:World) (K:Le) (mg:Str->Option Value) (base:Heap) (k:Nat) (x:Str) (f:Fw):Prop where
 ex:∃(fa:Addr) (fd:FuncData) (ps:List Str),pU P w K mg base Al k fa fd ps (Hv K f)/\mg x=some (.ref fa)/\PySem.W.keepIn K (.ref fa)=true/\Binds K fd ps []
def aF (N:List Str) (ds:List D):En:=ds.map (λd=>some (Lo.d d)) ++ List.replicate (N.length - ds.length) none
section
variable {X:Cx} {e:Expr} {es:List Expr} {ts:fY} {p pos:Pos} {x:Str} {k:Nat} {f:Fw}
theorem aO (h:Known X.prog X.w X.K X.mg X.base k x f) (hr:dG k X.A) (ha:QA X (e :: es) ts) (hg:Gl X x:=by rfl) (hdb:(x == ("__debug__" : Str))=false:=by decide)
  (he:starEach (e :: es) X.env=(false,eval e X.env) :: starEach es X.env:=by exact aZ rfl) (hpl:(backTo pos (starEach es X.env)).any (·.1)=false:=by rfl):QE X (.Call (.Name x p) (e :: es) [] pos) (aA f ts):=by
 refine⟨?_⟩;intro B σ F H env Q rp hq;obtain⟨fa,fd,ps,G,hm,hk,hb⟩:=h.ex;refine dA (Dw G hr hg hm hk hb .nil Iw jh hdb he hpl) ?_;refine cO (ha B σ F H env _ rp hq) λvs H1 hq0=>?_;obtain⟨F1,ds,r1,s1,d1,hf⟩:=hq0;rw [L4];exact⟨F1,ds,Q,r1.fh,d1,hf,λd v F' H' a b c n hd q=>⟨F',d,r1.ext a c b n,s1.trans a,hd,q⟩⟩
end
theorem iS {K:Le} {F H:Hp} {N:List Str} {ds:List D} {vs:List V} (fh:ao F H) (hd:ak K F ds vs) :
  Rep K ⟨F,H,λp=>H p≠none/\F p=none,λ_ h=>h.1⟩ F H (start N vs) (aF N ds):=by
 have noown:∀(i:Nat) ys,(aF N ds)[i]?=some (some (.own ys))->False:=λi ys q=>by
  unfold aF at q
  by_cases hi:i < ds.length
  ·rw [Lx (by simpa using hi),Lj] at q;rw [Lc hi] at q;cases q
  ·rw [Ls (by simpa using hi),LU] at q
   split at q <;> cases q
 have nodic:∀(i:Nat) ys,(aF N ds)[i]?=some (some (.dic ys))->False:=λi ys q=>by
  unfold aF at q
  by_cases hi:i < ds.length
  ·rw [Lx (by simpa using hi),Lj] at q;rw [Lc hi] at q;cases q
  ·rw [Ls (by simpa using hi),LU] at q
   split at q <;> cases q
 refine⟨ao.refl _,fh,ao.refl _,λp h=>h.2,λi x q=>?_,λi ys q=>(noown i ys q).elim,λi j xs ys p _ q=>(noown i xs q).elim,λi ys q=>(nodic i ys q).elim,λi j xs ys p _ q=>(nodic i xs q).elim⟩;unfold aF at q
 by_cases hi:i < ds.length
 ·rw [Lx (by simpa using hi),Lj] at q;rw [Lc hi] at q;cases q;obtain⟨v,h1,h2⟩:=hd.get (Lc hi);refine⟨v,?_,h2⟩;unfold start;rw [Lx (by rw [Ll,<- hd.length];exact hi),Lj,h1];rfl
 ·rw [Ls (by simpa using hi),LU] at q
  split at q <;> cases q
section
variable {P:Program} {w:World} {K:Le} {mg:Str->Option Value} {base:Heap}
theorem uH.Ja {x qual:Str} {st:Stmt} {fa:Addr} {fd:FuncData} {N ps:List Str} {k:Nat} {f:Fw} (F:uH K x qual st fa fd) (S:aM N ps (aq st))
  (hl:∀ds Q,f ds Q->ds.length=ps.length)
  (hbody:∀(cdv:Value) (A:Around) (outer:List Env) (s:Shared) (H:Hp) (E:XK),dG k (A.deeper (envOfC qual (aq st) s.heap.objs.size fa cdv)) ->
   ∃t,o7 (kI Al P w K mg base N qual (aq st) fa cdv A outer s H E).sL (cp st) t/\∀ds (Q:D->Prop),f ds Q->t { nx:=λ_=>Q .non,rt:=Q } (aF N ds)) :
  pU P w K mg base Al (k + 1) fa fd ps (Hv K f):=by
 refine F.ok S (λvs H Q E h=>?_) (λcdv A outer s H vs Q E hr h=>?_)
 ·obtain⟨F0,ds,P,_,hd,hf,_⟩:=h;rw [<- hd.length];exact hl ds _ hf
 ·obtain⟨F0,ds,P,fh,hd,hf,kk⟩:=h;obtain⟨t,ht,hq⟩:=hbody cdv A outer s H E hr;refine⟨_,fi,?_⟩;have core:=ht _ (start N vs) F0 H (aF N ds) _ (iS fh hd) (hq ds P hf);refine jJ core (λσ' H' ⟨F',env',r,q⟩=>?_) (λv H' ⟨F',d',r,dd,q⟩=>?_) (λ_ _ ⟨_,_,_,q⟩=>q) (λ_ _ ⟨_,_,_,q⟩=>q)
  ·exact kk .non .non F' H' r.f0 r.h0 r.fh (λp h1 h2=>r.nf p ⟨h1,h2⟩) mX q
  ·exact kk d' v F' H' r.f0 r.h0 r.fh (λp h1 h2=>r.nf p ⟨h1,h2⟩) dd q
theorem uH.known {x qual:Str} {st:Stmt} {fa:Addr} {fd:FuncData} {N ps:List Str} {k:Nat} {f:Fw} (F:uH K x qual st fa fd) (S:aM N ps (aq st)) (hmg:mg x=some (.ref fa)) (hb:Binds K fd ps [])
  (hl:∀ds Q,f ds Q->ds.length=ps.length)
  (hbody:∀(cdv:Value) (A:Around) (outer:List Env) (s:Shared) (H:Hp) (E:XK),dG k (A.deeper (envOfC qual (aq st) s.heap.objs.size fa cdv)) ->
   ∃t,o7 (kI Al P w K mg base N qual (aq st) fa cdv A outer s H E).sL (cp st) t/\∀ds (Q:D->Prop),f ds Q->t { nx:=λ_=>Q .non,rt:=Q } (aF N ds)) :
  Known P w K mg base (k + 1) x f:=⟨fa,fd,ps,uH.Ja F S hl hbody,hmg,F.kp,hb⟩
def Aj (n:Nat):Fw:=λds Q=>∃ns:List Int,ds=[.lst (ns.map D.int)]/\ns.length<=n/\Q (.bl true)
theorem GQ {K:Le} {H:Hp} {a:Addr} {ns:List Int} {n:Nat} (hl:ns.length<=n) (hS:fZ K H a (ns.map V.int)):Hv K (Aj n) [.ref a] H (λv _=>v=.bl true) λ_ _ _=>False:=by
 refine⟨H,[.lst (ns.map D.int)],λd=>d=.bl true,ao.refl _,aD (gw hS (rT ns)) aH,⟨ns,rfl,hl,rfl⟩,λd v F' H' _ _ _ _ hd q=>?_⟩;subst q
 simpa only [Den] using hd
end
section
variable {X:Cx} {a b c e:Expr} {es:List Expr} {ta tb tc:TD} {ts:fY} {pos:Pos} {st:Stmt} {sts:List Stmt} {t u:bI}
def dq (i:Nat) (t:bI):bI:=λD env=>∃xs,env[i]?=some (some (.own xs))/\t D (env.set i (some (.d (.lst xs))))
theorem fI (i:Nat) (h:QS X st t):QS X st (dq i t):=by
 refine⟨?_⟩;intro B σ F H env D rp hq;obtain⟨xs,hx,q⟩:=hq;obtain⟨F',s',r'⟩:=rp.freeze hx;exact h B σ F' H _ D r' q
def cZ (i:Nat) (tj:TD):TD:=λenv Q=>∃xs,env[i]?=some (some (.own xs))/\tj env λy=>∃j v,y=.int j/\j6 xs j=some v/\Q v
theorem eB {x:Str} {px:Pos} (i:Nat) (hb:QE X b tb) (hs:m4 b) (hN:X.N[i]?=some x:=by rfl) (hv:ua X.env.scope x:=by first | exact Or.inl rfl | exact Or.inr (Or.inl rfl) | exact Or.inr (Or.inr rfl)) (hd:(x == ("__debug__" : Str))=false:=by decide)
  (hcd:(x == ("__classdict__" : Str))=false:=by decide):QE X (.Subscript (.Name x px) b pos) (cZ i tb):=by
 refine⟨?_⟩;intro B σ F H env Q rp h;refine dA (y4 yJ (dU hN hv hd hcd) bO hs) ?_;obtain⟨xs,hx,h⟩:=h;obtain⟨p,vs,h1,h2,h3,h4,h5⟩:=rp.ov i xs hx;refine⟨.ref p,h1,?_⟩;refine aC (hb B σ F H env _ rp h) λy H1 hq0=>?_;obtain⟨F1,d,r1,s1,d1,j,v,hj,hv,q1⟩:=hq0;subst hj;simp only [Den] at d1;obtain⟨p',vs',g1,g2,g3,g4,g5⟩:=r1.ov i xs hx;rw [h1] at g1;cases g1;obtain⟨w,hw,dw⟩:=g5.j6 hv;exact⟨p,vs',j,w,rfl,d1,fZ.of g2,hw,F1,v,r1,s1,dw,q1⟩
def rq (i:Nat) (tj te:TD):bI:=λD env=>te env λx=>∃xs,env[i]?=some (some (.own xs))/\tj env λy=>∃(j:Int) (k:Nat),y=.int j/\rZ xs.length j=some k/\D.nx (env.set i (some (.own (xs.set k x))))
theorem x9 {x:Str} {px p2:Pos} (i:Nat) (hb:QE X b tb) (he:QE X e ta) (hN:X.N[i]?=some x:=by rfl) (hv:ua X.env.scope x:=by first | exact Or.inl rfl | exact Or.inr (Or.inl rfl) | exact Or.inr (Or.inr rfl)) (hd:(x == ("__debug__" : Str))=false:=by decide)
  (hcd:(x == ("__classdict__" : Str))=false:=by decide) (hs:swapsWithSole [.Subscript (.Name x px) b p2] e pos.line X.env=pure false:=by rfl) (hw:swappedStores [.Subscript (.Name x px) b p2] e X.env=pure none:=by rfl)
  (h1:(assignEach [.Subscript (.Name x px) b p2] X.env).map (·.2)=[assign (.Subscript (.Name x px) b p2) X.env]:=by rfl)
  (ha:∀v,assign (.Subscript (.Name x px) b p2) X.env v=(do
   let ov <- holding [v] (eval (.Name x px) X.env)
   let iv <- holding [v,ov] (eval b X.env)
   standAt p2
   holding [v,ov,iv] (setItem ov iv v)
   release [v,ov,iv] []):=by intro _;rfl):QS X (.Assign [.Subscript (.Name x px) b p2] e pos) (rq i tb ta):=by
 refine⟨?_⟩;intro B σ F H env D rp h;refine ei (xa bO (BJ (dU hN hv hd hcd) bO set_list ha) hs hw h1) ?_;refine aC (he B σ F H env _ rp h) λy H1 hq0=>?_;obtain⟨F1,d,r1,s1,d1,xs,hx,q1⟩:=hq0;obtain⟨p,vs,g1,g2,g3,g4,g5⟩:=r1.ov i xs hx;refine⟨.ref p,g1,?_⟩;refine aC (hb B σ F1 H1 env _ r1 q1) λz H2 hq0=>?_;obtain⟨F2,d2,r2,s2,dd2,j,k,hj,hk,q2⟩:=hq0;subst hj;simp only [Den] at dd2;obtain⟨p',vs',e1,e2,e3,e4,e5⟩:=r2.ov i xs hx
 rw [g1] at e1;cases e1;exact⟨p,vs',j,k,rfl,dd2,e2,by rw [<- e5.length];exact hk,F2,_,r2.change hx g1 (e5.set (Den.mono s2 _ _ d1) k),q2⟩
end
def gH (names:List (Str×NameKind)) (cells:List (Str×Addr)) (acc:List (Str×Addr)):List (Str×Addr):=match names with
 | []=>acc
 | (n,k) :: r=>if k=.free then (match cells.lookup n with|some c=>gH r cells ((n,c) :: acc)|none=>gH r cells acc) else gH r cells acc
theorem gh {env:Env}:∀(names:List (Str×NameKind)) (acc:List (Str×Addr)),(∀y∈names,y.2=.free->∃c,env.cells.lookup y.1=some c) ->
  (forIn names acc λ(x:Str×NameKind) r=>if (x.2 == NameKind.free)=true then (do let a <- cellOf env x.1;pure (ForInStep.yield ((x.1,a) :: r))) else pure (ForInStep.yield r):Sem (List (Str×Addr)))=pure (gH names env.cells acc)
 | [],acc,_=>rfl
 | (n,k) :: r,acc,h=>by
  rw [List.forIn_cons]
  by_cases hk:k=.free
  ·subst hk;obtain⟨c,hc⟩:=h (n,.free) Lz rfl;have hc':env.cells.lookup n=some c:=hc;have ih:=gh r ((n,c) :: acc) λy hy=>h y (Ln _ hy);simp only [beq_self_eq_true,if_true,cellOf,hc',gH];exact ih
  ·have ih:=gh r acc λy hy=>h y (Ln _ hy);have hb:(k == NameKind.free)=false:=by simpa using hk
   simp only [hb,Lk,if_false,gH,if_neg hk];exact ih
theorem rh {scope:Scope} {env:Env} (h:∀y∈scope.names,y.2=.free->∃c,env.cells.lookup y.1=some c):closureFor scope env=pure (gH scope.names env.cells []):=by
 have e:=gh (env:=env) scope.names [] h;have e2:closureFor scope env=((forIn scope.names ([]:List (Str×Addr)) λ(x:Str×NameKind) r=>if (x.2 == NameKind.free)=true then (do let a <- cellOf env x.1;pure (ForInStep.yield ((x.1,a) :: r))) else pure (ForInStep.yield r)) >>= λcs=>pure cs):=rfl
 rw [e2,e];rfl
theorem iG {cells:List (Str×Addr)}:∀(names:List (Str×NameKind)) (acc:List (Str×Addr)),(∀x c,acc.lookup x=some c->cells.lookup x=some c)->∀x c,(gH names cells acc).lookup x=some c->cells.lookup x=some c
 | [],acc,h,x,c,q=>h x c q
 | (n,k) :: r,acc,h,x,c,q=>by
  unfold gH at q
  split at q
  ·split at q
   ·rename_i c' e;refine iG r _ (λy d w=>?_) x c q;rw [List.lookup_cons] at w
    split at w
    ·rename_i z;have:y=n:=by simpa using z
     subst this;cases w;exact e
    ·exact h y d w
   ·exact iG r _ h x c q
  ·exact iG r _ h x c q
theorem lX {cells:List (Str×Addr)}:∀(names:List (Str×NameKind)) (acc:List (Str×Addr)) (x:Str),(acc.lookup x).isSome=true->((gH names cells acc).lookup x).isSome=true
 | [],acc,x,q=>q
 | (n,k) :: r,acc,x,q=>by
  unfold gH
  split
  ·split
   ·refine lX r _ x ?_;rw [List.lookup_cons]
    split
    ·rfl
    ·exact q
   ·exact lX r _ x q
  ·exact lX r _ x q
theorem lV {cells:List (Str×Addr)}:∀(names:List (Str×NameKind)) (acc:List (Str×Addr)) (x:Str),(x,NameKind.free)∈names->(cells.lookup x).isSome=true->((gH names cells acc).lookup x).isSome=true
 | [],acc,x,h,_=>by simp at h
 | (n,k) :: r,acc,x,h,q=>by
  rcases LB.mp h with e|h
  ·cases e;unfold gH;rw [if_pos rfl]
   split
   ·exact lX r _ _ (by rw [List.lookup_cons];simp)
   ·rename_i e;rw [e] at q;cases q
  ·unfold gH
   split
   ·split <;> exact lV r _ x h q
   ·exact lV r _ x h q
def aJ (X:Cx) (N':List Str) (scope:Scope) (C:Addr) (s:Shared) (H:Hp) (fp:List Addr) (pins:List (Addr×Obj)):Cx :=
 { X with N:=N',s₀:=s,H₀:=H,env:=compEnvC scope (gH scope.names X.env.cells []) C X.env,outer:=X.stack,stack:=X.stack,ex:=fp,fn:=λ_=>false,pn:=X.pn ++ pins,xe:=λ_ _=>False }
structure bK (X:Cx) (N':List Str) (nt:Nat) (ix:List Nat) (scope:Scope):Prop where
 kind:scope.kind=.function
 nocell:∀x∈scope.names,x.2≠.cell
 names:∀x∈scope.names,x.2=.local->scope.names.lookup x.1=some .local
 free:∀x∈scope.names,x.2=.free->X.env.scope.names.lookup x.1=some .cell
 caps:∀(j:Nat) (i:Nat),ix[j]?=some i->∃x,N'[nt + j]?=some x/\X.N[i]?=some x/\(x,NameKind.free)∈scope.names/\(relabel scope X.env).names.lookup x=some .cell
 len:N'.length=nt + ix.length
section
variable {prog:Program} {w:World} {A:Around} {R:Result->Shared->Prop} {s:Shared}
theorem sT {elt target iter:Expr} {ifs:List Expr} {scope:Scope} {pos:Pos} {it acc:Value} {env:Env} (I:Nat->Shared->Prop)
  (turn:∀n s,I n s->wpAny (model prog w) A (pyNext it) (λr s₁=>match r with
   | none=>R (.ok .next) s₁
   | some v=>wpAny (model prog w) A (letOwnedTupleGo target it v) (λ_ s₁'=>wpAny (model prog w) A (assign target env v) (λ_ s₂ =>
     wpAny (model prog w) A (forIn ifs true λc r=>if r=true then do let ok <- isTrue c env (eval c env);pure (ForInStep.yield ok) else pure (ForInStep.yield r)) (λok s₃ =>
      if ok=true then wpAny (model prog w) A (eval elt env) (λx s₄ =>
       wpAny (model prog w) A (call (.builtin "list.append") [acc,x]) (λ_ s₅=>∃m,m < n/\I m s₅) (λ_ _=>False) s₄) (λ_ _=>False) s₃
      else ∃m,m < n/\I m s₃) (λ_ _=>False) s₂) (λ_ _=>False) s₁') (λ_ _=>False) s₁) (λ_ _=>False) s)
  (n:Nat) (h:I n s) :
  codeAny (model prog w) A (.compLoop (.ListComp elt [⟨target,iter,ifs,0⟩] scope pos) 0 it acc env) R s:=by
 refine codeAny_loop rfl I (λn s hI=>?_) n h;show wpAny _ A ((compTurn (.ListComp elt [⟨target,iter,ifs,0⟩] scope pos) 0 it acc env).onRaise (λx=>do noteFrame x env;theTreesLotGoes x)) _ _ s
 refine wpAny_noted ?_;rw [compTurn_list];refine K9 (wpAny_standAt (K9 (LG (turn n s hI) (λr s₁ h₁=>?_) λ_ _ h'=>h'.elim)))
 cases r with
 | none=>exact Lf h₁
 | some v =>
  refine K9 (LG h₁ (λ_ s₁' h₁'=>?_) λ_ _ h'=>h'.elim);refine K9 (LG h₁' (λ_ s₂ h₂=>K9 (LG h₂ (λok s₃ h₃=>?_) λ_ _ h'=>h'.elim)) λ_ _ h'=>h'.elim)
  cases ok with
  | false=>exact Lf ⟨rfl,h₃⟩
  | true =>
   exact K9 (K9 (LG h₃ (λx s₄ h₄=>K9 (LG h₄ (λ_ s₅ h₅=>Lf (Lf ⟨rfl,h₅⟩)) λ_ _ h'=>h'.elim)) λ_ _ h'=>h'.elim))
end
def pH (nt:Nat) (ix:List Nat) (σ:St):St:=List.replicate nt none ++ ix.map λi=>(σ[i]?).join
theorem lookup_mem {α β:Type} [BEq α] [LawfulBEq α] {l:List (α×β)} {x:α} {y:β} (h:l.lookup x=some y):(x,y)∈l:=by
 induction l with
 | nil=>simp at h
 | cons p r ih =>
  obtain⟨a,b⟩:=p;rw [List.lookup_cons] at h
  split at h
  ·rename_i e;have:x=a:=by simpa using e
   subst this;cases h;exact Lz
  ·exact Ln _ (ih h)
section
variable {X:Cx} {pins:List (Addr×Obj)} {σ:St} {H:Hp} {s:Shared} {N':List Str} {nt:Nat} {ix:List Nat} {scope:Scope}
theorem oC {x:Str} {k:NameKind} (h:(x,k)∈(relabel scope X.env).names):(x,k)∈scope.names\/((x,NameKind.free)∈scope.names/\k=.cell):=by
 unfold relabel at h;obtain⟨⟨n,k'⟩,hm,e⟩:=LC.mp h;dsimp only at e
 split at e
 ·rename_i hc;cases e;simp only [Bool.and_eq_true,beq_iff_eq] at hc;exact .inr ⟨by rw [<- hc.1.1];exact hm,rfl⟩
 ·cases e;exact .inl hm
theorem pO (I:Inv X pins σ H s) (O:bK X N' nt ix scope) {fp:List Addr} (hf:∀b∈fp,lH X pins H b) (hlt:∀b∈fp,b < s.heap.objs.size) {h1:Heap} {tk:Nat}
  (hns:h1.Ns s.heap.objs.size (λ_=>none)) (hsb:∀b o,s.heap.get? b=some o->h1.get? b=some o) :
  Inv (aJ X N' scope s.heap.objs.size s H fp pins) [] (pH nt ix σ) H { s with heap:=h1,toks:=tk }:=by
 have cellsAt:∀x c,(gH scope.names X.env.cells []).lookup x=some c->X.env.cells.lookup x=some c:=λx c q=>iG scope.names [] (λy d w=>by simp at w) x c q;have clt:∀x c,X.env.cells.lookup x=some c->c < s.heap.objs.size:=λx c e=>let ⟨_,q⟩:=I.cell x c e;q.lt
 refine⟨⟨I.ok.mod,O.kind,I.ok.glob,I.ok.blt,Lh _,λx y c h1 h2=>I.ok.inj x y c (cellsAt _ _ h1) (cellsAt _ _ h2),λx hx=>?_,λx c h=>(by cases h),I.ok.hd,I.ok.frames,.inl rfl,λb hb=>⟨LJ (hlt b hb),λx c e=>(hf b hb).2.2.2.2.1 x c (cellsAt _ _ e)⟩,I.bs,
   L6 I.ok.bsz I.sz,λb o e hb=>?_,λb hb z=>?_,I.stack,⟨I.oZ,I.tb⟩⟩,
  rfl,I.bare,Un.kept hsb,⟨_,hns,λj x v e1 e2 e3=>?_⟩,λx c e=>?_,I.hok.fresh (Lh _),λx c e=>I.freeC x c (cellsAt _ _ e),λp hp=>?_,I.hok.kept hsb,?_⟩
 ·
  have hx':((relabel scope X.env).names.lookup x=some .cell\/(relabel scope X.env).names.lookup x=some .free):=hx
  have key:(x,NameKind.free)∈scope.names:=by
   rcases hx' with h|h
   ·rcases oC (lookup_mem h) with q|q
    ·exact absurd rfl (O.nocell _ q)
    ·exact q.1
   ·rcases oC (lookup_mem h) with q|q
    ·exact q
    ·exact q.1
  obtain⟨c,hc⟩:=I.ok.has x (.inl (O.free _ key rfl));exact Option.isSome_iff_exists.mp (lV scope.names [] x key (by rw [hc];rfl))
 ·rcases (hf b hb).2.2.2.1 with z|z
  ·exact I.ok.noex b o e z
  ·exact absurd (Lr (Lw (I.ok.bs b o e).1) z) (Nat.lt_irrefl _)
 ·rcases LB.mp (I.lC b z) with e|e
  ·exact (hf b hb).2.1 e
  ·exact (hf b hb).2.2.1 e
 ·
  unfold pH at e2
  by_cases hj:j < nt
  ·rw [Lx (by simpa using hj),LU] at e2
   split at e2 <;> cases e2
  ·rw [Ls (by simpa using hj),Lj,List.length_replicate] at e2
   cases hi:ix[j - nt]? with
   | none=>rw [hi] at e2;cases e2
   | some i =>
    rw [hi] at e2
    have hs:σ[i]?=some (some v):=by
     simp only [Option.map_some,Option.some.injEq] at e2
     cases q:σ[i]? with
     | none=>rw [q] at e2;cases e2
     | some o=>rw [q] at e2;simp only [Option.join] at e2;rw [show o=some v from e2]
    obtain⟨y,n1,n2,n3,n4⟩:=O.caps (j - nt) i hi;have hjj:nt + (j - nt)=j:=by omega
    rw [hjj] at n1;have e1':N'[j]?=some x:=e1;rw [n1] at e1';cases e1';obtain⟨m,hn,hl⟩:=I.loc;have hk:X.env.scope.names.lookup x=some .cell:=O.free _ n3 rfl;obtain⟨u,r,l⟩:=hl i x v n2 hs (.inr (.inl hk));refine⟨u,r,?_⟩;rcases l with ⟨k,_⟩|⟨_,c,ec,z⟩
    ·have k':X.env.scope.names.lookup x=some .local:=k;rw [hk] at k';cases k'
    ·have hc2:=Option.isSome_iff_exists.mp (lV (cells:=X.env.cells) scope.names [] x n3 (by rw [ec];rfl));obtain⟨c2,hc2⟩:=hc2;have:=cellsAt x c2 hc2;rw [ec] at this;cases this;exact .inr ⟨.inl n4,c,hc2,z.keeps hsb⟩
 ·obtain⟨v,z⟩:=I.cell x c (cellsAt _ _ e);exact⟨v,z.keeps hsb⟩
 ·rw [L4] at hp;obtain⟨e,n,ne,nf,d⟩:=I.pin p hp;refine⟨hsb _ _ e,n,LJ (Lw e),λz=>?_,d⟩;rcases LB.mp (I.lC p.1 z) with q|q
  ·exact ne q
  ·exact nf q
 ·unfold pH;show _=N'.length
  rw [O.len,LI,List.length_replicate,Ll]
theorem vg (I:Inv X pins σ H s) {fp:List Addr} (hf:∀b∈fp,lH X pins H b) {σ':St} {H':Hp} {s':Shared} (J:Inv (aJ X N' scope s.heap.objs.size s H fp pins) [] σ' H' s') {h':Heap} (hs:Heap.SameBut s.heap.objs.size s'.heap h') :
  Inv X pins σ H' { s' with heap:=h' }:=by
 have ne:∀b o,s.heap.get? b=some o->b≠s.heap.objs.size:=λb o e=>LJ (Lw e);have jb:=J.base;refine I.B4 (ch:=fp) J.os ⟨λb o e n h1 h2=>(hs.2 b (ne b o e)).trans (jb.keep b o e n h1 h2),λb o e n h1 h2=>?_,jb.free,λb o e h2=>?_,jb.tups,jb.frzs,jb.tbls⟩ (λb o e=>?_) J.bare λb hb=>?_
 ·obtain⟨sl,q⟩:=jb.slot b o e n h1 h2;exact⟨sl,(hs.2 b (ne b o e)).trans q⟩
 ·obtain⟨o',q⟩:=jb.there b o e h2;exact⟨o',(hs.2 b (ne b o e)).trans q⟩
 ·have jf:H' s.heap.objs.size=none:=J.free;refine (J.hok b o e).p0 (λc u hc q=>(hs.2 c ?_).trans q) (λ_ q=>q) (λ_ _ q=>q) λ_ _ _ q=>q;intro z;subst z;rcases hc with z|z
  ·rw [<- z,jf] at e;cases e
  ·rw [jf] at z;cases z
 ·obtain⟨f0,f1,f2,f3,f4,f5⟩:=hf b hb;exact⟨f3,f1,f4,f5⟩
end
def wx (X:Cx) (ifs:List Expr):TT:=λσ H Q=>∀(pins:List (Addr×Obj)) (s:Shared),Inv X pins σ H s ->
 wpAny (model X.prog X.w) X.A (forIn ifs true λc r=>if r=true then do let ok <- isTrue c X.env (eval c X.env);pure (ForInStep.yield ok) else pure (ForInStep.yield r)) (TP X pins σ Q) (λ_ _=>False) s
def ET (X:Cx) (N':List Str) (nt:Nat) (ix:List Nat) (scope:Scope) (elt target:Expr) (ifs:List Expr) (wi:TI):TE:=λσ H Q=>wi σ H λJ H1=>∀(a C:Addr) (s:Shared) (fp:List Addr) (pins:List (Addr×Obj)),H1 a=none ->
 ∃W:Nat->Nat->St->Hp->Prop,(∃m,W 0 m (pH nt ix σ) (upd H1 a (.lst [])))/\∀i m σ' H',W i m σ' H'->(J.stop i H'/\Q (.ref a) H')\/(J.go i H'/\∀x H2,J.yld i H' x H2 ->
  wG (aJ X N' scope C s (upd H1 a (.lst [])) fp pins) target x σ' H2 λσ2 H3=>wx (aJ X N' scope C s (upd H1 a (.lst [])) fp pins) ifs σ2 H3 λok H4=>if ok=true then
   wE (aJ X N' scope C s (upd H1 a (.lst [])) fp pins) elt σ2 H4 λy H5=>∃ys,H5 a=some (.lst ys)/\ys.length < sizeLine/\∃m',m' < m/\W (i + 1) m' σ2 (upd H5 a (.lst (ys ++ [y])))
   else ∃m',m' < m/\W (i + 1) m' σ2 H4)
section
variable {X:Cx} {N':List Str} {nt:Nat} {ix:List Nat} {scope:Scope}
theorem bK.cA {pins:List (Addr×Obj)} {σ:St} {H:Hp} {s:Shared} (O:bK X N' nt ix scope) (I:Inv X pins σ H s):closureFor scope X.env=pure (gH scope.names X.env.cells []) :=
 rh λy hy hk=>I.ok.has y.1 (.inl (O.free y hy hk))
theorem wo {elt target iter:Expr} {ifs:List Expr} {pos:Pos} {pins:List (Addr×Obj)} {σ:St} {s2:Shared} {Q:VK} {R:It->Hp->Prop} {itv:Value} {RR:Value->Addr->Result->Shared->Prop} (hc:X.calm=true) (O:bK X N' nt ix scope)
  (h2:Je X pins σ target R itv s2)
  (hR:∀J H1,R J H1->∀(a C:Addr) (s:Shared) (fp:List Addr) (pins:List (Addr×Obj)),H1 a=none ->
   ∃W:Nat->Nat->St->Hp->Prop,(∃m,W 0 m (pH nt ix σ) (upd H1 a (.lst [])))/\∀i m σ' H',W i m σ' H'->(J.stop i H'/\Q (.ref a) H')\/(J.go i H'/\∀x H2,J.yld i H' x H2 ->
    wG (aJ X N' scope C s (upd H1 a (.lst [])) fp pins) target x σ' H2 λσ2 H3=>wx (aJ X N' scope C s (upd H1 a (.lst [])) fp pins) ifs σ2 H3 λok H4=>if ok=true then
     wE (aJ X N' scope C s (upd H1 a (.lst [])) fp pins) elt σ2 H4 λy H5=>∃ys,H5 a=some (.lst ys)/\ys.length < sizeLine/\∃m',m' < m/\W (i + 1) m' σ2 (upd H5 a (.lst (ys ++ [y])))
     else ∃m',m' < m/\W (i + 1) m' σ2 H4))
  (hRR:∀(a C:Addr) (H':Hp) (s6:Shared) (m:Str->Option Value),Q (.ref a) H'->s6.heap.Ns C m->H' C=none->C≠X.env.locals->X.s₀.heap.objs.size<=C->(∀x c,X.env.cells.lookup x=some c->c≠C)->(∀p∈X.pn ++ pins,p.1≠C) ->
   (∀h',Heap.SameBut C s6.heap h'->Inv X pins σ H' { s6 with heap:=h' })->RR (.ref a) C (.ok .next) s6) :
  wpAny (model X.prog X.w) X.A (newList []) (λacc s3=>wpAny (model X.prog X.w) X.A (newFunctionEnv scope X.env.globals (gH scope.names X.env.cells []) [] X.env.qual none .none (some X.env)) (λcenv s4 =>
   codeAny (model X.prog X.w) X.A (.compStart (.ListComp elt [⟨target,iter,ifs,0⟩] scope pos) 0 itv acc { cenv with scope:=relabel scope X.env }) (RR acc cenv.locals) s4) X.xe s3) X.xe s2:=by
 obtain⟨it,fp,tn,J,H2,e,I2,T,st2,f2,hq0⟩:=h2;have hq:=hR J H2 hq0;subst e;have hlt2:∀b∈fp,b < s2.heap.objs.size:=λb hb=>let ⟨o,e,_⟩:=T.obj _ _ st2 b hb;Lw e
 refine wpAny_newObj_type ?_;generalize hs3:({ s2 with heap:=s2.heap.push { cls:=.type "list",dict:=none,data:=.seq ([]:List Value).toArray } }:Shared)=s3
 have k3:∀b o,s2.heap.get? b=some o->s3.heap.get? b=some o:=λb o e=>by rw [<- hs3];exact Ld _ e
 have ha:H2 s2.heap.objs.size=none:=I2.hok.fresh (Lh _)
 have I3:Inv X pins σ (upd H2 s2.heap.objs.size (.lst [])) s3:=by
  rw [<- hs3];exact I2.laid (t':=s2.toks) (λb u e=>Ld _ e) (Lh _) ⟨LZ _,[],0,.nil,Lv _ rfl⟩
 have f3:∀b∈fp,lH X pins (upd H2 s2.heap.objs.size (.lst [])) b:=λb hb=>⟨by rw [az (LJ (hlt2 b hb))];exact (f2 b hb).1,(f2 b hb).2⟩;have st3:tn 0 s3.heap:=T.keep _ _ _ st2 λb hb o e=>k3 b o e;have hlt3:∀b∈fp,b < s3.heap.objs.size:=λb hb=>let ⟨o,e,_⟩:=T.obj _ _ st3 b hb;Lw e
 refine wpAny_newFunctionEnv O.nocell (by intro y hy;simp at hy) (λh1 hns hsb=>?_) O.kind;have k4:∀b o,s3.heap.get? b=some o->h1.get? b=some o:=λb o e=>(hsb.2 b (LJ (Lw e))).trans (Ld _ e);have I4:=pO (tk:=s3.toks + ([]:List (Str×Value)).length) I3 O f3 hlt3 hns k4;have st4:tn 0 h1:=T.keep _ _ _ st3 λb hb o e=>k4 b o e;obtain⟨W,⟨m0,w0⟩,turn⟩:=hq s2.heap.objs.size s3.heap.objs.size s3 fp pins ha
 have fr3:∀b∈fp,(upd H2 s2.heap.objs.size (.lst [])) b=none:=λb hb=>(f3 b hb).1
 have stat:∀{H':Hp},(∀b∈fp,H' b=none)->∀b∈fp,lH (aJ X N' scope s3.heap.objs.size s3 (upd H2 s2.heap.objs.size (.lst [])) fp pins) [] H' b:=λ{H'} hn b hb=>by
  refine⟨hn b hb,LJ (hlt3 b hb),λz=>?_,.inl hb,λx c e=>(f3 b hb).2.2.2.2.1 x c (iG scope.names [] (λy d w=>by simp at w) x c e),λp hp=>?_⟩
  ·rcases LB.mp (I3.lC b z) with q|q
   ·exact (f3 b hb).2.1 q
   ·exact (f3 b hb).2.2.1 q
  ·rw [L4] at hp;exact (f3 b hb).2.2.2.2.2 p hp
 generalize hX:aJ X N' scope s3.heap.objs.size s3 (upd H2 s2.heap.objs.size (.lst [])) fp pins=X' at I4 turn stat;have eP:X'.prog=X.prog:=by rw [<- hX];rfl
 have eW:X'.w=X.w:=by rw [<- hX];rfl
 have eK:X'.K=X.K:=by rw [<- hX];rfl
 have eA:X'.A=X.A:=by rw [<- hX];rfl
 have eC:X'.calm=true:=by rw [<- hX];exact hc
 have eE:X'.env=compEnvC scope (gH scope.names X.env.cells []) s3.heap.objs.size X.env:=by rw [<- hX];rfl
 have eX:X'.xe=λ_ _=>False:=by rw [<- hX];rfl
 have loop:codeAny (model X.prog X.w) X.A (.compLoop (.ListComp elt [⟨target,iter,ifs,0⟩] scope pos) 0 (.ref it) (.ref s2.heap.objs.size) (compEnvC scope (gH scope.names X.env.cells []) s3.heap.objs.size X.env))
   (RR (.ref s2.heap.objs.size) s3.heap.objs.size) { s3 with heap:=h1,toks:=s3.toks + ([]:List (Str×Value)).length }:=by
  refine sT (λn s'=>∃i σ' H',Inv X' [] σ' H' s'/\tn i s'.heap/\(∀b∈fp,H' b=none)/\W i n σ' H') ?_ m0 ⟨0,_,_,I4,st4,fr3,w0⟩
  rintro n s5 ⟨i,σ5,H5,I5,st5,fr5,w5⟩;rcases turn i n σ5 H5 w5 with ⟨stop,q⟩|⟨go,step⟩
  ·have:=T.done X' eP eW eK eC i [] s5 σ5 H5 (λ_ _=>False) I5 (stat fr5) st5 stop;rw [eA] at this;refine bP this λr s6 ⟨hr,I6⟩=>?_;subst hr;obtain⟨m,hm,_⟩:=id I6.loc;rw [eE] at hm;have fre:H5 s3.heap.objs.size=none:=by have z:=I6.free;rw [eE] at z;exact z
   refine hRR _ _ H5 s6 m q hm fre (Nat.ne_of_gt I3.lt) I3.sz (λx c e z=>?_) (λp hp z=>?_) λh' hsb'=>?_
   ·obtain⟨v,w⟩:=I3.cell x c e;exact absurd w.lt (by rw [z];exact Nat.lt_irrefl _)
   ·exact absurd (Lw (I3.pin p hp).1) (by rw [z];exact Nat.lt_irrefl _)
   ·rw [<- hX] at I6;exact vg I3 f3 I6 hsb'
  ·have:=T.item X' eP eW eK eC i [] s5 σ5 H5 (λ_ _=>False) I5 (stat fr5) st5 go;rw [eA] at this;refine bP this λr s6 ⟨u,hr,h6⟩=>?_;subst hr;refine bP h6 λ_ s7 hq0=>?_;obtain⟨x,H7,I7,r7,y7,st7,fr7⟩:=hq0;have I7':=I7.pinned (stat fr7) (T.obj _ _ st7);have g7:=step x H7 y7 _ s7 u I7' r7;rw [eP,eW,eA,eE,eX] at g7;refine bP g7 λ_ s8 ⟨σ8,H8,I8,q8⟩=>?_;have t8:=q8 _ s8 I8;rw [eP,eW,eA,eE] at t8;refine bP t8 λok s9 ⟨H9,I9,q9⟩=>?_
   have back:∀{σz:St} {Hz:Hp} {sz:Shared} {m':Nat},Inv X' ([] ++ nX fp s7.heap) σz Hz sz->m' < n->W (i + 1) m' σz Hz->∃m,m < n/\∃i σ' H',Inv X' [] σ' H' sz/\tn i sz.heap/\(∀b∈fp,H' b=none)/\W i m σ' H':=λ{σz Hz sz m'} Iz hm wz=>by
    refine⟨m',hm,i + 1,σz,Hz,Iz.jG,T.keep _ _ _ st7 λb hb o e=>(Iz.pin (b,o) (LP _ (LP _ (fJ hb e)))).1,λb hb=>?_,wz⟩;obtain⟨o,e,d⟩:=T.obj _ _ st7 b hb;exact (Iz.pin (b,o) (LP _ (LP _ (fJ hb e)))).2.1
   cases ok with
   | false =>
    obtain⟨m',hm,w9⟩:=q9
    exact back I9 hm w9
   | true =>
    have e9:=q9 _ s9 I9;rw [eP,eW,eA,eE,eX] at e9;refine bP e9 λuy s10 hq0=>?_;obtain⟨y,H10,I10,r10,ys,hys,hl,m',hm,w10⟩:=hq0;have ap:=rS (X:=X') _ s10 σ8 H10 (.ref s2.heap.objs.size) [y] (.ref s2.heap.objs.size) [uy] (λ_ H'=>H'=upd H10 s2.heap.objs.size (.lst (ys ++ [y]))) I10 rfl (.cons r10 .nil) ⟨_,ys,y,rfl,rfl,hys,hl,rfl⟩;rw [eP,eW,eA,eX] at ap;refine bP ap λ_ s11 hq0=>?_;obtain⟨_,H11,I11,_,q11⟩:=hq0
    have q11':H11=upd H10 s2.heap.objs.size (.lst (ys ++ [y])):=q11;subst q11';exact back I11 hm w10
 exact codeAny_compStart_list loop (T.self _ _ _ _ _ st4 loop)
theorem ye {elt target iter:Expr} {ifs:List Expr} {pos:Pos} {wi:TI} (hc:X.calm=true) (hi:PI X target iter wi) (O:bK X N' nt ix scope) (hs:∀x,LX iter X.env x=pure x:=by intro _;rfl) :
  PE X (.ListComp elt [⟨target,iter,ifs,0⟩] scope pos) (ET X N' nt ix scope elt target ifs wi):=by
 intro pins s σ H Q I h;rw [eval_ListComp];refine wpAny_comprehension_free (use:=none) rfl hs (O.cA I) O.kind O.names ?_;refine bP (hi pins s σ H _ I h) λv s1 h1=>bP h1 λitv s2 h2=>?_;refine wo (Q:=Q) (RR:=λacc C=>compPost (model X.prog X.w) X.A X.xe none (EP X pins σ Q) acc C) hc O h2 (λJ H1 z=>z) ?_;intro a C H' s6 m q hm _ _ _ _ _ hI;exact⟨m,hm,λh' hsb=>⟨.ref a,H',hI h' hsb,rfl,q⟩⟩
theorem pB {elt target iter:Expr} {ifs:List Expr} {pos spos py:Pos} {y:Str} {i:Nat} {wi:TI} (hc:X.calm=true) (hi:PI X target iter wi) (O:bK X N' nt ix scope) (hN:X.N.Nodup) (hy:X.N[i]?=some y) (hx:Loc X.env.scope y)
  (hsw:swapsWith (.ListComp elt [⟨target,iter,ifs,0⟩] scope pos) (some (.Name y py)) spos.line X.env=pure true)
  (hf:X.fn y=true\/X.env.scope.names.lookup y=some .local) (hs:∀x,LX iter X.env x=pure x:=by intro _;rfl) :
  PS X (.Assign [.Name y py] (.ListComp elt [⟨target,iter,ifs,0⟩] scope pos) spos) (λD=>λσ H=>ET X N' nt ix scope elt target ifs wi σ H λv H'=>D.nx (σ.set i (some v)) H'):=by
 intro pins s σ H D I h;rw [exec_Assign_Name_used _ _ _ _ hsw];refine K9 (wpAny_standAt (K9 ?_));show wpAny _ X.A (do let _ <- comprehension (.ListComp elt [⟨target,iter,ifs,0⟩] scope pos) scope X.env _ (newList []) false (eval iter X.env) (some (assign (.Name y py) X.env))) _ _ s
 refine K9 (LG (wpAny_comprehension_free (use:=some (assign (.Name y py) X.env)) (Q:=λ_ s'=>SP X pins D .next s') rfl hs (O.cA I) O.kind O.names ?_) (λ_ s' hq=>Lf (Lf hq)) λ_ _ e=>e);refine bP (hi pins s σ H _ I h) λv s1 h1=>bP h1 λitv s2 h2=>?_;refine wo (Q:=λv H'=>D.nx (σ.set i (some v)) H') (RR:=λacc C=>compPost (model X.prog X.w) X.A X.xe (some (assign (.Name y py) X.env)) (λ_ s'=>SP X pins D .next s') acc C) hc O h2 (λJ H1 z=>z) ?_
 intro a C H' s6 m q hm hC n1 n2 n3 n4 hI;have I6:Inv X pins σ H' s6:=hI s6.heap (.refl ..);show wpAny _ X.A (assign (.Name y py) X.env (.ref a)) _ _ _
 refine wpAny_assign_Name (sJ I6 hN hy hx (v:=.ref a) rfl (λs7 I7 hsame=>?_) hf);obtain⟨b,hb,hbx⟩:=hsame
 have hne:C≠b:=by
  rcases hbx with e|e
  ·rw [e];exact n1
  ·exact Ne.symm (n3 y b e)
 refine⟨m,hm.sameBut hb hne,λh' hsb=>⟨_,H',?_,q⟩⟩;exact I7.turned (t':=s7.toks) (λc o hc' e=>(hsb.2 c hc').trans e) hC n1 (.inr n2) n3 n4
end
def b9 (nt:Nat) (ix:List Nat) (env:En):En:=List.replicate nt none ++ ix.map λi=>match env[i]? with
 | some (some (.d x))=>some (.d x)
 | _=>none
theorem cK {nt:Nat} {ix:List Nat} {env:En} (i:Nat) (ys:List D):(b9 nt ix env)[i]?≠some (some (.own ys)):=λq=>by
 unfold b9 at q
 by_cases hj:i < nt
 ·rw [Lx (by simpa using hj),LU] at q
  split at q <;> cases q
 ·rw [Ls (by simpa using hj),Lj] at q
  cases e:ix[i - (List.replicate nt (none:Option Lo)).length]? with
  | none=>rw [e] at q;cases q
  | some k =>
   rw [e] at q;simp only [Option.map_some,Option.some.injEq] at q
   split at q <;> cases q
theorem cJ {nt:Nat} {ix:List Nat} {env:En} (i:Nat) (ys:List (D×D)):(b9 nt ix env)[i]?≠some (some (.dic ys)):=λq=>by
 unfold b9 at q
 by_cases hj:i < nt
 ·rw [Lx (by simpa using hj),LU] at q
  split at q <;> cases q
 ·rw [Ls (by simpa using hj),Lj] at q
  cases e:ix[i - (List.replicate nt (none:Option Lo)).length]? with
  | none=>rw [e] at q;cases q
  | some k =>
   rw [e] at q;simp only [Option.map_some,Option.some.injEq] at q
   split at q <;> cases q
def Base.here (F H:Hp):Base:=⟨F,H,λp=>H p≠none/\F p=none,λ_ h=>h.1⟩
theorem yH {K:Le} {B:Base} {F H:Hp} {σ:St} {env:En} {nt:Nat} {ix:List Nat} {a:Addr} {o:HO} (r:Rep K B F H σ env) (ha:H a=none):Rep K (Base.here F H) F (upd H a o) (pH nt ix σ) (b9 nt ix env):=by
 refine⟨ao.refl _,r.fh.trans (bC ha),bC ha,λp h=>h.2,λj x q=>?_,λj ys q=>(cK j ys q).elim,λi j xs ys p _ q=>(cK i xs q).elim,λj ys q=>(cJ j ys q).elim,λi j xs ys p _ q=>(cJ i xs q).elim⟩;unfold b9 at q
 by_cases hj:j < nt
 ·rw [Lx (by simpa using hj),LU] at q
  split at q <;> cases q
 ·rw [Ls (by simpa using hj),Lj,List.length_replicate] at q
  cases e:ix[j - nt]? with
  | none=>rw [e] at q;cases q
  | some k =>
   rw [e] at q;simp only [Option.map_some,Option.some.injEq] at q
   split at q
   ·rename_i x' h';cases q;obtain⟨v,h1,h2⟩:=r.dv k x h';refine⟨v,?_,h2⟩;unfold pH;rw [Ls (by simpa using hj),Lj,List.length_replicate,e];simp only [Option.map_some,h1,Option.join];rfl
   ·cases q
theorem Rep.here {K:Le} {B:Base} {F H:Hp} {σ:St} {env:En} (r:Rep K B F H σ env) (no:∀(i:Nat) ys,env[i]?≠some (some (.own ys))) (no':∀(i:Nat) ys,env[i]?≠some (some (.dic ys))):Rep K (Base.here F H) F H σ env :=
 ⟨ao.refl _,r.fh,ao.refl _,λp h=>h.2,r.dv,λi ys q=>(no i ys q).elim,λi j xs ys p _ q=>(no i xs q).elim,λi ys q=>(no' i ys q).elim,λi j xs ys p _ q=>(no' i xs q).elim⟩
theorem Rep.there {K:Le} {B:Base} {F H F' H':Hp} {σ:St} {env di:En} (r:Rep K (Base.here F H) F' H' σ env) (f0:ao B.F F) (h0:ao B.H H) (nf:∀p,B.N p->F p=none) (he:∀(i:Nat) l,di[i]?=some (some l)->env[i]?=some (some l)) (no:∀(i:Nat) ys,di[i]?≠some (some (.own ys))) (no':∀(i:Nat) ys,di[i]?≠some (some (.dic ys))):Rep K B F' H' σ di:=by
 refine⟨f0.trans r.f0,r.fh,h0.trans r.h0,λp hp=>?_,λi x q=>r.dv i x (he i _ q),λi ys q=>(no i ys q).elim,λi j xs ys p _ q=>(no i xs q).elim,λi ys q=>(no' i ys q).elim,λi j xs ys p _ q=>(no' i xs q).elim⟩;refine r.nf p ⟨λz=>?_,nf p hp⟩;have q:=B.nb p hp
 cases w:B.H p with
 | none=>exact q w
 | some o=>rw [h0 _ _ w] at z;cases z
structure sN (K:Le) (J:It) (F1:Hp) (xs:List D):Prop where
 go:∀(i:Nat) (G H':Hp),ao F1 G->ao G H'->i < xs.length->J.go i H'
 yld:∀(i:Nat) (G H':Hp) (y:V) (H'':Hp) (x:D),ao F1 G->ao G H'->xs[i]?=some x->J.yld i H' y H''->H''=H'/\Den K G x y
 stop:∀(G H':Hp),ao F1 G->ao G H'->J.stop xs.length H'
theorem xf {K:Le} {F1:Hp} {a:Addr} {vs:List V} {xs:List D} (q:fZ K F1 a vs) (r:ak K F1 xs vs):sN K (Ju K a) F1 xs where
 go:=λi G H' s1 s2 hi=>by
  have:i < vs.length:=by rw [<- r.length];exact hi
  exact⟨vs,vs[i],s2.seq (s1.seq q),by simp [this]⟩
 yld:=λi G H' y H'' x s1 s2 hx hy=>by
  obtain⟨v,h1,h2⟩:=r.get hx;obtain⟨e1,e2⟩:=hy;have:=e2 vs (s2.seq (s1.seq q));rw [h1] at this;cases this;exact⟨e1,Den.mono s1 _ _ h2⟩
 stop:=λG H' s1 s2=>⟨vs,s2.seq (s1.seq q),by rw [r.length];exact Lh _⟩
theorem zO {K:Le} {F1:Hp} {a:Addr} {vs:List V} {xs:List D} (q:gr K F1 a vs) (r:ak K F1 xs vs):sN K (JD K a) F1 xs where
 go:=λi G H' s1 s2 hi=>by
  have:i < vs.length:=by rw [<- r.length];exact hi
  exact⟨vs,vs[i],ao.bF s2 (ao.bF s1 q),by simp [this]⟩
 yld:=λi G H' y H'' x s1 s2 hx hy=>by
  obtain⟨v,h1,h2⟩:=r.get hx;obtain⟨e1,e2⟩:=hy;have:=e2 vs (ao.bF s2 (ao.bF s1 q));rw [h1] at this;cases this;exact⟨e1,Den.mono s1 _ _ h2⟩
 stop:=λG H' s1 s2=>⟨vs,ao.bF s2 (ao.bF s1 q),by rw [r.length];exact Lh _⟩
theorem zP {K:Le} {F1:Hp} {z:Str}:sN K (Ie z) F1 (iM z) where
 go:=λi G H' s1 s2 hi=>by
  show i < z.cps.size
  simpa [iM] using hi
 yld:=λi G H' y H'' x s1 s2 hx hy=>by
  obtain⟨e1,c,hc,rfl⟩:=hy;unfold iM at hx;rw [Lj,Ma,hc] at hx;cases hx;exact⟨e1,kA⟩
 stop:=λG H' s1 s2=>by
  show z.cps.size<=_
  simp [iM]
theorem jt {K:Le} {F1:Hp} {lo:Int} {n:Nat}:sN K (EX lo n) F1 (aW lo n) where
 go:=λi G H' s1 s2 hi=>by
  have:i < n:=by simpa [aW] using hi
  exact this
 yld:=λi G H' y H'' x s1 s2 hx hy=>by
  obtain⟨e1,e2⟩:=hy
  have hi:i < n:=by
   have:=(La.mp hx).1
   simpa [aW] using this
  have:(aW lo n)[i]?=some (D.int (lo + (i:Int))):=by simp [aW,hi]
  rw [this] at hx;cases hx;exact⟨e1,by rw [e2];exact bz⟩
 stop:=λG H' s1 s2=>by
  have:(aW lo n).length=n:=by simp [aW]
  rw [this];exact Lh n
def comps (tt:TB) (te:TD) (di:En) (Q:List D->Prop):List D->List D->Prop
 | [],acc=>Q acc
 | x :: xs,acc=>tt (di.set 0 (some (.d x))) λok=>if ok=true then te (di.set 0 (some (.d x))) λy=>acc.length < sizeLine/\comps tt te di Q xs (acc ++ [y]) else comps tt te di Q xs acc
structure pN (X:Cx) (ifs:List Expr) (t:TB):Prop where
 of ::
 run:∀(B:Base) (σ:St) (F H:Hp) (env:En) (Q:Bool->Prop),Rep X.K B F H σ env->t env Q->wx X ifs σ H (RB X B σ env F Q)
instance {X:Cx} {ifs:List Expr} {t:TB}:CoeFun (pN X ifs t) (λ_=>∀(B:Base) (σ:St) (F H:Hp) (env:En) (Q:Bool->Prop),Rep X.K B F H σ env->t env Q->wx X ifs σ H (RB X B σ env F Q)):=⟨pN.run⟩
def cg:TB:=λ_ Q=>Q true
section
variable {X:Cx}
theorem dE:pN X [] cg:=⟨λB σ F H env Q rp h pins s I=>wpAny_tests_nil ⟨H,I,F,rp,ao.refl _,h⟩⟩
theorem A3 {c:Expr} {t:TB} (hx:X.xe=λ_ _=>False) (h:QT X c t):pN X [c] t:=by
 refine⟨λB σ F H env Q rp hq pins s I=>wpAny_tests_one ?_⟩;have:=h B σ F H env Q rp hq pins s I;rw [hx] at this;exact this
variable {N':List Str} {nt:Nat} {ix:List Nat} {scope:Scope} {elt iter a b:Expr} {ifs:List Expr} {x:Str} {px pos:Pos} {tt:TB} {te ti:TD} {ts:fY}
theorem kc (hN:N'.Nodup) (h0:N'[0]?=some x) (hx:(relabel scope X.env).names.lookup x=some .local)
  (ht:∀C s H fp pins,pN (aJ X N' scope C s H fp pins) ifs tt) (he:∀C s H fp pins,QE (aJ X N' scope C s H fp pins) elt te)
  {B:Base} {σ:St} {F F1 H1:Hp} {env:En} {Q:List D->Prop} {J:It} {xs:List D} (sF:ao F F1) (r1:Rep X.K B F1 H1 σ env) (S:sN X.K J F1 xs) (q1:comps tt te (b9 1 ix env) Q xs []) :
  ∀(a C:Addr) (s:Shared) (fp:List Addr) (pins:List (Addr×Obj)),H1 a=none ->
   ∃W:Nat->Nat->St->Hp->Prop,(∃m,W 0 m (pH 1 ix σ) (upd H1 a (.lst [])))/\∀i m σ' H',W i m σ' H'->(J.stop i H'/\RF X B σ env F Q (.ref a) H')\/(J.go i H'/\∀y H2,J.yld i H' y H2 ->
    wG (aJ X N' scope C s (upd H1 a (.lst [])) fp pins) (.Name x px) y σ' H2 λσ2 H3=>wx (aJ X N' scope C s (upd H1 a (.lst [])) fp pins) ifs σ2 H3 λok H4=>if ok=true then
     wE (aJ X N' scope C s (upd H1 a (.lst [])) fp pins) elt σ2 H4 λy H5=>∃ys,H5 a=some (.lst ys)/\ys.length < sizeLine/\∃m',m' < m/\W (i + 1) m' σ2 (upd H5 a (.lst (ys ++ [y])))
     else ∃m',m' < m/\W (i + 1) m' σ2 H4):=by
 intro a C s fp pins ha;have hF1a:F1 a=none:=r1.mj ha
 refine⟨λi m σ' H'=>m=xs.length - i/\i<=xs.length/\∃(F':Hp) (acc:List D) (ys:List V),Rep X.K (Base.here F1 H1) F' H' σ' (b9 1 ix env)/\H' a=some (.lst ys)/\F' a=none/\ak X.K F' acc ys/\comps tt te (b9 1 ix env) Q (xs.drop i) acc,
  ⟨xs.length,by simp,LZ _,F1,[],[],yH r1 ha,av,hF1a,aH,by simpa using q1⟩,?_⟩
 rintro i m σ2 H2 ⟨rfl,hi2,F2,acc,ys,r2,hys,hFa,hd,q2⟩;have sH:ao H1 H2:=r2.h0
 by_cases hlt:i < xs.length
 ·have hxi:xs[i]?=some xs[i]:=by simp [hlt]
  rw [drop_cons hxi] at q2;refine .inr ⟨S.go i F2 H2 r2.f0 r2.fh hlt,λy H3 hy=>?_⟩;obtain⟨eH,dy⟩:=S.yld i F2 H2 y H3 xs[i] r2.f0 r2.fh hxi hy;subst eH;have r2':=r2.here cK cJ;have g:=aQ (X:=aJ X N' scope C s (upd H1 a (.lst [])) fp pins) (pos:=px) 0 hN h0 (.inl hx) (.inr hx);refine gS (g (Base.here F2 H3) σ2 F2 H3 (b9 1 ix env) (λe=>e=(b9 1 ix env).set 0 (some (.d xs[i]))) xs[i] y r2' dy rfl) λσ3 H4 hq0=>?_
  obtain⟨F4,env4,r4,s4,q4⟩:=hq0;subst q4;intro pins' s' I';refine LG (ht C s (upd H1 a (.lst [])) fp pins (Base.here F2 H3) σ3 F4 H4 _ _ r4 q2 pins' s' I') (λok s5 ⟨H5,I5,F5,r5,s5',q5⟩=>⟨H5,I5,?_⟩) λ_ _ e=>e
  have weak':∀(j:Nat) l,(b9 1 ix env)[j]?=some (some l)->((b9 1 ix env).set 0 (some (.d xs[i])))[j]?=some (some l):=λj l hj=>by
   have hj0:j≠0:=λz=>by
    subst z;simp [b9] at hj
   rw [Lb (Ne.symm hj0)];exact hj
  cases ok with
  | false =>
   have q5':comps tt te (b9 1 ix env) Q (xs.drop (i + 1)) acc:=q5
   refine⟨xs.length - (i + 1),by omega,rfl,by omega,F5,acc,ys,r5.there r2.f0 sH (λp hp=>r2.nf p hp) weak' cK cJ,r5.h0 _ _ hys,r5.nf a ⟨by rw [hys];simp,hFa⟩,ak.mono r5.f0 _ _ hd,q5'⟩
  | true =>
   have q5':te ((b9 1 ix env).set 0 (some (.d xs[i]))) λy=>acc.length < sizeLine/\comps tt te (b9 1 ix env) Q (xs.drop (i + 1)) (acc ++ [y]):=q5;refine aC (he C s (upd H1 a (.lst [])) fp pins (Base.here F2 H3) σ3 F5 H5 _ _ r5 q5') λz H6 hq0=>?_;obtain⟨F6,d,r6,s6,d6,hl,q6⟩:=hq0;have ha6:H6 a=some (.lst ys):=r6.h0 _ _ hys;have hF6:F6 a=none:=r6.nf a ⟨by rw [hys];simp,hFa⟩;refine⟨ys,ha6,by rw [<- hd.length];exact hl,xs.length - (i + 1),by omega,rfl,by omega,F6,acc ++ [d],ys ++ [z],?_,av,hF6,(ak.mono r6.f0 _ _ hd).append (aD d6 aH),q6⟩
   have r7:Rep X.K (Base.here F1 H1) F6 H6 σ3 (b9 1 ix env):=r6.there r2.f0 sH (λp hp=>r2.nf p hp) weak' cK cJ;refine⟨r7.f0,λb o hb=>?_,λb o hb=>?_,r7.nf,r7.dv,λj zs q=>(cK j zs q).elim,r7.ne,λj zs q=>(cJ j zs q).elim,r7.nm⟩
   ·have:b≠a:=λw=>by subst w;rw [hF6] at hb;cases hb
    rw [az this];exact r7.fh _ _ hb
   ·have:b≠a:=λw=>by subst w;have hb':H1 b=some o:=hb;rw [ha] at hb';cases hb'
    rw [az this];exact r7.h0 _ _ hb
 ·have e:i=xs.length:=by omega
  subst e;rw [L9 (Lh _)] at q2;refine .inl ⟨S.stop F2 H2 r2.f0 r2.fh,F2,λb=>if b=a then none else H2 b,a,ys,acc,rfl,if_pos rfl,?_,?_,sF.trans r2.f0,hd,q2⟩
  ·funext b;unfold upd
   by_cases z:b=a
   ·rw [if_pos z,z];exact hys
   ·rw [if_neg z];show H2 b=if b=a then none else H2 b
    rw [if_neg z]
  ·refine r1.ext r2.f0 (λb o hb=>?_) (λb o hb=>?_) λp h1 h2=>r2.nf p ⟨h1,h2⟩
   ·have:b≠a:=λw=>by subst w;rw [hFa] at hb;cases hb
    show (if b=a then none else H2 b)=_
    rw [if_neg this];exact r2.fh _ _ hb
   ·have:b≠a:=λw=>by subst w;rw [ha] at hb;cases hb
    show (if b=a then none else H2 b)=_
    rw [if_neg this];exact sH _ _ hb
theorem RF.rv {B:Base} {σ:St} {env:En} {F:Hp} {Q:D->Prop} {v:V} {H:Hp} (h:RF X B σ env F (λds=>Q (.lst ds)) v H):RV X B σ env F Q v H:=by
 obtain⟨F',H1,p,vs,ds,rfl,hp,rfl,r,s,hd,q⟩:=h;exact (RV.CP r hd q p hp).weaken s
def cX (ts:fY):TD:=λenv Q=>ts env λds=>Q (.lst ds)
theorem QF.e {e:Expr} {ts:fY} (h:QF X e ts):QE X e (cX ts):=⟨λB σ F H env Q rp hq=>aC (h B σ F H env _ rp hq) λv H' z=>z.rv⟩
def ir (ix:List Nat) (ti:TD) (tt:TB) (te:TD):fY:=λenv Q=>ti env λd=>∃xs,fw d=some xs/\comps tt te (b9 1 ix env) Q xs []
theorem AH {B:Base} {σ:St} {F H:Hp} {env:En} {P:List D->Prop} {R:It->Hp->Prop} (hi:QE X iter ti) (rp:Rep X.K B F H σ env) (h:ti env λd=>∃xs,fw d=some xs/\P xs)
  (hR:∀(J:It) (F1 H1:Hp) (xs:List D),Rep X.K B F1 H1 σ env->ao F F1->sN X.K J F1 xs->P xs->R J H1):IP X.K (wE X iter) σ H R:=by
 refine aC (hi B σ F H env _ rp h) λv H1 hq0=>?_;obtain⟨F1,d,r1,s1,d1,xs,hx,q1⟩:=hq0
 cases d with
 | lst ys =>
  simp only [fw] at hx;cases hx;simp only [Den] at d1;obtain⟨a,vs,rfl,q,r⟩:=d1
  exact .inl ⟨a,rfl,.inl ⟨⟨vs,r1.fh.seq q⟩,hR _ F1 H1 _ r1 s1 (xf q r) q1⟩⟩
 | tup ys =>
  simp only [fw] at hx;cases hx;simp only [Den] at d1;obtain⟨a,vs,rfl,q,r⟩:=d1
  exact .inl ⟨a,rfl,.inr ⟨⟨vs,ao.bF r1.fh q⟩,hR _ F1 H1 _ r1 s1 (zO q r) q1⟩⟩
 | str z =>
  simp only [fw] at hx;cases hx;simp only [Den] at d1;subst d1
  exact .inr ⟨z,rfl,hR _ F1 H1 _ r1 s1 zP q1⟩
 | _=>simp only [fw] at hx;cases hx
theorem j5 (hc:X.calm=true) (O:bK X N' 1 ix scope) (hN:N'.Nodup) (h0:N'[0]?=some x) (hx:(relabel scope X.env).names.lookup x=some .local) (hi:QE X iter ti)
  (ht:∀C s H fp pins,pN (aJ X N' scope C s H fp pins) ifs tt) (he:∀C s H fp pins,QE (aJ X N' scope C s H fp pins) elt te) (hs:∀x,LX iter X.env x=pure x:=by intro _;rfl) :
  QF X (.ListComp elt [⟨.Name x px,iter,ifs,0⟩] scope pos) (ir ix ti tt te):=by
 refine⟨?_⟩;intro B σ F H env Q rp h;refine dA (ye hc (AZ bO) O hs) ?_;exact AH hi rp h λJ F1 H1 xs r1 s1 S q=>kc hN h0 hx ht he s1 r1 S q
def fv (f:List D->(Int->Nat->Prop)->Prop) (ix:List Nat) (ts:fY) (tt:TB) (te:TD):fY:=λenv Q=>ts env λxs=>f xs λlo n=>comps tt te (b9 1 ix env) Q (aW lo n) []
theorem nS {p pos2:Pos} (hc:X.calm=true) (O:bK X N' 1 ix scope) (hN:N'.Nodup) (h0:N'[0]?=some x) (hx:(relabel scope X.env).names.lookup x=some .local) (hgl:Gl X "range") (hm:X.mg "range" = none) (ha:QA X [a] ts)
  (ht:∀C s H fp pins,pN (aJ X N' scope C s H fp pins) ifs tt) (he:∀C s H fp pins,QE (aJ X N' scope C s H fp pins) elt te) (hst:starEach [a] X.env=[(false,eval a X.env)]:=by rfl)
  (hs:∀x,LX (.Call (.Name "range" p) [a] [] pos2) X.env x=pure x:=by intro _;rfl) :
  QF X (.ListComp elt [⟨.Name x px,.Call (.Name "range" p) [a] [] pos2,ifs,0⟩] scope pos) (fv hU ix ts tt te):=by
 refine⟨?_⟩;intro B σ F H env Q rp h;refine dA (ye hc (j3 hgl hm jh hst) O hs) ?_;refine cO (ha B σ F H env _ rp h) λvs H1 hq0=>?_;obtain⟨F1,ds,r1,s1,d1,q1⟩:=hq0
 (try dsimp only at q1);unfold hU at q1
 split at q1
 ·simp only [ak,Den] at d1;obtain⟨v,r,rfl,rfl,rfl⟩:=d1;exact⟨_,rfl,q1.1.1,q1.1.2,kc hN h0 hx ht he s1 r1 jt q1.2⟩
 ·exact q1.elim
end
section
variable {X:Cx} {a b c e:Expr} {es:List Expr} {ta tb tc:TD} {tA tB':TB} {ts:fY} {p p2 pos:Pos} {rest:List Expr}
theorem Jd (hm:X.mg "abs" = none) (ha:QA X [e] ts) (hg:Gl X "abs":=by rfl) (he:starEach [e] X.env=(false,eval e X.env) :: starEach [] X.env:=by exact aZ rfl):QE X (.Call (.Name "abs" p) [e] [] pos) (aA AO ts) :=
 mH AG GD hg hm zy ha (he:=he)
theorem fC (hm:X.mg "len" = none) (ha:QA X [e] ts) (hg:Gl X "len":=by rfl) (he:starEach [e] X.env=(false,eval e X.env) :: starEach [] X.env:=by exact aZ rfl):QE X (.Call (.Name "len" p) [e] [] pos) (aA fB ts) :=
 mH (mV.or uP) Fz hg hm rR ha (he:=he)
theorem Jp (hm:X.mg "max" = none) (ha:QA X [a,b] ts) (hg:Gl X "max":=by rfl) (hc:X.calm=true:=by rfl) (he:starEach [a,b] X.env=(false,eval a X.env) :: starEach [b] X.env:=by exact aZ rfl) (hpl:(backTo pos (starEach [b] X.env)).any (·.1)=false:=by rfl):QE X (.Call (.Name "max" p) [a,b] [] pos) (aA BR ts) :=
 mH (y8 hc) Gu hg hm zM ha (he:=he) (hpl:=hpl)
theorem ID (hm:X.mg "min" = none) (ha:QA X [a,b] ts) (hg:Gl X "min":=by rfl) (hc:X.calm=true:=by rfl) (he:starEach [a,b] X.env=(false,eval a X.env) :: starEach [b] X.env:=by exact aZ rfl) (hpl:(backTo pos (starEach [b] X.env)).any (·.1)=false:=by rfl):QE X (.Call (.Name "min" p) [a,b] [] pos) (aA BM ts) :=
 mH (zV hc) FI hg hm zR ha (he:=he) (hpl:=hpl)
theorem Ji (hm:X.mg "all" = none) (ha:QA X [e] ts) (hg:Gl X "all":=by rfl) (hc:X.calm=true:=by rfl) (he:starEach [e] X.env=(false,eval e X.env) :: starEach [] X.env:=by exact aZ rfl):QE X (.Call (.Name "all" p) [e] [] pos) (aA C6 ts) :=
 mH (Bc hc) Gw hg hm zc ha (he:=he)
theorem yZ (hm:X.mg "int" = none) (ha:QA X [e] ts) (hg:Gl X "int":=by rfl) (he:starEach [e] X.env=(false,eval e X.env) :: starEach [] X.env:=by exact aZ rfl):QE X (.Call (.Name "int" p) [e] [] pos) (aA tF ts) :=
 pG zz FH hg hm zG ha (he:=he)
theorem vi (hm:X.mg "list" = none) (ha:QA X [e] ts) (hg:Gl X "list":=by rfl) (he:starEach [e] X.env=(false,eval e X.env) :: starEach [] X.env:=by exact aZ rfl):QE X (.Call (.Name "list" p) [e] [] pos) (aA pS ts) :=
 pG mD DN hg hm lG ha (he:=he)
theorem df (hm:X.mg "tuple" = none) (ha:QA X [e] ts) (hg:Gl X "tuple":=by rfl) (he:starEach [e] X.env=(false,eval e X.env) :: starEach [] X.env:=by exact aZ rfl):QE X (.Call (.Name "tuple" p) [e] [] pos) (aA eJ ts) :=
 pG rD BW hg hm oq ha (he:=he)
variable {N':List Str} {nt:Nat} {ix:List Nat} {scope:Scope} {elt iter:Expr} {ifs:List Expr} {x:Str} {px py spos:Pos} {tt:TB} {te ti:TD}
theorem bK.of (sc:Scope) (hsc:X.env.scope=sc) (kind:scope.kind=.function) (nocell:∀x∈scope.names,x.2≠.cell) (names:∀x∈scope.names,x.2=.local->scope.names.lookup x.1=some .local)
  (free:∀x∈scope.names,x.2=.free->sc.names.lookup x.1=some .cell)
  (caps:∀(j:Nat) (i:Nat),ix[j]?=some i->∃x,N'[nt + j]?=some x/\X.N[i]?=some x/\(x,NameKind.free)∈scope.names/\(relabel scope X.env).names.lookup x=some .cell) (len:N'.length=nt + ix.length):bK X N' nt ix scope :=
 ⟨kind,nocell,names,by rw [hsc];exact free,caps,len⟩
end
def Base.guard (B:Base) (p:Addr) (o:HO):Base:=⟨B.F,upd B.H p o,λa=>a=p\/B.N a,λa h=>by
 by_cases e:a=p
 ·subst e;rw [av];simp
 ·rw [az e];exact B.nb a (h.resolve_left e)⟩
section
variable {K:Le} {B:Base} {F H:Hp} {σ:St} {env:En} {p:Addr} {o o':HO}
theorem Rep.guarded (r:Rep K B F H σ env) (hp:H p=none):Rep K (B.guard p o) F (upd H p o) σ env where
 f0:=r.f0
 fh:=r.fh.trans (bC hp)
 h0:=λb u q=>by
  by_cases e:b=p
  ·subst e;rw [av];have q':upd B.H b o b=some u:=q;rw [av] at q';exact q'
  ·rw [az e];have q':upd B.H p o b=some u:=q;rw [az e] at q';exact r.h0 _ _ q'
 nf:=λa h=>by
  rcases h with rfl|h
  ·exact r.mj hp
  ·exact r.nf a h
 dv:=r.dv
 ov:=λi xs h=>by
  obtain⟨q,vs,h1,h2,h3,h4,h5⟩:=r.ov i xs h;have ne:q≠p:=λe=>by subst e;rw [hp] at h2;cases h2
  exact⟨q,vs,h1,by rw [az ne];exact h2,h3,by show upd B.H p o q=none;rw [az ne];exact h4,h5⟩
 ne:=r.ne
 mv:=λi xs h=>by
  obtain⟨q,ep,us,vs,h1,h2,h3,h4,h5⟩:=r.mv i xs h;have ne:q≠p:=λe=>by subst e;rw [hp] at h2;cases h2
  exact⟨q,ep,us,vs,h1,by rw [az ne];exact h2,h3,by show upd B.H p o q=none;rw [az ne];exact h4,h5⟩
 nm:=r.nm
theorem Rep.l4 (r:Rep K (B.guard p o) F H σ env) (hb:B.H p=none):Rep K B F H σ env/\H p=some o/\F p=none:=by
 refine⟨⟨r.f0,r.fh,λb u q=>r.h0 b u ?_,λa h=>r.nf a (.inr h),r.dv,λi xs h=>?_,r.ne,λi xs h=>?_,r.nm⟩,r.h0 p o av,r.nf p (.inl rfl)⟩
 ·show upd B.H p o b=some u
  have:b≠p:=λe=>by subst e;rw [hb] at q;cases q
  rw [az this];exact q
 ·obtain⟨q,vs,h1,h2,h3,h4,h5⟩:=r.ov i xs h;have h4':upd B.H p o q=none:=h4;have ne:q≠p:=λe=>by subst e;rw [av] at h4';cases h4'
  rw [az ne] at h4';exact⟨q,vs,h1,h2,h3,h4',h5⟩
 ·obtain⟨q,ep,us,vs,h1,h2,h3,h4,h5⟩:=r.mv i xs h;have h4':upd B.H p o q=none:=h4;have ne:q≠p:=λe=>by subst e;rw [av] at h4';cases h4'
  rw [az ne] at h4';exact⟨q,ep,us,vs,h1,h2,h3,h4',h5⟩
end
theorem bH.at {P:Program} {w:World} {H:Hp} {h:Heap} {a:Addr} {o:HO} (x:bH P w H h a o):∃ob,h.get? a=some ob:=by
 cases o with
 | lst xs=>obtain⟨_,_,_,_,e⟩:=x;exact⟨_,e⟩
 | tup xs=>obtain⟨_,_,_,ob,e,_⟩:=x;exact⟨_,e⟩
 | dK kvs=>obtain⟨_,_,_,_,o,_,_,e,_⟩:=x;exact⟨_,e⟩
 | dT kvs=>obtain⟨_,_,_,_,o,_,_,e,_⟩:=x;exact⟨_,e⟩
 | set S n=>obtain⟨o,_,_,_,e,_⟩:=x;exact⟨_,e⟩
 | ins C dx fs=>obtain⟨_,_,_,e,_⟩:=x;exact⟨_,e⟩
 | own y=>exact x
 | xd fs=>obtain⟨_,⟨_,_,_,e,_⟩,_⟩:=x;exact⟨_,e⟩
 | rng lo hi=>obtain⟨_,_,_,e⟩:=x;exact⟨_,e⟩
 | frz ob u=>obtain⟨e,_⟩:=x;exact⟨_,e⟩
 | fU ps=>obtain⟨_,e,_⟩:=x;exact⟨_,e⟩
 | cdr c q=>exact x.1
 | met f y=>exact⟨_,(show h.get? a=some _ from x)⟩
 | ext φ=>obtain⟨_,⟨_,e⟩,_⟩:=x;exact⟨_,e⟩
def jz (H:Hp) (h0 h:Heap) (a:Addr) (cls:Value) (dd:Option Addr):Prop:=h0.get? a=none/\H a=none/\∃oe vs,h.get? a=some oe/\oe.cls=cls/\oe.dict=dd/\oe.data=.fields vs /\
 (vs[1]?=some .none\/∃T oT ts,vs[1]?=some (.ref T)/\h0.get? T=none/\H T=none/\T≠a/\h.get? T=some oT/\oT.data=.fields ts/\ts[3]?=some .none)
abbrev Cw (H:Hp) (h0 h:Heap) (a:Addr) (cls:Value):Prop:=jz H h0 h a cls none
theorem jz.EO {H:Hp} {g h0 h:Heap} {a:Addr} {cls:Value} {dd:Option Addr} (x:jz H h0 h a cls dd) (k:∀b o,g.get? b=some o->∃o',h0.get? b=some o'):jz H g h a cls dd:=by
 have none_:∀b,h0.get? b=none->g.get? b=none:=λb e=>by
  cases q:g.get? b with
  | none=>rfl
  | some o=>obtain⟨o',e'⟩:=k b o q;rw [e] at e';cases e'
 obtain⟨n,f,oe,vs,he,hc,hdc,hd,z⟩:=x;refine⟨none_ a n,f,oe,vs,he,hc,hdc,hd,?_⟩;rcases z with z|⟨T,oT,ts,h1,h2,h3⟩
 ·exact .inl z
 ·exact .inr ⟨T,oT,ts,h1,none_ T h2,h3⟩
def E5 (P:Program) (w:World):A0:=λouter H s E e s'=>∃(a:Addr) (C:Value) (dd:Option Addr) (H':Hp),e=.ref a/\s'.os=s.os/\AllBare s'.gens/\Un (lN outer) [] H H' s.heap s'.heap/\kY P w H' s'.heap/\jz H' s.heap s'.heap a C dd/\E C dd H'
theorem p5 {M:Model} {A:Around} {E:Value->Shared->Prop} {s:Shared} {base:Heap} {env:Env} {outer:List Env} {L x:Addr} {ox:Obj} {fs:Array Value} {hd0:Value} {nx0:Bool} {Q:Unit->Shared->Prop}
  (hA:A.frames=some (env :: outer)) (ff:s.heap.FunFrames base (env :: outer)) (hL:env.frame=some L) (hx:s.heap.get? x=some ox) (hdx:ox.data=.fields fs) (h2:1 < fs.size)
  (k:∀h' T oT ts,(∀b o,s.heap.get? b=some o->b≠x->b∉lN (env :: outer)->h'.get? b=some o)->(∀b o,s.heap.get? b=some o->b∈lN (env :: outer)->∃sl,h'.get? b=some { o with slots:=sl }) ->
   h'.get? x=some (ox.mapFields (·.setIfInBounds 1 (.ref T)))->s.heap.get? T=none->T≠x->h'.get? T=some oT->oT.data=.fields ts->ts[3]?=some .none->Q () { s with heap:=h' }) :
  wpAny M A (do let a <- frameOf env;let pl <- entryPlaceOf L nx0;let b <- EntryCells.newEntry hd0 a .none (rawInt L) .none pl;setField (.ref x) 1 b) (λ_ s'=>wpAny M A (setFlight (.ref x) none) Q E s') E s:=by
 have xnf:x∉lN (env :: outer):=λz=>by
  obtain⟨_,o,e,nf⟩:=ff.mem z;rw [hx] at e;cases e;exact nf fs hdx
 refine K9 (wpAny_frameOf_fun hA ff hL λg so=>?_);refine K9 (wpAny_entryPlaceOf λpl ipl=>?_);unfold EntryCells.newEntry newFields;refine K9 (wpAny_newObj_type ?_ (ipl.sizeOk5 _ _ _ _ _));have gx:g.get? x=some ox:=(so.2.1 x xnf).trans hx;generalize hno:({ cls:=.type "traceback",dict:=none,data:=.fields ([hd0,.ref L,.none,rawInt L,.none] ++ (if pl.isEmpty then List.replicate 6 Value.none else pl)).toArray }:Obj)=no
 have nod:no.data=.fields ([hd0,.ref L,.none,rawInt L,.none] ++ (if pl.isEmpty then List.replicate 6 Value.none else pl)).toArray:=by rw [<- hno]
 have nofree:no.isFreed=false:=Obj.isFreed_of_fields nod;have gx1:(g.push no).get? x=some ox:=Ld no gx;have gT1:(g.push no).get? g.objs.size=some no:=Lv g nofree;have Tx:g.objs.size≠x:=λz=>absurd (Lw gx) (by rw [z];exact Nat.lt_irrefl _);refine wpAny_setField gx1 hdx h2 ?_;have dx2:=Obj.data_mapFields hdx (·.setIfInBounds 1 (Value.ref g.objs.size));have gx2:=Heap.get?_update_self (Obj.mapFields (·.setIfInBounds 1 (Value.ref g.objs.size))) gx1 (Obj.isFreed_of_fields dx2)
 have gT2:((g.push no).update x (Obj.mapFields (·.setIfInBounds 1 (Value.ref g.objs.size)))).get? g.objs.size=some no:=(Heap.get?_update_other _ _ (Ne.symm Tx)).trans gT1;unfold setFlight;refine K9 (wpAny_field gx2 dx2 (x:=.ref g.objs.size) (by simp [h2]) ?_);rw [if_pos (show (Value.ref g.objs.size != Value.none)=true from by simp)]
 have sz3:3 < ([hd0,.ref L,.none,rawInt L,.none] ++ (if pl.isEmpty then List.replicate 6 Value.none else pl)).toArray.size:=by
  simp only [Ly,LI,L0,Mc];omega
 refine wpAny_setField gT2 nod sz3 ?_
 have oth:∀b,b≠x->b≠g.objs.size->(((g.push no).update x (Obj.mapFields (·.setIfInBounds 1 (Value.ref g.objs.size)))).update g.objs.size (Obj.mapFields (·.setIfInBounds 3 ((none:Option Addr).elim Value.none λf=>rawInt f)))).get? b=(g.push no).get? b:=λb b1 b2=>by
  rw [Heap.get?_update_other _ _ (Ne.symm b2),Heap.get?_update_other _ _ (Ne.symm b1)]
 have ne_g:∀b o,g.get? b=some o->b≠g.objs.size:=λb o e z=>absurd (Lw e) (by rw [z];exact Nat.lt_irrefl _);have Tn:s.heap.get? g.objs.size=none:=Heap.get?_none_of_le (by rw [so.1];exact Lh _);refine k _ g.objs.size _ _ (λb o e b1 b2=>?_) (λb o e b2=>?_) ?_ Tn Tx (Heap.get?_update_self _ gT2 (Obj.isFreed_of_fields (Obj.data_mapFields nod _))) (Obj.data_mapFields nod _) ?_
 ·have e1:g.get? b=some o:=(so.2.1 b b2).trans e;rw [oth b b1 (ne_g b o e1)];exact Ld no e1
 ·obtain⟨sl,e1⟩:=so.2.2 b o e;have b1:b≠x:=λz=>xnf (z▸b2);exact⟨sl,by rw [oth b b1 (ne_g b _ e1)];exact Ld no e1⟩
 ·rw [Heap.get?_update_other _ _ Tx];exact gx2
 ·simp [Array.getElem?_setIfInBounds]
theorem qN (o:Obj) (f:Array Value->Array Value):(o.mapFields f).dict=o.dict:=by
 obtain⟨c,d,dt,sl⟩:=o;cases dt <;> rfl
theorem AN {M:Model} {P:Program} {w:World} {A:Around} {env:Env} {outer:List Env} {base:Heap} {H0 H1:Hp} {h0:Heap} {s1:Shared} {a:Addr} {C:Value} {dd:Option Addr} {L:Addr} {Q:Unit->Shared->Prop} {E:Value->Shared->Prop}
  (hfr:A.frames=some (env :: outer)) (hf:env.frame=some L) (FF:s1.heap.FunFrames base (env :: outer)) (ff:∀b∈lN (env :: outer),H1 b=none) (hok:kY P w H1 s1.heap)
  (un:Un (lN (env :: outer)) [] H0 H1 h0 s1.heap) (Fl:jz H1 h0 s1.heap a C dd)
  (h:∀h',Un (lN (env :: outer)) [] H0 H1 h0 h'->kY P w H1 h'->jz H1 h0 h' a C dd->Q () { s1 with heap:=h' }) :
  wpAny M A (noteFrame (.ref a) env) (λ_ s'=>wpAny M A (setFlight (.ref a) none) Q E s') E s1:=by
 obtain⟨n0,na,oe,vs,he,hc,hdc,hd,z⟩:=Fl
 have hsz:1 < vs.size:=by
  rcases z with z|⟨T,oT,ts,h1,_⟩
  ·exact (L8.mp z).1
  ·exact (L8.mp h1).1
 have core:∀(hid:List Addr) (h1:Heap),a∈hid->(∀b∈hid,h0.get? b=none/\H1 b=none)->(∀b o,s1.heap.get? b=some o->b∉hid->h1.get? b=some o)->(∀b,h1.get? b=none->s1.heap.get? b=none) ->
   ∀h' T oT ts,(∀b o,h1.get? b=some o->b≠a->b∉lN (env :: outer)->h'.get? b=some o)->(∀b o,h1.get? b=some o->b∈lN (env :: outer)->∃sl,h'.get? b=some { o with slots:=sl }) ->
   h'.get? a=some (oe.mapFields (·.setIfInBounds 1 (.ref T)))->h1.get? T=none->T≠a->h'.get? T=some oT->oT.data=.fields ts->ts[3]?=some .none->Q () { s1 with heap:=h' }:=by
  intro hid h1 ha hids hkeep hnone h' T oT ts k1 k2 k3 hTn hTa hT hdT h3;have keepN:∀b o,s1.heap.get? b=some o->b∉hid->b∉lN (env :: outer)->h'.get? b=some o:=λb o e nb nf=>k1 b o (hkeep b o e nb) (λz=>nb (z▸ha)) nf;have frn:∀b∈lN (env :: outer),∀o,h0.get? b=some o->b∉hid:=λb _ o e z=>by rw [(hids b z).1] at e;cases e
  have hs:=hnone T hTn;refine h h' ⟨λb o e n hb hx=>?_,λb o e n hb hx=>?_,un.free,λb o e hx=>?_,un.tups,un.frzs,un.tbls⟩ (λb u e=>?_) ?_
  ·exact keepN b o (un.keep b o e n hb hx) (λz=>by rw [(hids b z).1] at e;cases e) hb
  ·obtain⟨s2,e2⟩:=un.slot b o e n hb hx;obtain⟨s3,e3⟩:=k2 b _ (hkeep b _ e2 (frn b hb o e)) hb;exact⟨s3,e3⟩
  ·obtain⟨o',e'⟩:=un.there b o e hx;have nb:b∉hid:=λz=>by rw [(hids b z).1] at e;cases e
   by_cases hb:b∈lN (env :: outer)
   ·obtain⟨s3,e3⟩:=k2 b o' (hkeep b o' e' nb) hb;exact⟨_,e3⟩
   ·exact⟨o',keepN b o' e' nb hb⟩
  ·refine (hok b u e).p0 (λc v hc q=>?_) (λ_ q=>q) (λ_ _ q=>q) λ_ _ _ q=>q
   have hcn:H1 c≠none:=by
    rcases hc with z|z
    ·rw [z,e];simp
    ·rw [z];simp
   exact keepN c v q (λz=>hcn (hids c z).2) (λz=>hcn (ff c z))
  ·refine⟨n0,na,_,_,k3,(Obj.cls_mapFields _ _).trans hc,(qN _ _).trans hdc,Obj.data_mapFields hd _,.inr ⟨T,oT,ts,by simp [hsz],?_,?_,hTa,hT,hdT,h3⟩⟩
   ·cases q:h0.get? T with
    | none=>rfl
    | some o=>obtain⟨o',e'⟩:=un.there T o q (by simp);rw [hs] at e';cases e'
   ·cases q:H1 T with
    | none=>rfl
    | some u=>obtain⟨ob,e'⟩:=bH.at (hok T u q);rw [hs] at e';cases e'
 rcases z with z|⟨T,oT,ts,h1,hT0,hTn,hTa,hT,hdT,h3⟩
 ·
  unfold noteFrame;simp only [hf];refine K9 (wpAny_field he hd z ?_);rw [if_neg (by decide)];exact p5 hfr FF hf he hd hsz (core [a] s1.heap (by simp) (λb hb=>by rw [LA.mp hb];exact⟨n0,na⟩) (λb o e _=>e) (λb e=>e))
 ·
  unfold noteFrame;simp only [hf];refine K9 (wpAny_field he hd h1 ?_);rw [if_pos (show (Value.ref T != Value.none)=true from by simp)];refine K9 (wpAny_field hT hdT h3 ?_);rw [if_neg (show ¬ ((Value.none == rawInt L)=true) from by simp [rawInt])];refine K9 (wpAny_setField hT hdT (L8.mp h3).1 ?_);have other:∀b,b≠T->(s1.heap.update T (Obj.mapFields (·.setIfInBounds 3 Value.none))).get? b=s1.heap.get? b:=λb hb=>Heap.get?_update_other _ _ (Ne.symm hb)
  have noRec:∀b o,s1.heap.get? b=some o->(∀vs,o.data≠.fields vs)->b≠T:=λb o hb hnf q=>by
   subst q;rw [hT] at hb;cases hb;exact hnf ts hdT
  refine p5 (s:={ s1 with heap:=s1.heap.update T (Obj.mapFields (·.setIfInBounds 3 Value.none)) }) hfr (FF.of_keeps λb o hb hnf=>⟨o,(other b (noRec b o hb hnf)).trans hb,rfl⟩) hf ((other a (Ne.symm hTa)).trans he) hd hsz ?_;refine core [a,T] _ (by simp) (λb hb=>?_) (λb o e nb=>?_) (λb e=>?_)
  ·rcases LB.mp hb with z|hb
   ·subst z;exact⟨n0,na⟩
   ·rw [LA.mp hb];exact⟨hT0,hTn⟩
  ·rwa [other b (λz=>nb (by simp [z]))]
  ·by_cases z:b=T
   ·subst z;have:=Heap.get?_update_self (Obj.mapFields (·.setIfInBounds 3 Value.none)) hT (Obj.isFreed_of_fields (Obj.data_mapFields hdT _));rw [this] at e;cases e
   ·rwa [other b z] at e
def eD (X:Cx) (pins:List (Addr×Obj)) (σ:St) (H':Hp) (a:Addr) (C:Value) (dd:Option Addr) (s':Shared):Prop:=∃(Hc:Hp) (sc:Shared),Inv X pins σ Hc sc/\s'.os=sc.os/\AllBare s'.gens/\Un (lN X.stack) [] Hc H' sc.heap s'.heap/\kY X.prog X.w H' s'.heap/\jz H' sc.heap s'.heap a C dd
abbrev jI (X:Cx) (pins:List (Addr×Obj)) (σ:St) (H':Hp) (a:Addr) (C:Value) (s':Shared):Prop:=eD X pins σ H' a C none s'
section
variable {X:Cx} {pins:List (Addr×Obj)} {σ:St} {H H':Hp} {a:Addr} {C:Value} {dd:Option Addr} {s s':Shared}
theorem eD.inv (t:eD X pins σ H' a C dd s'):Inv X pins σ H' s':=by
 obtain⟨Hc,sc,I,os,bare,un,hok,fl⟩:=t;exact I.B4 os un hok bare λb z=>absurd z (by simp)
theorem jI.made {vs:List Value} {h':Heap} {e:Addr} (I:Inv X pins σ H s) (m:Heap.MadeExcOf s.heap h' e C vs):jI X pins σ H e C { s with heap:=h' }:=by
 obtain⟨t,ht,_⟩:=m.there
 have hn:H e=none:=by
  cases q:H e with
  | none=>rfl
  | some u=>obtain⟨ob,z⟩:=bH.at (I.hok e u q);rw [m.new] at z;cases z
 exact⟨H,s,I,rfl,I.bare,Un.kept m.keeps,I.hok.kept m.keeps,m.new,hn,_,_,ht,rfl,rfl,rfl,.inl rfl⟩
theorem eD.note {Q:Unit->Shared->Prop} {E:Value->Shared->Prop} (t:eD X pins σ H' a C dd s') (hst:X.stack=X.env :: X.outer) (hf:X.env.frame=some X.env.locals)
  (h:∀s'',eD X pins σ H' a C dd s''->Q () s''):wpAny (model X.prog X.w) X.A (noteFrame (.ref a) X.env) (λ_ s=>wpAny (model X.prog X.w) X.A (setFlight (.ref a) none) Q E s) E s':=by
 have I':=t.inv;obtain⟨Hc,sc,I,os,bare,un,hok,fl⟩:=t;have hfr:=I'.ok.frames;have FF:=I'.stack;have ff:=I'.oZ;rw [hst] at hfr FF ff un;refine AN hfr hf FF ff hok un fl λh' un' hok' fl'=>h _ ⟨Hc,sc,I,os,bare,by rw [hst];exact un',hok',fl'⟩
theorem eD.leave {P:Program} {w:World} {K:Le} {mg:Str->Option Value} {base:Heap} {N:List Str} {qual:Str} {scope:Scope} {f:Addr} {cd:Value} {A:Around} {outer:List Env} {s0:Shared} {H0:Hp} {E:XK}
  (t:eD (kI (E5 P w) P w K mg base N qual scope f cd A outer s0 H0 E) pins σ H' a C dd s') (q:E C dd H'):(kI (E5 P w) P w K mg base N qual scope f cd A outer s0 H0 E).xe (.ref a) s':=by
 show wpAny (model P w) _ (leaving _ (.ref a)) _ _ s'
 unfold leaving;refine K9 (t.note rfl rfl λs'' t''=>?_);have I:=t''.inv;obtain⟨Hc,sc,Ic,os,bare,un,hok,fl⟩:=t'';refine⟨a,C,dd,H',rfl,I.os,I.bare,I.base,I.hok,fl.EO λb o e=>?_,q⟩;exact Ic.base.there b o e (by show b∉([]:List Addr);simp)
end
structure vU extends Ends3 where
 xc:Str->Prop
abbrev uS:=vU->En->Prop
def XZ (X:Cx) (B:Base) (xc:Str->Prop):Value->Shared->Prop:=λex s'=>∃(pins:List (Addr×Obj)) (a:Addr) (c:Str) (C:Value) (σ':St) (H' F':Hp) (env':En),ex=.ref a/\jI X pins σ' H' a C s'/\Rep X.K B F' H' σ' env'/\X.mg c=some C/\xc c
structure QZ (X:Cx) (st:Stmt) (t:uS):Prop where
 of ::
 run:∀(B:Base) (σ:St) (F H:Hp) (env:En) (D:vU),Rep X.K B F H σ env->t D env->wS (X.cM (XZ X B D.xc)) st (RS X B D.toEnds3) σ H
structure II (X:Cx) (st:List Stmt) (t:uS):Prop where
 of ::
 run:∀(B:Base) (σ:St) (F H:Hp) (env:En) (D:vU),Rep X.K B F H σ env->t D env->wSs (X.cM (XZ X B D.xc)) st (RS X B D.toEnds3) σ H
section
variable {X:Cx} {c e:Expr} {es:List Expr} {st:Stmt} {sts xs ys:List Stmt} {t u:bI} {p q:uS} {tc:TB} {te:TD} {ts:fY} {pos:Pos}
theorem SP.xj {E E':Value->Shared->Prop} {pins:List (Addr×Obj)} {D:Ends} {f:Flow} {s':Shared} (h:SP (X.cM E) pins D f s'):SP (X.cM E') pins D f s':=by
 cases f with
 | next=>obtain⟨σ',H',I,q⟩:=h;exact⟨σ',H',I.bG.cM _,q⟩
 | brk=>obtain⟨σ',H',I,q⟩:=h;exact⟨σ',H',I.bG.cM _,q⟩
 | cont=>obtain⟨σ',H',I,q⟩:=h;exact⟨σ',H',I.bG.cM _,q⟩
 | ret u=>obtain⟨v,σ',H',I,r,q⟩:=h;exact⟨v,σ',H',I.bG.cM _,r,q⟩
theorem Gk {E:Value->Shared->Prop} {D:Ends} {σ:St} {H:Hp} (h:wS X.sL st D σ H):wS (X.cM E) st D σ H:=λpins s I =>
 LG (h pins s (I.bG.cM _)) (λ_ _ q=>SP.xj q) λ_ _ z=>False.elim z
theorem DM {E:Value->Shared->Prop} {D:Ends} {σ:St} {H:Hp} (h:wSs X.sL sts D σ H):wSs (X.cM E) sts D σ H:=λpins s I =>
 LG (h pins s (I.bG.cM _)) (λ_ _ q=>SP.xj q) λ_ _ z=>False.elim z
theorem CG {E:Value->Shared->Prop} {Q:Bool->Hp->Prop} {σ:St} {H:Hp} (h:wT X.sL c σ H Q):wT (X.cM E) c σ H Q:=λpins s I =>
 LG (h pins s (I.bG.cM _)) (λ_ _ ⟨H',I',q⟩=>⟨H',I'.bG.cM _,q⟩) λ_ _ z=>False.elim z
theorem GW {E:Value->Shared->Prop} {Q:VK} {σ:St} {H:Hp} (h:wE X.sL e σ H Q):wE (X.cM E) e σ H Q:=λpins s I =>
 LG (h pins s (I.bG.cM _)) (λ_ _ ⟨v,H',I',r,q⟩=>⟨v,H',I'.bG.cM _,r,q⟩) λ_ _ z=>False.elim z
theorem A2 {E:Value->Shared->Prop} {Q:List V->Hp->Prop} {σ:St} {H:Hp} (h:wA X.sL es σ H Q):wA (X.cM E) es σ H Q:=λpos pins s I =>
 LG (h pos pins s (I.bG.cM _)) (λ_ _ ⟨v,H',I',r,q⟩=>⟨v,H',I'.bG.cM _,r,q⟩) λ_ _ z=>False.elim z
def wZ (t:bI):uS:=λD env=>t D.toEnds3 env
theorem mY (h:QS X.sL st t):QZ X st (wZ t):=⟨λB σ F H env D r hq=>Gk (h B σ F H env D.toEnds3 r hq)⟩
theorem Hm (h:o7 X.sL sts t):II X sts (wZ t):=⟨λB σ F H env D r hq=>DM (h B σ F H env D.toEnds3 r hq)⟩
def l6 (t u:uS):uS:=λD env=>t { D with nx:=u D } env
theorem tQ (h:QZ X st p):II X [st] p:=⟨λB σ F H env D rp hq=>nC (tN CB) (h.run B σ F H env D rp hq)⟩
def Hs (c:TB) (t u:uS):uS:=λD env=>c env λk=>if k=true then t D env else u D env
theorem HZ (hc:QT X.sL c tc) (ha:II X xs p) (hb:II X ys q):QZ X (.If c xs ys pos) (Hs tc p q):=by
 refine⟨λB σ F H env D rp h=>ei (Ba sZ fi fi) ?_⟩;refine iQ (CG (hc B σ F H env _ rp h)) λk H1 ⟨F1,r1,s1,q1⟩=>?_
 cases k with
 | true=>exact ha.run B σ F1 H1 env D r1 q1
 | false=>exact hb.run B σ F1 H1 env D r1 q1
theorem DV {K:Le} {h:Heap} {C:Addr} {bmB:List Value} {newId:String} (X:K.In h) (q:PySem.W.excIn K C bmB newId=true) :
  ∃bm N nm qn bs hdct sn sub ab col dd k0 k1 k2 k3 k5 mN,h.get? C=some (excClassObj nm qn C N bs bm hdct sn sub ab col dd k0 k1 k2 k3 k5 newId)/\h.Ns N mN/\mN "__init__" = none/\OwnTail h bmB bm:=by
 unfold PySem.W.excIn at q
 split at q
 ·rename_i dd cd sl ho
  split at q
  ·rename_i C' bm k0 k1 k2 k3 n k5 hm hs;simp only [Bool.and_eq_true,beq_iff_eq,Bool.not_eq_true'] at q;obtain⟨⟨⟨⟨⟨rfl,rfl⟩,hdel⟩,ht⟩,hok⟩,hni⟩:=q;obtain⟨nm,bs,mro,ns,qn,hd,sn,sub,ab,col,del⟩:=cd;dsimp only at hm hdel hok hni;subst hm hdel
   have hsl:sl=#[k0,k1,k2,k3,some (.builtin n),k5]:=by
    obtain⟨l⟩:=sl;simp only at hs;rw [hs]
   subst hsl;exact⟨bm,ns,nm,qn,bs,hd,sn,sub,ab,col,dd,k0,k1,k2,k3,k5,_,X _ _ ho,.of_isNs (PySem.W.isNs_of_in X hok),PySem.W.nsMap_none_of_in X hok hni,PySem.W.tail_of_in X ht⟩
  ·cases q
 ·cases q
abbrev ES (K:Le) (C:Addr):Bool:=PySem.W.excIn K C [.type "ValueError",.type "Exception",.type "BaseException",.type "object"] "ValueError.__new__"
def lE (cx:Str) (ts:fY):uS:=λD env=>ts env λxs=>xs.length<=sizeLine/\D.xc cx
theorem Ao {cx:Str} {C:Addr} {np cpos:Pos} (hC:X.mg cx=some (.ref C)) (hq:ES X.K C=true) (hc:X.calm=true) (ha:QA X.sL [e] ts) (hg:Gl X cx:=by rfl) (hdb:(cx == ("__debug__" : Str))=false:=by decide)
  (he:starEach [e] X.env=(false,eval e X.env) :: starEach [] X.env:=by exact aZ rfl) (hplain:(backTo cpos (starEach ([]:List Expr) X.env)).any (·.1)=false:=by rfl) :
  QZ X (.Raise (some (.Call (.Name cx np) [e] [] cpos)) none pos) (lE cx ts):=by
 refine⟨λB σ F H env D rp h pins s I=>?_⟩;have I0:=I.bG;obtain⟨bm,N,nm,qn,bs,hdct,sn,sub,ab,col,dd,k0,k1,k2,k3,k5,mN,hCo,hN,hni,T⟩:=DV I0.ok.mod.kin hq
 refine wpAny_Raise_call_subT (C:=C) (nm:=nm) (q:=qn) (N:=N) (bs:=bs) (bm:=bm) (hdct:=hdct) (sn:=sn) (sub:=sub) (ab:=ab) (col:=col) (dd:=dd) (k0:=k0) (k1:=k1) (k2:=k2) (k3:=k3) (k5:=k5)
  PySem.F.excBase_ValueError (mN:=mN) (T.hasType (by decide +kernel)) (I0.ok.hd hc) (by rw [he];show (false || (backTo cpos (starEach [] X.env)).any (·.1))=false;rw [hplain];rfl) hni (j4 I hg hC ⟨rfl,?_⟩ hdb)
 have hw:=A2 (E:=XZ X B D.xc) (ha B σ F H env _ rp h) cpos pins s I;rw [he] at hw ⊢;refine Calls.evalArgs_plain (LG hw (λus s2 ⟨vs,H2,I2,rv,F2,ds,r2,s2',d2,hl,q2⟩=>⟨rfl,?_,?_,?_,?_,λh' e' m=>?_⟩) λ_ _ y=>y)
 ·show us.length<=sizeLine
  rw [<- rv.length,<- d2.length];exact hl
 ·exact I2.bk _ _ hCo
 ·exact hN.keeps I2.bk
 ·exact T.keeps I2.bk
 ·exact⟨pins,e',cx,.ref C,σ,H2,F2,env,rfl,jI.made I2.bG m,r2,hC,q2⟩
end
abbrev xC:=List D->(D->Prop)->(Str->Prop)->Prop
def Kc (K:Le) (mg:Str->Option Value) (f:xC):Sp:=λvs H Q E=>∃(F:Hp) (ds:List D) (P:D->Prop) (R:Str->Prop),ao F H/\ak K F ds vs/\f ds P R /\
 (∀(d:D) (v:V) (F' H':Hp),ao F F'->ao H H'->ao F' H'->(∀p,H p≠none->F p=none->F' p=none)->Den K F' d v->P d->Q v H') /\
 ∀(c:Str) (C:Value) (F' H':Hp),ao F F'->ao H H'->ao F' H'->(∀p,H p≠none->F p=none->F' p=none)->mg c=some C->R c->E C none H'
structure fG (P:Program) (w:World) (K:Le) (mg:Str->Option Value) (base:Heap) (k:Nat) (x:Str) (f:xC):Prop where
 ex:∃(fa:Addr) (fd:FuncData) (ps:List Str),pU P w K mg base (E5 P w) k fa fd ps (Kc K mg f)/\mg x=some (.ref fa)/\PySem.W.keepIn K (.ref fa)=true/\Binds K fd ps []
abbrev TX:=En->(D->Prop)->(Str->Prop)->Prop
def XX (X:Cx) (pins:List (Addr×Obj)) (σ:St) (B:Base) (env:En) (R:Str->Prop):Value->Shared->Prop:=λex s'=>∃(a:Addr) (c:Str) (C:Value) (H' F':Hp),ex=.ref a/\jI X pins σ H' a C s'/\Rep X.K B F' H' σ env/\X.mg c=some C/\R c
structure QX (X:Cx) (e:Expr) (t:TX):Prop where
 of ::
 run:∀(B:Base) (σ:St) (F H:Hp) (env:En) (Q:D->Prop) (R:Str->Prop),Rep X.K B F H σ env->t env Q R->∀(pins:List (Addr×Obj)) (s:Shared),Inv X pins σ H s ->
  wpAny (model X.prog X.w) X.A (eval e X.env) (EP X pins σ (RV X B σ env F Q)) (XX X pins σ B env R) s
def oa (f:xC) (ts:fY):TX:=λenv Q R=>ts env λxs=>f xs Q R
section
variable {X:Cx} {e:Expr} {es:List Expr} {ts:fY} {tx:TX} {p pos:Pos} {x:Str} {k:Nat} {f:xC}
theorem C4 (h:fG X.prog X.w X.K X.mg X.base k x f) (hr:dG k X.A) (ha:QA X.sL (e :: es) ts) (hg:Gl X x:=by rfl) (hdb:(x == ("__debug__" : Str))=false:=by decide)
  (he:starEach (e :: es) X.env=(false,eval e X.env) :: starEach es X.env:=by exact aZ rfl) (hpl:(backTo pos (starEach es X.env)).any (·.1)=false:=by rfl):QX X (.Call (.Name x p) (e :: es) [] pos) (oa f ts):=by
 refine⟨λB σ F H env Q R rp hq pins s I=>?_⟩;obtain⟨fa,fd,ps,G,hm,hk,hb⟩:=h.ex;refine wpAny_Call_Name_kw (j4 I hg hm ?_ hdb);have hw:=A2 (E:=XX X pins σ B env R) (ha B σ F H env _ rp hq) pos pins s (I.cM _);refine PySem.W.callWith_K (h₀:=X.base) I.ok.mod.kin hk (bP hw λus s1 ⟨vs,H1,I1,r,F1,ds,r1,s1',d1,hf⟩=>⟨I1.BI,?_⟩) he hpl;have I1':=I1.bG
 have hsp:Kc X.K X.mg f (vs ++ []) H1 (RV X B σ env F Q) (λC dd H'=>dd=none/\∃(c:Str) (F':Hp),Rep X.K B F' H' σ env/\X.mg c=some C/\R c):=by
  rw [L4];exact⟨F1,ds,Q,R,r1.fh,d1,hf,λd v F' H' a b c n hd q=>⟨F',d,r1.ext a c b n,s1'.trans a,hd,q⟩,λc C F' H' a b c' n hm hx=>⟨rfl,c,F',r1.ext a c' b n,hm,hx⟩⟩
 have hl:(us ++ []).length=ps.length:=by
  have:=G.len _ _ _ _ hsp;rw [L4] at this ⊢;rw [<- r.length];exact this
 refine wpAny_call (codeAny_mono (G.run X.A X.stack s1 H1 ⟨us,[]⟩ (us ++ []) (vs ++ []) _ _ hr I1'.di (hb s1 us I1'.BI hl) (by simpa using r) hsp) λrs s' hq'=>?_)
 cases rs with
 | error ex =>
  obtain⟨a,C,dd,H',rfl,os,bare,un,hok,fl,rfl,c,F',r',hm',hx⟩:=hq'
  exact⟨a,c,C,H',F',rfl,⟨H1,s1,I1',os,bare,un,hok,fl⟩,r',hm',hx⟩
 | ok fl =>
  cases fl with
  | ret u=>exact I1'.after hq'
  | next=>exact False.elim hq'
  | brk=>exact False.elim hq'
  | cont=>exact False.elim hq'
theorem QX.w (h:QX X e tx) {B:Base} {σ:St} {F H:Hp} {env:En} {Q:D->Prop} {R:Str->Prop} (rp:Rep X.K B F H σ env) (hq:tx env Q R):wE (X.cM (XZ X B R)) e σ H (RV X B σ env F Q):=λpins s I =>
 LG (h.run B σ F H env Q R rp hq pins s I.bG) (λ_ _ ⟨v,H',I',r,q⟩=>⟨v,H',I'.cM _,r,q⟩) λex s' ⟨a,c,C,H',F',e,t,r,m,x⟩=>⟨pins,a,c,C,σ,H',F',env,e,t,r,m,x⟩
def xy (tx:TX):uS:=λD env=>tx env D.rt D.xc
theorem Br (h:QX X e tx):QZ X (.Return (some e) pos) (xy tx):=by
 refine⟨λB σ F H env D rp hq=>ei (Cy bO) ?_⟩;exact aC (h.w rp hq) λv H' ⟨F',d,r',s',hd,q⟩=>⟨F',d,r'.bare,hd,q⟩
end
section
variable {X:Cx} {pins:List (Addr×Obj)} {σ:St} {H H':Hp} {a:Addr} {s s':Shared}
theorem Cw.ext {a C:Addr} {h:Heap} {H:Hp} {h0:Heap} (f:Cw H h0 h a (.ref C)):excAt a C h:=by
 obtain⟨_,_,oe,vs,he,hc,hdc,hdt,_⟩:=f;exact⟨oe,vs,he,hc,hdc,hdt⟩
end
section
variable {X:Cx} {pins:List (Addr×Obj)} {σ:St} {H H':Hp} {a C:Addr} {s s':Shared}
theorem jI.Fy (t:jI X pins σ H' a (.ref C) s'):H' a=none/\Inv X pins σ (upd H' a (.ext (excAt a C))) s':=by
 obtain⟨Hc,sc,I,os,bare,un,hok,fl⟩:=t;have x:=Cw.ext fl;obtain⟨n0,na,_⟩:=fl;refine⟨na,I.B4 os ⟨un.keep,un.slot,λb o e n hx=>?_,un.there,λb xs e=>?_,λb o u e=>?_,λb ps e=>?_⟩ (λb u e=>?_) bare λb z=>absurd z (by simp)⟩
 ·have:b≠a:=λz=>by subst z;rw [n0] at e;cases e
  rw [az this];exact un.free b o e n hx
 ·have q:=un.tups b xs e;rw [az (bL q na)];exact q
 ·have q:=un.frzs b o u e;rw [az (bL q na)];exact q
 ·have q:=un.tbls b ps e;rw [az (bL q na)];exact q
 ·by_cases z:b=a
  ·subst z;rw [av] at e;cases e;obtain⟨o,vs,h1,h2⟩:=x;exact⟨⟨o,vs,h1,h2⟩,⟨o,h1⟩,λh h' ⟨o,vs,h1,h2⟩ k=>⟨o,vs,k o h1,h2⟩⟩
  ·rw [az z] at e;exact (hok b u e).p0 (λ_ _ _ q=>q) (λc q=>by rw [az (bL q na)];exact q) (λc xs q=>by rw [az (bL q na)];exact q) λc o xs q=>by rw [az (bL q na)];exact q
theorem eD.land {M:Model} {A:Around} {C:Value} {dd:Option Addr} {Q:Unit->Shared->Prop} {E:Value->Shared->Prop} (t:eD X pins σ H' a C dd s') (h:∀s'',eD X pins σ H' a C dd s''->Q () s''):wpAny M A (setFlight (.ref a) none) Q E s':=by
 obtain⟨Hc,sc,I,os,bare,un,hok,n0,na,oe,vs,he,hc,hdc,hd,z⟩:=t;rcases z with z|⟨T,oT,ts,h1,hT0,hTn,hTa,hT,hdT,h3⟩
 ·unfold setFlight;refine K9 (wpAny_field he hd z ?_);rw [if_neg (by decide)];exact Lf (h _ ⟨Hc,sc,I,os,bare,un,hok,n0,na,oe,vs,he,hc,hdc,hd,.inl z⟩)
 ·refine wpAny_setFlight_none he hd h1 hT hdT (L8.mp h3).1 (h _ ?_);have other:∀b,b≠T->(s'.heap.update T (Obj.mapFields (·.setIfInBounds 3 Value.none))).get? b=s'.heap.get? b:=λb hb=>Heap.get?_update_other _ _ (Ne.symm hb);have old:∀b o,sc.heap.get? b=some o->b≠T:=λb o e z=>by subst z;rw [hT0] at e;cases e
  have G5:∀b u,H' b=some u->b≠T:=λb u e z=>by subst z;rw [hTn] at e;cases e
  refine⟨Hc,sc,I,os,bare,⟨λb o e n hb hx=>(other b (old b o e)).trans (un.keep b o e n hb hx),λb o e n hb hx=>?_,un.free,λb o e hx=>?_,un.tups,un.frzs,un.tbls⟩,λb u e=>?_,n0,na,oe,vs,(other a (Ne.symm hTa)).trans he,hc,hdc,hd,.inr ⟨T,_,_,h1,hT0,hTn,hTa,Heap.get?_update_self _ hT (Obj.isFreed_of_fields (Obj.data_mapFields hdT _)),Obj.data_mapFields hdT _,?_⟩⟩
  ·obtain⟨sl,q⟩:=un.slot b o e n hb hx;exact⟨sl,(other b (old b o e)).trans q⟩
  ·obtain⟨o',q⟩:=un.there b o e hx;exact⟨o',(other b (old b o e)).trans q⟩
  ·refine (hok b u e).p0 (λc v hc q=>?_) (λ_ q=>q) (λ_ _ q=>q) λ_ _ _ q=>q;refine (other c ?_).trans q;rcases hc with z|z
   ·subst z;exact G5 c u e
   ·exact G5 c _ z
  ·have:=(L8.mp h3).1;simp [Array.getElem?_setIfInBounds,this]
end
abbrev Cx.hand (X:Cx) (a:Addr):Cx:={ X with A:=X.A.mark (some (.ref a)),calm:=false,xe:=λ_ _=>False }
theorem Inv.hand {X:Cx} {pins:List (Addr×Obj)} {σ:St} {H:Hp} {s:Shared} (I:Inv X pins σ H s) (a:Addr):Inv (Cx.hand X a) pins σ H s :=
 ⟨⟨I.ok.mod,I.ok.kind,I.ok.glob,I.ok.blt,I.ok.above,I.ok.inj,I.ok.has,I.ok.cab,(λz=>by cases z),I.ok.frames,I.ok.stk,I.ok.exf,I.ok.bs,I.ok.bsz,I.ok.noex,I.ok.exfs,I.ok.lU,I.ok.frf⟩,I.os,I.bare,I.base,I.loc,I.cell,I.free,I.freeC,I.pin,I.hok,I.len⟩
theorem Inv.GK {X:Cx} {a:Addr} {pins:List (Addr×Obj)} {σ:St} {H:Hp} {s:Shared} (ok:X.Ok) (I:Inv (Cx.hand X a) pins σ H s):Inv X pins σ H s :=
 ⟨ok,I.os,I.bare,I.base,I.loc,I.cell,I.free,I.freeC,I.pin,I.hok,I.len⟩
theorem DH {K:Le} {C:Addr} (h:PySem.W.hasDictIn K C=true):∃c d cd sl,K.lookup C=some ⟨c,d,.cls cd,sl⟩:=by
 obtain⟨_,q,_⟩:=PySem.W.any_some h;unfold PySem.W.clsIn at q
 split at q
 ·exact⟨_,_,_,_,‹_›⟩
 ·cases q
section
variable {X:Cx} {a b e:Expr} {ta tb:TD} {ts:fY} {pos:Pos}
theorem zE {cx:Str} {C:Addr} {np cpos:Pos} (ac:PySem.W.nsIn X.K mainGlobals cx=some (some (.ref C))) (hq:ES X.K C=true) (ha:QA X.sL [e] ts) (hc:X.calm=true:=by rfl) (hg:Gl X cx:=by rfl) (hdb:(cx == ("__debug__" : Str))=false:=by decide)
  (he:starEach [e] X.env=(false,eval e X.env) :: starEach [] X.env:=by exact aZ rfl) (hplain:(backTo cpos (starEach ([]:List Expr) X.env)).any (·.1)=false:=by rfl) :
  QZ X (.Raise (some (.Call (.Name cx np) [e] [] cpos)) none pos) (lE cx ts) :=
 ⟨λB σ F H env D rp h pins s I=>(Ao (X:=X) (pos:=pos) (np:=np) (cpos:=cpos) (Mi I.ok.mod.kin I.ok.mod.glob ac) hq hc ha hg hdb he hplain).run B σ F H env D rp h pins s I⟩
end
section
variable {X:Cx} {e:Expr} {ts:fY} {p pos:Pos}
def lP (ds:List D) (Q:List D->Prop):Prop:=match ds with
 | [.lst xs]=>Q xs
 | [.tup xs]=>Q xs
 | _=>False
theorem sA {xs:List D} {Q:List D->Prop}:lP [.lst xs] Q=Q xs:=rfl
theorem rX {xs:List D} {Q:List D->Prop}:lP [.tup xs] Q=Q xs:=rfl
def kd (ts:fY):fY:=λenv Q=>ts env λds=>lP ds Q
theorem zl (hm:X.mg "list" = none) (ha:QA X [e] ts) (hg:Gl X "list":=by rfl) (he:starEach [e] X.env=(false,eval e X.env) :: starEach [] X.env:=by exact aZ rfl) (hpl:(backTo pos (starEach ([]:List Expr) X.env)).any (·.1)=false:=by rfl) :
  QF X (.Call (.Name "list" p) [e] [] pos) (kd ts):=by
 refine⟨λB σ F H env Q rp h=>dA (kC mD hg hm lG jh (by decide) (by decide) he hpl) ?_⟩;refine cO (ha B σ F H env _ rp h) λvs H1 hq0=>?_;obtain⟨F1,ds,r1,s1,d1,q1⟩:=hq0
 replace q1:lP ds Q:=q1
 unfold lP at q1
 split at q1
 ·simp only [ak,Den] at d1;obtain⟨v,r,rfl,⟨p,ys,rfl,q,r⟩,rfl⟩:=d1;exact⟨p,ys,rfl,.inl (r1.fh.seq q),λw hw=>⟨F1,H1,w,ys,_,rfl,hw,rfl,r1,s1,r,q1⟩⟩
 ·simp only [ak,Den] at d1;obtain⟨v,r,rfl,⟨p,ys,rfl,q,r⟩,rfl⟩:=d1;exact⟨p,ys,rfl,.inr (ao.bF r1.fh q),λw hw=>⟨F1,H1,w,ys,_,rfl,hw,rfl,r1,s1,r,q1⟩⟩
 ·exact q1.elim
end
section
variable {X:Cx} {a b c e:Expr} {ta tb tc:TD} {ts:fY} {pos:Pos}
def wK (n:Int) (x:Str):Str:=if n < 1 then Str.empty else if (n == 1 || x.length == 0)=true then x else ⟨(List.replicate n.toNat x.cps).foldl (· ++ ·) #[]⟩
def Jo:R2:=λx y H Q=>∃z n,x=.str z/\y=.int n/\(-(2 ^ 62)<=n/\n < 2 ^ 62)/\z.length * n.toNat<=1000000/\(wK n z).length<=sizeLine/\Q (.str (wK n z)) H
theorem G4:jq X (binaryOp .Mult) Jo:=by
 intro pins s σ H x y v u Q I rx ry h;obtain⟨z,n,rfl,rfl,⟨hn1,hn2⟩,hz,hl,q⟩:=h;obtain⟨t,rfl⟩:=rx;obtain⟨t',rfl⟩:=ry;refine P.mul_str ?_ (λh1 _=>?_) (λ_ _=>?_) ?_
 ·have h1:¬ n < -(2 ^ 63:Int):=by omega
  have h2:¬ n≥(2 ^ 63:Int):=by omega
  rw [decide_eq_false h1,decide_eq_false h2];rfl
 ·have hp:0 < n:=by omega
  have:(z.length:Int) * n<=2 ^ 63 - 1:=by
   have e:((z.length * n.toNat:Nat):Int)=(z.length:Int) * n:=by push_cast;rw [Mg (by omega)]
   omega
  exact Int.not_lt.mpr (Int.le_ediv_of_mul_le hp this)
 ·simp only [Builtin.Str.tooLong,sizeLine_eq,decide_eq_false_iff_not];omega
 ·unfold wK at hl q
  by_cases c1:n < 1
  ·rw [if_pos c1] at hl q ⊢;exact⟨by decide,⟨.str _,H,I.tok _,⟨_,rfl⟩,q⟩⟩
  ·rw [if_neg c1] at hl q ⊢
   by_cases c2:(n == 1 || z.length == 0)=true
   ·rw [if_pos c2] at hl q ⊢;exact⟨.str _,H,I,⟨_,rfl⟩,q⟩
   ·rw [if_neg c2] at hl q ⊢;exact⟨hl,⟨.str _,H,I.tok _,⟨_,rfl⟩,q⟩⟩
def zj (x y:D) (Q:D->Prop):Prop:=match x,y with
 | .str z,.int n=>(-(2 ^ 62)<=n/\n < 2 ^ 62)/\z.length * n.toNat<=1000000/\(wK n z).length<=sizeLine/\Q (.str (wK n z))
 | _,_=>False
theorem G3:wO X Jo zj:=by
 intro B σ F H env Q d d' x y Z rp h1 h2 hz hf;unfold zj at hf
 split at hf
 ·rename_i z n;simp only [Den] at h1 h2;subst h1 h2;obtain⟨g1,g2,g3,q⟩:=hf;exact⟨z,n,rfl,rfl,g1,g2,g3,hz _ H F _ rp (ao.refl _) kA q⟩
 ·exact hf.elim
theorem EA (ha:QE X a ta) (hb:QE X b tb):QE X (.BinOp a .Mult b pos) (aG zj ta tb):=xl G4 G3 ha hb
theorem K5 {x:Str} {n:Int} {t:Tok} {p:Pos} (ac:PySem.W.nsIn X.K mainGlobals x=some (some (.int n t))) (hg:Gl X x:=by rfl) (hdb:(x == ("__debug__" : Str))=false:=by decide):QE X (.Name x p) (cC (.int n)):=by
 refine⟨λB σ F H env Q rp hq pins s I=>?_⟩;refine j4 I hg (Mi I.ok.mod.kin I.ok.mod.glob ac) ?_ hdb;exact⟨.int n,H,I,⟨t,rfl⟩,F,.int n,rp,ao.refl _,bz,hq⟩
end
section
variable {X:Cx} {p pos:Pos}
def cH (i:Nat):TD:=λenv Q=>∃xs,env[i]?=some (some (.own xs))/\Q (.int xs.length)
theorem c9 {x:Str} {px:Pos} (i:Nat) (hm:X.mg "len" = none) (hg:Gl X "len":=by rfl) (hN:X.N[i]?=some x:=by rfl) (hv:ua X.env.scope x:=by first | exact Or.inl rfl | exact Or.inr (Or.inl rfl) | exact Or.inr (Or.inr rfl)) (hd:(x == ("__debug__" : Str))=false:=by decide)
  (hcd:(x == ("__classdict__" : Str))=false:=by decide) (he:starEach [.Name x px] X.env=(false,eval (.Name x px) X.env) :: starEach [] X.env:=by exact aZ rfl) (hpl:(backTo pos (starEach ([]:List Expr) X.env)).any (·.1)=false:=by rfl) :
  QE X (.Call (.Name "len" p) [.Name x px] [] pos) (cH i):=by
 refine⟨λB σ F H env Q rp h=>dA (vI mV hg hm rR (eG (dU hN hv hd hcd) gJ he) (by decide) (by decide) he hpl) ?_⟩;obtain⟨xs,hx,q⟩:=h;obtain⟨p,vs,h1,h2,h3,h4,h5⟩:=rp.ov i xs hx;refine⟨.ref p,h1,p,vs,rfl,.inl (fZ.of h2),F,.int xs.length,rp,ao.refl _,?_,q⟩;rw [h5.length];exact bz
end
section
variable {X:Cx} {N':List Str} {ix:List Nat} {scope:Scope} {elt a:Expr} {ifs:List Expr} {x:Str} {px py pos spos p pos2:Pos} {tt:TB} {te ta:TD} {ts:fY}
theorem uG {y:Str} (i:Nat) (hNd:X.N.Nodup) (hc:X.calm=true) (O:bK X N' 1 ix scope) (hN:N'.Nodup) (h0:N'[0]?=some x) (hx:(relabel scope X.env).names.lookup x=some .local) (hgl:Gl X "range") (hm:X.mg "range" = none) (ha:QA X [a] ts)
  (ht:∀C s H fp pins,pN (aJ X N' scope C s H fp pins) ifs tt) (he:∀C s H fp pins,QE (aJ X N' scope C s H fp pins) elt te) (hy:X.N[i]?=some y:=by rfl) (hl:Loc X.env.scope y:=by first|exact Or.inl rfl|exact Or.inr rfl)
  (hsw:swapsWith (.ListComp elt [⟨.Name x px,.Call (.Name "range" p) [a] [] pos2,ifs,0⟩] scope pos) (some (.Name y py)) spos.line X.env=pure true:=by rfl) (hf:X.fn y=true\/X.env.scope.names.lookup y=some .local:=by first | exact .inl rfl | exact .inr rfl)
  (hst:starEach [a] X.env=[(false,eval a X.env)]:=by rfl) (hs:∀x,LX (.Call (.Name "range" p) [a] [] pos2) X.env x=pure x:=by intro _;rfl) :
  QS X (.Assign [.Name y py] (.ListComp elt [⟨.Name x px,.Call (.Name "range" p) [a] [] pos2,ifs,0⟩] scope pos) spos) (bJ i (cX (fv hU ix ts tt te))):=by
 refine⟨λB σ F H env D rp h pins s I=>?_⟩;refine pB hc (j3 hgl hm jh hst) O hNd hy hl hsw hf hs pins s σ H _ I ?_;refine cO (ha B σ F H env _ rp h) λvs H1 hq0=>?_;obtain⟨F1,ds,r1,s1,d1,q1⟩:=hq0
 (try dsimp only at q1);unfold hU at q1
 split at q1
 ·simp only [ak,Den] at d1;obtain⟨v,r,rfl,rfl,rfl⟩:=d1;refine⟨_,rfl,q1.1.1,q1.1.2,?_⟩;intro a' C s fp pins ha';obtain⟨W,w0,step⟩:=kc (X:=X) (px:=px) hN h0 hx ht he s1 r1 jt q1.2 a' C s fp pins ha';refine⟨W,w0,λi' m σ' H' w=>?_⟩;rcases step i' m σ' H' w with ⟨st,z⟩|z
  ·refine .inl ⟨st,?_⟩;obtain⟨F',d,r',s',hd,q'⟩:=RF.rv (Q:=λx=>D.nx (env.set i (some (.d x)))) z;refine⟨F',_,r'.set hd ?_,q'⟩;rw [I.len];exact (La.mp hy).1
  ·exact .inr z
 ·exact q1.elim
end
open PySem
section
variable {Q:D->Prop} {i j:Int} {xs ys:List D} {z z':Str} {C:Int->Int->Prop} {g:Int->Int->D} {k:Bool}
theorem oi:wY C g (.int i) (.int j) Q=(C i j/\Q (g i j)):=rfl
theorem iZ:fe (.int i) (.int j) Q=Q (.int (i + j)):=rfl
theorem j8:fe (.lst xs) (.lst ys) Q=(xs.length + ys.length<=sizeLine/\Q (.lst (xs ++ ys))):=rfl
theorem j7:fe (.tup xs) (.tup ys) Q=(xs.length + ys.length<=sizeLine/\Q (.tup (xs ++ ys))):=rfl
theorem g8:fe (.str z) (.str z') Q=(z.length + z'.length<=sizeLine/\Q (.str (z ++ z'))):=rfl
theorem m7:zU (.int i) Q=Q (.int (-i)):=rfl
theorem tU:jm (.int i) (.int j) Q=Q (.bl (decide (i=j))):=by
 unfold jm gF;simp only [dep,aV,LZ,and_self,true_and];rw [Bool.beq_eq_decide_eq]
theorem jv:nO (.int i) (.int j) Q=Q (.bl (!decide (i=j))):=by
 unfold nO gF;simp only [dep,aV,LZ,and_self,true_and];rw [Bool.beq_eq_decide_eq]
theorem xW:jm (.str z) (.str z') Q=Q (.bl (z == z')):=by
 unfold jm gF;simp only [dep,aV,LZ,and_self,true_and]
theorem xJ {k':Bool}:jm (.bl k) (.bl k') Q=Q (.bl (k == k')):=by
 unfold jm gF;simp only [dep,aV,LZ,and_self,true_and]
theorem xp:AO [.int i] Q=Q (.int i.natAbs):=by
 show Q _=Q _
 congr 2
 split <;> omega
theorem jD:fB [.lst xs] Q=Q (.int xs.length):=rfl
theorem gN:fB [.tup xs] Q=Q (.int xs.length):=rfl
theorem nj:fB [.str z] Q=(z.length<=sizeLine/\Q (.int z.length)):=rfl
theorem sS:BR [.int i,.int j] Q=Q (.int (max i j)):=by
 show Q _=Q _
 congr 2
 split <;> omega
theorem uN:BM [.int i,.int j] Q=Q (.int (min i j)):=by
 show Q _=Q _
 congr 2
 split <;> omega
theorem nB:tF [.int i] Q=Q (.int i):=rfl
theorem m5:tF [.bl k] Q=Q (.int (if k then 1 else 0)):=rfl
theorem kh:pS [.lst xs] Q=Q (.lst xs):=rfl
theorem kz:pS [.tup xs] Q=Q (.lst xs):=rfl
theorem fj:eJ [.lst xs] Q=Q (.tup xs):=rfl
theorem iA:eJ [.tup xs] Q=Q (.tup xs):=rfl
theorem pW:fw (.lst xs)=some xs:=rfl
theorem pC:fw (.tup xs)=some xs:=rfl
theorem CD {lo hi:Option Int}:Ku (.lst xs) lo hi Q=Q (.lst (cutD xs lo hi)):=rfl
theorem xY {R:Int->Nat->Prop}:hU [.int j] R=((-(2 ^ 62)<=j/\j < 2 ^ 62)/\R 0 j.toNat):=rfl
theorem xO {R:Int->Nat->Prop}:Du [.int i,.int j] R=((-(2 ^ 62)<=i/\i < 2 ^ 62/\-(2 ^ 62)<=j/\j < 2 ^ 62)/\R i (j - i).toNat):=rfl
end
def yw (xs:List D) (R:D->List D->Prop):Prop:=match xs with|x :: r=>R x r|_=>False
theorem qA {x:D} {r:List D} {R:D->List D->Prop}:yw (x :: r) R=R x r:=rfl
theorem qD (g:o9) (gs:uz) (xs:List D) (env:En) (Q:En->Prop):cQ g gs xs env Q=yw xs λx r=>g x env λenv'=>gs r env' Q:=by
 unfold cQ yw;apply propext
 constructor
 ·rintro⟨x,y,rfl,h⟩;exact h
 ·intro h;split at h
  ·exact⟨_,_,rfl,h⟩
  ·exact h.elim
theorem cm {g:o9} {tb:bI} {Z:Ends3} {xs:List D} (I:Nat->En->Prop)
  (step:∀(i:Nat) (x:D) (env:En) (N:En->Prop),xs[i]?=some x->I i env->(∀e,I (i + 1) e->N e)->g x env λe=>tb { Z with nx:=N,ct:=N,bk:=Z.nx } e)
  (done:∀env,I xs.length env->Z.nx env) {env:En} (h0:I 0 env):turns g tb Z xs env:=by
 have go:∀(n k:Nat) (env:En),k + n=xs.length->I k env->turns g tb Z (xs.drop k) env:=by
  intro n
  induction n with
  | zero =>
   intro k env hk h;rw [L9 (by omega)]
   exact done env (by rw [<- hk];exact h)
  | succ n ih =>
   intro k env hk h;have hx:xs[k]?=some (xs[k]'(by omega)):=by simp
   rw [drop_cons hx];exact step k _ env _ hx h λe he=>ih (k + 1) e (by omega) he
 simpa using go xs.length 0 env (by omega) h0
theorem nG {te:TD} {di:En} {Q:List D->Prop} (f:D->D):∀(xs acc:List D),(∀x∈xs,∀N:D->Prop,N (f x)->te (di.set 0 (some (.d x))) N)->acc.length + xs.length<=sizeLine->Q (acc ++ xs.map f)->comps cg te di Q xs acc
 | [],acc,_,_,q=>by simpa [comps] using q
 | x :: xs,acc,h,hl,q=>by
  simp only [comps,cg,if_true];refine h x Lz _ ⟨by simp at hl;omega,nG f xs _ (λy hy=>h y (Ln _ hy)) (by simp at hl ⊢;omega) (by simpa using q)⟩
theorem nH {te:TD} {di:En} {Q:List D->Prop} (R:D->D->Prop):∀(xs acc:List D),(∀x∈xs,∀N:D->Prop,(∀y,R x y->N y)->te (di.set 0 (some (.d x))) N)->acc.length + xs.length<=sizeLine->(∀ys,ys.length=xs.length->(∀(i:Nat) (x y:D),xs[i]?=some x->ys[i]?=some y->R x y)->Q (acc ++ ys))->comps cg te di Q xs acc
 | [],acc,_,_,q=>by simpa [comps] using q [] rfl (by simp)
 | x :: xs,acc,h,hl,q=>by
  simp only [comps,cg,if_true];refine h x Lz _ λy hy=>⟨by simp at hl;omega,nH R xs _ (λy hy=>h y (Ln _ hy)) (by simp at hl ⊢;omega) λys hl2 hr=>?_⟩;rw [List.append_assoc];refine q (y :: ys) (by simpa using hl2) λi a b ha hb=>?_
  cases i with
  | zero=>simp at ha hb;subst ha hb;exact hy
  | succ i=>exact hr i a b (by simpa using ha) (by simpa using hb)
theorem iR {tt:TB} {te:TD} {di:En} {Q:List D->Prop} (t:D->Bool) (f:D->D):∀(xs acc:List D),(∀x∈xs,∀N:Bool->Prop,N (t x)->tt (di.set 0 (some (.d x))) N)->(∀x∈xs,t x=true->∀N:D->Prop,N (f x)->te (di.set 0 (some (.d x))) N)->acc.length + xs.length<=sizeLine->Q (acc ++ (xs.filter t).map f)->comps tt te di Q xs acc
 | [],acc,_,_,_,q=>by simpa [comps] using q
 | x :: xs,acc,ht,h,hl,q=>by
  refine ht x Lz _ ?_
  cases hx:t x with
  | false =>
   rw [if_neg (by decide)]
   refine iR t f xs acc (λy hy=>ht y (Ln _ hy)) (λy hy=>h y (Ln _ hy)) (by simp at hl;omega) (by simpa [List.filter_cons,hx] using q)
  | true =>
   rw [if_pos rfl];refine h x Lz hx _ ⟨by simp at hl;omega,iR t f xs _ (λy hy=>ht y (Ln _ hy)) (λy hy=>h y (Ln _ hy)) (by simp at hl ⊢;omega) (by simpa [List.filter_cons,hx] using q)⟩
theorem yg {α:Type} {xs:List α} {i:Int} (h0:0<=i) (h1:i < xs.length):j6 xs i=xs[i.toNat]?:=by
 unfold L2.j6 rZ;rw [if_pos h0,if_pos h1];rfl
theorem lI {a b:Int} (h:0 < b):0<=a.fmod b/\a.fmod b < b:=⟨Int.fmod_nonneg_of_pos a h,Int.fmod_lt_of_pos a h⟩
def kG (n:Nat) (a:Int):Prop:=a.natAbs < 2 ^ n
theorem bits_le {n m:Nat} {a:Int} (h:kG n a) (hm:n<=m):kG m a:=Lr h (Nat.pow_le_pow_right (by decide) hm)
theorem pJ {n:Nat} {a:Int} (h:kG n a):Builtin.Int.intBits a<=n:=by
 unfold Builtin.Int.intBits
 by_cases e:a=0
 ·subst e;simp
 ·rw [if_neg (by simpa using e)];have:a.natAbs≠0:=by omega
  exact (Nat.log2_lt this).mpr h
theorem BF {n m:Nat} {a b:Int} (ha:kG n a) (hb:kG m b) (h:n + m<=1000000):IntMulOk a b:=by
 have h1:=pJ ha;have h2:=pJ hb;unfold IntMulOk Builtin.Int.intTooBig
 have:¬ ((Builtin.Int.intBits a:Int) + (Builtin.Int.intBits b:Int) > (bitsLine:Int)):=by
  have:(1000000:Int)<=(bitsLine:Int):=by decide
  omega
 simp only [Bool.and_eq_true,decide_eq_true_eq]
 rintro⟨_,h3⟩;exact this h3
theorem bits_add {n m:Nat} {a b:Int} (ha:kG n a) (hb:kG m b):kG (max n m + 1) (a + b):=by
 unfold kG at *;have h1:(2:Nat) ^ n<=2 ^ max n m:=Nat.pow_le_pow_right (by decide) (Nat.le_max_left _ _);have h2:(2:Nat) ^ m<=2 ^ max n m:=Nat.pow_le_pow_right (by decide) (Nat.le_max_right _ _);rw [Nat.pow_succ];omega
theorem Gd {n:Nat} {a b:Int} (hb:kG n b) (h0:b≠0) (hn:n<=9000):yD a b:=by
 refine⟨h0,?_⟩;have:b.natAbs≠0:=by omega
 exact Lr ((Nat.log2_lt this).mpr hb) hn
theorem qK {a b:Int} (h1:-(2 ^ 64) < a) (h2:a < 2 ^ 64):IntMulOk a b:=.of_left (intBits_le_64 h1 h2)
theorem mJ {a b:Int} (h1:-(2 ^ 64) < b) (h2:b < 2 ^ 64):IntMulOk a b:=.of_right (intBits_le_64 h1 h2)
theorem HB {c:Int} (j:Int) (h:j≠0/\j.natAbs < 2 ^ 256):yD c j:=Gd (n:=256) h.2 h.1 (by decide)
theorem Gj (i j:Int) (h:0<=j/\j<=1000000/\i.natAbs < 2 ^ 64):Gp i j:=h
theorem vC {c:Int} (j:Int) (h:j≠0):A7 c j:=h
theorem yp (n:Nat) (a:Int) (h:a.natAbs < 2 ^ n):kG n a:=h
def BL (i:Nat) (e:En):Nat:=match e[i]? with|some (some (.own xs))=>xs.length|_=>0
def Bk (i:Nat) (e:En):Nat:=match e[i]? with|some (some (.d (.int j)))=>j.toNat|_=>0
end L2.L3
local macro_rules | `(tactic| simp_all_arith only [$ls,*]) => `(tactic| ((try dsimp only [$(⟨ls.elemsAndSeps⟩),*, L2.L3.aI, L2.L3.iI, L2.L3.cz, L2.L3.bQ, L2.L3.jF, L2.L3.iP, L2.L3.bJ, L2.L3.oW, L2.L3.mI, L2.L3.gq, L2.L3.cw, L2.L3.dS, L2.L3.dq, L2.L3.rq, L2.L3.ag, L2.L3.cC, L2.L3.aG, L2.L3.Cg, L2.L3.aN, L2.L3.nK, L2.L3.qI, L2.L3.Am, L2.L3.aA, L2.L3.af, L2.L3.aw, L2.L3.bU, L2.L3.jx, L2.L3.cX, L2.L3.mE, L2.L3.EM, L2.L3.lR, L2.L3.cZ, L2.L3.a9, L2.L3.jo, L2.L3.jg, L2.L3.cg, L2.L3.aF, LM, List.map_nil, L0, Mc, List.cons_append, List.nil_append, LO, LK, List.set_cons_zero, List.set_cons_succ, L2.L3.ir, L2.L3.fv, L2.L3.oi, L2.L3.iZ, L2.L3.j8, L2.L3.j7, L2.L3.g8, L2.L3.m7, L2.L3.jD, L2.L3.gN, L2.L3.nj, L2.L3.nB, L2.L3.m5, L2.L3.kh, L2.L3.kz, L2.L3.fj, L2.L3.iA]); (try simp only [$ls,*, L2.L3.aI, L2.L3.iI, L2.L3.cz, L2.L3.bQ, L2.L3.jF, L2.L3.iP, L2.L3.bJ, L2.L3.oW, L2.L3.mI, L2.L3.gq, L2.L3.cw, L2.L3.dS, L2.L3.dq, L2.L3.rq, L2.L3.ag, L2.L3.cC, L2.L3.aG, L2.L3.Cg, L2.L3.aN, L2.L3.nK, L2.L3.qI, L2.L3.Am, L2.L3.aA, L2.L3.af, L2.L3.aw, L2.L3.bU, L2.L3.jx, L2.L3.cX, L2.L3.mE, L2.L3.EM, L2.L3.lR, L2.L3.cZ, L2.L3.a9, L2.L3.jo, L2.L3.qD, L2.L3.qA, L2.L3.jg, L2.L3.cg, L2.L3.aF, LM, List.map_nil, L0, Mc, List.cons_append, List.nil_append, L4, LO, LK, List.getElem?_nil, List.set_cons_zero, List.set_cons_succ, Option.some.injEq, L2.L3.Lo.d.injEq, L2.L3.Lo.own.injEq, L2.L3.D.bl.injEq, L2.L3.D.int.injEq, exists_eq_left', exists_eq_left, Nat.reduceAdd, Nat.reduceSub, Nat.sub_self, Nat.add_one_sub_one, List.replicate_succ, List.replicate_zero, L2.L3.D.tup.injEq, List.cons.injEq, and_assoc, L2.L3.ir, L2.L3.fv, L2.L3.oi, L2.L3.iZ, L2.L3.j8, L2.L3.j7, L2.L3.g8, L2.L3.m7, L2.L3.tU, L2.L3.jv, L2.L3.xW, L2.L3.xJ, L2.L3.xp, L2.L3.jD, L2.L3.gN, L2.L3.nj, L2.L3.sS, L2.L3.uN, L2.L3.nB, L2.L3.m5, L2.L3.kh, L2.L3.kz, L2.L3.fj, L2.L3.iA, L2.L3.pW, L2.L3.pC, L2.L3.CD, L2.L3.xY, L2.L3.xO, decide_eq_true_eq, true_and, and_true, if_true, if_false, Lk, Bool.not_eq_true', decide_eq_false_iff_not, Lu, Int.reduceToNat, Int.reducePow, Int.reduceMul, Int.reduceAdd, Int.reduceNeg, Int.reduceSub, Int.reduceLT, Int.reduceLE, Int.reduceEq, Nat.reduceEqDiff, decide_true, decide_false, Nat.reduceLeDiff, Nat.reduceLT, Bool.true_eq_false, Bool.not_true, Bool.not_false, Bool.not_not])))
local macro_rules | `(tactic| simp_arith! only [$ls,*] $[$loc]?) => `(tactic| ((try dsimp only [$(⟨ls.elemsAndSeps⟩),*, L2.L3.aI, L2.L3.iI, L2.L3.cz, L2.L3.bQ, L2.L3.jF, L2.L3.iP, L2.L3.bJ, L2.L3.oW, L2.L3.mI, L2.L3.gq, L2.L3.cw, L2.L3.dS, L2.L3.dq, L2.L3.rq, L2.L3.ag, L2.L3.cC, L2.L3.aG, L2.L3.Cg, L2.L3.aN, L2.L3.nK, L2.L3.qI, L2.L3.Am, L2.L3.aA, L2.L3.af, L2.L3.aw, L2.L3.bU, L2.L3.jx, L2.L3.cX, L2.L3.mE, L2.L3.EM, L2.L3.lR, L2.L3.cZ, L2.L3.a9, L2.L3.jo, L2.L3.jg, L2.L3.cg, L2.L3.aF, LM, List.map_nil, L0, Mc, List.cons_append, List.nil_append, LO, LK, List.set_cons_zero, List.set_cons_succ, L2.L3.ir, L2.L3.fv, L2.L3.oi, L2.L3.iZ, L2.L3.j8, L2.L3.j7, L2.L3.g8, L2.L3.m7, L2.L3.jD, L2.L3.gN, L2.L3.nj, L2.L3.nB, L2.L3.m5, L2.L3.kh, L2.L3.kz, L2.L3.fj, L2.L3.iA, L2.L3.oa, L2.L3.lE, L2.L3.Hs, L2.L3.wZ, L2.L3.l6, L2.L3.xy, L2.L3.kd, L2.L3.cH] $[$loc]?); (try simp only [$ls,*, L2.L3.aI, L2.L3.iI, L2.L3.cz, L2.L3.bQ, L2.L3.jF, L2.L3.iP, L2.L3.bJ, L2.L3.oW, L2.L3.mI, L2.L3.gq, L2.L3.cw, L2.L3.dS, L2.L3.dq, L2.L3.rq, L2.L3.ag, L2.L3.cC, L2.L3.aG, L2.L3.Cg, L2.L3.aN, L2.L3.nK, L2.L3.qI, L2.L3.Am, L2.L3.aA, L2.L3.af, L2.L3.aw, L2.L3.bU, L2.L3.jx, L2.L3.cX, L2.L3.mE, L2.L3.EM, L2.L3.lR, L2.L3.cZ, L2.L3.a9, L2.L3.jo, L2.L3.qD, L2.L3.qA, L2.L3.jg, L2.L3.cg, L2.L3.aF, LM, List.map_nil, L0, Mc, List.cons_append, List.nil_append, L4, LO, LK, List.getElem?_nil, List.set_cons_zero, List.set_cons_succ, Option.some.injEq, L2.L3.Lo.d.injEq, L2.L3.Lo.own.injEq, L2.L3.D.bl.injEq, L2.L3.D.int.injEq, exists_eq_left', exists_eq_left, Nat.reduceAdd, Nat.reduceSub, Nat.sub_self, Nat.add_one_sub_one, List.replicate_succ, List.replicate_zero, L2.L3.D.tup.injEq, List.cons.injEq, and_assoc, L2.L3.ir, L2.L3.fv, L2.L3.oi, L2.L3.iZ, L2.L3.j8, L2.L3.j7, L2.L3.g8, L2.L3.m7, L2.L3.tU, L2.L3.jv, L2.L3.xW, L2.L3.xJ, L2.L3.xp, L2.L3.jD, L2.L3.gN, L2.L3.nj, L2.L3.sS, L2.L3.uN, L2.L3.nB, L2.L3.m5, L2.L3.kh, L2.L3.kz, L2.L3.fj, L2.L3.iA, L2.L3.pW, L2.L3.pC, L2.L3.CD, L2.L3.xY, L2.L3.xO, decide_eq_true_eq, true_and, and_true, if_true, if_false, Lk, Bool.not_eq_true', decide_eq_false_iff_not, Lu, Int.reduceToNat, Int.reducePow, Int.reduceMul, Int.reduceAdd, Int.reduceNeg, Int.reduceSub, Int.reduceLT, Int.reduceLE, Int.reduceEq, Nat.reduceEqDiff, decide_true, decide_false, Nat.reduceLeDiff, Nat.reduceLT, Bool.true_eq_false, Bool.not_true, Bool.not_false, Bool.not_not, L2.L3.oa, L2.L3.lE, L2.L3.Hs, L2.L3.wZ, L2.L3.l6, L2.L3.xy, L2.L3.kd, L2.L3.sA, L2.L3.rX, L2.L3.D.lst.injEq, L2.L3.cH] $[$loc]?)))
namespace L2.L3
open PySem
def F1 (P:D->(D->Prop)->Prop):Fw:=λds Q=>∃x,ds=[x]/\P x Q
def F2 (P:D->D->(D->Prop)->Prop):Fw:=λds Q=>∃x y,ds=[x,y]/\P x y Q
def F3 (P:D->D->D->(D->Prop)->Prop):Fw:=λds Q=>∃x y z,ds=[x,y,z]/\P x y z Q
theorem qM {P}:∀ds Q,F1 P ds Q->ds.length=1:=by rintro ds Q ⟨x,rfl,_⟩;rfl
theorem kM {P}:∀ds Q,F2 P ds Q->ds.length=2:=by rintro ds Q ⟨x,y,rfl,_⟩;rfl
theorem pT {P}:∀ds Q,F3 P ds Q->ds.length=3:=by rintro ds Q ⟨x,y,z,rfl,_⟩;rfl
theorem uZ {P} {x:D} {Q}:F1 P [x] Q=P x Q:=by
 unfold F1;apply propext;constructor
 ·rintro⟨x',e,h⟩;cases e;exact h
 ·intro h;exact⟨_,rfl,h⟩
theorem gM {P} {x y:D} {Q}:F2 P [x,y] Q=P x y Q:=by
 unfold F2;apply propext;constructor
 ·rintro⟨x',y',e,h⟩;cases e;exact h
 ·intro h;exact⟨_,_,rfl,h⟩
theorem pv {P} {x y z:D} {Q}:F3 P [x,y,z] Q=P x y z Q:=by
 unfold F3;apply propext;constructor
 ·rintro⟨x',y',z',e,h⟩;cases e;exact h
 ·intro h;exact⟨_,_,_,rfl,h⟩
def yF (ns:List Int) (k:Int):Int:=if k < ns.length then ns.getD k.toNat 0 else 0
def yz (x y:D) (Q:D->Prop):Prop:=∃(ns:List Int) (k:Int),x=.lst (ns.map D.int)/\y=.int k/\0<=k/\Q (.int (yF ns k))
def xh:Fw:=F2 yz
def qb:bI:=(aI (iI (aN (aG E9 (ag 1) (aA fB (af (ag 0) aw)))) (cz (aG bS (ag 0) (ag 1))) bQ) (cz (cC (.int 0))))
theorem wy:∀ds (Q:D->Prop),xh ds Q->qb { nx:=λ_=>Q .non,rt:=Q } (aF ["_law_script","_law_k"] ds):=by
 rintro ds Q ⟨x,y,rfl,ns,k,rfl,rfl,hk,h⟩
 simp_all_arith only [qb,Ll]
 unfold yF at h
 by_cases hl:k < ns.length
 ·rw [if_pos hl] at h ⊢;have hn:k.toNat < ns.length:=by omega
  refine⟨.int (ns.getD k.toNat 0),?_,h⟩;rw [yg hk (by simpa using hl)];simp [hn]
 ·rw [if_neg hl] at h ⊢;exact h
end L2.L3
namespace L2
open PySem PySem.Spec PyProof.Rows
theorem Inv.ue {X:Cx} {pins:List (Addr×Obj)} {σ:St} {H:Hp} {s:Shared} {h':Heap} {t':Nat} {ch:List Addr} (I:Inv X pins σ H s) (k:∀b o,b∉ch->s.heap.get? b=some o->h'.get? b=some o) (hf:∀b∈ch,lH X pins H b) :
  Inv X pins σ H { s with heap:=h',toks:=t' }:=by
 have far:∀b u,H b=some u->b∉ch:=λb u e z=>by rw [(hf b z).1] at e;cases e
 refine I.step (g':=s.gens) (d':=s.drawn) (ch:=ch) (λb hb=>⟨(hf b hb).2.2.2.1,(hf b hb).2.1,(hf b hb).2.2.2.2.1,(hf b hb).2.2.2.2.2⟩) (λb o _ _ hc e _=>k b o hc e) (λb o _ _ hc e _=>⟨o.slots,k b o hc e⟩)
  (λ_ _ _ _ n=>n) (λb o hc e=>⟨o,k b o hc e⟩) (λ_ _ e=>e) (λ_ _ _ e=>e) (λ_ _ e=>e) (λm hm=>?_) (λb u e=>?_) I.bare
 ·obtain⟨o,es,ep,ho,r⟩:=hm;exact⟨o,es,ep,k _ o (λz=>(hf _ z).2.1 rfl) ho,r⟩
 ·refine (I.hok b u e).p0 (λc v hc q=>k c v ?_ q) (λ_ q=>q) (λ_ _ q=>q) λ_ _ _ q=>q;rcases hc with z|z
  ·rw [z];exact far b u e
  ·exact far c _ z
section
variable {prog:Program} {w:World} {A:Around} {E:Value->Shared->Prop} {s:Shared}
theorem xX {j l:Addr} {k:Nat} {its:Array Value} {y:Value} {Q:Value->Shared->Prop} (hj:s.heap.IsTupleIter j l k) (hl:s.heap.IsTuple l its) (hy:its[k]?=some y)
  (q:∀h1,h1.IsTupleIter j l (k + 1)->Heap.SameBut j s.heap h1->Q y { s with heap:=h1 }):wpAny (model prog w) A (Builtin.SmallTypes.nextOf (.ref j)) Q E s:=by
 obtain⟨oj,e1,c1,d1⟩:=id hj;obtain⟨ot,e2,_,_,d2⟩:=hl;unfold Builtin.SmallTypes.nextOf;refine K9 (LV (name:=Str.ofString "__next__") hj.typeIs F.slot_tuple_iterator_next (wpAny_call_entry F.slot_tuple_iterator_next hj.typeIs F.entry_tuple_iterator_next ?_ (F.args_tuple_iterator_next_1 _)))
 show wpAny _ _ (field (.ref j) 0 >>= _) _ _ s
 refine K9 (wpAny_field e1 d1 (x:=.ref l) rfl ?_);show wpAny _ _ (if (Value.ref l == Value.none)=true then _ else _) _ _ s
 rw [if_neg (show ¬ ((Value.ref l == Value.none)=true) from Bool.false_ne_true)];show wpAny _ _ (field (.ref j) 1 >>= _) _ _ s
 refine K9 (wpAny_field e1 d1 (x:=.int k 0) rfl ?_);show wpAny _ _ (seqItems? (.ref l) >>= _) _ _ s
 refine K9 (wpAny_seqItems e2 d2 ?_);simp only [Int.toNat_natCast,hy];refine K9 (wpAny_setField e1 d1 (by simp) (Lf ⟨y,rfl,Lf (q _ ?_ (Heap.SameBut.update ..))⟩));exact⟨_,Heap.get?_update_self _ e1 (Obj.isFreed_of_fields (Obj.data_mapFields d1 _)),(Obj.cls_mapFields ..).trans c1,by rw [Obj.data_mapFields d1];simp [rawInt]⟩
theorem qJ {j l:Addr} {k:Nat} {its:Array Value} {Q:Value->Shared->Prop} (hh:A.handled=none) (hj:s.heap.IsTupleIter j l k) (hl:s.heap.IsTuple l its) (hy:its[k]?=none)
  (q:∀h1 e,Heap.ExtBut j s.heap h1->(∃o,h1.get? e=some o/\o.cls=.type "StopIteration")->E (.ref e) { s with heap:=h1 }):wpAny (model prog w) A (Builtin.SmallTypes.nextOf (.ref j)) Q E s:=by
 obtain⟨oj,e1,c1,d1⟩:=id hj;obtain⟨ot,e2,_,_,d2⟩:=hl;unfold Builtin.SmallTypes.nextOf;refine K9 (LV (name:=Str.ofString "__next__") hj.typeIs F.slot_tuple_iterator_next (wpAny_call_entry F.slot_tuple_iterator_next hj.typeIs F.entry_tuple_iterator_next ?_ (F.args_tuple_iterator_next_1 _)))
 show wpAny _ _ (field (.ref j) 0 >>= _) _ _ s
 refine K9 (wpAny_field e1 d1 (x:=.ref l) rfl ?_);show wpAny _ _ (if (Value.ref l == Value.none)=true then _ else _) _ _ s
 rw [if_neg (show ¬ ((Value.ref l == Value.none)=true) from Bool.false_ne_true)];show wpAny _ _ (field (.ref j) 1 >>= _) _ _ s
 refine K9 (wpAny_field e1 d1 (x:=.int k 0) rfl ?_);show wpAny _ _ (seqItems? (.ref l) >>= _) _ _ s
 refine K9 (wpAny_seqItems e2 d2 ?_);simp only [Int.toNat_natCast,hy];refine K9 (wpAny_rule (K9 (wpAny_setField e1 d1 (by simp) (show wpAny _ _ (newExc (.type "StopIteration") [] >>= _) _ _ _ from K9 ?_))))
 simp only [newExc,newTuple];refine K9 (wpAny_newObj_type (K9 (m:=firstArgMember _ _) (wpAny_of_eq (a:=Value.none) (by first|rfl|(simp only [firstArgMember];rfl)) (wpAny_newObj_type ?_ (by size_fits)))) (by size_fits));simp only [raiseNew];refine K9 (wpAny_handled ?_)
 first|rw [show A.in1.handled=none from hh]|rw [hh]
 exact K9 (Lf (wpAny_throw (q _ _ (((Heap.SameBut.update ..).extBut.push _).push _) ⟨_,Lv _ rfl,rfl⟩)))
theorem Ec {e j:Addr} {k:Nat} {y z:Value} {T:Heap->Prop} {Q:Value->Shared->Prop} (he:IsEnum s.heap e j k z) (ne:e≠j)
  (nx:∀R:Value->Shared->Prop,(∀h1,T h1->Heap.SameBut j s.heap h1->R y { s with heap:=h1 })->wpAny (model prog w) A (Builtin.SmallTypes.nextOf (.ref j)) R E s)
  (mv:∀h1 h2:Heap,T h1->(∀o,h1.get? j=some o->h2.get? j=some o)->T h2) (hj:∀h1,T h1->∃o,h1.get? j=some o)
  (q:∀h1,IsEnumOut h1 e j ((k:Int) + 1) y s.heap.objs.size->T h1->h1.get? s.heap.objs.size=some { cls:=.type "tuple",data:=.seq #[.int k s.toks,y] }->(∀b o,b≠e->b≠j->s.heap.get? b=some o->h1.get? b=some o) ->
   Q (.ref s.heap.objs.size) { s with heap:=h1,toks:=s.toks + 1 }) :
  wpAny (model prog w) A (Builtin.«enumerate.__next__» ⟨[.ref e],[]⟩) (λfin s'=>∃v,fin=.done (.ret v)/\Q v s') E s:=by
 obtain⟨hp,g,d,tk,os⟩:=s;show wpAny _ _ (field (.ref e) 2 >>= _) _ _ _
 refine K9 (wpAny_field he rfl (x:=.ref j) rfl (K9 (nx _ λg1 t1 b1=>?_)))
 replace b1:Heap.SameBut j hp g1:=b1
 have i1:IsEnum g1 e j k z:=(b1.2 e ne).trans he;show wpAny _ _ (field (.ref e) 3 >>= _) _ _ ⟨g1,g,d,tk,os⟩
 refine K9 (wpAny_field i1 rfl (x:=rawInt k) rfl ?_);show wpAny _ _ (field (.ref e) 4 >>= _) _ _ ⟨g1,g,d,tk,os⟩
 refine K9 (wpAny_field i1 rfl (x:=.none) rfl ?_);show wpAny _ _ (mkInt k >>= _) _ _ ⟨g1,g,d,tk,os⟩
 refine K9 (wpAny_mkInt ?_);show wpAny _ _ (setField (.ref e) 3 (rawInt ((k:Int) + 1)) >>= _) _ _ ⟨g1,g,d,tk + 1,os⟩
 refine K9 (wpAny_setField_rec i1 (by simp) λg2 i2 b2=>?_)
 replace b2:Heap.SameBut e g1 g2:=b2
 replace i2:IsEnum g2 e j ((k:Int) + 1) z:=i2
 show wpAny _ _ (setField (.ref e) 4 .none >>= _) _ _ ⟨g2,g,d,tk + 1,os⟩
 refine K9 (wpAny_setField_rec i2 (by simp) λg3 i3 b3=>?_)
 replace b3:Heap.SameBut e g2 g3:=b3
 replace i3:IsEnum g3 e j ((k:Int) + 1) z:=i3
 show wpAny _ _ (newTuple [.int k tk,y] >>= _) _ _ ⟨g3,g,d,tk + 1,os⟩
 refine K9 (wpAny_newTuple ?_);have i4:IsEnum (g3.push { cls:=.type "tuple",data:=.seq #[.int k tk,y] }) e j ((k:Int) + 1) z:=Ld _ i3
 generalize eg:g3.push { cls:=.type "tuple",data:=.seq #[.int k tk,y] }=g4 at i4
 have sz:g3.objs.size=hp.objs.size:=by rw [b3.1,b2.1,b1.1]
 have lt:e < hp.objs.size:=Lw he;have t4:g4.get? hp.objs.size=some { cls:=.type "tuple",data:=.seq #[.int k tk,y] }:=by rw [<- eg,<- sz];exact Lv _ rfl
 have k4:∀b o,b≠e->b≠j->hp.get? b=some o->g4.get? b=some o:=λb o n1 n2 hb=>by
  rw [<- eg];exact Ld _ (b3.extBut b o n1 (b2.extBut b o n1 (b1.extBut b o n2 hb)))
 have T4:T g4:=mv g1 g4 t1 λo ho=>by rw [<- eg];exact Ld _ (b3.extBut j o (Ne.symm ne) (b2.extBut j o (Ne.symm ne) ho))
 show wpAny _ _ (Builtin.SmallTypes.ownedTupleIsFree (.ref e) >>= _) _ _ ⟨g4,g,d,tk + 1,os⟩
 rw [sz];clear eg i3 b3 i2 b2 i1 b1 t1 sz g3 g2 g1;refine K9 ?_;unfold Builtin.SmallTypes.ownedTupleIsFree;refine K9 (wpAny_field i4 rfl (x:=.none) rfl (Lf ?_));simp only [if_true];refine K9 (wpAny_rule (K9 (wpAny_field i4 rfl (x:=z) rfl (K9 (wpAny_setField_rec i4 (by simp) λg5 i5 b5=>?_)))))
 replace b5:Heap.SameBut e g4 g5:=b5
 replace i5:IsEnum g5 e j ((k:Int) + 1) y:=i5
 show wpAny _ _ (Builtin.SmallTypes.ownedTupleHandOut (.ref e) (.ref hp.objs.size) >>= _) _ _ ⟨g5,g,d,tk + 1,os⟩
 refine K9 ?_;unfold Builtin.SmallTypes.ownedTupleHandOut;refine K9 (wpAny_setField_rec i5 (by simp) λg6 i6 b6=>?_)
 replace b6:Heap.SameBut e g5 g6:=b6
 replace i6:IsEnumOut g6 e j ((k:Int) + 1) y hp.objs.size:=i6
 refine wpAny_setField_rec i6 (by simp) λg7 i7 b7=>?_
 replace b7:Heap.SameBut e g6 g7:=b7
 replace i7:IsEnumOut g7 e j ((k:Int) + 1) y hp.objs.size:=i7
 have far:∀b o,b≠e->g4.get? b=some o->g7.get? b=some o:=λb o n hb=>b7.extBut _ _ n (b6.extBut _ _ n (b5.extBut _ _ n hb));refine K9 (wpAny_letGo (Lf ⟨_,rfl,q g7 i7 (mv g4 g7 T4 λo ho=>far j o (Ne.symm ne) ho) (far _ _ (Nat.ne_of_gt lt) t4) λb o n1 n2 hb=>far b o n1 (k4 b o n1 n2 hb)⟩))
theorem yK {e j:Addr} {k:Nat} {y z:Value} {T:Heap->Prop} {Q:Option Value->Shared->Prop} (he:IsEnum s.heap e j k z) (ne:e≠j)
  (nx:∀(A':Around) (E':Value->Shared->Prop) (R:Value->Shared->Prop),(∀h1,T h1->Heap.SameBut j s.heap h1->R y { s with heap:=h1 })->wpAny (model prog w) A' (Builtin.SmallTypes.nextOf (.ref j)) R E' s)
  (mv:∀h1 h2:Heap,T h1->(∀o,h1.get? j=some o->h2.get? j=some o)->T h2) (hj:∀h1,T h1->∃o,h1.get? j=some o)
  (q:∀h1,IsEnumOut h1 e j ((k:Int) + 1) y s.heap.objs.size->T h1->h1.get? s.heap.objs.size=some { cls:=.type "tuple",data:=.seq #[.int k s.toks,y] }->(∀b o,b≠e->b≠j->s.heap.get? b=some o->h1.get? b=some o) ->
   Q (some (.ref s.heap.objs.size)) { s with heap:=h1,toks:=s.toks + 1 }):wpAny (model prog w) A (pyNext (.ref e)) Q E s:=by
 have ty:s.TypeIs (.ref e) "enumerate":=⟨_,he,rfl⟩
 unfold pyNext
 exact K9 (wpAny_attempt (LV (name:=Str.ofString "__next__") ty F.slot_enumerate_next (wpAny_call_entry F.slot_enumerate_next ty F.entry_enumerate_next
  (Ec he ne (λR hR=>nx _ _ R hR) mv hj λh1 a b c d=>Lf (q h1 a b c d)) (F.args_enumerate_next_1 _))))
theorem A1 {e j:Addr} {k:Nat} {z:Value} {Q:Option Value->Shared->Prop} (he:IsEnum s.heap e j k z)
  (nx:∀(A':Around) (E':Value->Shared->Prop),A'.handled=A.handled->(∀h1 x,Heap.ExtBut j s.heap h1->(∃o,h1.get? x=some o/\o.cls=.type "StopIteration")->E' (.ref x) { s with heap:=h1 })->wpAny (model prog w) A' (Builtin.SmallTypes.nextOf (.ref j)) (λ_ _=>False) E' s)
  (q:∀h1,Heap.ExtBut j s.heap h1->Q none { s with heap:=h1 }):wpAny (model prog w) A (pyNext (.ref e)) Q E s:=by
 have ty:s.TypeIs (.ref e) "enumerate":=⟨_,he,rfl⟩
 unfold pyNext;refine K9 (wpAny_attempt (LV (name:=Str.ofString "__next__") ty F.slot_enumerate_next (wpAny_call_entry F.slot_enumerate_next ty F.entry_enumerate_next ?_ (F.args_enumerate_next_1 _))))
 show wpAny _ _ (field (.ref e) 2 >>= _) _ _ _
 refine K9 (wpAny_field he rfl (x:=.ref j) rfl (K9 (LG (nx _ _ rfl λh1 x b1 c1=>?_) (λ_ _ f=>f.elim) λ_ _ u=>u)));obtain⟨o,ho,hc⟩:=c1;exact K9 (wpAny_isInstance (T:="StopIteration") (b:=true) ⟨o,ho,hc⟩ isSubtype_stop (Lf (q _ b1)))
end
end L2
namespace L2.L3
open PySem PySem.Spec PyProof.Rows
def Iv (S:Hp->List V->Prop):It :=
 ⟨λi H=>∃xs x,S H xs/\xs[i]?=some x,λi H y H'=>∃p x,(∀xs,S H xs->xs[i]?=some x)/\H p=none/\y=.ref p/\H'=upd H p (.tup [.int i,x]),λi H=>∃xs,S H xs/\xs.length<=i⟩
theorem Cj {X:Cx} {pins:List (Addr×Obj)} {σ:St} {H:Hp} {s:Shared} {e j:Addr} {i:Nat} {x:V} {u:Value} {h2:Heap} (I:Inv X pins σ H s) (hf:∀b∈[e,j],lH X pins H b) (ru:RelV x u)
  (lt:e < s.heap.objs.size) (lj:j < s.heap.objs.size) (t1:h2.get? s.heap.objs.size=some { cls:=.type "tuple",data:=.seq #[.int i s.toks,u] }) (fr:∀b o,b≠e->b≠j->s.heap.get? b=some o->h2.get? b=some o) :
  Inv X pins σ (upd H s.heap.objs.size (.tup [.int i,x])) { s with heap:=h2,toks:=s.toks + 1 }/\H s.heap.objs.size=none:=by
 have hn:H s.heap.objs.size=none:=I.hok.fresh (Lh _);refine⟨?_,hn⟩
 have I1:Inv X pins σ (upd H s.heap.objs.size (.tup [.int i,x])) { s with heap:=s.heap.push { cls:=.type "tuple",data:=.seq #[.int i s.toks,u] },toks:=s.toks } :=
  I.laid (t':=s.toks) (λb o e=>Ld _ e) (Lh _) (show bH X.prog X.w _ _ _ (.tup [.int i,x]) from ⟨by simp [Lu],[.int i s.toks,u],.cons ⟨_,rfl⟩ (.cons ru .nil),pD.new _ _⟩)
 refine Inv.ue (s:={ s with heap:=s.heap.push { cls:=.type "tuple",data:=.seq #[.int i s.toks,u] },toks:=s.toks }) (h':=h2) (t':=s.toks + 1) (ch:=[e,j]) I1 (λb o hb hg=>?_) λb hb=>?_
 ·have nb1:b≠e:=λz=>hb (by simp [z]);have nb2:b≠j:=λz=>hb (by simp [z]);rcases Heap.get?_push_cases hg with ⟨rfl,rfl⟩|hg
  ·exact t1
  ·exact fr b o nb1 nb2 hg
 ·obtain⟨f0,f⟩:=hf b hb;refine⟨?_,f⟩;rw [az];exact f0;rcases LB.mp hb with rfl|hb
  ·exact LJ lt
  ·rw [LA.mp hb];exact LJ lj
theorem Aw {P:Program} {w:World} {K:Le} {elts:List Expr} {x1:Nat} {tp:Pos} (a e j:Addr) (ne:e≠j):Turn P w K (.Tuple elts x1 tp) (Iv λH xs=>fZ K H a xs) [e,j] e (λi h=>(∃z,IsEnum h e j i z)/\h.IsListIter j a i) where
 mem:=by simp
 obj:=λi h st b hb=>by
  obtain⟨⟨z,e1⟩,o,e2,c,d⟩:=st;rcases LB.mp hb with rfl|hb
  ·exact⟨_,e1,λv q=>by
    have q':Data.fields _=Data.cell v:=q
    cases q'⟩
  ·rw [LA.mp hb];exact⟨o,e2,λv q=>by rw [d] at q;cases q⟩
 keep:=λi h h' st k=>⟨⟨st.1.choose,k e (by simp) _ st.1.choose_spec⟩,st.2.at λo q=>k j (by simp) o q⟩
 item:=by
  intro X hP hw hK hc i pins s σ H E I hf st hg;subst hP hw hK;obtain⟨⟨z,he⟩,hj⟩:=st;obtain⟨xs,x,hq,hx⟩:=hg;obtain⟨its,rv,p,hz⟩:=I.list hq;obtain⟨u,hu,ru⟩:=rv.get hx;have lt:e < s.heap.objs.size:=Lw he;have lj:j < s.heap.objs.size:=by obtain⟨_,q,_⟩:=hj;exact Lw q
  refine yK (T:=λh=>h.IsListIter j a (i + 1)) he ne (λA' E' R hR=>wpAny_nextOf_list_item hj p.isList (x:=u) (by simpa using hu) hR) (λh1 h2 t k=>t.at λo q=>k o q) (λh1 t=>let ⟨o,q,_⟩:=t;⟨o,q⟩) λh1 o1 t1 n1 fr=>?_
  refine⟨_,rfl,wpAny_letOwnedTupleGo_enum o1 λh2 e2 b2=>?_⟩;have n2:h2.get? s.heap.objs.size=some { cls:=.type "tuple",data:=.seq #[.int i s.toks,u] }:=(b2.2 _ (Nat.ne_of_gt lt)).trans n1
  obtain⟨I2,hn⟩:=Cj (h2:=h2) I hf ru lt lj n2 λb o q1 q2 q3=>(b2.2 b q1).trans (fr b o q1 q2 q3);refine⟨.ref s.heap.objs.size,_,I2,rfl,⟨_,x,λys hy=>by rw [I.qg hy hq];exact hx,hn,rfl,rfl⟩,⟨⟨u,by simpa using e2⟩,t1.at λo q=>(b2.2 j (Ne.symm ne)).trans q⟩,λb hb=>?_⟩;rw [az];exact (hf b hb).1;rcases LB.mp hb with rfl|hb
  ·exact LJ lt
  ·rw [LA.mp hb];exact LJ lj
 done:=by
  intro X hP hw hK hc i pins s σ H E I hf st hg;subst hP hw hK;obtain⟨⟨z,he⟩,hj⟩:=st;obtain⟨xs,hq,hx⟩:=hg;obtain⟨its,rv,p,hz⟩:=I.list hq;have hl:=rv.length;refine A1 he (λA' E' hA hE=>wpAny_nextOf_list_end (hA.trans (I.ok.hd hc)) hj p.isList (by simp;omega) hE) λh1 b1=>⟨rfl,?_⟩;obtain⟨f0,f1,f2,f3,f4,f5⟩:=hf j (by simp);exact I.turned (t':=s.toks) (λb o hb e=>b1 b o hb e) f0 f1 f3 f4 f5
 self:=λ_ _ _ _ _ st h=>wpAny_pyIter_enum st.1.choose_spec h
theorem AQ {P:Program} {w:World} {K:Le} {elts:List Expr} {x1:Nat} {tp:Pos} (a e j:Addr) (ne:e≠j):Turn P w K (.Tuple elts x1 tp) (Iv λH xs=>gr K H a xs) [e,j] e (λi h=>(∃z,IsEnum h e j i z)/\h.IsTupleIter j a i) where
 mem:=by simp
 obj:=λi h st b hb=>by
  obtain⟨⟨z,e1⟩,o,e2,c,d⟩:=st;rcases LB.mp hb with rfl|hb
  ·exact⟨_,e1,λv q=>by
    have q':Data.fields _=Data.cell v:=q
    cases q'⟩
  ·rw [LA.mp hb];exact⟨o,e2,λv q=>by rw [d] at q;cases q⟩
 keep:=λi h h' st k=>⟨⟨st.1.choose,k e (by simp) _ st.1.choose_spec⟩,st.2.at λo q=>k j (by simp) o q⟩
 item:=by
  intro X hP hw hK hc i pins s σ H E I hf st hg;subst hP hw hK;obtain⟨⟨z,he⟩,hj⟩:=st;obtain⟨xs,x,hq,hx⟩:=hg;obtain⟨its,rv,p,hz⟩:=I.tuple hq;obtain⟨u,hu,ru⟩:=rv.get hx;have lt:e < s.heap.objs.size:=Lw he;have lj:j < s.heap.objs.size:=by obtain⟨_,q,_⟩:=hj;exact Lw q
  refine yK (T:=λh=>h.IsTupleIter j a (i + 1)) he ne (λA' E' R hR=>xX hj (show s.heap.IsTuple a its.toArray from p) (y:=u) (by simpa using hu) hR) (λh1 h2 t k=>t.at λo q=>k o q) (λh1 t=>let ⟨o,q,_⟩:=t;⟨o,q⟩) λh1 o1 t1 n1 fr=>?_
  refine⟨_,rfl,wpAny_letOwnedTupleGo_enum o1 λh2 e2 b2=>?_⟩;have n2:h2.get? s.heap.objs.size=some { cls:=.type "tuple",data:=.seq #[.int i s.toks,u] }:=(b2.2 _ (Nat.ne_of_gt lt)).trans n1
  obtain⟨I2,hn⟩:=Cj (h2:=h2) I hf ru lt lj n2 λb o q1 q2 q3=>(b2.2 b q1).trans (fr b o q1 q2 q3);refine⟨.ref s.heap.objs.size,_,I2,rfl,⟨_,x,λys hy=>by rw [I.iu hy hq];exact hx,hn,rfl,rfl⟩,⟨⟨u,by simpa using e2⟩,t1.at λo q=>(b2.2 j (Ne.symm ne)).trans q⟩,λb hb=>?_⟩;rw [az];exact (hf b hb).1;rcases LB.mp hb with rfl|hb
  ·exact LJ lt
  ·rw [LA.mp hb];exact LJ lj
 done:=by
  intro X hP hw hK hc i pins s σ H E I hf st hg;subst hP hw hK;obtain⟨⟨z,he⟩,hj⟩:=st;obtain⟨xs,hq,hx⟩:=hg;obtain⟨its,rv,p,hz⟩:=I.tuple hq;have hl:=rv.length;refine A1 he (λA' E' hA hE=>qJ (hA.trans (I.ok.hd hc)) hj (show s.heap.IsTuple a its.toArray from p) (by simp;omega) hE) λh1 b1=>⟨rfl,?_⟩;obtain⟨f0,f1,f2,f3,f4,f5⟩:=hf j (by simp);exact I.turned (t':=s.toks) (λb o hb e=>b1 b o hb e) f0 f1 f3 f4 f5
 self:=λ_ _ _ _ _ st h=>wpAny_pyIter_enum st.1.choose_spec h
section
variable {prog:Program} {w:World} {A:Around} {E:Value->Shared->Prop} {s:Shared}
open AutoSeq1 (wpAny_loadPart') in
theorem Ff (l:Addr) (its:Array Value) (o:Obj) (c:o.cls=.type "tuple") (n:Nat) (dd:o.data=.seq its n) :
  Meets (Builtin.«enumerate.__new__» ⟨[.type "enumerate",.ref l],[]⟩) (λ_ R s=>s.heap.get? l=some o /\
   R (.ok (.ret (.ref (s.heap.push { cls:=.type "tuple_iterator",data:=.fields #[.ref l,.int 0 0] }).objs.size)))
    { s with heap:=(s.heap.push { cls:=.type "tuple_iterator",data:=.fields #[.ref l,.int 0 0] }).push { cls:=.type "enumerate",data:=.fields #[.none,.bool false,.ref s.heap.objs.size,rawInt 0,.none,.none] } }) :=
 .of_wp λprog w A R s hh=>by
  obtain⟨oc,od,odt,osl⟩:=o
  replace c:oc=.type "tuple":=c
  replace dd:odt=.seq its n:=dd
  subst c dd;obtain⟨hp,gg,dr,tk,os⟩:=s;obtain⟨hl,q⟩:=hh;have hsub:=sub_enumerate;have hT:Heap.IsTuple (Shared.heap ⟨hp,gg,dr,tk,os⟩) l its:=⟨_,hl,rfl,n,rfl⟩
  wp_walk using wpAny_loadPart' hl
  refine wpAny_stack_any λst=>Lf ?_
  split
  ·rename_i cc _ _ _ _ _;cases (cc == Value.type "enumerate") <;> (wp_walk using wpAny_loadPart' hl,wpAny_pyIter_tuple hT;exact⟨_,rfl,q⟩)
  ·wp_walk using wpAny_loadPart' hl,wpAny_pyIter_tuple hT
   exact⟨_,rfl,q⟩
theorem Ci {l:Addr} {its:Array Value} {Q:Value->Shared->Prop} (hl:s.heap.IsTuple l its)
  (q:∀h1,IsEnum h1 (s.heap.objs.size + 1) s.heap.objs.size 0 .none->h1.IsTupleIter s.heap.objs.size l 0->(∀b o,s.heap.get? b=some o->h1.get? b=some o)->Q (.ref (s.heap.objs.size + 1)) { s with heap:=h1 }):wpAny (model prog w) A (call (.type "enumerate") [.ref l]) Q E s:=by
 obtain⟨o,e1,c1,n,d1⟩:=hl;refine callType_new F.called_enumerate (by decide) (F.typeCall_enumerate_1 _) (F.newCall_enumerate_1 _) (λob=>F.args_object_init_2 ob _) F.entry_enumerate_new (Ff l its o c1 n d1) ⟨e1,?_⟩;have z:(s.heap.push { cls:=.type "tuple_iterator",data:=.fields #[.ref l,.int 0 0] }).objs.size=s.heap.objs.size + 1:=Heap.size_push ..
 show _/\_
 rw [z]
 have i1:IsEnum ((s.heap.push { cls:=.type "tuple_iterator",data:=.fields #[.ref l,.int 0 0] }).push { cls:=.type "enumerate",data:=.fields #[.none,.bool false,.ref s.heap.objs.size,rawInt 0,.none,.none] }) (s.heap.objs.size + 1) s.heap.objs.size 0 .none:=by
  have y:=Lv (s.heap.push { cls:=.type "tuple_iterator",data:=.fields #[.ref l,.int 0 0] }) (o:={ cls:=.type "enumerate",data:=.fields #[.none,.bool false,.ref s.heap.objs.size,rawInt 0,.none,.none] }) rfl
  rw [z] at y;exact y
 exact⟨⟨_,i1,rfl⟩,q _ i1 ⟨_,Ld _ (Lv _ rfl),rfl,rfl⟩ λb o x=>Ld _ (Ld _ x)⟩
end
section
variable {X:Cx}
def KI (K:Le) (ta:TA):TI:=λσ H R=>ta σ H λvs H1=>∃a,vs=[.ref a]/\(((∃xs,fZ K H1 a xs)/\R (Iv λH xs=>fZ K H a xs) H1)\/((∃xs,gr K H1 a xs)/\R (Iv λH xs=>gr K H a xs) H1))
theorem Ew {elts:List Expr} {x1:Nat} {tp:Pos} {a:Expr} {ta:TA} {p pos:Pos} (hg:Gl X "enumerate") (hm:X.mg "enumerate" = none) (ha:PA X [a] ta) (hs:starEach [a] X.env=[(false,eval a X.env)]:=by rfl) :
  PI X (.Tuple elts x1 tp) (.Call (.Name "enumerate" p) [a] [] pos) (KI X.K ta):=by
 intro pins s σ H R I h;refine Call_ (lD I hg hm boot_enumerate (PyProof.Rows.callWith_type1 (bP (ha pos pins s σ H _ I h) λus s1 ⟨vs,H1,I1,r1,q1⟩=>?_) hs rfl));obtain⟨l,e,q⟩:=q1;subst e
 cases r1 with
 | cons r rr =>
  cases rr;cases r
  have fin:∀b∈[s1.heap.objs.size + 1,s1.heap.objs.size],lH X pins H1 b:=λb hb=>by
   have hb':s1.heap.objs.size<=b:=by
    rcases LB.mp hb with rfl|hb
    ·omega
    ·rw [LA.mp hb];exact Lh _
   exact I1.w6 hb' (I1.hok.fresh hb')
  rcases q with ⟨⟨xs,hq⟩,q⟩|⟨⟨xs,hq⟩,q⟩
  ·obtain⟨its,rv,pl,hz⟩:=I1.list hq;refine call_enumerate_list pl.isList λh1 i1 j1 _ k1=>?_;refine wpAny_pyIter_enum i1 ⟨_,[s1.heap.objs.size + 1,s1.heap.objs.size],_,_,H1,rfl,I1.kept (t':=s1.toks) k1,Aw l (s1.heap.objs.size + 1) s1.heap.objs.size (Nat.succ_ne_self _),⟨⟨_,i1⟩,j1⟩,fin,q⟩
  ·obtain⟨its,rv,pl,hz⟩:=I1.tuple hq;refine Ci (show s1.heap.IsTuple l its.toArray from pl) λh1 i1 j1 k1=>?_;refine wpAny_pyIter_enum i1 ⟨_,[s1.heap.objs.size + 1,s1.heap.objs.size],_,_,H1,rfl,I1.kept (t':=s1.toks) k1,AQ l (s1.heap.objs.size + 1) s1.heap.objs.size (Nat.succ_ne_self _),⟨⟨_,i1⟩,j1⟩,fin,q⟩
end
structure pw (K:Le) (J:It) (F1:Hp) (xs:List D):Prop where
 go:∀(i:Nat) (G H':Hp),ao F1 G->ao G H'->i < xs.length->J.go i H'
 yld:∀(i:Nat) (G H':Hp) (y:V) (H'':Hp) (x:D) (B:Base) (σ:St) (env:En),ao F1 G->Rep K B G H' σ env->xs[i]?=some x->J.yld i H' y H''->∃G',Rep K B G' H'' σ env/\ao G G'/\Den K G' x y
 stop:∀(G H':Hp),ao F1 G->ao G H'->J.stop xs.length H'
def jN (xs:List D):List D:=xs.mapIdx λi x=>.tup [.int (i:Int),x]
theorem vH {xs:List D} {i:Nat} {y:D} (h:(jN xs)[i]?=some y):∃x,xs[i]?=some x/\y=.tup [.int (i:Int),x]:=by
 unfold jN at h;rw [List.getElem?_mapIdx] at h
 cases e:xs[i]? with
 | none=>rw [e] at h;cases h
 | some x=>rw [e] at h;cases h;exact⟨x,rfl,rfl⟩
theorem nh {xs:List D}:(jN xs).length=xs.length:=by simp [jN]
theorem vM {K:Le} {F1:Hp} {vs:List V} {xs:List D} {S:Hp->List V->Prop} (hS:∀G H',ao F1 G->ao G H'->S H' vs) (r:ak K F1 xs vs):pw K (Iv S) F1 (jN xs) where
 go:=λi G H' s1 s2 hi=>by
  rw [nh] at hi;have:i < vs.length:=by rw [<- r.length];exact hi
  exact⟨vs,vs[i],hS G H' s1 s2,by simp [this]⟩
 yld:=λi G H' y H'' x B σ env s1 rp hx hy=>by
  obtain⟨x',hx',rfl⟩:=vH hx;obtain⟨v,h1,h2⟩:=r.get hx';obtain⟨p,u,q1,q3,rfl,rfl⟩:=hy;have q2:=q1 vs (hS G H' s1 rp.fh);rw [h1] at q2;cases q2;obtain⟨r2,s2⟩:=rp.laid (o:=.tup [.int i,v]) q3;exact⟨_,r2,s2,fP (gr.of av) (aD bz (aD (Den.mono (s1.trans s2) _ _ h2) aH))⟩
 stop:=λG H' s1 s2=>⟨vs,hS G H' s1 s2,by rw [nh,r.length];exact Lh _⟩
section
variable {X:Cx} {N':List Str} {ix:List Nat} {scope:Scope} {elt iter a b:Expr} {ifs:List Expr} {x y:Str} {px py tp pos:Pos} {c:Nat} {tt:TB} {te ti:TD} {ts:fY}
def Ck (d:D):Option (List D):=match d with|.lst xs=>some xs|.tup xs=>some xs|_=>none
theorem Bv {B:Base} {σ:St} {F H:Hp} {env:En} {P:List D->Prop} {R:It->Hp->Prop} (hi:QA X [a] ts) (rp:Rep X.K B F H σ env) (h:ts env λds=>∃d xs,ds=[d]/\Ck d=some xs/\P (jN xs))
  (hR:∀(J:It) (F1 H1:Hp) (xs:List D),Rep X.K B F1 H1 σ env->ao F F1->pw X.K J F1 xs->P xs->R J H1) :
  KI X.K (wA X [a]) σ H R:=by
 refine cO (hi B σ F H env _ rp h) λvs H1 hq0=>?_;obtain⟨F1,ds,r1,s1,d1,d,xs,hx,hd,q1⟩:=hq0;subst hx;simp only [ak] at d1;obtain⟨v,r,rfl,dv,rfl⟩:=d1
 cases d with
 | lst ys =>
  simp only [Ck] at hd;cases hd;simp only [Den] at dv;obtain⟨l,vs,rfl,q,r⟩:=dv
  exact⟨l,rfl,.inl ⟨⟨vs,r1.fh.seq q⟩,hR _ F1 H1 _ r1 s1 (vM (λG H' z1 z2=>z2.seq (z1.seq q)) r) q1⟩⟩
 | tup ys =>
  simp only [Ck] at hd;cases hd;simp only [Den] at dv;obtain⟨l,vs,rfl,q,r⟩:=dv
  exact⟨l,rfl,.inr ⟨⟨vs,ao.bF r1.fh q⟩,hR _ F1 H1 _ r1 s1 (vM (λG H' z1 z2=>ao.bF z2 (ao.bF z1 q)) r) q1⟩⟩
 | _=>simp only [Ck] at hd;cases hd
def r9 (ts:fY) (g:o9) (tb:bI):bI:=λD env=>ts env λds=>∃d xs,ds=[d]/\Ck d=some xs/\turns g tb D (jN xs) env
theorem sr {tg:Expr} {body:List Stmt} {g:o9} {t:bI} (hg:QG X tg g) (hb:o7 X body t) {B:Base} {σ:St} {F1 H1:Hp} {env:En} {D:Ends3} {J:It} {xs:List L3.D} (r1:Rep X.K B F1 H1 σ env) (S:pw X.K J F1 xs) (q1:turns g t D xs env) :
  ∃W:Nat->Nat->St->Hp->Prop,(∃m,W 0 m σ H1)/\∀i m σ H,W i m σ H->(J.stop i H/\(RS X B D).nx σ H)\/(J.go i H/\∃N:St->Hp->Prop,(∀σ' H',N σ' H'->∃m',m' < m/\W (i + 1) m' σ' H') /\
    ∀x H',J.yld i H x H'->wG X tg x σ H' λσ2 H2=>wSs X body { RS X B D with nx:=N,ct:=N,bk:=(RS X B D).nx } σ2 H2):=by
 have sm:=RS.same (X:=X) (B:=B) (D:=D) r1.f0;refine⟨λi m σ H=>m=xs.length - i/\i<=xs.length/\∃F env,Rep X.K ⟨F1,B.H,B.N,B.nb⟩ F H σ env/\turns g t D (xs.drop i) env,⟨xs.length,by simp,LZ _,F1,env,r1.now,by simpa using q1⟩,?_⟩
 rintro i m σ2 H2 ⟨rfl,hi2,F2,env2,r2,q2⟩
 by_cases hlt:i < xs.length
 ·have hxi:xs[i]?=some xs[i]:=by simp [hlt]
  rw [drop_cons hxi] at q2;refine .inr ⟨S.go i F2 H2 r2.f0 r2.fh hlt,λσ' H'=>∃F env,Rep X.K ⟨F1,B.H,B.N,B.nb⟩ F H' σ' env/\turns g t D (xs.drop (i + 1)) env,λσ' H' ⟨F',env',r',q'⟩=>⟨xs.length - (i + 1),by omega,rfl,by omega,F',env',r',q'⟩,λz H' hz=>?_⟩;obtain⟨G,rG,sG,dz⟩:=S.yld i F2 H2 z H' xs[i] _ σ2 env2 r2.f0 r2 hxi hz;refine gS (hg _ σ2 G _ env2 _ _ _ rG dz q2) λσ3 H3 hq0=>?_;obtain⟨F3,env3,r3,s3,q3⟩:=hq0
  exact jJ (hb _ σ3 F3 H3 env3 _ r3 q3) (λ_ _ q=>q) (λv H q=>sm.2.1 v H q) (λv H q=>sm.1 v H q) (λ_ _ q=>q)
 ·have e:i=xs.length:=by omega
  subst e;rw [L9 (Lh _)] at q2;exact .inl ⟨S.stop F2 H2 r2.f0 r2.fh,sm.1 _ _ ⟨F2,env2,r2,q2⟩⟩
theorem DK {elts:List Expr} {x1:Nat} {body:List Stmt} {g:o9} {t:bI} {p pos2:Pos} (hp:PassesOwn (model X.prog X.w) X.A X.env X.xe) (hc:X.calm=true) (hgl:Gl X "enumerate") (hm:X.mg "enumerate" = none) (ha:QA X [a] ts) (hg:QG X (.Tuple elts x1 tp) g) (hb:o7 X body t)
  (hst:starEach [a] X.env=[(false,eval a X.env)]:=by rfl) (hs:∀x,LX (.Call (.Name "enumerate" p) [a] [] pos2) X.env x=pure x:=by intro _;rfl):QS X (.For (.Tuple elts x1 tp) (.Call (.Name "enumerate" p) [a] [] pos2) body [] pos) (r9 ts g t):=by
 refine⟨λB σ F H env D rp h=>ei (nQ hp hc (Ew hgl hm jh hst) vO fi hs) ?_⟩;exact Bv (P:=λxs=>turns g t D xs env) ha rp h λJ F1 H1 xs r1 s1 S q=>sr hg hb r1 S q
end
mutual
theorem yk:∀(a b c:D),aV a b=true->aV a c=aV b c:=by
 intro a b c h;cases a <;> cases b <;> first|(simp only [aV,Lk] at h;done)|skip
 all_goals cases c <;> first|rfl|(simp only [aV,beq_iff_eq] at h ⊢;subst h;rfl)|skip
 all_goals first
  | (simp only [aV] at h ⊢;exact wI _ _ _ h)
  | (simp only [aV,beq_iff_eq] at h ⊢;rw [Bool.eq_iff_iff];simp only [beq_iff_eq];split at h <;> split <;> simp_all <;> omega)
  | (simp only [aV,beq_iff_eq] at h ⊢;rw [Bool.eq_iff_iff];simp only [beq_iff_eq];split at h <;> simp_all)
  | (simp only [aV,beq_iff_eq] at h ⊢;subst h;rw [Bool.eq_iff_iff];simp only [beq_iff_eq];split <;> simp_all)
  | (simp only [aV,beq_iff_eq] at h ⊢;subst h;split <;> simp_all)
theorem wI:∀(a b c:List D),dB a b=true->dB a c=dB b c:=by
 intro a b c h
 cases a with
 | nil=>cases b with
  | nil=>rfl
  | cons y r=>simp only [dB,Lk] at h
 | cons x r=>cases b with
  | nil=>simp only [dB,Lk] at h
  | cons y t =>
   simp only [dB,Bool.and_eq_true] at h
   cases c with
   | nil=>rfl
   | cons z u=>simp only [dB];rw [yk x y z h.1,wI r t u h.2]
end
section
variable {X:Cx} {pins:List (Addr×Obj)} {σ:St} {H F:Hp} {s:Shared}
open Classical in
noncomputable def kH (us:List Value) (ds:List D) (d:D) (u:Value):Bool:=decide (∃(i:Nat) (x:D),us[i]?=some u/\ds[i]?=some x/\aV x d=true)
open Classical in
theorem pb (I:Inv X pins σ H s) (fh:ao F H) {ds:List D} {vs:List V} {us:List Value} {d:D} (hd:bV ds < 1000) (dl:ak X.K F ds vs) (rv:Vals vs us) {j:Nat} {x:D} {u:Value} (hx:ds[j]?=some x) (hu:us[j]?=some u):kH us ds d u=aV x d:=by
 unfold kH
 have dle:∀(k:Nat) (y:D),ds[k]?=some y->dep y < 1000:=λk y hy=>by
  clear dl rv hx hu
  induction ds generalizing k with
  | nil=>simp at hy
  | cons z r ih =>
   simp only [bV] at hd
   cases k with
   | zero=>simp at hy;subst hy;omega
   | succ k=>exact ih (by omega) k (by simpa using hy)
 cases hb:aV x d with
 | true=>exact decide_eq_true ⟨j,x,hu,hx,hb⟩
 | false =>
  refine decide_eq_false λhq0=>?_;obtain⟨i,y,h1,h2,h3⟩:=hq0;obtain⟨v1,e1,d1⟩:=dl.get hx;obtain⟨v2,e2,d2⟩:=dl.get h2;obtain⟨w1,g1,r1⟩:=rv.get e1;obtain⟨w2,g2,r2⟩:=rv.get e2;rw [hu] at g1;cases g1;rw [h1] at g2;cases g2;have:=r1.inj r2;subst this;have k:=oX I fh y x _ (dle _ _ h2) (dle _ _ hx) d2 d1;rw [yk y x d k,hb] at h3;cases h3
theorem p7 (I:Inv X pins σ H s) (fh:ao F H) {ds:List D} {vs:List V} {us:List Value} {d:D} (hd:bV ds < 1000) (dl:ak X.K F ds vs) (rv:Vals vs us):us.map (kH us ds d)=ds.map λx=>aV x d:=by
 have l1:=dl.length;have l2:=rv.length;apply List.ext_getElem?
 intro i;rw [Lj,Lj]
 by_cases hi:i < ds.length
 ·have h1:ds[i]?=some ds[i]:=by simp [hi]
  have h2:us[i]?=some (us[i]'(by omega)):=Lc _;rw [h1,h2];simp only [Option.map_some];rw [pb I fh hd dl rv h1 h2]
 ·rw [Lp (by omega),Lp (by omega)];rfl
end
section
variable {X:Cx} {a b:Expr} {ta tb:TD} {pos:Pos}
def Jg (X:Cx) (neg:Bool):R2:=λx y H Q=>∃(F:Hp) (d:D) (ds:List D) (vs:List V) (p:Addr),ao F H/\Den X.K F d x/\y=.ref p/\(fZ X.K F p vs\/gr X.K F p vs)/\ak X.K F ds vs/\X.A.units + 64 < cLine/\bV ds<=60/\dep d<=60/\Q (.bl (if neg then !ds.any (λe=>aV e d) else ds.any λe=>aV e d)) H
theorem any_map' {α:Type} (f:α->Bool) (l:List α):l.any f=(l.map f).any id:=by rw [List.any_map];rfl
theorem pM {X:Cx} {pins:List (Addr×Obj)} {σ:St} {H F:Hp} {s:Shared} (I:Inv X pins σ H s) (fh:ao F H) {ds:List D} {vs:List V} {us:List Value} {d:D} {x:V} {v:Value} (hu:X.A.units + 64 < cLine) (hds:bV ds<=60) (hd:dep d<=60) (dl:ak X.K F ds vs) (rv:Vals vs us) (dx:Den X.K F d x) (rx:RelV x v) :
  ∀u∈us,SeqAt.EqAt X.A.in1 s u v (kH us ds d u):=by
 intro u hu';obtain⟨j,hj,e⟩:=List.getElem_of_mem hu';have h2:us[j]?=some u:=by rw [<- e];simp [hj]
 have l1:=dl.length;have l2:=rv.length;have h1:ds[j]?=some (ds[j]'(by omega)):=Lc _;rw [pb I fh (by omega) dl rv h1 h2];obtain⟨w,g1,g2⟩:=dl.get h1;obtain⟨u',g3,g4⟩:=rv.get g1;rw [h2] at g3;cases g3
 have dle:dep (ds[j]'(by omega))<=60:=by
  have go:∀(l:List D) (n:Nat),bV l<=n->∀y∈l,dep y<=n:=by
   intro l
   induction l with
   | nil=>intro n _ y hy;cases hy
   | cons z r ih =>
    intro n hn y hy;simp only [bV] at hn;rcases LB.mp hy with rfl|hy
    ·omega
    ·exact ih n (by omega) y hy
  exact go ds 60 hds _ (Md _)
 exact qx I fh _ d X.A.in1 _ x u v (by rw [units_in1];omega) (by omega) (by omega) g2 dx g4 rx
theorem Dc:jq X (compareOp .NotIn) (Jg X true):=by
 intro pins s σ H x y v u Q I rx ry h;obtain⟨F,d,ds,vs,p,fh,dx,rfl,hq,dl,hu,h1,h2,q⟩:=h;cases ry;rcases hq with hq|hq
 ·obtain⟨its,r,pl,hz⟩:=I.list (fh.seq hq);refine SeqAt.notIn_listAt (kH its ds d) pl.isList (λw hw=>pM I fh hu h1 h2 dl r dx rx w (by simpa using hw)) ⟨.bl _,H,I,rfl,?_⟩;rw [show its.toArray.any (kH its ds d)=its.any (kH its ds d) by simp,any_map',p7 I fh (by omega) dl r,<- any_map'];exact q
 ·obtain⟨its,r,pl,hz⟩:=I.tuple (ao.bF fh hq);refine SeqAt.notIn_tupleAt (kH its ds d) pl (λw hw=>pM I fh hu h1 h2 dl r dx rx w (by simpa using hw)) ⟨.bl _,H,I,rfl,?_⟩;rw [show its.toArray.any (kH its ds d)=its.any (kH its ds d) by simp,any_map',p7 I fh (by omega) dl r,<- any_map'];exact q
def Gy (neg:Bool) (x y:D) (Q:D->Prop):Prop:=∃ds,Ck y=some ds/\bV ds<=60/\dep x<=60/\Q (.bl (if neg then !ds.any (λe=>aV e x) else ds.any λe=>aV e x))
theorem GZ (hu:X.A.units + 64 < cLine) (neg:Bool):wO X (Jg X neg) (Gy neg):=by
 intro B σ F H env Q d d' x y Z rp h1 h2 hz hf;obtain⟨ds,e,l1,l2,q⟩:=hf
 cases d' with
 | lst xs =>
  simp only [Ck] at e;cases e;simp only [Den] at h2;obtain⟨p,vs,rfl,hq,dl⟩:=h2
  exact⟨F,d,_,vs,p,rp.fh,h1,rfl,.inl hq,dl,hu,l1,l2,hz _ H F _ rp (ao.refl _) hW q⟩
 | tup xs =>
  simp only [Ck] at e;cases e;simp only [Den] at h2;obtain⟨p,vs,rfl,hq,dl⟩:=h2
  exact⟨F,d,_,vs,p,rp.fh,h1,rfl,.inr hq,dl,hu,l1,l2,hz _ H F _ rp (ao.refl _) hW q⟩
 | _=>simp only [Ck] at e;cases e
theorem Fm (hu:X.A.units + 64 < cLine) (ha:QE X a ta) (hb:QE X b tb) (hm:behindInMarks .NotIn b=false:=by rfl):QT X (.Compare a [.NotIn] [b] pos) (aN (aG (Gy true) ta tb)):=ik Dc (GZ hu true) ha hb hm
def uJ (neg:Bool) (x:D):D:=.bl (match x with|.non=>!neg|_=>neg)
theorem ou {K:Le} {F:Hp} {d:D} {v:V} (h:Den K F d v):decide (v=.non)=(match d with|.non=>true|_=>false):=by
 cases d <;> simp only [Den] at h <;> first|(subst h;rfl)|(obtain⟨_,_,rfl,_⟩:=h;rfl)|(obtain⟨_,rfl,_⟩:=h;rfl)
def kj (neg:Bool) (x y:D) (Q:D->Prop):Prop:=y=.non/\Q (uJ neg x)
theorem GR:wO X (λx y H Q=>y=.non/\Q (.bl (decide (x=.non))) H) (kj false):=by
 intro B σ F H env Q d d' x y Z rp h1 h2 hz hf;obtain⟨rfl,q⟩:=hf;simp only [Den] at h2;refine⟨h2,hz _ H F _ rp (ao.refl _) ?_ q⟩;rw [ou h1];unfold uJ;cases d <;> exact hW
theorem Ef:wO X (λx y H Q=>y=.non/\Q (.bl (!decide (x=.non))) H) (kj true):=by
 intro B σ F H env Q d d' x y Z rp h1 h2 hz hf;obtain⟨rfl,q⟩:=hf;simp only [Den] at h2;refine⟨h2,hz _ H F _ rp (ao.refl _) ?_ q⟩;rw [ou h1];unfold uJ;cases d <;> exact hW
theorem Jc (ha:QE X a ta) (hb:QE X b tb):QT X (.Compare a [.Is] [b] pos) (aN (aG (kj false) ta tb)):=ik Hn GR ha hb (f7 _)
theorem GB (ha:QE X a ta) (hb:QE X b tb):QT X (.Compare a [.IsNot] [b] pos) (aN (aG (kj true) ta tb)):=ik Dh Ef ha hb (f7 _)
end
end L2.L3
namespace L2
open PySem PySem.Spec PyProof.Rows
section
variable {X:Cx}
theorem Vals.insertAt {xs:List V} {us:List Value} {x:V} {u:Value} (h:Vals xs us) (r:RelV x u) (k:Nat):Vals (xs.take k ++ x :: xs.drop k) (us.take k ++ u :: us.drop k):=by
 induction h generalizing k with
 | nil=>simp;exact .cons r .nil
 | @cons y w ys ws q t ih =>
  cases k with
  | zero=>exact .cons r (.cons q t)
  | succ k=>exact .cons q (ih k)
def Di:V->List V->Hp->VK->Prop:=λx vs H Q=>∃l xs i y,x=.ref l/\vs=[.int i,y]/\H l=some (.lst xs)/\0<=i/\i<=xs.length/\xs.length < sizeLine/\Q .non (upd H l (.lst (xs.take i.toNat ++ y :: xs.drop i.toNat)))
theorem zw:Kj X "list.insert" Di:=by
 intro pins s σ H x vs v us Q I rx rv h;obtain⟨l,xs,i,y,rfl,rfl,hH,h0,h1,h2,q⟩:=h;cases rx;obtain⟨u,w,rfl,ru,rw'⟩:=rv.two;obtain⟨t,rfl⟩:=ru;obtain⟨z,its,n,r,hl,e⟩:=I.E7 hH;have hs:xs.length<=2 ^ 62:=by rw [sizeLine_eq] at h2;omega
 have hfit:¬ (!Builtin.List.listFitsIndex i)=true:=by
  rw [fitsIndex_both (by omega) (by omega)];exact Bool.false_ne_true
 refine call_meets F.slot_list_insert ⟨_,e,rfl⟩ F.entry_list_insert (F.args_list_insert_3 _ _ _) (AutoSeq1.list_insert_list_int_val_1 l its.toArray n i t w hfit (by rw [Ly];omega)) ⟨e,?_⟩;refine⟨.non,_,I.FP (its':=its.take i.toNat ++ w :: its.drop i.toNat) hH e ?_ (r.insertAt rw' i.toNat) ?_,rfl,q⟩
 ·apply Array.toList_inj.mp
  have c1:¬ i < 0:=by omega
  have c2:min i.toNat its.toArray.size=i.toNat:=by rw [Ly];omega
  simp only [c1,if_false,c2];simp;exact Mh (by simp)
 ·simp;omega
end
end L2
namespace L2.L3
open PySem PySem.Spec PyProof.Rows
section
variable {X:Cx} {e f:Expr} {te tf:TD} {ts:fY} {pos:Pos}
def pg (i:Nat) (te tf:TD):bI:=λD env=>∃xs,env[i]?=some (some (.own xs))/\te env λy=>tf env λx=>∃k:Int,y=.int k/\0<=k/\k<=xs.length/\xs.length < sizeLine/\D.nx (env.set i (some (.own (xs.take k.toNat ++ x :: xs.drop k.toNat))))
theorem Ad {x:Str} {px apos cpos:Pos} (i:Nat) (he:QE X e te) (hf:QE X f tf) (hN:X.N[i]?=some x:=by rfl) (hv:ua X.env.scope x:=by first | exact Or.inl rfl | exact Or.inr (Or.inl rfl) | exact Or.inr (Or.inr rfl)) (hd:(x == ("__debug__" : Str))=false:=by decide) (hcd:(x == ("__classdict__" : Str))=false:=by decide)
  (hbase:attributeBase (.Name x px) "insert" X.env (eval (.Name x px) X.env)=eval (.Name x px) X.env:=by rfl)
  (hfew:((backTo cpos (starEach [e,f] X.env)).all (λx=>!x.1) && (backToKw cpos (keywordEach [] X.env)).all (λx=>x.1.isSome)
   && decide (([e,f]:List Expr).length + ([]:List Keyword).length + (if ([]:List Keyword).isEmpty then 0 else 1) < 30))=true:=by rfl)
  (hline:(apos.endLine == cpos.line)=true:=by rfl) (hst:starEach [e,f] X.env=(false,eval e X.env) :: starEach [f] X.env:=by exact aZ rfl) (hst2:starEach [f] X.env=(false,eval f X.env) :: starEach [] X.env:=by exact aZ rfl) (hplain:(backTo cpos (starEach ([f]:List Expr) X.env)).any (·.1)=false:=by rfl)
  (hs:swapsWith (.Call (.Attribute (.Name x px) "insert" apos) [e,f] [] cpos) none pos.line X.env=pure false:=by rfl) :
  QS X (.Expr (.Call (.Attribute (.Name x px) "insert" apos) [e,f] [] cpos) pos) (pg i te tf):=by
 refine⟨?_⟩;intro B σ F H env D rp h;refine ei (uo (yX PySem.F.plainAttrs_list PySem.F.slot_list_insert PySem.F.type_list_insert zw (dU hN hv hd hcd) (eG bO (eG bO gJ hst2) hst) hbase hfew hline hst hplain) hs) ?_;obtain⟨xs,hx,h⟩:=h;obtain⟨p,vs,h1,h2,h3,h4,h5⟩:=rp.ov i xs hx;refine⟨.ref p,h1,.inl ⟨rfl,vs,fZ.of h2⟩,?_⟩;refine aC (he B σ F H env _ rp h) λy H1 hq0=>?_;obtain⟨F1,d,r1,s1,d1,q1⟩:=hq0;refine aC (hf B σ F1 H1 env _ r1 q1) λz H2 hq0=>?_
 obtain⟨F2,d',r2,s2,d2,k,e1,k0,k1,k2,q2⟩:=hq0;subst e1;simp only [Den] at d1;subst d1;obtain⟨p',vs',g1,g2,g3,g4,g5⟩:=r2.ov i xs hx;rw [h1] at g1;cases g1;have hl:=g5.length;exact⟨p,vs',k,z,rfl,rfl,g2,k0,by omega,by omega,F2,_,r2.change hx h1 ((g5.take _).append (aD d2 (g5.drop _))),q2⟩
def pV (i:Nat):TB:=λenv Q=>∃xs,env[i]?=some (some (.own xs))/\bV xs<=50/\Q (!xs.isEmpty)
theorem yB {x:Str} {px pl:Pos} (i:Nat) (hu:X.A.units + 64 < cLine) (hN:X.N[i]?=some x:=by rfl) (hv:ua X.env.scope x:=by first | exact Or.inl rfl | exact Or.inr (Or.inl rfl) | exact Or.inr (Or.inr rfl)) (hd:(x == ("__debug__" : Str))=false:=by decide)
  (hcd:(x == ("__classdict__" : Str))=false:=by decide):QT X (.Compare (.Name x px) [.NotEq] [.List [] pl] pos) (pV i):=by
 refine⟨λB σ F H env Q rp h=>rL (mi tm (dU hN hv hd hcd) (xU gJ) (f7 _)) ?_⟩;obtain⟨xs,hx,hdep,q⟩:=h;obtain⟨p,vs,h1,h2,h3,h4,h5⟩:=rp.ov i xs hx;refine⟨.ref p,h1,by simp [Lu],λw hw=>?_⟩;have ne:p≠w:=λz=>by subst z;rw [h2] at hw;cases hw
 have s1:ao F (upd F p (.lst vs)):=bC h3;refine⟨upd (upd F p (.lst vs)) w (.lst []),.lst xs,.lst [],?_,?_,?_,by simp only [dep];omega,by simp only [dep];omega,by decide,!xs.isEmpty,?_,F,rp.loose hw,ao.refl _,q⟩
 ·refine rY λb o hb=>?_
  by_cases z:b=p
  ·subst z;rw [av] at hb;cases hb;exact h2
  ·rw [az z] at hb;exact rp.fh _ _ hb
 ·have s2:ao (upd F p (.lst vs)) (upd (upd F p (.lst vs)) w (.lst [])):=bC (by rw [az (Ne.symm ne)];exact rp.mj hw);exact gw (fZ.of (by rw [az ne];exact av)) (ak.mono (s1.trans s2) _ _ h5)
 ·exact gw (fZ.of av) aH
 ·cases xs <;> rfl
def mO (j i:Nat) (te:TD):bI:=λZ env=>∃xs,env[i]?=some (some (.own xs))/\te env λy=>∃(k:Nat) (x:D),y=.int k/\xs[k]?=some x/\k < 2 ^ 62/\Z.nx ((env.set i (some (.own (xs.eraseIdx k)))).set j (some (.d x)))
theorem ak.eraseIdx {K:Le} {F:Hp}:∀{ds:List D} {vs:List V} (k:Nat),ak K F ds vs->ak K F (ds.eraseIdx k) (vs.eraseIdx k)
 | [],vs,k,h=>by simp only [ak] at h;subst h;simpa using aH
 | d :: ds,vs,0,h=>by
  simp only [ak] at h;obtain⟨v,r,rfl,a,b⟩:=h
  exact b
 | d :: ds,vs,k + 1,h=>by
  simp only [ak] at h;obtain⟨v,r,rfl,a,b⟩:=h;exact aD a (ak.eraseIdx k b)
theorem sD {x y:Str} {px py apos cpos:Pos} (j i:Nat) (nd:X.N.Nodup) (he:QE X e te) (hN:X.N[i]?=some x:=by rfl) (hv:ua X.env.scope x:=by first | exact Or.inl rfl | exact Or.inr (Or.inl rfl) | exact Or.inr (Or.inr rfl)) (hd:(x == ("__debug__" : Str))=false:=by decide) (hcd:(x == ("__classdict__" : Str))=false:=by decide)
  (hj:X.N[j]?=some y:=by rfl) (hy:Loc X.env.scope y:=by first|exact Or.inl rfl|exact Or.inr rfl)
  (hbase:attributeBase (.Name x px) "pop" X.env (eval (.Name x px) X.env)=eval (.Name x px) X.env:=by rfl)
  (hfew:((backTo cpos (starEach [e] X.env)).all (λx=>!x.1) && (backToKw cpos (keywordEach [] X.env)).all (λx=>x.1.isSome)
   && decide (([e]:List Expr).length + ([]:List Keyword).length + (if ([]:List Keyword).isEmpty then 0 else 1) < 30))=true:=by rfl)
  (hline:(apos.endLine == cpos.line)=true:=by rfl) (hst:starEach [e] X.env=(false,eval e X.env) :: starEach [] X.env:=by exact aZ rfl) (hplain:(backTo cpos (starEach ([]:List Expr) X.env)).any (·.1)=false:=by rfl)
  (hs:swapsWith (.Call (.Attribute (.Name x px) "pop" apos) [e] [] cpos) (some (.Name y py)) pos.line X.env=pure false:=by rfl) (hf:X.fn y=true\/X.env.scope.names.lookup y=some .local:=by first | exact .inl rfl | exact .inr rfl) :
  QS X (.Assign [.Name y py] (.Call (.Attribute (.Name x px) "pop" apos) [e] [] cpos) pos) (mO j i te):=by
 refine⟨λB σ F H env D rp h pins s I=>?_⟩;refine ju (i:=j) nd hj hy (yX PySem.F.plainAttrs_list PySem.F.slot_list_pop PySem.F.type_list_pop wq (dU hN hv hd hcd) (eG bO gJ hst) hbase hfew hline hst hplain) hs hf pins s σ H _ I ?_;obtain⟨xs,hx,h⟩:=h;obtain⟨p,vs,h1,h2,h3,h4,h5⟩:=rp.ov i xs hx;refine⟨.ref p,h1,.inl ⟨rfl,vs,fZ.of h2⟩,?_⟩;refine aC (he B σ F H env _ rp h) λw H1 hq0=>?_;obtain⟨F1,d,r1,s1,d1,k,x',e1,hk,hk2,q1⟩:=hq0
 subst e1;simp only [Den] at d1;subst d1;obtain⟨p',vs',g1,g2,g3,g4,g5⟩:=r1.ov i xs hx;rw [h1] at g1;cases g1;obtain⟨u,hu,du⟩:=g5.get hk;have hl:=g5.length;have hkl:=(La.mp hk).1;have hix:seqIndex? (k:Int) vs'.length=some k:=(o3 (n:=vs'.length) (i:=(k:Int)) (j:=k) (by unfold rZ;rw [if_pos (by omega),if_pos (by omega)];simp)).1;refine⟨p,vs',k,k,u,rfl,rfl,g2,by omega,by omega,hix,hu,F1,_,(r1.change hx h1 (g5.eraseIdx k)).set du ?_,q1⟩
 rw [I.len];exact (La.mp hj).1
theorem rN {a:Expr} {ta:TA} {p:Pos} (hg:Gl X "range") (hm:X.mg "range" = none) (ha:PA X [a] ta) (hs:starEach [a] X.env=[(false,eval a X.env)]:=by rfl) :
  PE X (.Call (.Name "range" p) [a] [] pos) (λσ H Q=>ta σ H λvs H1=>∃n:Int,vs=[.int n]/\∀r,H1 r=none->Q (.ref r) (upd H1 r (.rng 0 n))):=by
 intro pins s σ H Q I h;refine Call_ (lD I hg hm boot_range (PyProof.Rows.callWith_type1 (bP (ha pos pins s σ H _ I h) λus s1 ⟨vs,H1,I1,r1,q1⟩=>?_) hs rfl));obtain⟨n,rfl,q⟩:=q1;obtain⟨u,rfl,ru⟩:=r1.one;obtain⟨t,rfl⟩:=ru;refine call_range_1 ⟨.ref s1.heap.objs.size,_,I1.laid (λb o e=>Ld _ e) (Lh _) (show bH X.prog X.w _ _ _ (.rng 0 n) from ⟨_,_,_,Lv _ rfl⟩),rfl,q _ (I1.hok.fresh (Lh _))⟩
theorem iH {n:Nat} {acc:Array Value} (h:ItemsOf (λi v=>∃t,v=.int ((0:Int) + i * 1) t) acc n):Vals ((List.range n).map λ(i:Nat)=>V.int (i:Int)) acc.toList:=by
 have hl:acc.toList.length=n:=by simpa using h.1
 have go:∀(l:List Value) (k:Nat),(∀(j:Nat) (v:Value),l[j]?=some v->∃t,v=.int ((k + j:Nat):Int) t)->Vals ((List.range' k l.length).map λ(i:Nat)=>V.int (i:Int)) l:=by
  intro l
  induction l with
  | nil=>intro k _;exact .nil
  | cons v r ih =>
   intro k hk;obtain⟨t,e⟩:=hk 0 v rfl;refine .cons ⟨t,by simpa using e⟩ (ih (k + 1) λj w hw=>?_);obtain⟨t',e'⟩:=hk (j + 1) w (by simpa using hw);exact⟨t',by rw [e'];congr 1;omega⟩
 have:=go acc.toList 0 λj v hv=>by
  obtain⟨t,e⟩:=h.2 j v (by simpa using hv);exact⟨t,by rw [e];congr 1;omega⟩
 rw [hl,<- List.range_eq_range'] at this;exact this
theorem xG (hc:X.calm=true):e7 X (.type "list") (λxs H Q=>∃r n,xs=[.ref r]/\H r=some (.rng 0 n)/\(-(2 ^ 62)<=n/\n<=16777216)/\∀l,H l=none->Q (.ref l) (upd H l (.lst ((List.range n.toNat).map λ(i:Nat)=>V.int (i:Int))))):=by
 intro pins s σ H xs us Q I r h;obtain⟨a,n,rfl,hr,⟨n1,n2⟩,q⟩:=h;obtain⟨u,rfl,rx⟩:=vals1 r;cases rx;obtain⟨t,u,v,e⟩:=(show bH X.prog X.w H s.heap a (.rng 0 n) from I.hok a _ hr);have hsz:Builtin.Range.rangeSize 0 n 1=(n.toNat:Int):=by rw [rangeSize_one];split <;> omega
 refine call_list_range (I.ok.hd hc) e (small_one (by decide) (by decide) n1 (by omega)) hsz (by omega) λh' tk acc c kp e' it=>?_;refine⟨.ref s.heap.objs.size,_,I.laid (t':=tk) kp (Lh _) (show bH X.prog X.w _ h' _ (.lst ((List.range n.toNat).map λ(i:Nat)=>V.int (i:Int))) from ⟨by simp [Lu];omega,acc.toList,c,iH it,by simpa using e'⟩),rfl,q _ (I.hok.fresh (Lh _))⟩
def p9 (ts:fY):fY:=λenv Q=>ts env λds=>∃n:Int,ds=[.int n]/\(-(2 ^ 62)<=n/\n<=16777216)/\Q (aW 0 n.toNat)
theorem pq {K:Le} {F:Hp} (n:Nat):ak K F (aW 0 n) ((List.range n).map λ(i:Nat)=>V.int (i:Int)):=by
 have e:aW 0 n=((List.range n).map λ(i:Nat)=>(i:Int)).map D.int:=by unfold aW;rw [List.map_map];congr 1;funext i;simp
 have e2:((List.range n).map λ(i:Nat)=>V.int (i:Int))=((List.range n).map λ(i:Nat)=>(i:Int)).map V.int:=by rw [List.map_map];rfl
 rw [e,e2];exact rT _
theorem wa {a:Expr} {p p2 pos2:Pos} (hm:X.mg "list" = none) (hm2:X.mg "range" = none) (ha:QA X [a] ts) (hc:X.calm=true:=by rfl) (hg:Gl X "list":=by rfl) (hg2:Gl X "range":=by rfl) (hs:starEach [a] X.env=[(false,eval a X.env)]:=by rfl)
  (he:starEach [.Call (.Name "range" p2) [a] [] pos2] X.env=(false,eval (.Call (.Name "range" p2) [a] [] pos2) X.env) :: starEach [] X.env:=by exact aZ rfl) (hpl:(backTo pos (starEach ([]:List Expr) X.env)).any (·.1)=false:=by rfl) :
  QF X (.Call (.Name "list" p) [.Call (.Name "range" p2) [a] [] pos2] [] pos) (p9 ts):=by
 refine⟨λB σ F H env Q rp h=>dA (kC (xG hc) hg hm lG (eG (rN hg2 hm2 jh hs) gJ he) (by decide) (by decide) he hpl) ?_⟩;refine cO (ha B σ F H env _ rp h) λvs H1 hq0=>?_;obtain⟨F1,ds,r1,s1,d1,n,e1,hn,q1⟩:=hq0;subst e1;simp only [ak,Den] at d1;obtain⟨v,r,rfl,rfl,rfl⟩:=d1;refine⟨n,rfl,λr hr=>?_⟩;obtain⟨r2,s2⟩:=r1.laid (o:=.rng 0 n) hr;exact⟨r,n,rfl,av,hn,λw hw=>⟨_,_,w,_,_,rfl,hw,rfl,r2,s1.trans s2,pq _,q1⟩⟩
end
section
variable {X:Cx} {N':List Str} {ix:List Nat} {scope:Scope} {elt a:Expr} {ifs:List Expr} {x:Str} {px py pos spos p pos2:Pos} {tt:TB} {te:TD} {ts:fY}
theorem oU {y:Str} (i:Nat) (hNd:X.N.Nodup) (hc:X.calm=true) (O:bK X N' 1 ix scope) (hN:N'.Nodup) (h0:N'[0]?=some x) (hx:(relabel scope X.env).names.lookup x=some .local) (hgl:Gl X "range") (hm:X.mg "range" = none) (ha:QA X [a] ts)
  (ht:∀C s H fp pins,pN (aJ X N' scope C s H fp pins) ifs tt) (he:∀C s H fp pins,QE (aJ X N' scope C s H fp pins) elt te) (hy:X.N[i]?=some y:=by rfl) (hl:Loc X.env.scope y:=by first|exact Or.inl rfl|exact Or.inr rfl)
  (hsw:swapsWith (.ListComp elt [⟨.Name x px,.Call (.Name "range" p) [a] [] pos2,ifs,0⟩] scope pos) (some (.Name y py)) spos.line X.env=pure true:=by rfl) (hf:X.fn y=true\/X.env.scope.names.lookup y=some .local:=by first | exact .inl rfl | exact .inr rfl)
  (hst:starEach [a] X.env=[(false,eval a X.env)]:=by rfl) (hs:∀x,LX (.Call (.Name "range" p) [a] [] pos2) X.env x=pure x:=by intro _;rfl) :
  QS X (.Assign [.Name y py] (.ListComp elt [⟨.Name x px,.Call (.Name "range" p) [a] [] pos2,ifs,0⟩] scope pos) spos) (cw i (fv hU ix ts tt te)):=by
 refine⟨λB σ F H env D rp h pins s I=>?_⟩;refine pB hc (j3 hgl hm jh hst) O hNd hy hl hsw hf hs pins s σ H _ I ?_;refine cO (ha B σ F H env _ rp h) λvs H1 hq0=>?_;obtain⟨F1,ds,r1,s1,d1,q1⟩:=hq0
 (try dsimp only at q1);unfold hU at q1
 split at q1
 ·simp only [ak,Den] at d1;obtain⟨v,r,rfl,rfl,rfl⟩:=d1;refine⟨_,rfl,q1.1.1,q1.1.2,?_⟩;intro a' C s fp pins ha';obtain⟨W,w0,step⟩:=kc (X:=X) (px:=px) hN h0 hx ht he s1 r1 jt q1.2 a' C s fp pins ha';refine⟨W,w0,λi' m σ' H' w=>?_⟩;rcases step i' m σ' H' w with ⟨st,z⟩|z
  ·refine .inl ⟨st,?_⟩;obtain⟨F',H2,p,vs,ds,e1,hp,e2,r',s',hd,q'⟩:=z;cases e1;subst e2;refine⟨F',_,r'.Au hp hd ?_,q'⟩;rw [I.len];exact (La.mp hy).1
  ·exact .inr z
 ·exact q1.elim
end
section
variable {X:Cx} {o e:Expr} {to te:TD} {apos cpos:Pos}
theorem zr {X:Cx} {pins:List (Addr×Obj)} {σ:St} {H F:Hp} {s:Shared} (I:Inv X pins σ H s) (fh:ao F H) {ds:List D} {vs:List V} {us:List Value} {d:D} {x:V} {v:Value} (A:Around) (hu:A.units + 62 < cLine) (hds:bV ds<=60) (hd:dep d<=60) (dl:ak X.K F ds vs) (rv:Vals vs us) (dx:Den X.K F d x) (rx:RelV x v) :
  ∀u∈us,SeqAt.EqAt A s u v (kH us ds d u):=by
 intro u hu';obtain⟨j,hj,e⟩:=List.getElem_of_mem hu';have h2:us[j]?=some u:=by rw [<- e];simp [hj]
 have l1:=dl.length;have l2:=rv.length;have h1:ds[j]?=some (ds[j]'(by omega)):=Lc _;rw [pb I fh (by omega) dl rv h1 h2];obtain⟨w,g1,g2⟩:=dl.get h1;obtain⟨u',g3,g4⟩:=rv.get g1;rw [h2] at g3;cases g3
 have dle:dep (ds[j]'(by omega))<=60:=by
  have go:∀(l:List D) (n:Nat),bV l<=n->∀y∈l,dep y<=n:=by
   intro l
   induction l with
   | nil=>intro n _ y hy;cases hy
   | cons z r ih =>
    intro n hn y hy;simp only [bV] at hn;rcases LB.mp hy with rfl|hy
    ·omega
    ·exact ih n (by omega) y hy
  exact go ds 60 hds _ (Md _)
 exact qx I fh _ d A _ x u v (by omega) (by omega) (by omega) g2 dx g4 rx
end
section
variable {X:Cx} {a b e:Expr} {ta te:TD} {pos p2:Pos}
abbrev HW:=En->(D->En->Prop)->Prop
def KW (X:Cx) (B:Base) (σ:St) (F:Hp) (Q:D->En->Prop):VK:=λv H'=>∃F' d env',Rep X.K B F' H' σ env'/\ao F F'/\Den X.K F' d v/\Q d env'
structure Hy (X:Cx) (e:Expr) (t:HW):Prop where
 of ::
 run:∀(B:Base) (σ:St) (F H:Hp) (env:En) (Q:D->En->Prop),Rep X.K B F H σ env->t env Q->wE X e σ H (KW X B σ F Q)
def IM (t:TD):HW:=λenv Q=>t env λd=>Q d env
theorem Hy.up {t:TD} (h:QE X e t):Hy X e (IM t):=⟨λB σ F H env Q rp q=>aC (h B σ F H env _ rp q) λv H' ⟨F',d,r,s,dv,q'⟩=>⟨F',d,env,r,s,dv,q'⟩⟩
end
end L2.L3
local macro_rules | `(tactic| simp_arith only [$ls,*] $[$loc]?) => `(tactic| ((try dsimp only [$(⟨ls.elemsAndSeps⟩),*, L2.L3.aI, L2.L3.iI, L2.L3.cz, L2.L3.bQ, L2.L3.jF, L2.L3.iP, L2.L3.bJ, L2.L3.oW, L2.L3.mI, L2.L3.gq, L2.L3.cw, L2.L3.dS, L2.L3.dq, L2.L3.rq, L2.L3.ag, L2.L3.cC, L2.L3.aG, L2.L3.Cg, L2.L3.aN, L2.L3.nK, L2.L3.qI, L2.L3.Am, L2.L3.aA, L2.L3.af, L2.L3.aw, L2.L3.bU, L2.L3.jx, L2.L3.cX, L2.L3.mE, L2.L3.EM, L2.L3.lR, L2.L3.cZ, L2.L3.a9, L2.L3.jo, L2.L3.jg, L2.L3.cg, L2.L3.aF, LM, List.map_nil, L0, Mc, List.cons_append, List.nil_append, LO, LK, List.set_cons_zero, List.set_cons_succ, L2.L3.ir, L2.L3.fv, L2.L3.oi, L2.L3.iZ, L2.L3.j8, L2.L3.j7, L2.L3.g8, L2.L3.m7, L2.L3.jD, L2.L3.gN, L2.L3.nj, L2.L3.nB, L2.L3.m5, L2.L3.kh, L2.L3.kz, L2.L3.fj, L2.L3.iA, L2.L3.oa, L2.L3.lE, L2.L3.Hs, L2.L3.wZ, L2.L3.l6, L2.L3.xy, L2.L3.kd, L2.L3.cH, L2.L3.pg, L2.L3.mO, L2.L3.pV, L2.L3.p9, L2.L3.r9, L2.L3.IM] $[$loc]?); (try simp only [$ls,*, L2.L3.aI, L2.L3.iI, L2.L3.cz, L2.L3.bQ, L2.L3.jF, L2.L3.iP, L2.L3.bJ, L2.L3.oW, L2.L3.mI, L2.L3.gq, L2.L3.cw, L2.L3.dS, L2.L3.dq, L2.L3.rq, L2.L3.ag, L2.L3.cC, L2.L3.aG, L2.L3.Cg, L2.L3.aN, L2.L3.nK, L2.L3.qI, L2.L3.Am, L2.L3.aA, L2.L3.af, L2.L3.aw, L2.L3.bU, L2.L3.jx, L2.L3.cX, L2.L3.mE, L2.L3.EM, L2.L3.lR, L2.L3.cZ, L2.L3.a9, L2.L3.jo, L2.L3.qD, L2.L3.qA, L2.L3.jg, L2.L3.cg, L2.L3.aF, LM, List.map_nil, L0, Mc, List.cons_append, List.nil_append, L4, LO, LK, List.getElem?_nil, List.set_cons_zero, List.set_cons_succ, Option.some.injEq, L2.L3.Lo.d.injEq, L2.L3.Lo.own.injEq, L2.L3.D.bl.injEq, L2.L3.D.int.injEq, exists_eq_left', exists_eq_left, Nat.reduceAdd, Nat.reduceSub, Nat.sub_self, Nat.add_one_sub_one, List.replicate_succ, List.replicate_zero, L2.L3.D.tup.injEq, List.cons.injEq, and_assoc, L2.L3.ir, L2.L3.fv, L2.L3.oi, L2.L3.iZ, L2.L3.j8, L2.L3.j7, L2.L3.g8, L2.L3.m7, L2.L3.tU, L2.L3.jv, L2.L3.xW, L2.L3.xJ, L2.L3.xp, L2.L3.jD, L2.L3.gN, L2.L3.nj, L2.L3.sS, L2.L3.uN, L2.L3.nB, L2.L3.m5, L2.L3.kh, L2.L3.kz, L2.L3.fj, L2.L3.iA, L2.L3.pW, L2.L3.pC, L2.L3.CD, L2.L3.xY, L2.L3.xO, decide_eq_true_eq, true_and, and_true, if_true, if_false, Lk, Bool.not_eq_true', decide_eq_false_iff_not, Lu, Int.reduceToNat, Int.reducePow, Int.reduceMul, Int.reduceAdd, Int.reduceNeg, Int.reduceSub, Int.reduceLT, Int.reduceLE, Int.reduceEq, Nat.reduceEqDiff, decide_true, decide_false, Nat.reduceLeDiff, Nat.reduceLT, Bool.true_eq_false, Bool.not_true, Bool.not_false, Bool.not_not, L2.L3.oa, L2.L3.lE, L2.L3.Hs, L2.L3.wZ, L2.L3.l6, L2.L3.xy, L2.L3.kd, L2.L3.sA, L2.L3.rX, L2.L3.D.lst.injEq, L2.L3.cH, L2.L3.pg, L2.L3.mO, L2.L3.pV, L2.L3.p9, L2.L3.r9, L2.L3.Ck, L2.L3.IM] $[$loc]?)))
namespace L2.L3
open PySem PySem.Spec PyProof.Rows
def XY (X:Cx) (B:Base) (xc:Str->Prop):Value->Shared->Prop:=λe s'=>wpAny (model X.prog X.w) X.A (noteFrame e X.env) (λ_ s2=>wpAny (model X.prog X.w) X.A (setFlight e none) (λ_ s3=>XZ X B xc e s3) (λ_ _=>False) s2) (λ_ _=>False) s'
theorem XZ.KN {X:Cx} {B:Base} {xc:Str->Prop} {e:Value} {s':Shared} (hst:X.stack=X.env :: X.outer) (hf:X.env.frame=some X.env.locals) (h:XZ X B xc e s'):XY X B xc e s':=by
 obtain⟨pins,a,c,C,σ',H',F',env',rfl,th,r,hm,hx⟩:=h;exact th.note hst hf λs'' t''=>⟨pins,a,c,C,σ',H',F',env',rfl,t'',r,hm,hx⟩
structure QY (X:Cx) (st:Stmt) (t:uS):Prop where
 of ::
 run:∀(B:Base) (σ:St) (F H:Hp) (env:En) (D:vU),Rep X.K B F H σ env->t D env->wS (X.cM (XY X B D.xc)) st (RS X B D.toEnds3) σ H
structure Hq (X:Cx) (st:List Stmt) (t:uS):Prop where
 of ::
 run:∀(B:Base) (σ:St) (F H:Hp) (env:En) (D:vU),Rep X.K B F H σ env->t D env->wSs (X.cM (XY X B D.xc)) st (RS X B D.toEnds3) σ H
section
variable {X:Cx} {c e:Expr} {es:List Expr} {st:Stmt} {sts xs ys body:List Stmt} {p q:uS} {tc:TB} {pos:Pos}
theorem kJ (h:QZ X st p) (hst:X.stack=X.env :: X.outer:=by rfl) (hf:X.env.frame=some X.env.locals:=by rfl):QY X st p:=⟨λB σ F H env D rp hq pins s I =>
 LG (h.run B σ F H env D rp hq pins s (I.bG.cM _)) (λ_ _ q=>SP.xj q) λ_ _ z=>XZ.KN hst hf z⟩
theorem yf (h:QY X st p):Hq X [st] p:=⟨λB σ F H env D rp hq=>nC (tN CB) (h.run B σ F H env D rp hq)⟩
theorem fu (h1:QY X st p) (h2:Hq X sts q):Hq X (st :: sts) (l6 p q):=by
 refine⟨λB σ F H env D rp h=>nC (uX CB fi) ?_⟩;exact yT (h1.run B σ F H env { D with nx:=q D } rp h) (λσ' H' ⟨F',env',rp',q⟩=>h2.run B σ' F' H' env' D rp' q) (λ_ _ q=>q) (λ_ _ q=>q) (λ_ _ q=>q)
def xF (c:TB) (tb:uS):uS:=λD env=>∃(I:En->Prop) (μ:En->Nat),I env/\∀env,I env->c env λk=>if k=true then tb { D with nx:=λe'=>I e'/\μ e' < μ env,ct:=λe'=>I e'/\μ e' < μ env,bk:=D.nx } env else D.nx env
theorem Cf (hc:QT X.sL c tc) (hb:Hq X body p):QY X (.While c body [] pos) (xF tc p):=by
 refine⟨λB σ F H env D rp h=>?_⟩;obtain⟨I,μ,i0,turn⟩:=h;refine ei (vy (X:=X.cM (XY X B D.xc)) PassesOwn.looking sZ fi) ?_;refine⟨λm σ H=>∃F env,Rep X.K B F H σ env/\I env/\μ env=m,⟨_,F,env,rp,i0,rfl⟩,?_⟩
 rintro m σ1 H1 ⟨F1,env1,r1,i1,rfl⟩;refine iQ (CG (hc B σ1 F1 H1 env1 _ r1 (turn env1 i1))) λk H2 ⟨F2,r2,s2,q2⟩=>?_
 cases k with
 | false=>exact⟨F2,env1,r2,q2⟩
 | true =>
  refine⟨λσ' H'=>∃F' env',Rep X.K B F' H' σ' env'/\I env'/\μ env' < μ env1,λσ' H' ⟨F',env',r',i',l⟩=>⟨_,l,F',env',r',i',rfl⟩,?_⟩;exact hb.run B σ1 F2 H2 env1 _ r2 q2
end
section
variable {P:Program} {w:World} {K:Le} {mg:Str->Option Value} {base:Heap}
theorem XY.leave {N:List Str} {qual:Str} {scope:Scope} {f:Addr} {cd:Value} {A:Around} {outer:List Env} {s0:Shared} {H0:Hp} {E:XK} {B:Base} {xc:Str->Prop} {e:Value} {s':Shared}
  (t:XY (kI (E5 P w) P w K mg base N qual scope f cd A outer s0 H0 E) B xc e s') (q:∀(c:Str) (C:Value) (σ':St) (H' F':Hp) (env':En),Rep K B F' H' σ' env'->mg c=some C->xc c->E C none H') :
  (kI (E5 P w) P w K mg base N qual scope f cd A outer s0 H0 E).xe e s':=by
 show wpAny (model P w) _ (leaving _ e) _ _ s'
 unfold leaving;refine K9 (LG t (λ_ s2 z=>LG z (λ_ s3 y=>?_) λ_ _ y=>y.elim) λ_ _ y=>y.elim);obtain⟨pins,a,c,C,σ',H',F',env',rfl,t'',r,hm,hx⟩:=y;have I:=t''.inv;obtain⟨Hc,sc,Ic,os,bare,un,hok,fl⟩:=t'';refine⟨a,C,none,H',rfl,I.os,I.bare,I.base,I.hok,fl.EO λb o e=>?_,q c C σ' H' F' env' r hm hx⟩;exact Ic.base.there b o e (by show b∉([]:List Addr);simp)
theorem uH.xI {x qual:Str} {st:Stmt} {fa:Addr} {fd:FuncData} {N ps:List Str} {k:Nat} {f:xC} (F:uH K x qual st fa fd) (S:aM N ps (aq st)) (hmg:mg x=some (.ref fa)) (hb:Binds K fd ps [])
  (hl:∀ds Q R,f ds Q R->ds.length=ps.length)
  (hbody:∀(cdv:Value) (A:Around) (outer:List Env) (s:Shared) (H:Hp) (E:XK),dG k (A.deeper (envOfC qual (aq st) s.heap.objs.size fa cdv)) ->
   ∃t,Hq (kI (E5 P w) P w K mg base N qual (aq st) fa cdv A outer s H E) (cp st) t/\∀ds (Q:D->Prop) (R:Str->Prop),f ds Q R->t { nx:=λ_=>Q .non,rt:=Q,xc:=R } (aF N ds)) :
  fG P w K mg base (k + 1) x f:=by
 refine⟨fa,fd,ps,?_,hmg,F.kp,hb⟩;obtain⟨oc,od,kV,doc,pm,an,cdv,ct,osl,rfl,lk,hcd⟩:=F.ex;refine B8 lk hcd S (λvs H Q E h=>?_) λA outer s H vs Q E hr h=>?_
 ·obtain⟨F0,ds,P,R,_,hd,hf,_⟩:=h;rw [<- hd.length];exact hl ds _ _ hf
 ·obtain⟨F0,ds,P',R,fh,hd,hf,kk,kx⟩:=h;obtain⟨t,ht,hq⟩:=hbody cdv A outer s H E hr;refine⟨_,fi,?_⟩;have core:=ht.run _ (start N vs) F0 H (aF N ds) _ (iS fh hd) (hq ds P' R hf);intro pins s1 I;refine LG (core pins s1 (I.cM _)) (λfl s2 z=>?_) λex s2 z=>?_
  ·refine pj (SP.bG z) (λσ' H' ⟨F',env',r,q⟩=>?_) (λv H' ⟨F',d',r,dd,q⟩=>?_) (λ_ _ ⟨_,_,_,q⟩=>q) (λ_ _ ⟨_,_,_,q⟩=>q)
   ·exact kk .non .non F' H' r.f0 r.h0 r.fh (λp h1 h2=>r.nf p ⟨h1,h2⟩) mX q
   ·exact kk d' v F' H' r.f0 r.h0 r.fh (λp h1 h2=>r.nf p ⟨h1,h2⟩) dd q
  ·exact XY.leave z λc C σ' H' F' env' r hm hx=>kx c C F' H' r.f0 r.h0 r.fh (λp h1 h2=>r.nf p ⟨h1,h2⟩) hm hx
end
section
variable {X:Cx} {a b c e:Expr} {ta tb te:TD} {pos:Pos} {st:Stmt} {t:bI}
def u6 (i:Nat) (te:TD):bI:=λZ env=>∃xs,env[i]?=some (some (.own xs))/\te env λy=>∃(k:Nat),y=.int k/\k < xs.length/\k < 2 ^ 62/\Z.nx (env.set i (some (.own (xs.eraseIdx k))))
theorem DI {x:Str} {px apos cpos:Pos} (i:Nat) (he:QE X e te) (hN:X.N[i]?=some x:=by rfl) (hv:ua X.env.scope x:=by first | exact Or.inl rfl | exact Or.inr (Or.inl rfl) | exact Or.inr (Or.inr rfl)) (hd:(x == ("__debug__" : Str))=false:=by decide) (hcd:(x == ("__classdict__" : Str))=false:=by decide)
  (hbase:attributeBase (.Name x px) "pop" X.env (eval (.Name x px) X.env)=eval (.Name x px) X.env:=by rfl)
  (hfew:((backTo cpos (starEach [e] X.env)).all (λx=>!x.1) && (backToKw cpos (keywordEach [] X.env)).all (λx=>x.1.isSome)
   && decide (([e]:List Expr).length + ([]:List Keyword).length + (if ([]:List Keyword).isEmpty then 0 else 1) < 30))=true:=by rfl)
  (hline:(apos.endLine == cpos.line)=true:=by rfl) (hst:starEach [e] X.env=(false,eval e X.env) :: starEach [] X.env:=by exact aZ rfl) (hplain:(backTo cpos (starEach ([]:List Expr) X.env)).any (·.1)=false:=by rfl)
  (hs:swapsWith (.Call (.Attribute (.Name x px) "pop" apos) [e] [] cpos) none pos.line X.env=pure false:=by rfl) :
  QS X (.Expr (.Call (.Attribute (.Name x px) "pop" apos) [e] [] cpos) pos) (u6 i te):=by
 refine⟨λB σ F H env D rp h=>ei (uo (yX PySem.F.plainAttrs_list PySem.F.slot_list_pop PySem.F.type_list_pop wq (dU hN hv hd hcd) (eG bO gJ hst) hbase hfew hline hst hplain) hs) ?_⟩;obtain⟨xs,hx,h⟩:=h;obtain⟨p,vs,h1,h2,h3,h4,h5⟩:=rp.ov i xs hx;refine⟨.ref p,h1,.inl ⟨rfl,vs,fZ.of h2⟩,?_⟩;refine aC (he B σ F H env _ rp h) λw H1 hq0=>?_;obtain⟨F1,d,r1,s1,d1,k,e1,hk,hk2,q1⟩:=hq0;subst e1;simp only [Den] at d1
 subst d1;obtain⟨p',vs',g1,g2,g3,g4,g5⟩:=r1.ov i xs hx;rw [h1] at g1;cases g1;have hl:=g5.length;obtain⟨u,hu,du⟩:=g5.get (Lc hk);have hix:seqIndex? (k:Int) vs'.length=some k:=(o3 (n:=vs'.length) (i:=(k:Int)) (j:=k) (by unfold rZ;rw [if_pos (by omega),if_pos (by omega)];simp)).1;exact⟨p,vs',k,k,u,rfl,rfl,g2,by omega,by omega,hix,hu,F1,_,r1.change hx h1 (g5.eraseIdx k),q1⟩
end
section
variable {prog:Program} {w:World} {A:Around} {E:Value->Shared->Prop} {s:Shared}
def ky (prog:Program) (w:World) (A:Around) (s:Shared) (v:Value):Prop:=∀(E:Value->Shared->Prop) (Q:Bool->Shared->Prop),Q true s->wpAny (model prog w) A (eqIsQuiet 8 v) Q E s
def gb (prog:Program) (w:World) (A:Around) (s:Shared) (v:Value) (h:Int) (n:Nat):Prop:=∀(E:Value->Shared->Prop) (Q:Int->Shared->Prop),Q h { s with toks:=s.toks + n }->wpAny (model prog w) A (PySem.pyHash v) Q E s
theorem vD {key:Value} {stored:List Value} {Q:Bool->Shared->Prop} (hkey:ky prog w A s key)
  (hst:∀v∈stored,ky prog w A s v) (h:Q false s):wpAny (model prog w) A (tableMayTell key stored) Q E s:=by
 unfold tableMayTell
 split
 ·exact Lf h
 ·refine K9 (hkey _ _ ?_);simp only [Bool.not_true,Lk,if_false];refine K9 ?_;refine wpAny_forIn_list _ (λrest r s'=>s'=s/\r=(none,())/\∀v∈rest,ky prog w A s v) _ ?_ ?_ _ _ ⟨rfl,rfl,hst⟩
  ·rintro x rest r s' ⟨rfl,rfl,hr⟩;refine K9 (hr x Lz _ _ ?_);simp only [Bool.not_true,Lk,if_false];exact Lf ⟨rfl,rfl,λv hv=>hr v (Ln _ hv)⟩
  ·rintro r s' ⟨rfl,rfl,_⟩;exact Lf h
structure iL (prog:Program) (w:World) (A:Around) (s:Shared) (es:Array DictEntry) (key:Value) (h:Int) (m:Nat->Bool):Prop where
 eq:∀(j:Nat) (hj:j < es.size),SeqAt.EqAt A s es[j].key key (m j)
 mh:∀(j:Nat) (hj:j < es.size),m j=true->es[j].hash=h
 mu:∀(i j:Nat),i < es.size->j < es.size->m i=true->m j=true->i=j
 same:∀(j:Nat) (hj:j < es.size),es[j].key=key->es[j].hash=h
 qk:ky prog w A s key
 qs:∀(j:Nat) (hj:j < es.size),ky prog w A s es[j].key
 ns:(∃i t,key=.int i t)\/(∃a,key=.ref a)\/key=.none
theorem Af {M:Model} {A:Around} {E:Value->Shared->Prop} {s:Shared} {α β:Type} {c:Prop} [Decidable c] {t1 t2:Sem β} {k:β->Sem α} {v:β} {Q:α->Shared->Prop} (h1:∀{R:β->Shared->Prop},R v s->wpAny M A t1 R E s) (h2:∀{R:β->Shared->Prop},R v s->wpAny M A t2 R E s)
  (h:wpAny M A (k v) Q E s):wpAny M A (if c then t1 >>= k else t2 >>= k) Q E s:=by
 split
 ·exact K9 (h1 h)
 ·exact K9 (h2 h)
theorem nV {d:Addr} {o:Obj} {es:Array DictEntry} {ep} {key:Value} {h:Int} {m:Nat->Bool} {Q:Option Nat->Shared->Prop} (f:iL prog w A s es key h m)
  (ho:s.heap.get? d=some o) (hd:o.data=.dict es ep)
  (hnone:(∀j,j < es.size->m j=false)->Q none s) (hsome:∀j,j < es.size->m j=true->Q (some j) s) :
  wpAny (model prog w) A (dictFind d key h) Q E s:=by
 have hask:∀(j:Nat),j < es.size->m j=true->((es[j]?.map (·.hash)) == some h)=true:=by
  intro j hj hm;rw [Array.getElem?_eq_getElem hj,Option.map_some,f.mh j hj hm];simp
 have hst:∀v∈(placesWithHash es.size (λi=>es[i]?.map (·.hash)) h).filterMap (λi=>es[i]?.map (·.key)),ky prog w A s v:=by
  intro v hv;obtain⟨i,_,hi⟩:=List.mem_filterMap.mp hv
  cases hei:es[i]? with
  | none=>rw [hei] at hi;cases hi
  | some e =>
   rw [hei] at hi;obtain rfl:e.key=v:=by simpa using hi
   obtain⟨hl,rfl⟩:=L8.mp hei;exact f.qs i hl
 have hany:¬ (es.any λe=>e.key == key && e.hash != h)=true:=by
  rw [<- Array.any_toList,List.any_eq_true]
  rintro⟨e,hin,hc⟩;obtain⟨i,hi,rfl⟩:=Array.mem_iff_getElem.mp (Array.mem_toList_iff.mp hin);simp only [Bool.and_eq_true,beq_iff_eq,bne_iff_ne,ne_eq] at hc;exact hc.2 (f.same i hi hc.1)
 have plain:wpAny (model prog w) A (dictWalkPlain d key h es (placesWithHash es.size (λi=>es[i]?.map (·.hash)) h)) Q E s:=by
  refine K9 ?_
  refine wpAny_forIn_list _
   (λrest b s'=>s'=s/\b=(none,())/\∃i,rest=(List.range' i (es.size - i)).filter (λi=>(es[i]?.map (·.hash)) == some h)/\i<=es.size /\
    ∀j,j < i->m j=false) _ ?_ ?_ _ _
   ⟨rfl,rfl,0,by rw [placesWithHash,List.range_eq_range',Nat.sub_zero],LZ _,λ_ h=>absurd h (L7 _)⟩
  ·rintro x rest b s' ⟨rfl,rfl,i,hr,hi,hno⟩;obtain⟨hix,hxn,hpx,hskip,hrest⟩:=filter_range'_cons _ _ _ _ _ hr.symm;have hlt:x < es.size:=by omega
   have before:∀j,j < x->m j=false:=λj hjx=>by
    rcases Mf j i with c|c
    ·exact hno j c
    ·cases hmj:m j with
     | false=>rfl
     | true=>have q:=hskip j c hjx;rw [hask j (by omega) hmj] at q;cases q
   have hnext:m x=false->∃i,rest=(List.range' i (es.size - i)).filter (λi=>(es[i]?.map (·.hash)) == some h)/\i<=es.size/\∀j,j < i->m j=false:=λhne =>
    ⟨x + 1,by rw [hrest];congr 2;omega,hlt,λj hji=>by
     rcases Mf j x with c|c
     ·exact before j c
     ·have:j=x:=by omega
      subst this;exact hne⟩
   simp only [Array.getElem?_eq_getElem hlt]
   by_cases hh:(es[x].hash == h)=true
   ·rw [if_pos hh];refine K9 (wpAny_dictEpoch ho hd (K9 (f.eq x hlt prog w _ _ (K9 (wpAny_dictEpoch ho hd ?_)))));show wpAny _ _ (if (ep != ep)=true then _ else _) _ E _
    rw [if_neg (by simp)]
    cases hm:m x with
    | true=>exact K9 (wpAny_rule (Lf (Lf (hsome x hlt hm))))
    | false=>exact K9 (wpAny_rule (Lf ⟨rfl,rfl,hnext hm⟩))
   ·rw [if_neg hh];refine Lf ⟨rfl,rfl,hnext ?_⟩
    cases hm:m x with
    | false=>rfl
    | true=>exact absurd (beq_iff_eq.mpr (f.mh x hlt hm)) hh
  ·rintro b s' ⟨rfl,rfl,i,hr,hi,hno⟩;refine Lf (hnone λj hj=>?_);rcases Mf j i with c|c
   ·exact hno j c
   ·have:=List.filter_eq_nil_iff.mp hr.symm j (List.mem_range'_1.mpr ⟨c,by omega⟩)
    cases hmj:m j with
    | false=>rfl
    | true=>rw [hask j hj hmj] at this;exact absurd rfl this
 have ns:=f.ns;unfold dictFind
 try with_reducible refine wpAny_holding ?_
 refine K9 (wpAny_dictEntries ho hd ?_)
 extract_lets places stored hit jp2 jp1 jp0
 have h1:wpAny (model prog w) A (jp1 ()) Q E s:=by
  refine Af (v:=false) (λq=>Lf q) (λq=>vD f.qk hst q) ?_;dsimp only [jp2,stored,places,hit]
  (
   rw [if_neg (by simp)];refine K9 ?_
   refine wpAny_forIn_list _
    (λrest b s'=>s'=s/\∃i hit,b=(none,hit)/\rest=(List.range' i (es.size - i)).filter (λi=>(es[i]?.map (·.hash)) == some h)/\i<=es.size /\
     ((hit=none/\∀j,j < i->m j=false)\/∃j,hit=some j/\j < i/\m j=true)) _ ?_ ?_ _ _
    ⟨rfl,0,none,rfl,by rw [placesWithHash,List.range_eq_range',Nat.sub_zero],LZ _,.inl ⟨rfl,λ_ h=>absurd h (L7 _)⟩⟩
   ·rintro x rest b s' ⟨rfl,i,hit,rfl,hr,hi,hH⟩;obtain⟨hix,hxn,hpx,hskip,hrest⟩:=filter_range'_cons _ _ _ _ _ hr.symm;have hlt:x < es.size:=by omega
    have hrest':rest=(List.range' (x + 1) (es.size - (x + 1))).filter (λi=>(es[i]?.map (·.hash)) == some h):=by rw [hrest];congr 2;omega
    have hHx:(hit=none/\∀j,j < x->m j=false)\/∃j,hit=some j/\j < x/\m j=true:=by
     rcases hH with ⟨h0,hno⟩|⟨j,h1,hji,hj⟩
     ·refine .inl ⟨h0,λj hjx=>?_⟩;rcases Mf j i with c|c
      ·exact hno j c
      ·cases hmj:m j with
       | false=>rfl
       | true=>have q:=hskip j c hjx;rw [hask j (by omega) hmj] at q;cases q
     ·exact .inr ⟨j,h1,by omega,hj⟩
    have hstay:m x=false->((hit=none/\∀j,j < x + 1->m j=false)\/∃j,hit=some j/\j < x + 1/\m j=true):=by
     intro hne;rcases hHx with ⟨h0,hno⟩|⟨j,h1,hjx,hj⟩
     ·refine .inl ⟨h0,λj hjx=>?_⟩;rcases Mf j x with c|c
      ·exact hno j c
      ·have:j=x:=by omega
       subst this;exact hne
     ·exact .inr ⟨j,h1,by omega,hj⟩
    rw [Array.getElem?_eq_getElem hlt];dsimp only
    by_cases hh:(es[x].hash == h)=true
    ·rw [if_pos hh];refine K9 (wpAny_dictEpoch ho hd (K9 (f.eq x hlt prog w _ _ (K9 (wpAny_dictEpoch ho hd ?_)))));show wpAny _ _ (if (ep != ep)=true then _ else _) _ E _
     rw [if_neg (by simp)]
     cases hm:m x with
     | true =>
      rcases hHx with ⟨rfl,_⟩|⟨j,_,hjx,hj⟩
      ·first|rw [if_pos rfl]|skip
       simp only [Option.isSome_none,Lk,if_false]
       first|refine K9 (Lf ?_)|skip
       refine K9 (wpAny_rule ?_)
       split
       ·exact Lf (Lf (hsome x hlt hm))
       ·exact Lf ⟨rfl,x + 1,some x,rfl,hrest',hlt,.inr ⟨x,rfl,Nat.lt_succ_self x,hm⟩⟩
      ·exact absurd (f.mu j x (by omega) hlt hj hm) (by omega)
     | false =>
      simp only [Lk,if_false];refine K9 (wpAny_rule ?_)
      first|rw [if_neg (by simp)]|skip
      first
       | exact Lf ⟨rfl,x + 1,hit,rfl,hrest',hlt,hstay hm⟩
       | exact K9 (Lf (Lf ⟨rfl,x + 1,hit,rfl,hrest',hlt,hstay hm⟩))
    ·rw [if_neg hh];refine Lf ⟨rfl,x + 1,hit,rfl,hrest',hlt,hstay ?_⟩
     cases hm:m x with
     | false=>rfl
     | true=>exact absurd (beq_iff_eq.mpr (f.mh x hlt hm)) hh
   ·rintro b s' ⟨rfl,i,hit,rfl,hr,hi,hH⟩;rcases hH with ⟨rfl,hno⟩|⟨j,rfl,hji,hj⟩
    ·refine Lf (hnone λj hj=>?_);rcases Mf j i with c|c
     ·exact hno j c
     ·have:=List.filter_eq_nil_iff.mp hr.symm j (List.mem_range'_1.mpr ⟨c,by omega⟩)
      cases hmj:m j with
      | false=>rfl
      | true=>rw [hask j hj hmj] at this;exact absurd rfl this
    ·exact Lf (hsome j (by omega) hj))
 rcases ns with ⟨ki,kt,rfl⟩|⟨ka,rfl⟩|rfl
 ·exact wpAny_ite_split (λ_=>plain) λ_=>h1
 ·exact wpAny_ite_split (λ_=>plain) λ_=>wpAny_ite_split (λz=>absurd z hany) λ_=>h1
 ·exact wpAny_ite_split (λ_=>plain) λ_=>h1
theorem bp.typeIs {d:Addr} {es:Array DictEntry} {ep:Nat} (x:bp s.heap d es ep):s.TypeIs (.ref d) "dict":=let ⟨o,ho,hc,_⟩:=x;⟨o,ho,hc.1⟩
theorem bp.new (h:Heap):bp (h.push { cls:=.type "dict",data:=.dict #[] }) h.objs.size #[] 0:=⟨_,Lv _ rfl,⟨rfl,rfl,rfl⟩,rfl⟩
theorem v5 {d:Addr} {es:Array DictEntry} {ep:Nat} {key:Value} {h:Int} {n:Nat} {m:Nat->Bool} {Q:Option Value->Shared->Prop} (hh:gb prog w A s key h n) (f:iL prog w A { s with toks:=s.toks + n } es key h m) (x:bp s.heap d es ep)
  (hnone:(∀j,j < es.size->m j=false)->Q none { s with toks:=s.toks + n }) (hsome:∀j (hj:j < es.size),m j=true->Q (some es[j].val) { s with toks:=s.toks + n }) :
  wpAny (model prog w) A (dictGet d key) Q E s:=by
 obtain⟨o,ho,_,hd⟩:=x;unfold dictGet
 try with_reducible refine wpAny_holding ?_
 refine K9 (hh _ _ (K9 (nV (s:={ s with toks:=s.toks + n }) f ho hd ?_ ?_)))
 ·intro hno;exact Lf (hnone hno)
 ·intro j hj hm;refine K9 (wpAny_dictEntries (s:={ s with toks:=s.toks + n }) ho hd ?_);rw [Array.getElem?_eq_getElem hj];exact Lf (hsome j hj hm)
theorem qi {d:Addr} {es:Array DictEntry} {ep:Nat} {key v:Value} {h:Int} {n:Nat} {m:Nat->Bool} {Q:Unit->Shared->Prop} (hh:gb prog w A s key h n) (f:iL prog w A { s with toks:=s.toks + n } es key h m) (x:bp s.heap d es ep) (hz:es.size<=sizeLine)
  (hnone:(∀j,j < es.size->m j=false)->∀h',bp h' d (es.push ⟨h,key,v⟩) (ep + 1)->Heap.SameBut d s.heap h'->Q () { s with heap:=h',toks:=s.toks + n })
  (hsome:∀j (hj:j < es.size),m j=true->∀h',bp h' d (es.modify j λe=>{ e with val:=v }) ep->Heap.SameBut d s.heap h'->Q () { s with heap:=h',toks:=s.toks + n }) :
  wpAny (model prog w) A (dictSet d key v) Q E s:=by
 obtain⟨o,ho,hc,hd⟩:=x;unfold dictSet
 try with_reducible refine wpAny_holding ?_
 refine K9 (hh _ _ ?_);unfold dictSetHashed
 try with_reducible refine wpAny_holding ?_
 refine K9 (nV (s:={ s with toks:=s.toks + n }) f ho hd ?_ ?_)
 ·intro hno;exact K9 (wpAny_rule (wpAny_updateDictKeys (hz:=hz) (s:={ s with toks:=s.toks + n }) ho hd (hnone hno _ ⟨_,Heap.get?_update_self _ ho (Obj.isFreed_of_dict (Obj.data_mapDictKeys hd _)),hc.mapDictKeys _,Obj.data_mapDictKeys hd _⟩ (Heap.SameBut.update ..))))
 ·intro j hj hm;exact K9 (wpAny_rule (K9 (wpAny_updateDict (s:={ s with toks:=s.toks + n }) ho hd (wpAny_point (hsome j hj hm _ ⟨_,Heap.get?_update_self _ ho (Obj.isFreed_of_dict (Obj.data_mapDict hd _)),hc.mapDict _,Obj.data_mapDict hd _⟩ (Heap.SameBut.update ..))))))
theorem uY {d:Addr} {es:Array DictEntry} {ep:Nat} {key:Value} {h:Int} {n j:Nat} {m:Nat->Bool} {Q:Value->Shared->Prop} (hh:gb prog w A.in1 s key h n) (f:iL prog w A.in1 { s with toks:=s.toks + n } es key h m) (x:bp s.heap d es ep)
  (hj:j < es.size) (hm:m j=true) (hq:Q es[j].val { s with toks:=s.toks + n }):wpAny (model prog w) A (getItem (.ref d) key) Q E s:=by
 unfold getItem
 try with_reducible refine wpAny_holding ?_
 refine K9 (wpAny_sequenceKey x.typeIs (by decide) ?_)
 refine K9 (LV (name:=Str.ofString "__getitem__") x.typeIs slot_dict_getitem
  (wpAny_call_entry slot_dict_getitem x.typeIs entry_dict_getitem ?_ (args_dict_getitem _ _)))
 show wpAny _ _ (dictGet d key >>= _) _ _ s
 refine K9 (v5 hh f x (λhno=>by rw [hno j hj] at hm;cases hm) λi hi hmi=>?_);have:=f.mu i j hi hj hmi hm;subst this;exact Lf ⟨_,rfl,Lf hq⟩
theorem vE {d:Addr} {es:Array DictEntry} {ep:Nat} {key v:Value} {h:Int} {n:Nat} {m:Nat->Bool} {Q:Unit->Shared->Prop} (hh:gb prog w A.in1 s key h n) (f:iL prog w A.in1 { s with toks:=s.toks + n } es key h m) (x:bp s.heap d es ep) (hz:es.size<=sizeLine)
  (hnone:(∀j,j < es.size->m j=false)->∀h',bp h' d (es.push ⟨h,key,v⟩) (ep + 1)->Heap.SameBut d s.heap h'->Q () { s with heap:=h',toks:=s.toks + n })
  (hsome:∀j (hj:j < es.size),m j=true->∀h',bp h' d (es.modify j λe=>{ e with val:=v }) ep->Heap.SameBut d s.heap h'->Q () { s with heap:=h',toks:=s.toks + n }) :
  wpAny (model prog w) A (setItem (.ref d) key v) Q E s:=by
 unfold setItem
 try with_reducible refine wpAny_holding ?_
 refine K9 (wpAny_sequenceKey x.typeIs (by decide) ?_)
 refine K9 (LV (name:=Str.ofString "__setitem__") x.typeIs slot_dict_setitem
  (wpAny_call_entry slot_dict_setitem x.typeIs entry_dict_setitem ?_ (args_dict_setitem _ _ _)))
 show wpAny _ _ (Builtin.Dict.notOrdered "__setitem__" ⟨[.ref d,key,v],[]⟩ >>= _) _ _ s
 refine K9 (wpAny_notOrdered_dict x.typeIs ?_);show wpAny _ _ (dictSet d key v >>= _) _ _ s
 exact K9 (qi hh f x hz (λhno h' a b=>Lf ⟨.none,rfl,Lf (hnone hno h' a b)⟩) (λj hj hm h' a b=>Lf ⟨.none,rfl,Lf (hsome j hj hm h' a b)⟩))
theorem tu {d:Addr} {es:Array DictEntry} {ep:Nat} {key:Value} {h:Int} {n:Nat} {m:Nat->Bool} {Q:Bool->Shared->Prop} (hh:gb prog w A.in1 s key h n) (f:iL prog w A.in1 { s with toks:=s.toks + n } es key h m) (x:bp s.heap d es ep) (hs:(d == sysModules)=false)
  (hnone:(∀j,j < es.size->m j=false)->Q false { s with toks:=s.toks + n }) (hsome:∀j (hj:j < es.size),m j=true->Q true { s with toks:=s.toks + n }):wpAny (model prog w) A (contains (.ref d) key) Q E s:=by
 unfold contains
 try with_reducible refine wpAny_holding ?_
 refine K9 (wpAny_specialOf x.typeIs slot_dict_contains.lookup ?_);show wpAny _ _ (if (some (Value.builtin "dict.__contains__") == some Value.none)=true then _ else _) _ E s
 rw [if_neg (by rw [beq_builtin_none];exact Bool.false_ne_true)]
 refine K9 (wpAny_callSpecialUnlessNone?_slot (name:=Str.ofString "__contains__") x.typeIs slot_dict_contains
  (wpAny_call_entry slot_dict_contains x.typeIs entry_dict_contains ?_ (args_dict_contains _ _)))
 show wpAny _ _ (dictGet d key >>= _) _ _ s
 refine K9 (v5 hh f x (λhno=>?_) λi hi hmi=>?_)
 ·show wpAny _ _ (Builtin.Dict.pendingKey? d key >>= _) _ _ _
  exact K9 (wpAny_pendingKey_other hs (Lf ⟨_,rfl,wpAny_truthy_bool (hnone hno)⟩))
 ·show wpAny _ _ (ret (.bool true)) _ _ _
  exact Lf ⟨_,rfl,wpAny_truthy_bool (hsome i hi hmi)⟩
end
mutual
def aR:D->Bool
 | .int _=>true
 | .non=>true
 | .tup ds=>g9 ds
 | _=>false
def g9:List D->Bool
 | []=>true
 | d :: ds=>aR d && g9 ds
end
mutual
def Ak:D->Nat
 | .int _=>1
 | .non=>1
 | .tup ds=>tR ds + 1
 | _=>0
def tR:List D->Nat
 | []=>0
 | d :: ds=>Ak d + tR ds
end
theorem nM (d:D):∀ds:List D,qf (ds ++ [d])=qf ds ++ [yW d]
 | []=>rfl
 | x :: ds=>by show yW x :: qf (ds ++ [d])=_;rw [nM d ds];rfl
theorem n6 (d:D):∀ds:List D,tR (ds ++ [d])=tR ds + Ak d
 | []=>by simp [tR]
 | x :: ds=>by show Ak x + tR (ds ++ [d])=_;rw [n6 d ds];simp only [tR];omega
mutual
theorem c4:∀(a b:D),aR a=true->aV a b=true->aR b=true->a=b
 | .int i,b,h,e,k=>by cases b <;> simp only [aV,aR,beq_iff_eq,Lk] at e k;rw [e]
 | .tup ds,b,h,e,k=>by
  cases b <;> simp only [aV,aR,Lk] at e k
  rw [u5 _ _ (by simpa only [aR] using h) e k]
 | .non,b,h,e,k=>by cases b <;> simp only [aV,Lk] at e;rfl
 | .bl _,b,h,e,k=>by simp only [aR,Lk] at h
 | .str _,b,h,e,k=>by simp only [aR,Lk] at h
 | .lst _,b,h,e,k=>by simp only [aR,Lk] at h
 | .dct _ _,b,h,e,k=>by simp only [aR,Lk] at h
 | .ty _,b,h,e,k=>by simp only [aR,Lk] at h
 | .exc _,b,h,e,k=>by simp only [aR,Lk] at h
 | .cls _,b,h,e,k=>by simp only [aR,Lk] at h
 | .obj _,b,h,e,k=>by simp only [aR,Lk] at h
theorem u5:∀(a b:List D),g9 a=true->dB a b=true->g9 b=true->a=b
 | [],b,h,e,k=>by cases b <;> simp only [dB,Lk] at e;rfl
 | x :: a,b,h,e,k=>by
  cases b with
  | nil=>simp only [dB,Lk] at e
  | cons y b =>
   simp only [dB,g9,Bool.and_eq_true] at e h k;rw [c4 x y h.1 e.1 k.1,u5 a b h.2 e.2 k.2]
end
mutual
theorem gD:∀(a:D),aR a=true->aV a a=true
 | .int i,h=>by simp only [aV,beq_self_eq_true]
 | .tup ds,h=>by simp only [aV];exact qa ds (by simpa only [aR] using h)
 | .non,h=>by simp only [aV]
 | .bl _,h=>by simp only [aR,Lk] at h
 | .str _,h=>by simp only [aR,Lk] at h
 | .lst _,h=>by simp only [aR,Lk] at h
 | .dct _ _,h=>by simp only [aR,Lk] at h
 | .ty _,h=>by simp only [aR,Lk] at h
 | .exc _,h=>by simp only [aR,Lk] at h
 | .cls _,h=>by simp only [aR,Lk] at h
 | .obj _,h=>by simp only [aR,Lk] at h
theorem qa:∀(a:List D),g9 a=true->dB a a=true
 | [],h=>rfl
 | x :: a,h=>by
  simp only [g9,Bool.and_eq_true] at h;simp only [dB,Bool.and_eq_true];exact⟨gD x h.1,qa a h.2⟩
end
section
variable {X:Cx} {pins:List (Addr×Obj)} {σ:St} {H F:Hp}
theorem B5 {s:Shared} {a:Addr} {items:List Value} {A:Around} {ds:List D} {vs:List V} (hu:A.units < cLine) (hT:IsTup s.heap a items.toArray) (rv:Vals vs items) (dl:ak X.K F ds vs)
  (rec:∀(d:D) (v:V) (u:Value) (n:Nat),d∈ds->Den X.K F d v->RelV v u->gb X.prog X.w A.in1 { s with toks:=s.toks + n } u (yW d) (Ak d)) :
  gb X.prog X.w A s (.ref a) (reduceHash (Builtin.Tuple.tupleHashOf (qf ds))) (tR ds + 1):=by
 intro E Q h;obtain⟨o,ho,hc,n,hd⟩:=hT;have hT:s.TypeIs (.ref a) "tuple":=⟨o,ho,hc⟩
 unfold PySem.pyHash
 first|unfold pyHashByItsType|skip
 first|refine K9 (wpAny_cRoomFor_or (.inr hu) ?_)|skip
 refine K9 (wpAny_specialOf hT PySem.F.slot_tuple_hash.lookup ?_);show wpAny _ _ (if (some (Value.builtin "tuple.__hash__") == some Value.none)=true then _ else _) Q E s
 rw [if_neg (by rw [beq_builtin_none];exact Bool.false_ne_true)];refine K9 (wpAny_specialOf hT PySem.F.slot_tuple_hash.lookup ?_);show wpAny _ _ (callSpecialIfBoundUnlessNone? (.ref a) "__hash__" _ >>= _) Q E s
 refine K9 (wpAny_callSpecialIfBoundUnlessNone?_slot hT PySem.F.slot_tuple_hash (wpAny_call_entry PySem.F.slot_tuple_hash hT PySem.F.entry_tuple_hash ?_ (PySem.F.args_tuple_hash_1 _)));show wpAny _ _ (Builtin.Tuple.tupleItemsOf (.ref a) >>= _) _ _ s
 refine K9 (wpAny_tupleItemsOf ho hd ?_);refine K9 ?_;rw [<- Array.forIn_toList]
 refine wpAny_forIn_list _
  (λrest (b:Array Int) s'=>∃done left vl,ds=done ++ left/\ak X.K F left vl/\Vals vl rest/\b.toList=qf done/\s'={ s with toks:=s.toks + tR done })
  _ ?_ ?_ _ _ ⟨[],ds,vs,rfl,dl,by simpa using rv,rfl,rfl⟩
 ·rintro x rest b s' ⟨done,left,vl,rfl,hl,hv,hb,rfl⟩
  cases hv with
  | @cons v _ vl' _ r1 hv' =>
   cases left with
   | nil=>simp only [ak] at hl;cases hl
   | cons d left' =>
    simp only [ak] at hl;obtain⟨v',r',e,hd',hl'⟩:=hl;cases e;refine K9 (rec d v x _ (by simp) hd' r1 _ _ ?_)
    first
     | exact Lf ⟨done ++ [d],left',vl',by simp,hl',hv',by simp [hb,nM],by simp [n6,Nat.add_assoc]⟩
     | exact K9 (Lf (Lf ⟨done ++ [d],left',vl',by simp,hl',hv',by simp [hb,nM],by simp [n6,Nat.add_assoc]⟩))
 ·rintro b s' ⟨done,left,vl,rfl,hl,hv,hb,rfl⟩;cases hv
  cases left with
  | cons d left'=>simp only [ak] at hl;obtain⟨_,_,e,_⟩:=hl;cases e
  | nil =>
  rw [L4] at h;show wpAny _ _ (retInt (Builtin.Tuple.tupleHashOf b.toList)) _ _ _
  rw [hb];refine wpAny_ret_mkInt ?_;show wpAny _ _ (if (decide (-(2:Int) ^ 63<=Builtin.Tuple.tupleHashOf (qf done)) && decide (Builtin.Tuple.tupleHashOf (qf done) < 2 ^ 63))=true then _ else _) Q E _
  unfold reduceHash at h
  by_cases hr:(decide (-(2:Int) ^ 63<=Builtin.Tuple.tupleHashOf (qf done)) && decide (Builtin.Tuple.tupleHashOf (qf done) < 2 ^ 63))=true
  ·rw [if_pos hr];rw [if_pos hr] at h;exact Lf (by simpa [Nat.add_assoc] using h)
  ·rw [if_neg hr];rw [if_neg hr] at h;exact K9 (wpAny_rule (Lf (by simpa [Nat.add_assoc] using h)))
theorem CS {s:Shared} {A:Around} (hu:A.units < cLine):gb X.prog X.w A s .none 4238894112 1:=by
 intro E Q h;have hT:s.TypeIs .none "NoneType":=rfl
 unfold PySem.pyHash
 first|unfold pyHashByItsType|skip
 first|refine K9 (wpAny_cRoomFor_or (.inr hu) ?_)|skip
 refine K9 (wpAny_specialOf hT PySem.F.slot_NoneType_hash.lookup ?_);show wpAny _ _ (if (some (Value.builtin "NoneType.__hash__") == some Value.none)=true then _ else _) Q E s
 rw [if_neg (by rw [beq_builtin_none];exact Bool.false_ne_true)];refine K9 (wpAny_specialOf hT PySem.F.slot_NoneType_hash.lookup ?_);show wpAny _ _ (callSpecialIfBoundUnlessNone? .none "__hash__" _ >>= _) Q E s
 refine K9 (wpAny_callSpecialIfBoundUnlessNone?_slot hT PySem.F.slot_NoneType_hash (wpAny_call_entry PySem.F.slot_NoneType_hash hT PySem.F.entry_NoneType_hash ?_ (PySem.F.args_NoneType_hash_1 _)));show wpAny _ _ (retInt 4238894112) _ _ _
 refine wpAny_ret_mkInt ?_;exact Lf h
mutual
theorem gG (fh:ao F H):∀(d:D) (s:Shared) (A:Around) (v:V) (u:Value),Inv X pins σ H s->aR d=true->A.units + dep d < cLine->Den X.K F d v->RelV v u->gb X.prog X.w A s u (yW d) (Ak d)
 | .int i,s,A,v,u,I,hk,hu,hd,r=>by
  simp only [Den] at hd;subst hd;obtain⟨t,rfl⟩:=r;intro E Q h
  exact (dO X.prog X.w).pyHash (k:=.inl i) (sI i t) h
 | .tup ds,s,A,v,u,I,hk,hu,hd,r=>by
  simp only [Den] at hd;obtain⟨a,vs,rfl,q,dl⟩:=hd;cases r;obtain⟨its,rv,ht,hz⟩:=I.tuple (ao.bF fh q);simp only [dep] at hu
  exact B5 (by omega) ht rv dl λd v u n hm hd' r'=>sk fh ds d { s with toks:=s.toks + n } A.in1 v u (I.tok _) (by simpa only [aR] using hk) (by rw [units_in1];omega) hm hd' r'
 | .non,s,A,v,u,I,hk,hu,hd,r=>by
  simp only [Den] at hd;subst hd;cases r
  exact CS (by simp only [dep] at hu;omega)
 | .bl _,_,_,_,_,_,hk,_,_,_=>by simp only [aR,Lk] at hk
 | .str _,_,_,_,_,_,hk,_,_,_=>by simp only [aR,Lk] at hk
 | .lst _,_,_,_,_,_,hk,_,_,_=>by simp only [aR,Lk] at hk
 | .dct _ _,_,_,_,_,_,hk,_,_,_=>by simp only [aR,Lk] at hk
 | .ty _,_,_,_,_,_,hk,_,_,_=>by simp only [aR,Lk] at hk
 | .exc _,_,_,_,_,_,hk,_,_,_=>by simp only [aR,Lk] at hk
 | .cls _,_,_,_,_,_,hk,_,_,_=>by simp only [aR,Lk] at hk
 | .obj _,_,_,_,_,_,hk,_,_,_=>by simp only [aR,Lk] at hk
theorem sk (fh:ao F H):∀(ds:List D) (d:D) (s:Shared) (A:Around) (v:V) (u:Value),Inv X pins σ H s->g9 ds=true->A.units + bV ds < cLine->d∈ds->Den X.K F d v->RelV v u->gb X.prog X.w A s u (yW d) (Ak d)
 | [],d,s,A,v,u,I,hk,hu,hm,hd,r=>by cases hm
 | x :: ds,d,s,A,v,u,I,hk,hu,hm,hd,r=>by
  simp only [g9,Bool.and_eq_true] at hk;simp only [bV] at hu
  by_cases c:d∈ds
  ·exact sk fh ds d s A v u I hk.2 (by omega) c hd r
  ·have:d=x:=(LB.mp hm).elim id (λe=>absurd e c);rw [this] at hd ⊢;exact gG fh x s A v u I hk.1 (by omega) hd r
end
def qy (prog:Program) (w:World) (A:Around) (s:Shared) (n:Nat) (v:Value):Prop:=∀(E:Value->Shared->Prop) (Q:Bool->Shared->Prop),Q true s->wpAny (model prog w) A (eqIsQuiet n v) Q E s
theorem zC {s:Shared} {a:Addr} {items:List Value} {A:Around} {n:Nat} (hT:IsTup s.heap a items.toArray)
  (rec:∀u∈items,qy X.prog X.w A s n u):qy X.prog X.w A s (n + 1) (.ref a):=by
 intro E Q h;obtain⟨o,ho,hc,k,hd⟩:=hT;have hT:s.TypeIs (.ref a) "tuple":=⟨o,ho,hc⟩
 unfold eqIsQuiet;refine K9 (wpAny_specialOf hT PySem.F.slot_tuple_eq.lookup ?_);show wpAny _ _ (isInstance (.ref a) (.type "tuple") >>= _) _ _ s
 refine K9 (wpAny_isInstance hT isSubtype_tuple_tuple ?_);simp only [Bool.not_true,Lk,if_false];refine K9 (wpAny_seqItems ho hd ?_);refine K9 ?_;show wpAny _ _ (forIn items.toArray _ _) _ _ s
 rw [<- Array.forIn_toList];refine wpAny_forIn_list _ (λrest r s'=>r.1=none/\s'=s/\∀v∈rest,qy X.prog X.w A s n v) _ ?_ ?_ _ _ ⟨rfl,rfl,by simpa using rec⟩
 ·rintro v rest r s' ⟨hr,rfl,hall⟩;refine K9 (hall v Lz _ _ ?_);simp only [Bool.not_true,Lk,if_false];exact Lf ⟨rfl,rfl,λu hu'=>hall u (Ln _ hu')⟩
 ·rintro⟨r1,r2⟩ s' ⟨hr,rfl,_⟩;simp only at hr;subst hr;exact Lf h
mutual
theorem n8 (fh:ao F H):∀(d:D) (s:Shared) (A:Around) (n:Nat) (v:V) (u:Value),Inv X pins σ H s->aR d=true->dep d<=n->Den X.K F d v->RelV v u->qy X.prog X.w A s n u
 | .int i,s,A,n,v,u,I,hk,hu,hd,r=>by
  simp only [Den] at hd;subst hd;obtain⟨t,rfl⟩:=r;intro E Q h;rw [eqIsQuiet_byValue n (v:=.int i t) rfl]
  exact Lf h
 | .tup ds,s,A,n,v,u,I,hk,hu,hd,r=>by
  simp only [Den] at hd;obtain⟨a,vs,rfl,q,dl⟩:=hd;cases r;obtain⟨its,rv,ht,hz⟩:=I.tuple (ao.bF fh q);simp only [dep] at hu
  cases n with
  | zero=>omega
  | succ n=>exact zC ht (pF fh ds s A n vs its I (by simpa only [aR] using hk) (by omega) dl rv)
 | .non,s,A,n,v,u,I,hk,hu,hd,r=>by
  simp only [Den] at hd;subst hd;cases r;intro E Q h;rw [eqIsQuiet_byValue n (v:=.none) rfl]
  exact Lf h
 | .bl _,_,_,_,_,_,_,hk,_,_,_=>by simp only [aR,Lk] at hk
 | .str _,_,_,_,_,_,_,hk,_,_,_=>by simp only [aR,Lk] at hk
 | .lst _,_,_,_,_,_,_,hk,_,_,_=>by simp only [aR,Lk] at hk
 | .dct _ _,_,_,_,_,_,_,hk,_,_,_=>by simp only [aR,Lk] at hk
 | .ty _,_,_,_,_,_,_,hk,_,_,_=>by simp only [aR,Lk] at hk
 | .exc _,_,_,_,_,_,_,hk,_,_,_=>by simp only [aR,Lk] at hk
 | .cls _,_,_,_,_,_,_,hk,_,_,_=>by simp only [aR,Lk] at hk
 | .obj _,_,_,_,_,_,_,hk,_,_,_=>by simp only [aR,Lk] at hk
theorem pF (fh:ao F H):∀(ds:List D) (s:Shared) (A:Around) (n:Nat) (vs:List V) (us:List Value),Inv X pins σ H s->g9 ds=true->bV ds<=n->ak X.K F ds vs->Vals vs us->∀u∈us,qy X.prog X.w A s n u
 | [],s,A,n,vs,us,I,hk,hu,dl,rv,u,hm=>by
  simp only [ak] at dl;subst dl
  cases rv;cases hm
 | d :: ds,s,A,n,vs,us,I,hk,hu,dl,rv,u,hm=>by
  simp only [ak] at dl;obtain⟨v,r,rfl,a,b⟩:=dl;simp only [g9,Bool.and_eq_true] at hk;simp only [bV] at hu
  cases rv with
  | @cons _ x _ xs r1 rv' =>
   by_cases c:u∈xs
   ·exact pF fh ds s A n r xs I hk.2 (by omega) b rv' u c
   ·have:u=x:=(LB.mp hm).elim id (λe=>absurd e c);rw [this];exact n8 fh d s A n v x I hk.1 (by omega) a r1
end
end
end L2.L3
namespace L2.L3
open PySem PySem.Spec PyProof.Rows
structure bD (kvs:List (D×D)):Prop where
 key:∀kv∈kvs,aR kv.1=true/\dep kv.1<=8
 dif:∀(i j:Nat) (x y:D×D),kvs[i]?=some x->kvs[j]?=some y->x.1=y.1->i=j
def oQ (kvs:List (D×D)) (d:D) (j:Nat):Bool:=match kvs[j]? with
 | some kv=>aV kv.1 d
 | none=>false
section
variable {X:Cx} {pins:List (Addr×Obj)} {σ:St} {H F:Hp} {s:Shared} {kvs:List (D×D)} {us vs:List V} {p:Addr} {A:Around} {d:D} {v:V} {u:Value}
theorem fD (I:Inv X pins σ H s) {ep:Nat} {rows:List (Int×V×V)} (e:H p=some (bR p ep rows)):rows.length<=sizeLine/\(p == sysModules)=false/\∃es,bp s.heap p es ep/\Paired tG rows es.toList:=(I.hok p _ e).1
theorem fW {α β:Type} {R:α->β->Prop}:∀{xs:List α} {ys:List β} {i:Nat} {y:β},Paired R xs ys->ys[i]?=some y->∃x,xs[i]?=some x/\R x y
 | _,_,_,_,.nil,e=>by simp at e
 | _,_,0,_,.cons r _,e=>by simp at e;subst e;exact⟨_,rfl,r⟩
 | _,_,i + 1,y,.cons _ t,e=>by
  obtain⟨x,h1,h2⟩:=fW (i:=i) (y:=y) t (by simpa using e);exact⟨x,by simpa using h1,h2⟩
theorem bN (d1:ak X.K F (kvs.map (·.1)) us) (d2:ak X.K F (kvs.map (·.2)) vs):(bq kvs us vs).length=kvs.length:=by
 have l1:=d1.length;have l2:=d2.length;simp only [Ll] at l1 l2;unfold bq;simp only [List.length_zip,Ll,<- l1,<- l2,Nat.min_self]
theorem pz (d1:ak X.K F (kvs.map (·.1)) us) (d2:ak X.K F (kvs.map (·.2)) vs) {es:Array DictEntry} (pr:Paired tG (bq kvs us vs) es.toList) {j:Nat} (hj:j < es.size) :
  ∃kv a b,kvs[j]?=some kv/\us[j]?=some a/\vs[j]?=some b/\Den X.K F kv.1 a/\Den X.K F kv.2 b/\es[j].hash=yW kv.1/\RelV a es[j].key/\RelV b es[j].val:=by
 have l:=bN d1 d2;have lp:=Paired.length pr;have hk:j < kvs.length:=by rw [<- l,lp];simpa using hj
 obtain⟨row,hr,e1,e2,e3⟩:=fW pr (y:=es[j]) (i:=j) (by simp [hj]);have g0:kvs[j]?=some kvs[j]:=Lc hk;obtain⟨a,ha,da⟩:=d1.get (i:=j) (d:=kvs[j].1) (by rw [Lj,g0];rfl);obtain⟨b,hb,db⟩:=d2.get (i:=j) (d:=kvs[j].2) (by rw [Lj,g0];rfl)
 have:row=(yW kvs[j].1,a,b):=by
  unfold bq at hr;rw [List.getElem?_zip_eq_some,List.getElem?_zip_eq_some,Lj,g0] at hr;obtain⟨h1,h2,h3⟩:=hr;rw [ha] at h2;rw [hb] at h3;exact Mb (Li h1).symm (Mb (Li h2).symm (Li h3).symm)
 subst this;exact⟨_,a,b,g0,ha,hb,da,db,e1,e2,e3⟩
theorem kB (I:Inv X pins σ H s) (fh:ao F H) (ok:bD kvs) (d1:ak X.K F (kvs.map (·.1)) us) (d2:ak X.K F (kvs.map (·.2)) vs) {es:Array DictEntry} (pr:Paired tG (bq kvs us vs) es.toList)
  (hk:aR d=true) (hd:dep d<=8) (hu:A.units + 8 < cLine) (dd:Den X.K F d v) (rv:RelV v u):iL X.prog X.w A s es u (yW d) (oQ kvs d):=by
 have at_:=λj hj=>pz d1 d2 pr (j:=j) hj;have mat:∀j kv,kvs[j]?=some kv->oQ kvs d j=aV kv.1 d:=λj kv e=>by unfold oQ;rw [e]
 have kk:∀(j:Nat) (kv:D×D),kvs[j]?=some kv->aR kv.1=true/\dep kv.1<=8:=λj kv e=>ok.key kv (Lg e);refine⟨λj hj=>?_,λj hj hm=>?_,λi j hi hj h1 h2=>?_,λj hj he=>?_,?_,λj hj=>?_,?_⟩
 ·obtain⟨kv,a,b,g0,g1,g2,da,db,e1,e2,e3⟩:=at_ j hj;rw [mat j kv g0];have:=(kk j kv g0).2;exact qx I fh kv.1 d A a v _ _ (by omega) (by omega) (by omega) da dd e2 rv
 ·obtain⟨kv,a,b,g0,g1,g2,da,db,e1,e2,e3⟩:=at_ j hj;rw [mat j kv g0] at hm;rw [e1,c4 kv.1 d (kk j kv g0).1 hm hk]
 ·obtain⟨kv,_,_,g0,_⟩:=at_ i hi;obtain⟨kw,_,_,f0,_⟩:=at_ j hj;rw [mat i kv g0] at h1;rw [mat j kw f0] at h2;exact ok.dif i j kv kw g0 f0 (by rw [c4 kv.1 d (kk i kv g0).1 h1 hk,c4 kw.1 d (kk j kw f0).1 h2 hk])
 ·obtain⟨kv,a,b,g0,g1,g2,da,db,e1,e2,e3⟩:=at_ j hj;rw [he] at e2;have:=e2.inj rv;subst this;have k1:=(kk j kv g0).2;rw [e1,c4 kv.1 d (kk j kv g0).1 (oX I fh kv.1 d a (by omega) (by omega) da dd) hk]
 ·exact n8 fh d s A 8 v u I hk hd dd rv
 ·obtain⟨kv,a,b,g0,g1,g2,da,db,e1,e2,e3⟩:=at_ j hj;exact n8 fh kv.1 s A 8 a _ I (kk j kv g0).1 (kk j kv g0).2 da e2
 ·cases d with
  | int i=>simp only [Den] at dd;subst dd;obtain⟨t,rfl⟩:=rv;exact .inl ⟨i,t,rfl⟩
  | tup ds=>simp only [Den] at dd;obtain⟨a,_,rfl,_⟩:=dd;cases rv;exact .inr (.inl ⟨a,rfl⟩)
  | non=>simp only [Den] at dd;subst dd;cases rv;exact .inr (.inr rfl)
  | _=>simp only [aR,Lk] at hk
def dZ (kvs:List (D×D)) (d:D):Option D:=(kvs.find? λkv=>aV kv.1 d).map (·.2)
def putN (kvs:List (D×D)) (d x:D):List (D×D):=if (kvs.any λkv=>aV kv.1 d)=true then kvs.map (λkv=>if aV kv.1 d=true then (kv.1,x) else kv) else kvs ++ [(d,x)]
theorem DD (ok:bD kvs) (hk:aR d=true) {x:D} (h:dZ kvs d=some x):∃(j:Nat) (kv:D×D),kvs[j]?=some kv/\aV kv.1 d=true/\kv.2=x:=by
 unfold dZ at h;obtain⟨kv,h1,h2⟩:=LY.mp h;obtain⟨j,hj⟩:=LL (List.mem_of_find?_eq_some h1);have m:=List.find?_some (p:=λkv:D×D=>aV kv.1 d) h1;exact⟨j,kv,hj,m,h2⟩
theorem BV (hu:A.units + 9 < cLine) (I:Inv X pins σ H s) (fh:ao F H) (ok:bD kvs) (d1:ak X.K F (kvs.map (·.1)) us) (d2:ak X.K F (kvs.map (·.2)) vs) {ep:Nat} (e:H p=some (bR p ep (bq kvs us vs)))
  (hk:aR d=true) (hd:dep d<=8) (dd:Den X.K F d v) (rv:RelV v u) {x:D} (hx:dZ kvs d=some x) {E:Value->Shared->Prop} {Q:Value->Shared->Prop}
  (h:∀w' u' s',Inv X pins σ H s'->Den X.K F x w'->RelV w' u'->Q u' s'):wpAny (model X.prog X.w) A (getItem (.ref p) u) Q E s:=by
 obtain⟨hz,hs,es,dh,pr⟩:=fD I e;obtain⟨j,kv,g0,m0,rfl⟩:=DD ok hk hx;have lp:=Paired.length pr;rw [bN d1 d2] at lp;have hj:j < es.size:=by have:=(La.mp g0).1;simp at lp;omega
 obtain⟨kv',a,b,g0',g1,g2,da,db,e1,e2,e3⟩:=pz d1 d2 pr hj;rw [g0] at g0';cases g0';refine uY (j:=j) (gG fh d s A.in1 v u I hk (by rw [units_in1];omega) dd rv) (kB (I.tok _) fh ok d1 d2 pr hk hd (by rw [units_in1];omega) dd rv) dh hj (by unfold oQ;rw [g0];exact m0) ?_;exact h b _ _ (I.tok _) db e3
theorem IA (hu:A.units + 9 < cLine) (I:Inv X pins σ H s) (fh:ao F H) (ok:bD kvs) (d1:ak X.K F (kvs.map (·.1)) us) (d2:ak X.K F (kvs.map (·.2)) vs) {ep:Nat} (e:H p=some (bR p ep (bq kvs us vs)))
  (hk:aR d=true) (hd:dep d<=8) (dd:Den X.K F d v) (rv:RelV v u) {E:Value->Shared->Prop} {Q:Bool->Shared->Prop}
  (h:∀s',Inv X pins σ H s'->Q (kvs.any λkv=>aV kv.1 d) s'):wpAny (model X.prog X.w) A (contains (.ref p) u) Q E s:=by
 obtain⟨hz,hs,es,dh,pr⟩:=fD I e;have lp:=Paired.length pr;rw [bN d1 d2] at lp;refine tu (gG fh d s A.in1 v u I hk (by rw [units_in1];omega) dd rv) (kB (I.tok _) fh ok d1 d2 pr hk hd (by rw [units_in1];omega) dd rv) dh hs (λhno=>?_) λj hj hm=>?_
 ·have:(kvs.any λkv=>aV kv.1 d)=false:=by
   rw [List.any_eq_false];intro kv hm;obtain⟨j,hj⟩:=LL hm;have:=hno j (by have:=(La.mp hj).1;simp at lp;omega);unfold oQ at this;rw [hj] at this
   simpa using this
  have q:=h { s with toks:=s.toks + Ak d } (I.tok _);rw [this] at q;exact q
 ·have:(kvs.any λkv=>aV kv.1 d)=true:=by
   rw [List.any_eq_true];unfold oQ at hm
   cases g:kvs[j]? with
   | none=>rw [g] at hm;cases hm
   | some kv=>rw [g] at hm;exact⟨kv,Lg g,hm⟩
  have q:=h { s with toks:=s.toks + Ak d } (I.tok _);rw [this] at q;exact q
end
theorem gz {α β:Type} {R:α->β->Prop}:∀{xs:List α} {ys:List β},xs.length=ys.length->(∀(i:Nat) x y,xs[i]?=some x->ys[i]?=some y->R x y)->Paired R xs ys
 | [],[],_,_=>.nil
 | [],_ :: _,h,_=>by simp at h
 | _ :: _,[],h,_=>by simp at h
 | x :: xs,y :: ys,h,f=>.cons (f 0 x y rfl rfl) (gz (by simpa using h) λi a b h1 h2=>f (i + 1) a b (by simpa using h1) (by simpa using h2))
theorem dI {kvs:List (D×D)} {us vs:List V} {i:Nat} {row:Int×V×V} (h:(bq kvs us vs)[i]?=some row):∃kv,kvs[i]?=some kv/\row.1=yW kv.1/\us[i]?=some row.2.1/\vs[i]?=some row.2.2:=by
 unfold bq at h;rw [List.getElem?_zip_eq_some,List.getElem?_zip_eq_some,Lj] at h;obtain⟨h1,h2,h3⟩:=h;obtain⟨kv,a,b⟩:=LY.mp h1;exact⟨kv,a,b.symm,h2,h3⟩
theorem yN {kvs:List (D×D)} {d x:D} {j:Nat} {kv:D×D} (ok:bD kvs) (hk:aR d=true) (hj:kvs[j]?=some kv) (hm:aV kv.1 d=true):kvs.map (λkv=>if aV kv.1 d=true then (kv.1,x) else kv)=kvs.set j (kv.1,x):=by
 apply List.ext_getElem?
 intro i;rw [Lj]
 by_cases e:j=i
 ·subst e;rw [Lm (La.mp hj).1,hj];simp only [Option.map_some,if_pos hm]
 ·rw [Lb e]
  cases g:kvs[i]? with
  | none=>rfl
  | some kw =>
   simp only [Option.map_some];rw [if_neg];intro hw;exact e (ok.dif j i kv kw hj g (by rw [c4 kv.1 d (ok.key kv (Lg hj)).1 hm hk,c4 kw.1 d (ok.key kw (Lg g)).1 hw hk]))
theorem oz {kvs:List (D×D)} {j:Nat} {kv:D×D} {x:D} (hj:kvs[j]?=some kv):(kvs.set j (kv.1,x)).map (·.1)=kvs.map (·.1):=by
 apply List.ext_getElem?
 intro i;rw [Lj,Lj]
 by_cases e:j=i
 ·subst e;rw [Lm (La.mp hj).1,hj];rfl
 ·rw [Lb e]
theorem oJ {kvs:List (D×D)} {j:Nat} {y x:D}:(kvs.set j (y,x)).map (·.2)=(kvs.map (·.2)).set j x:=by
 rw [List.map_set]
section
variable {X:Cx} {pins:List (Addr×Obj)} {σ:St} {H F:Hp} {s:Shared} {kvs:List (D×D)} {us vs:List V} {p:Addr} {A:Around} {d x:D} {v w:V} {u r:Value}
theorem Gz (hu:A.units + 9 < cLine) (I:Inv X pins σ H s) (fh:ao F H) (ok:bD kvs) (d1:ak X.K F (kvs.map (·.1)) us) (d2:ak X.K F (kvs.map (·.2)) vs) {ep:Nat} (e:H p=some (bR p ep (bq kvs us vs)))
  (hk:aR d=true) (hd:dep d<=8) (dd:Den X.K F d v) (rv:RelV v u) (dx:Den X.K F x w) (rw':RelV w r) (hl:kvs.length < sizeLine) {E:Value->Shared->Prop} {Q:Unit->Shared->Prop}
  (h:∀ep' us' vs' s',ak X.K F ((putN kvs d x).map (·.1)) us'->ak X.K F ((putN kvs d x).map (·.2)) vs'->Inv X pins σ (upd H p (bR p ep' (bq (putN kvs d x) us' vs'))) s'->Q () s'):wpAny (model X.prog X.w) A (setItem (.ref p) u r) Q E s:=by
 obtain⟨hz,hs,es,dh,pr⟩:=fD I e;have lp:=Paired.length pr;have l0:=bN d1 d2;rw [l0] at lp hz;have lp':kvs.length=es.size:=by simpa using lp
 have l1:=d1.length;have l2:=d2.length;simp only [Ll] at l1 l2
 have ext:∀(ep':Nat) (rows:List (Int×V×V)) (h':Heap) (es':Array DictEntry),rows.length<=sizeLine->bp h' p es' ep'->Paired tG rows es'.toList->bH X.prog X.w (upd H p (bR p ep' rows)) h' p (bR p ep' rows):=λep' rows h' es' z dh' pr'=>by
  refine⟨⟨z,hs,es',dh',pr'⟩,?_,?_⟩
  ·obtain⟨o,ho,_⟩:=dh';exact⟨o,ho⟩
  ·rintro h1 h2 ⟨z,hs,es,⟨o,ho,c,dd⟩,pr⟩ k;exact⟨z,hs,es,⟨o,k _ ho,c,dd⟩,pr⟩
 have hash:=gG fh d s A.in1 v u I hk (by rw [units_in1];omega) dd rv;have find:=kB (I.tok (s.toks + Ak d)) fh ok d1 d2 pr hk hd (A:=A.in1) (by rw [units_in1];omega) dd rv;refine vE hash find dh (by omega) (λhno h' dh' sb=>?_) λj hj hm h' dh' sb=>?_
 ·have any:(kvs.any λkv=>aV kv.1 d)=false:=by
   rw [List.any_eq_false];intro kv hm;obtain⟨j,hj⟩:=LL hm;have:=hno j (by have:=(La.mp hj).1;omega);unfold oQ at this;rw [hj] at this
   simpa using this
  have pe:putN kvs d x=kvs ++ [(d,x)]:=by unfold putN;rw [any];rfl
  have q1:ak X.K F ((putN kvs d x).map (·.1)) (us ++ [v]):=by rw [pe,List.map_append];exact d1.append (aD dd aH)
  have q2:ak X.K F ((putN kvs d x).map (·.2)) (vs ++ [w]):=by rw [pe,List.map_append];exact d2.append (aD dx aH)
  refine h _ _ _ _ q1 q2 (gv I (by rw [e];exact True.intro) sb (let ⟨o,ho,_⟩:=dh';⟨o,ho⟩) (ext _ _ h' _ ?_ dh' ?_))
  ·rw [bN q1 q2,pe];simp;omega
  ·refine gz (by rw [bN q1 q2,pe];simp;omega) λi row en h1 h2=>?_;obtain⟨kv,k1,k2,k3,k4⟩:=dI h1;rw [pe] at k1;simp only [Array.toList_push] at h2
   by_cases c:i < kvs.length
   ·rw [Lx c] at k1;rw [Lx (by omega)] at k3 k4;rw [Lx (by simp;omega)] at h2;obtain⟨row',g1,g2⟩:=fW pr h2;obtain⟨kv',f1,f2,f3,f4⟩:=dI g1;rw [f1] at k1;cases k1;rw [f3] at k3;rw [f4] at k4;have:row'=row:=Mb (by rw [f2,k2]) (Mb (Li k3) (Li k4));rw [<- this];exact g2
   ·have hi:i=kvs.length:=by
     have:=(La.mp k1).1;simp at this;omega
    rw [hi,Ls (Lh _),Nat.sub_self] at k1;rw [show i=us.length by omega,Ls (Lh _),Nat.sub_self] at k3;rw [show i=vs.length by omega,Ls (Lh _),Nat.sub_self] at k4;rw [show i=es.toList.length by simp;omega,Ls (Lh _),Nat.sub_self] at h2;cases k1;cases h2;have a3:v=row.2.1:=Li k3;have a4:w=row.2.2:=Li k4;exact⟨k2.symm,by rw [<- a3];exact rv,by rw [<- a4];exact rw'⟩
 ·obtain⟨kv,a,b,g0,g1,g2,da,db,e1,e2,e3⟩:=pz d1 d2 pr hj;unfold oQ at hm;rw [g0] at hm;have any:(kvs.any λkv=>aV kv.1 d)=true:=List.any_eq_true.mpr ⟨kv,Lg g0,hm⟩;have pe:putN kvs d x=kvs.set j (kv.1,x):=by unfold putN;rw [any,if_pos rfl];exact yN ok hk g0 hm
  have q1:ak X.K F ((putN kvs d x).map (·.1)) us:=by rw [pe,oz g0];exact d1
  have q2:ak X.K F ((putN kvs d x).map (·.2)) (vs.set j w):=by rw [pe,oJ];exact ak.set dx j d2
  refine h _ _ _ _ q1 q2 (gv I (by rw [e];exact True.intro) sb (let ⟨o,ho,_⟩:=dh';⟨o,ho⟩) (ext _ _ h' _ ?_ dh' ?_))
  ·rw [bN q1 q2,pe];simp;omega
  ·refine gz (by rw [bN q1 q2,pe];simp;omega) λi row en h1 h2=>?_;obtain⟨kw,k1,k2,k3,k4⟩:=dI h1;rw [pe] at k1;rw [Ma,Array.getElem?_modify] at h2
   by_cases c:j=i
   ·subst c;rw [if_pos rfl,Array.getElem?_eq_getElem hj] at h2;rw [Lm (by omega)] at k1 k4;cases k1;cases h2;rw [g1] at k3;have a3:a=row.2.1:=Li k3;have a4:w=row.2.2:=Li k4;exact⟨by rw [k2];exact e1,by rw [<- a3];exact e2,by rw [<- a4];exact rw'⟩
   ·rw [if_neg c,<- Ma] at h2;rw [Lb c] at k1 k4;obtain⟨row',f0,f1⟩:=fW pr h2;obtain⟨kv',t1,t2,t3,t4⟩:=dI f0;rw [t1] at k1;cases k1;rw [t3] at k3;rw [t4] at k4;have:row'=row:=Mb (by rw [t2,k2]) (Mb (Li k3) (Li k4));rw [<- this];exact f1
end
section
variable {K:Le} {B:Base} {F H F' H':Hp} {σ:St} {e:En}
theorem aX {e:En} {i j:Nat} {l:Lo} {xs:List D} (hl:∀z,l≠.own z) (q:(e.set i (some l))[j]?=some (some (.own xs))):i≠j:=λz=>by
 subst z
 by_cases w:i < e.length
 ·rw [Lm w] at q;cases q;exact hl _ rfl
 ·rw [Lp (by simpa using w)] at q;cases q
theorem mG {e:En} {i j:Nat} {l:Lo} {x:D} (hl:∀z,l≠.d z) (q:(e.set i (some l))[j]?=some (some (.d x))):i≠j:=λz=>by
 subst z
 by_cases w:i < e.length
 ·rw [Lm w] at q;cases q;exact hl _ rfl
 ·rw [Lp (by simpa using w)] at q;cases q
theorem Rep.FE (r:Rep K B F H σ e) {i:Nat} {p:Addr} (h:H p=none) (hl:i < σ.length) :
  Rep K B F (upd H p (bR p 0 [])) (σ.set i (some (.ref p))) (e.set i (some (.dic []))):=by
 have r1:=r.loose (o:=bR p 0 []) h;have hb:B.H p=none:=r.h0.free h
 have old:∀(j:Nat) (ys:List (D×D)),e[j]?=some (some (.dic ys))->σ[j]?≠some (some (.ref p)):=λj ys q z=>by
  obtain⟨q1,_,_,_,h1,h2,_⟩:=r.mv j ys q;rw [z] at h1;cases h1;rw [h] at h2;cases h2
 refine⟨r1.f0,r1.fh,r1.h0,r1.nf,λj y q=>?_,λj y q=>?_,λj k ys zs q hjk q1 q2 q3 q4=>?_,λj y q=>?_,λj k ys zs q hjk q1 q2 q3 q4=>?_⟩
 ·have z:=mG (λ_ w=>by cases w) q;rw [Lb z] at q ⊢;exact r1.dv j y q
 ·have z:=aX (λ_ w=>by cases w) q;rw [Lb z] at q ⊢;exact r1.ov j y q
 ·have z1:=aX (λ_ w=>by cases w) q1;have z2:=aX (λ_ w=>by cases w) q2;rw [Lb z1] at q1 q3;rw [Lb z2] at q2 q4;exact r.ne j k ys zs q hjk q1 q2 q3 q4
 ·by_cases z:i=j
  ·subst z
   by_cases w:i < e.length
   ·rw [Lm w] at q;cases q;exact⟨p,0,[],[],Lm hl,av,r.mj h,hb,aH,aH⟩
   ·rw [Lp (by simpa using w)] at q;cases q
  ·rw [Lb z] at q ⊢;exact r1.mv j y q
 ·by_cases z1:i=j
  ·subst z1;rw [Lb hjk] at q2 q4;rw [Lm hl] at q3;cases q3;exact old k zs q2 q4
  ·rw [Lb z1] at q1 q3
   by_cases z2:i=k
   ·subst z2;rw [Lm hl] at q4;cases q4;exact old j ys q1 q3
   ·rw [Lb z2] at q2 q4;exact r.nm j k ys zs q hjk q1 q2 q3 q4
theorem Rep.rO (r:Rep K B F H σ e) {i:Nat} {p:Addr} (ep:Nat) {us vs:List V} {xs ys:List (D×D)} (h:e[i]?=some (some (.dic xs))) (hp:σ[i]?=some (some (.ref p))) (hd:ak K F (ys.map (·.1)) us) (hd':ak K F (ys.map (·.2)) vs) :
  Rep K B F (upd H p (bR p ep (bq ys us vs))) σ (e.set i (some (.dic ys))):=by
 obtain⟨p',_,_,_,h1,h2,h3,h4,_⟩:=r.mv i xs h;rw [hp] at h1;cases h1;have wl:i < e.length:=(La.mp h).1;have fk:∀q o,F q=some o->q≠p:=λq o z w=>by subst w;rw [h3] at z;cases z
 have bk:∀q o,B.H q=some o->q≠p:=λq o z w=>by subst w;rw [h4] at z;cases z
 have dicAt:∀(j:Nat) (zs:List (D×D)),(e.set i (some (.dic ys)))[j]?=some (some (.dic zs))->∃ws,e[j]?=some (some (.dic ws)):=λj zs q=>by
  by_cases z:i=j
  ·subst z;exact⟨xs,h⟩
  ·rw [Lb z] at q;exact⟨zs,q⟩
 refine⟨r.f0,λb o z=>by rw [az (fk b o z)];exact r.fh _ _ z,λb o z=>by rw [az (bk b o z)];exact r.h0 _ _ z,r.nf,λj y q=>?_,λj y q=>?_,λj k as bs q hjk q1 q2 q3 q4=>?_,λj y q=>?_,λj k as bs q hjk q1 q2 q3 q4=>?_⟩
 ·have z:=mG (λ_ w=>by cases w) q;rw [Lb z] at q;exact r.dv j y q
 ·have z:=aX (λ_ w=>by cases w) q;rw [Lb z] at q;obtain⟨p2,us,g1,g2,g3,g4,g5⟩:=r.ov j y q;have:p2≠p:=λw=>by subst w;rw [h2] at g2;cases g2
  exact⟨p2,us,g1,by rw [az this];exact g2,g3,g4,g5⟩
 ·have z1:=aX (λ_ w=>by cases w) q1;have z2:=aX (λ_ w=>by cases w) q2;rw [Lb z1] at q1;rw [Lb z2] at q2;exact r.ne j k as bs q hjk q1 q2 q3 q4
 ·by_cases z:i=j
  ·subst z;rw [Lm wl] at q;cases q;exact⟨p,ep,us,vs,hp,av,h3,h4,hd,hd'⟩
  ·rw [Lb z] at q;obtain⟨p2,ep2,as,bs,g1,g2,g3,g4,g5⟩:=r.mv j y q;have:p2≠p:=λw=>by subst w;exact r.nm j i y xs p2 (Ne.symm z) q h g1 hp
   exact⟨p2,ep2,as,bs,g1,by rw [az this];exact g2,g3,g4,g5⟩
 ·obtain⟨as',w1⟩:=dicAt j as q1;obtain⟨bs',w2⟩:=dicAt k bs q2;exact r.nm j k as' bs' q hjk w1 w2 q3 q4
def qQ (kvs:List (D×D)):Le->Hp->Addr->Prop:=λK G a=>∃ep us vs,G a=some (bR a ep (bq kvs us vs))/\ak K G (kvs.map (·.1)) us/\ak K G (kvs.map (·.2)) vs
theorem Rep.zF (r:Rep K B F H σ e) {i:Nat} {xs:List (D×D)} (h:e[i]?=some (some (.dic xs))):∃F',ao F F'/\Rep K B F' H σ (e.set i (some (.d (.obj (qQ xs))))):=by
 obtain⟨p,ep,us,vs,h1,h2,h3,h4,h5,h6⟩:=r.mv i xs h;have wl:i < e.length:=(La.mp h).1;have s1:ao F (upd F p (bR p ep (bq xs us vs))):=bC h3;refine⟨upd F p (bR p ep (bq xs us vs)),s1,r.f0.trans s1,λb o z=>?_,r.h0,λq hq=>?_,λj y q=>?_,λj y q=>?_,λj k as bs q hjk q1 q2 q3 q4=>?_,λj y q=>?_,λj k as bs q hjk q1 q2 q3 q4=>?_⟩
 ·by_cases w:b=p
  ·subst w;rw [av] at z;cases z;exact h2
  ·rw [az w] at z;exact r.fh _ _ z
 ·have:q≠p:=λw=>by subst w;exact B.nb _ hq h4
  rw [az this];exact r.nf q hq
 ·by_cases z:i=j
  ·subst z;rw [Lm wl] at q;cases q;refine⟨_,h1,?_⟩;simp only [Den];exact⟨p,rfl,λG sG=>⟨ep,us,vs,sG _ _ av,ak.mono (s1.trans sG) _ _ h5,ak.mono (s1.trans sG) _ _ h6⟩⟩
  ·rw [Lb z] at q;obtain⟨v,a,b⟩:=r.dv j y q;exact⟨v,a,Den.mono s1 _ _ b⟩
 ·have z:=aX (λ_ w=>by cases w) q;rw [Lb z] at q;obtain⟨p2,us,g1,g2,g3,g4,g5⟩:=r.ov j y q;have:p2≠p:=λw=>by subst w;rw [h2] at g2;cases g2
  exact⟨p2,us,g1,g2,by rw [az this];exact g3,g4,ak.mono s1 _ _ g5⟩
 ·have z1:=aX (λ_ w=>by cases w) q1;have z2:=aX (λ_ w=>by cases w) q2;rw [Lb z1] at q1;rw [Lb z2] at q2;exact r.ne j k as bs q hjk q1 q2 q3 q4
 ·have z:i≠j:=aY (λ_ w=>by cases w) q;rw [Lb z] at q;obtain⟨p2,ep2,as,bs,g1,g2,g3,g4,g5,g6⟩:=r.mv j y q;have:p2≠p:=λw=>by subst w;exact r.nm j i y xs p2 (Ne.symm z) q h g1 h1
  exact⟨p2,ep2,as,bs,g1,g2,by rw [az this];exact g3,g4,ak.mono s1 _ _ g5,ak.mono s1 _ _ g6⟩
 ·have z1:=aY (λ_ w=>by cases w) q1;have z2:=aY (λ_ w=>by cases w) q2;rw [Lb z1] at q1;rw [Lb z2] at q2;exact r.nm j k as bs q hjk q1 q2 q3 q4
end
theorem kr {P:Program} {w:World} {H:Hp} (h:Heap) (hb:sysModules < h.objs.size):bH P w H (h.push { cls:=.type "dict",data:=.dict #[] }) h.objs.size (bR h.objs.size 0 []):=by
 have dh:=bp.new h;refine⟨⟨LZ _,beq_eq_false_iff_ne.mpr (Ne.symm (LJ hb)),#[],dh,.nil⟩,?_,?_⟩
 ·obtain⟨o,ho,_⟩:=dh;exact⟨o,ho⟩
 ·rintro h1 h2 ⟨z,hs,es,⟨o,ho,c,dd⟩,pr⟩ k;exact⟨z,hs,es,⟨o,k _ ho,c,dd⟩,pr⟩
def FY:TE:=λ_ H Q=>∀p,H p=none->Q (.ref p) (upd H p (bR p 0 []))
def HK (X:Cx) (td ty tv:TE):TS:=λD σ H=>tv σ H λv H1=>td σ H1 λx H2=>ty σ H2 λy H3=>∃p ep F kvs us vs d z,x=.ref p/\ao F H3/\bD kvs/\ak X.K F (kvs.map (·.1)) us/\ak X.K F (kvs.map (·.2)) vs/\H3 p=some (bR p ep (bq kvs us vs)) /\
 aR d=true/\dep d<=8/\Den X.K F d y/\Den X.K F z v/\kvs.length < sizeLine/\∀ep' us' vs',ak X.K F ((putN kvs d z).map (·.1)) us'->ak X.K F ((putN kvs d z).map (·.2)) vs'->D.nx σ (upd H3 p (bR p ep' (bq (putN kvs d z) us' vs')))
def Ii (X:Cx) (td ty:TE):TE:=λσ H Q=>td σ H λx H1=>ty σ H1 λy H2=>∃p ep F kvs us vs d z,x=.ref p/\ao F H2/\bD kvs/\ak X.K F (kvs.map (·.1)) us/\ak X.K F (kvs.map (·.2)) vs/\H2 p=some (bR p ep (bq kvs us vs)) /\
 aR d=true/\dep d<=8/\Den X.K F d y/\dZ kvs d=some z/\∀w,Den X.K F z w->Q w H2
section
variable {X:Cx} {o i e value a b:Expr} {pos pos' tpos:Pos} {td ty tv:TE} {ta tb:TD}
theorem BH:PE X (.Dict [] [] pos) FY:=λpins s σ H Q I h =>
 wpAny_Dict_empty ⟨.ref s.heap.objs.size,_,I.laid (a:=s.heap.objs.size) (o:=bR s.heap.objs.size 0 []) (t':=s.toks) (λ_ _ q=>Ld _ q) (Lh _) (kr s.heap I.big),rfl,h _ (I.hok.fresh (Lh _))⟩
theorem Dm (hu:X.A.units + 64 < cLine) (ho:PE X o td) (hi:PE X i ty) (hv:PE X value tv) (hs:swapsWith value (some (.Subscript o i pos')) pos.line X.env=pure false) :
  PS X (.Assign [.Subscript o i pos'] value pos) (HK X td ty tv):=by
 intro pins s σ H D I h;refine wpAny_Assign_Subscript (bP (hv pins s σ H _ I h) λr s1 ⟨v,H1,I1,rv,q1⟩=>bP (ho pins s1 σ H1 _ I1 q1) λu s2 ⟨x,H2,I2,rx,q2⟩=>bP (hi pins s2 σ H2 _ I2 q2) λiv s3 hq=>?_) hs;obtain⟨y,H3,I3,ry,p,ep,F,kvs,us,vs,d,z,ex,fh,ok,d1,d2,e,hk,hd,dd,dz,hl,q3⟩:=hq;subst ex;obtain rfl:u=Value.ref p:=rx;exact Gz (by omega) I3 fh ok d1 d2 e hk hd dd ry dz rv hl λep' us' vs' s4 e1 e2 I4=>⟨σ,_,I4,q3 ep' us' vs' e1 e2⟩
theorem y3 (hu:X.A.units + 64 < cLine) (ho:PE X a td) (hi:PE X b ty) (hs:Eo b):PE X (.Subscript a b pos) (Ii X td ty):=by
 intro pins s σ H Q I h;refine CZ PySem.F.slot_dict_getitem.lookup hs (bP (ho pins s σ H _ I h) λu s1 ⟨x,H1,I1,rx,q1⟩=>bP (hi pins s1 σ H1 _ I1 q1) λiv s2 hq=>?_);obtain⟨y,H2,I2,ry,p,ep,F,kvs,us,vs,d,z,ex,fh,ok,d1,d2,e,hk,hd,dd,hz,q2⟩:=hq;subst ex;obtain rfl:u=Value.ref p:=rx;refine⟨?_,BV (by omega) I2 fh ok d1 d2 e hk hd dd ry hz λw' u' s3 I3 dw rw'=>⟨w',H2,I3,rw',q2 w' dw⟩⟩;obtain⟨_,_,es,dh,_⟩:=fD I2 e
 exact dh.typeIs
def kb (i:Nat):bI:=λD env=>D.nx (env.set i (some (.dic [])))
theorem rV {x:Str} {pd:Pos} (i:Nat) (hN:X.N.Nodup) (hi:X.N[i]?=some x:=by rfl) (hx:Loc X.env.scope x:=by first|exact Or.inl rfl|exact Or.inr rfl) (hs:swapsWith (.Dict [] [] pd) (some (.Name x pos')) pos.line X.env=pure false:=by rfl)
  (hf:X.fn x=true\/X.env.scope.names.lookup x=some .local:=by first|exact .inl rfl|exact .inr rfl):QS X (.Assign [.Name x pos'] (.Dict [] [] pd) pos) (kb i):=by
 refine⟨λB σ F H env D rp h pins s I=>?_⟩;refine ju (i:=i) hN hi hx BH hs hf pins s σ H _ I λp hp=>?_;exact⟨F,_,rp.FE hp (by rw [I.len];exact (La.mp hi).1),h⟩
def aU (i:Nat) (tk tv:TD):bI:=λZ env=>tv env λv=>∃kvs,env[i]?=some (some (.dic kvs))/\tk env λk=>aR k=true/\dep k<=8/\bD kvs/\kvs.length < sizeLine/\Z.nx (env.set i (some (.dic (putN kvs k v))))
theorem bY {x:Str} {px p2:Pos} (i:Nat) (hu:X.A.units + 64 < cLine) (hb:QE X b tb) (he:QE X e ta) (hN:X.N[i]?=some x:=by rfl) (hv:ua X.env.scope x:=by first | exact Or.inl rfl | exact Or.inr (Or.inl rfl) | exact Or.inr (Or.inr rfl)) (hd:(x == ("__debug__" : Str))=false:=by decide)
  (hcd:(x == ("__classdict__" : Str))=false:=by decide) (hs:swapsWith e (some (.Subscript (.Name x px) b p2)) pos.line X.env=pure false:=by rfl):QS X (.Assign [.Subscript (.Name x px) b p2] e pos) (aU i tb ta):=by
 refine⟨λB σ F H env Z rp h=>?_⟩;refine ei (Dm hu (dU hN hv hd hcd) bO bO hs) ?_;refine aC (he B σ F H env _ rp h) λy H1 hq0=>?_;obtain⟨F1,d,r1,s1,d1,kvs,hx,q1⟩:=hq0;obtain⟨p,ep,us,vs,g1,g2,g3,g4,g5,g6⟩:=r1.mv i kvs hx;refine⟨.ref p,g1,?_⟩;refine aC (hb B σ F1 H1 env _ r1 q1) λz H2 hq0=>?_;obtain⟨F2,d2,r2,s2,dd2,hk,hdp,ok,hl,q2⟩:=hq0;obtain⟨p',ep',us',vs',e1,e2,e3,e4,e5,e6⟩:=r2.mv i kvs hx
 rw [g1] at e1;cases e1;exact⟨p,ep',F2,kvs,us',vs',d2,d,rfl,r2.fh,ok,e5,e6,e2,hk,hdp,dd2,Den.mono s2 _ _ d1,hl,λep2 as bs f1 f2=>⟨F2,_,r2.rO ep2 hx g1 f1 f2,q2⟩⟩
def fM (i:Nat) (tk:TD):TD:=λenv Q=>∃kvs,env[i]?=some (some (.dic kvs))/\tk env λk=>∃v,aR k=true/\dep k<=8/\bD kvs/\dZ kvs k=some v/\Q v
theorem mP {x:Str} {px:Pos} (i:Nat) (hu:X.A.units + 64 < cLine) (hb:QE X b tb) (hs:Eo b) (hN:X.N[i]?=some x:=by rfl) (hv:ua X.env.scope x:=by first | exact Or.inl rfl | exact Or.inr (Or.inl rfl) | exact Or.inr (Or.inr rfl)) (hd:(x == ("__debug__" : Str))=false:=by decide)
  (hcd:(x == ("__classdict__" : Str))=false:=by decide):QE X (.Subscript (.Name x px) b pos) (fM i tb):=by
 refine⟨λB σ F H env Q rp h=>?_⟩;refine dA (y3 hu (dU hN hv hd hcd) bO hs) ?_;obtain⟨kvs,hx,h⟩:=h;obtain⟨p,ep,us,vs,g1,g2,g3,g4,g5,g6⟩:=rp.mv i kvs hx;refine⟨.ref p,g1,?_⟩;refine aC (hb B σ F H env _ rp h) λz H2 hq0=>?_;obtain⟨F2,d2,r2,s2,dd2,v,hk,hdp,ok,hl,q2⟩:=hq0;obtain⟨p',ep',us',vs',e1,e2,e3,e4,e5,e6⟩:=r2.mv i kvs hx;rw [g1] at e1;cases e1;exact⟨p,ep',F2,kvs,us',vs',d2,v,rfl,r2.fh,ok,e5,e6,e2,hk,hdp,dd2,hl,λw dw=>⟨F2,v,r2,s2,dw,q2⟩⟩
def IH (x y:D) (Q:D->Prop):Prop:=∃kvs v,x=.obj (qQ kvs)/\aR y=true/\dep y<=8/\bD kvs/\dZ kvs y=some v/\Q v
theorem By (hu:X.A.units + 64 < cLine) (ha:QE X a ta) (hb:QE X b tb) (hs:Eo b):QE X (.Subscript a b pos) (aG IH ta tb):=by
 refine⟨λB σ F H env Q rp h=>dA (y3 hu bO bO hs) ?_⟩;refine aC (ha B σ F H env _ rp h) λx H1 hq0=>?_;obtain⟨F1,d,r1,s1,d1,q1⟩:=hq0;refine aC (hb B σ F1 H1 env _ r1 q1) λy H2 hq0=>?_;obtain⟨F2,d',r2,s2,d2,kvs,v,e1,hk,hd,ok,hv,q⟩:=hq0;subst e1;have d1':=Den.mono s2 _ _ d1;simp only [Den] at d1';obtain⟨p,rfl,hp⟩:=d1';obtain⟨ep,us,vs,hg,g1,g2⟩:=hp F2 (ao.refl _);exact⟨p,ep,F2,kvs,us,vs,d',v,rfl,r2.fh,ok,g1,g2,r2.fh _ _ hg,hk,hd,d2,hv,λw dw=>⟨F2,v,r2,s1.trans s2,dw,q⟩⟩
def dJ (i:Nat) (t:bI):bI:=λD env=>∃xs,env[i]?=some (some (.dic xs))/\t D (env.set i (some (.d (.obj (qQ xs)))))
theorem lK {st:Stmt} {t:bI} (i:Nat) (h:QS X st t):QS X st (dJ i t):=by
 refine⟨λB σ F H env D rp hq=>?_⟩;obtain⟨xs,hx,q⟩:=hq;obtain⟨F',s',r'⟩:=rp.zF hx;exact h B σ F' H _ D r' q
end
section
variable {prog:Program} {w:World} {A:Around} {E:Value->Shared->Prop} {s:Shared}
theorem BX {d:Addr} {es:Array DictEntry} {ep:Nat} {Q:Value->Shared->Prop} (hd:(d == sysModules)=false) (x:bp s.heap d es ep)
  (hQ:Q (.ref s.heap.objs.size) { s with heap:=s.heap.push { cls:=.type "dict_keyiterator",data:=.fields #[.ref d,.int 0 0,.int es.size 0,.int ep 0] } }) :
  wpAny (model prog w) A (pyIter (.ref d)) Q E s:=by
 have hT:s.TypeIs (.ref d) "dict":=x.typeIs
 obtain⟨o,ho,hc,hdat⟩:=x;refine wpAny_pyIter_slot hT PySem.F.slot_dict_iter (wpAny_call_entry PySem.F.slot_dict_iter hT PySem.F.entry_dict_iter ?_ (PySem.F.args_dict_iter_1 _));unfold Builtin.«dict.__iter__»;refine K9 ?_;unfold Builtin.Dict.dictSlotNone;refine K9 (wpAny_notOrdered_dict hT ?_);show wpAny _ _ (pure (Value.ref d)) _ _ s
 refine Lf ?_;show wpAny _ _ (Builtin.Dict.showsAll d >>= _) _ _ s
 unfold Builtin.Dict.showsAll;rw [if_neg (by rw [hd];exact Bool.false_ne_true)];refine K9 (Lf ?_);refine K9 (wpAny_dictEntries ho hdat ?_);refine K9 (wpAny_dictEpoch ho hdat ?_);refine K9 (wpAny_newObj_type (Lf ⟨_,rfl,"dict_keyiterator",_,⟨_,Lv _ rfl,rfl⟩,PySem.F.slot_dict_keyiterator_next.lookup,?_⟩))
 simpa [rawInt] using hQ
theorem B7 {it d:Addr} {i ep:Nat} {es:Array DictEntry} {Q:Option Value->Shared->Prop} (hit:s.heap.IsKeyIter it d i es.size ep) (x:bp s.heap d es ep) (hlt':i < es.size)
  (hQ:∀h',h'.IsKeyIter it d (i + 1) es.size ep->Heap.SameBut it s.heap h'->Q (some es[i].key) { s with heap:=h' }) :
  wpAny (model prog w) A (pyNext (.ref it)) Q E s:=by
 obtain⟨o,ho,hc,hd⟩:=id hit;obtain⟨od,hod,hcd,hdd⟩:=id x;unfold pyNext
 refine K9 (wpAny_attempt (LV (name:=Str.ofString "__next__") hit.typeIs PySem.F.slot_dict_keyiterator_next
  (wpAny_call_entry PySem.F.slot_dict_keyiterator_next hit.typeIs PySem.F.entry_dict_keyiterator_next ?_ (PySem.F.args_dict_keyiterator_next_1 _))))
 refine K9 (Lf ?_);refine K9 ?_;refine K9 ?_
 first|refine K9 (wpAny_typeNameOfWhole_keyiter hit.typeIs (Lf ?_))|refine K9 (wpAny_typeNameOf_keyiter hit.typeIs (Lf ?_))
 refine K9 (wpAny_fieldsOf ho hd ?_);have hown:Builtin.Dict_items.ownsTuple "dict_keyiterator" = false:=by decide
 simp only [hown,Lk,if_false];show wpAny _ _ (if (Value.ref d == Value.none)=true then _ else _) _ _ s
 rw [if_neg (show ¬ ((Value.ref d == Value.none)=true) from Bool.false_ne_true)];refine K9 (Lf ?_);refine K9 (wpAny_dictEntries hod hdd ?_);rw [if_neg (by simp)];refine K9 (Lf ?_);refine K9 (wpAny_dictEpoch hod hdd ?_);rw [if_neg (by simp)];refine Lf ?_;simp only [show ¬ ((i:Int) < 0) from by omega,if_false,Int.toNat_natCast,Array.getElem?_eq_getElem hlt'];refine K9 ?_
 first|refine K9 (wpAny_typeNameOfWhole_keyiter hit.typeIs (Lf ?_))|refine K9 (wpAny_typeNameOf_keyiter hit.typeIs (Lf ?_))
 refine K9 (wpAny_isOneOf_keyiter hit.typeIs ?_);show wpAny _ _ (setField (.ref it) 1 (rawInt ((i:Int) + 1)) >>= _) _ _ s
 refine K9 (wpAny_setField ho hd (by simp) ?_)
 have hit':(s.heap.update it (Obj.mapFields (·.setIfInBounds 1 (rawInt ((i:Int) + 1))))).IsKeyIter it d (i + 1) es.size ep :=
  ⟨_,Heap.get?_update_self _ ho (Obj.isFreed_of_fields (Obj.data_mapFields hd _)),(Obj.cls_mapFields ..).trans hc,by rw [Obj.data_mapFields hd];simp [rawInt]⟩
 refine K9 (wpAny_holding ?_);refine K9 (wpAny_isOneOf_keyiter (s:={ s with heap:=s.heap.update it (Obj.mapFields (·.setIfInBounds 1 (rawInt ((i:Int) + 1)))) }) hit'.typeIs ?_);show wpAny _ _ (pure es[i].key) _ _ _
 exact Lf (Lf ⟨_,rfl,Lf (hQ _ hit' (Heap.SameBut.update ..))⟩)
theorem Ds {it d:Addr} {i ep:Nat} {es:Array DictEntry} {Q:Option Value->Shared->Prop} (hh:A.handled=none) (hit:s.heap.IsKeyIter it d i es.size ep) (x:bp s.heap d es ep) (hge:es.size<=i)
  (hQ:∀h',Heap.ExtBut it s.heap h'->Q none { s with heap:=h' }):wpAny (model prog w) A (pyNext (.ref it)) Q E s:=by
 obtain⟨o,ho,hc,hd⟩:=id hit;obtain⟨od,hod,hcd,hdd⟩:=id x;unfold pyNext
 refine K9 (wpAny_attempt (LV (name:=Str.ofString "__next__") hit.typeIs PySem.F.slot_dict_keyiterator_next
  (wpAny_call_entry PySem.F.slot_dict_keyiterator_next hit.typeIs PySem.F.entry_dict_keyiterator_next ?_ (PySem.F.args_dict_keyiterator_next_1 _))))
 refine K9 (Lf ?_);refine K9 ?_;refine K9 ?_
 first|refine K9 (wpAny_typeNameOfWhole_keyiter hit.typeIs (Lf ?_))|refine K9 (wpAny_typeNameOf_keyiter hit.typeIs (Lf ?_))
 refine K9 (wpAny_fieldsOf ho hd ?_);have hown:Builtin.Dict_items.ownsTuple "dict_keyiterator" = false:=by decide
 simp only [hown,Lk,if_false];show wpAny _ _ (if (Value.ref d == Value.none)=true then _ else _) _ _ s
 rw [if_neg (show ¬ ((Value.ref d == Value.none)=true) from Bool.false_ne_true)];refine K9 (Lf ?_);refine K9 (wpAny_dictEntries hod hdd ?_);rw [if_neg (by simp)];refine K9 (Lf ?_);refine K9 (wpAny_dictEpoch hod hdd ?_);rw [if_neg (by simp)];refine Lf ?_;simp only [show ¬ ((i:Int) < 0) from by omega,if_false,Int.toNat_natCast,Array.getElem?_eq_none hge];refine K9 ?_
 first|refine K9 (wpAny_typeNameOfWhole_keyiter hit.typeIs (Lf ?_))|refine K9 (wpAny_typeNameOf_keyiter hit.typeIs (Lf ?_))
 show wpAny _ _ (setField (.ref it) 0 .none >>= _) _ _ s
 refine K9 (wpAny_setField ho hd (by simp) ?_);show wpAny _ _ (newExc (.type "StopIteration") [] >>= _) _ _ _
 refine K9 ?_;simp only [newExc,newTuple];refine K9 (wpAny_newObj_type ?_ (by size_fits));refine K9 (m:=firstArgMember _ _) (wpAny_of_eq (a:=Value.none) (by first | rfl | (simp only [firstArgMember];rfl)) ?_);refine wpAny_newObj_type ?_ (by size_fits);simp only [raiseNew];refine K9 (wpAny_handled ?_);rw [show A.in1.handled=none from hh];refine K9 (Lf (wpAny_throw ?_));refine K9 (wpAny_isInstance (T:="StopIteration") (b:=true) ⟨_,Lv _ rfl,rfl⟩ isSubtype_stop ?_)
 exact Lf (hQ _ (((Heap.SameBut.update ..).extBut.push _).push _))
end
def KJ (p:Addr) (ep:Nat) (rows:List (Int×V×V)):It :=
 ⟨λi H=>H p=some (bR p ep rows)/\i < rows.length,λi H x H'=>H'=H/\∃row,rows[i]?=some row/\x=row.2.1,λi H=>H p=some (bR p ep rows)/\rows.length<=i⟩
theorem Bp {P:Program} {w:World} {K:Le} {tg:Expr} (p it:Addr) (ep:Nat) (rows:List (Int×V×V)):Turn P w K tg (KJ p ep rows) [it] it (λi h=>h.IsKeyIter it p i rows.length ep) where
 mem:=by simp
 obj:=λi h st b hb=>by
  have e:b=it:=by simpa using hb
  subst e;obtain⟨o,e,c,d⟩:=st;exact⟨o,e,λv z=>by rw [d] at z;cases z⟩
 keep:=λi h h' st k=>let ⟨o,e,c,d⟩:=st;⟨o,k it (by simp) o e,c,d⟩
 item:=by
  intro X hP hw hK hc i pins s σ H E I hf st hg;subst hP hw hK;obtain⟨e,hlt⟩:=hg;obtain⟨hz,hs,es,dh,pr⟩:=fD I e;have lp:rows.length=es.size:=by simpa using Paired.length pr
  have hlt':i < es.size:=by omega
  obtain⟨row,hr,e1,e2,e3⟩:=fW pr (y:=es[i]) (i:=i) (by simp [hlt']);obtain⟨f0,f1,f2,f3,f4,f5⟩:=hf it (by simp);rw [lp] at st;refine B7 st dh hlt' λh' st' sb=>?_;have I1:Inv X pins σ H { s with heap:=h' }:=I.turned (t':=s.toks) (λb o hb e=>(sb.2 b hb).trans e) f0 f1 f3 f4 f5;obtain⟨o,eo,c,d⟩:=id st';rw [<- lp] at st';exact⟨_,rfl,vV (s:={ s with heap:=h' }) eo c d (by decide) ⟨row.2.1,H,I1,e2,⟨rfl,row,hr,rfl⟩,st',λb hb=>(hf b hb).1⟩⟩
 done:=by
  intro X hP hw hK hc i pins s σ H E I hf st hg;subst hP hw hK;obtain⟨e,hge⟩:=hg;obtain⟨hz,hs,es,dh,pr⟩:=fD I e;have lp:rows.length=es.size:=by simpa using Paired.length pr
  obtain⟨f0,f1,f2,f3,f4,f5⟩:=hf it (by simp);rw [lp] at st;exact Ds (I.ok.hd hc) st dh (by omega) λh' eb=>⟨rfl,I.turned (t':=s.toks) (λb o hb e=>eb b o hb e) f0 f1 f3 f4 f5⟩
 self:=λ_ _ _ _ _ st h=>wpAny_pyIter_keyiter st h
def Kf (tl:TE):TI:=λσ H R=>tl σ H λx H1=>∃p ep rows,x=.ref p/\H1 p=some (bR p ep rows)/\R (KJ p ep rows) H1
section
variable {X:Cx} {tg:Expr}
theorem Hg {l:Expr} {tl:TE} (hl:PE X l tl):PI X tg l (Kf tl):=by
 intro pins s σ H R I h;refine bP (hl pins s σ H _ I h) λv s1 hq0=>?_;obtain⟨x,H1,I1,r1,q1⟩:=hq0;obtain⟨p,ep,rows,e,hp,q⟩:=q1;subst e;cases r1;obtain⟨hz,hs,es,dh,pr⟩:=fD I1 hp;have lp:rows.length=es.size:=by simpa using Paired.length pr
 refine BX hs dh ?_;refine⟨s1.heap.objs.size,[s1.heap.objs.size],_,_,H1,rfl,I1.kept (t':=s1.toks) λb o e=>Ld _ e,Bp p _ ep rows,⟨_,Lv _ rfl,rfl,by rw [lp];rfl⟩,λb hb=>?_,q⟩;have e:b=s1.heap.objs.size:=by simpa using hb
 subst e;exact I1.w6 (Lh _) (I1.hok.fresh (Lh _))
end
section
variable {K:Le} {B:Base} {F H:Hp} {σ:St} {e:En}
def GU (x:Addr):Le->Hp->Addr->Prop:=λ_ _ a=>a=x
theorem AX {i:Nat} {a:Addr} (r:Rep K B F H σ e) (h:e[i]?=some (some (.d (.obj (GU a))))):σ[i]?=some (some (.ref a)):=by
 obtain⟨v,h1,h2⟩:=r.dv i _ h;simp only [Den] at h2;obtain⟨b,rfl,h3⟩:=h2;have:b=a:=h3 F (ao.refl _);rw [this] at h1;exact h1
theorem Rep.A5 (r:Rep K B F H σ e) {i:Nat} {kvs:List (D×D)} (h:e[i]?=some (some (.dic kvs))) :
  ∃p ep us vs,σ[i]?=some (some (.ref p))/\H p=some (bR p ep (bq kvs us vs))/\B.H p=none/\ak K F (kvs.map (·.1)) us/\ak K F (kvs.map (·.2)) vs/\Rep K (B.guard p (bR p ep (bq kvs us vs))) F H σ (e.set i (some (.d (.obj (GU p))))):=by
 obtain⟨p,ep,us,vs,h1,h2,h3,h4,h5,h6⟩:=r.mv i kvs h;have wl:i < e.length:=(La.mp h).1;refine⟨p,ep,us,vs,h1,h2,h4,h5,h6,r.f0,r.fh,λb u q=>?_,λa q=>?_,λj y q=>?_,λj y q=>?_,λj k as bs q hjk q1 q2 q3 q4=>?_,λj y q=>?_,λj k as bs q hjk q1 q2 q3 q4=>?_⟩
 ·have q':upd B.H p (bR p ep (bq kvs us vs)) b=some u:=q
  by_cases z:b=p
  ·subst z;rw [av] at q';cases q';exact h2
  ·rw [az z] at q';exact r.h0 _ _ q'
 ·rcases q with rfl|q
  ·exact h3
  ·exact r.nf a q
 ·by_cases z:i=j
  ·subst z;rw [Lm wl] at q;cases q;refine⟨_,h1,?_⟩;simp only [Den];exact⟨p,rfl,λ_ _=>rfl⟩
  ·rw [Lb z] at q;exact r.dv j y q
 ·have z:=aX (λ_ w=>by cases w) q;rw [Lb z] at q;obtain⟨p2,us2,g1,g2,g3,g4,g5⟩:=r.ov j y q;have:p2≠p:=λw=>by subst w;rw [h2] at g2;cases g2
  exact⟨p2,us2,g1,g2,g3,by show upd B.H p _ p2=none;rw [az this];exact g4,g5⟩
 ·have z1:=aX (λ_ w=>by cases w) q1;have z2:=aX (λ_ w=>by cases w) q2;rw [Lb z1] at q1;rw [Lb z2] at q2;exact r.ne j k as bs q hjk q1 q2 q3 q4
 ·have z:i≠j:=aY (λ_ w=>by cases w) q;rw [Lb z] at q;obtain⟨p2,ep2,as,bs,g1,g2,g3,g4,g5,g6⟩:=r.mv j y q;have:p2≠p:=λw=>by subst w;exact r.nm j i y kvs p2 (Ne.symm z) q h g1 h1
  exact⟨p2,ep2,as,bs,g1,g2,g3,by show upd B.H p _ p2=none;rw [az this];exact g4,g5,g6⟩
 ·have z1:=aY (λ_ w=>by cases w) q1;have z2:=aY (λ_ w=>by cases w) q2;rw [Lb z1] at q1;rw [Lb z2] at q2;exact r.nm j k as bs q hjk q1 q2 q3 q4
theorem Rep.xQ {p:Addr} {ep:Nat} {us vs:List V} {i:Nat} {kvs:List (D×D)} (r:Rep K (B.guard p (bR p ep (bq kvs us vs))) F H σ e) (hb:B.H p=none) (h:e[i]?=some (some (.d (.obj (GU p))))) (h5:ak K F (kvs.map (·.1)) us) (h6:ak K F (kvs.map (·.2)) vs) :
  Rep K B F H σ (e.set i (some (.dic kvs))):=by
 have wl:i < e.length:=(La.mp h).1;have hs:=AX r h;obtain⟨r',hp,hf⟩:=r.l4 hb
 have oth:∀(j:Nat) (ys:List (D×D)),e[j]?=some (some (.dic ys))->σ[j]?≠some (some (.ref p)):=λj ys q z=>by
  obtain⟨q1,_,_,_,h1,_,_,h4,_⟩:=r.mv j ys q;rw [z] at h1;cases h1;have h4':upd B.H p (bR p ep (bq kvs us vs)) p=none:=h4;rw [av] at h4';cases h4'
 refine⟨r'.f0,r'.fh,r'.h0,r'.nf,λj y q=>?_,λj y q=>?_,λj k as bs q hjk q1 q2 q3 q4=>?_,λj y q=>?_,λj k as bs q hjk q1 q2 q3 q4=>?_⟩
 ·have z:=mG (λ_ w=>by cases w) q;rw [Lb z] at q;exact r'.dv j y q
 ·have z:=aX (λ_ w=>by cases w) q;rw [Lb z] at q;exact r'.ov j y q
 ·have z1:=aX (λ_ w=>by cases w) q1;have z2:=aX (λ_ w=>by cases w) q2;rw [Lb z1] at q1;rw [Lb z2] at q2;exact r'.ne j k as bs q hjk q1 q2 q3 q4
 ·by_cases z:i=j
  ·subst z;rw [Lm wl] at q;cases q;exact⟨p,ep,us,vs,hs,hp,hf,hb,h5,h6⟩
  ·rw [Lb z] at q;exact r'.mv j y q
 ·by_cases z1:i=j
  ·subst z1;rw [Lb hjk] at q2;rw [hs] at q3;cases q3;exact oth k bs q2 q4
  ·rw [Lb z1] at q1
   by_cases z2:i=k
   ·subst z2;rw [hs] at q4;cases q4;exact oth j as q1 q3
   ·rw [Lb z2] at q2;exact r'.nm j k as bs q hjk q1 q2 q3 q4
end
section
variable {X:Cx} {a b:Expr} {ta tb:TD} {pos:Pos} {t:bI}
def oY (i:Nat) (g:o9) (t:bI):bI:=λZ env=>∃kvs,env[i]?=some (some (.dic kvs))/\∀p,turns g t { Z with nx:=λe=>e[i]?=some (some (.d (.obj (GU p))))/\Z.nx (e.set i (some (.dic kvs))) } (kvs.map (·.1)) (env.set i (some (.d (.obj (GU p)))))
theorem y9 {x:Str} {px:Pos} {tg:Expr} {body:List Stmt} {g:o9} (i:Nat) (hp:PassesOwn (model X.prog X.w) X.A X.env X.xe) (hc:X.calm=true) (hg:QG X tg g) (hb:o7 X body t) (hN:X.N[i]?=some x:=by rfl) (hv:ua X.env.scope x:=by first | exact Or.inl rfl | exact Or.inr (Or.inl rfl) | exact Or.inr (Or.inr rfl)) (hd:(x == ("__debug__" : Str))=false:=by decide)
  (hcd:(x == ("__classdict__" : Str))=false:=by decide) (hs:∀z,LX (.Name x px) X.env z=pure z:=by intro _;rfl):QS X (.For tg (.Name x px) body [] pos) (oY i g t):=by
 refine⟨λB σ F H env Z rp h=>ei (nQ hp hc (Hg (dU hN hv hd hcd)) vO fi hs) ?_⟩;obtain⟨kvs,hx,h⟩:=h;obtain⟨p,ep,us,vs,h1,h2,h4,h5,h6,r0⟩:=rp.A5 hx;refine⟨.ref p,h1,p,ep,bq kvs us vs,rfl,h2,?_⟩;have q1:=h p;generalize hB:B.guard p (bR p ep (bq kvs us vs))=B' at r0;generalize hD:({ Z with nx:=λe=>e[i]?=some (some (.d (.obj (GU p))))/\Z.nx (e.set i (some (.dic kvs))) }:Ends3)=Z' at q1;have hBp:B'.H p=some (bR p ep (bq kvs us vs)):=by rw [<- hB];exact av
 have fnx:∀σ2 H2,(RS X B' Z').nx σ2 H2->ao F F->(∃F' env',Rep X.K B' F' H2 σ2 env'/\ao F F'/\Z'.nx env')->(RS X B Z).nx σ2 H2:=by
  rintro σ2 H2 _ _ ⟨F',env',r',s',q'⟩;rw [<- hD] at q';rw [<- hB] at r';exact⟨F',_,r'.xQ h4 q'.1 (ak.mono s' _ _ h5) (ak.mono s' _ _ h6),q'.2⟩
 have frt:∀v H2,(RS X ⟨F,B'.H,B'.N,B'.nb⟩ Z').rt v H2->(RS X B Z).rt v H2:=by
  rintro v H2 ⟨F',d,r',hd',q'⟩;have r2:=Rep.back (B:=B') r0.f0 r';rw [<- hB] at r2;rw [<- hD] at q';exact⟨F',d,(r2.l4 h4).1,hd',q'⟩
 have fin:∀σ2 H2,(∃F' env',Rep X.K ⟨F,B'.H,B'.N,B'.nb⟩ F' H2 σ2 env'/\Z'.nx env')->(RS X B Z).nx σ2 H2:=by
  rintro σ2 H2 ⟨F',env',r',q'⟩;have r2:=Rep.back (B:=B') r0.f0 r';exact fnx σ2 H2 ⟨F',env',r2,q'⟩ (ao.refl _) ⟨F',env',r2,r'.f0,q'⟩
 have hl:(bq kvs us vs).length=(kvs.map (·.1)).length:=by rw [bN h5 h6,Ll]
 generalize hxs:kvs.map (·.1)=xs at q1 h5 hl;refine⟨λi m σ H=>m=xs.length - i/\i<=xs.length/\∃F2 env,Rep X.K ⟨F,B'.H,B'.N,B'.nb⟩ F2 H σ env/\turns g t Z' (xs.drop i) env,⟨xs.length,by simp,LZ _,F,_,r0.now,by simpa using q1⟩,?_⟩
 rintro j m σ2 H2 ⟨rfl,hi2,F2,env2,r2,q2⟩;have hcell:H2 p=some (bR p ep (bq kvs us vs)):=r2.h0 _ _ hBp
 by_cases hlt:j < xs.length
 ·have hxi:xs[j]?=some xs[j]:=by simp [hlt]
  rw [drop_cons hxi] at q2;refine .inr ⟨⟨hcell,by omega⟩,λσ' H'=>∃F3 env,Rep X.K ⟨F,B'.H,B'.N,B'.nb⟩ F3 H' σ' env/\turns g t Z' (xs.drop (j + 1)) env,λσ' H' ⟨F',env',r',q'⟩=>⟨xs.length - (j + 1),by omega,rfl,by omega,F',env',r',q'⟩,λz H' hz=>?_⟩;obtain⟨rfl,row,hr,rfl⟩:=hz;obtain⟨kv,k1,k2,k3,k4⟩:=dI hr;obtain⟨v,hv',dv'⟩:=h5.get hxi;rw [k3] at hv';cases hv';refine gS (hg _ σ2 F2 _ env2 _ _ _ r2 (Den.mono r2.f0 _ _ dv') q2) λσ3 H3 hq0=>?_
  obtain⟨F3,env3,r3,s3,q3⟩:=hq0;exact jJ (hb _ σ3 F3 H3 env3 _ r3 q3) (λ_ _ q=>q) (λv H q=>frt v H q) (λv H q=>fin v H q) (λ_ _ q=>q)
 ·have e:j=xs.length:=by omega
  subst e;rw [L9 (Lh _)] at q2;exact .inl ⟨⟨hcell,by omega⟩,fin _ _ ⟨F2,env2,r2,q2⟩⟩
def HL (neg:Bool) (y x:D) (Q:D->Prop):Prop:=∃kvs,x=.obj (qQ kvs)/\aR y=true/\dep y<=8/\bD kvs/\Q (.bl (if neg then !(kvs.any λkv=>aV kv.1 y) else kvs.any λkv=>aV kv.1 y))
def HI (X:Cx) (neg:Bool):R2:=λy x H Q=>∃p ep F kvs us vs d,x=.ref p/\ao F H/\bD kvs/\ak X.K F (kvs.map (·.1)) us/\ak X.K F (kvs.map (·.2)) vs/\H p=some (bR p ep (bq kvs us vs)) /\
 aR d=true/\dep d<=8/\Den X.K F d y/\Q (.bl (if neg then !(kvs.any λkv=>aV kv.1 d) else kvs.any λkv=>aV kv.1 d)) H
theorem yV (hu:X.A.units + 64 < cLine):jq X (compareOp .NotIn) (HI X true):=by
 intro pins s σ H x y v u Q I rx ry h;obtain⟨p,ep,F,kvs,us,vs,d,rfl,fh,ok,d1,d2,e,hk,hd,dd,h⟩:=h;cases ry;show wpAny _ _ ((do return Value.bool (!(<- contains (.ref p) v))):Sem Value) _ _ s
 exact K9 (IA (by omega) I fh ok d1 d2 e hk hd dd rx λs' I'=>Lf ⟨.bl _,H,I',rfl,h⟩)
theorem Fe (neg:Bool):wO X (HI X neg) (HL neg):=by
 intro B σ F H env Q d d' x y Z rp h1 h2 hz hf;obtain⟨kvs,rfl,hk,hd,ok,q⟩:=hf;simp only [Den] at h2;obtain⟨p,rfl,hp⟩:=h2;obtain⟨ep,us,vs,hg,g1,g2⟩:=hp F (ao.refl _);exact⟨p,ep,F,kvs,us,vs,d,rfl,rp.fh,ok,g1,g2,rp.fh _ _ hg,hk,hd,h1,hz _ H F _ rp (ao.refl _) hW q⟩
theorem Gq (hu:X.A.units + 64 < cLine) (ha:QE X a ta) (hb:QE X b tb) (hm:behindInMarks .NotIn b=false:=by rfl):QT X (.Compare a [.NotIn] [b] pos) (aN (aG (HL true) ta tb)):=ik (yV hu) (Fe true) ha hb hm
end
theorem bD.nil:bD []:=⟨λ_ h=>absurd h LR,λi j x y h=>by simp at h⟩
theorem DQ {a b:D} (ha:aR a=true) (hb:aR b=true):aV a b=true↔a=b:=⟨λh=>c4 a b ha h hb,λh=>h▸gD a ha⟩
theorem bD.put {kvs:List (D×D)} {k v:D} (h:bD kvs) (hk:aR k=true) (hd:dep k<=8):bD (putN kvs k v):=by
 unfold putN
 by_cases c:(kvs.any λkv=>aV kv.1 k)=true
 ·rw [if_pos c];refine⟨λkv m=>?_,λi j x y hx hy e=>?_⟩
  ·obtain⟨kw,m',rfl⟩:=LC.mp m
   split
   ·exact h.key kw m'
   ·exact h.key kw m'
  ·rw [Lj] at hx hy;obtain⟨x',hx',rfl⟩:=LY.mp hx;obtain⟨y',hy',rfl⟩:=LY.mp hy;refine h.dif i j x' y' hx' hy' ?_
   split at e <;> split at e <;> exact e
 ·rw [if_neg c];have no:∀(i:Nat) (x:D×D),kvs[i]?=some x->x.1≠k:=λi x hx e=>c (List.any_eq_true.mpr ⟨x,Lg hx,by rw [e];exact gD k hk⟩);refine⟨λkv m=>?_,λi j x y hx hy e=>?_⟩
  ·rcases LQ.mp m with m|m
   ·exact h.key kv m
   ·rw [LA] at m;subst m;exact⟨hk,hd⟩
  ·have at_:∀(i:Nat) (x:D×D),(kvs ++ [(k,v)])[i]?=some x->kvs[i]?=some x\/(i=kvs.length/\x.1=k):=λi x hx=>by
    by_cases l:i < kvs.length
    ·rw [Lx l] at hx;exact .inl hx
    ·have:=(La.mp hx).1;have e:i=kvs.length:=by simp at this;omega
     subst e;rw [Ls (Lh _),Nat.sub_self] at hx;cases hx;exact .inr ⟨rfl,rfl⟩
   rcases at_ i x hx with a|⟨a,a'⟩ <;> rcases at_ j y hy with b|⟨b,b'⟩
   ·exact h.dif i j x y a b e
   ·exact absurd (e.trans b') (no i x a)
   ·exact absurd (e.symm.trans a') (no j y b)
   ·omega
theorem iC {kvs:List (D×D)} {k k' v:D} (h:bD kvs) (hk:aR k=true) (hk':aR k'=true):dZ (putN kvs k v) k'=if aV k k'=true then some v else dZ kvs k':=by
 have find:∀(l:List (D×D)),(∀kv∈l,aR kv.1=true)->dZ (l.map (λkv=>if aV kv.1 k=true then (kv.1,v) else kv)) k'=if aV k k'=true/\(l.any λkv=>aV kv.1 k)=true then some v else dZ l k':=λl=>by
  induction l with
  | nil=>intro _;simp [dZ]
  | cons x r ih =>
   intro hl;have ih':=ih λkv m=>hl kv (Ln _ m);have hx:=hl x (Lz ..);unfold dZ at ih' ⊢;rw [LM,List.find?_cons,List.find?_cons]
   by_cases c1:aV x.1 k=true
   ·rw [if_pos c1];have e:=c4 _ _ hx c1 hk
    by_cases c2:aV x.1 k'=true
    ·simp only [c2,Option.map_some];rw [if_pos ⟨e▸c2,by rw [List.any_cons,c1];rfl⟩]
    ·have c3:¬ aV k k'=true:=λq=>c2 (e▸q);simp only [c2];rw [ih',if_neg (λq=>c3 q.1),if_neg (λq=>c3 q.1)]
   ·rw [if_neg c1]
    by_cases c2:aV x.1 k'=true
    ·have c3:¬ aV k k'=true:=λq=>c1 (by
      have e1:=c4 _ _ hx c2 hk';have e2:=c4 _ _ hk q hk'
      rw [e1,<- e2];exact gD k hk)
     simp only [c2,Option.map_some];rw [if_neg (λq=>c3 q.1)]
    ·simp only [c2];rw [ih',List.any_cons];have:aV x.1 k=false:=by simpa using c1
     rw [this,Bool.false_or]
 unfold putN
 by_cases c:(kvs.any λkv=>aV kv.1 k)=true
 ·rw [if_pos c,find kvs λkv m=>(h.key kv m).1];simp only [c,and_true]
 ·rw [if_neg c];unfold dZ;rw [List.find?_append]
  by_cases c2:aV k k'=true
  ·rw [if_pos c2]
   have none:kvs.find? (λkv=>aV kv.1 k')=none:=by
    rw [List.find?_eq_none];intro kv m q;refine c (List.any_eq_true.mpr ⟨kv,m,?_⟩);have e1:=c4 _ _ (h.key kv m).1 q hk';have e2:=c4 _ _ hk c2 hk';rw [e1,<- e2];exact gD k hk
   rw [none];simp [c2]
  ·rw [if_neg c2]
   cases kvs.find? (λkv=>aV kv.1 k') with
   | some z=>rfl
   | none=>simp [c2]
theorem wU {kvs:List (D×D)} {k:D}:(kvs.any λkv=>aV kv.1 k)=(dZ kvs k).isSome:=by
 unfold dZ;rw [Option.isSome_map,Bool.eq_iff_iff,List.find?_isSome,List.any_eq_true]
theorem dH {kvs:List (D×D)} {k v:D}:(putN kvs k v).length<=kvs.length + 1:=by
 unfold putN
 split
 ·simp
 ·simp
section
variable {X:Cx} {a e o:Expr} {ta te to:TD} {pos apos cpos:Pos}
def J4 (X:Cx) (neg:Bool):R2:=λx y H Q=>∃(F:Hp) (d:D) (ds:List D) (vs:List V) (p:Addr),ao F H/\Den X.K F d x/\y=.ref p/\fZ X.K H p vs/\ak X.K F ds vs/\X.A.units + 64 < cLine/\bV ds<=60/\dep d<=60/\Q (.bl (if neg then !ds.any (λe=>aV e d) else ds.any λe=>aV e d)) H
theorem DF:jq X (compareOp .NotIn) (J4 X true):=by
 intro pins s σ H x y v u Q I rx ry h;obtain⟨F,d,ds,vs,p,fh,dx,rfl,hq,dl,hu,h1,h2,q⟩:=h;cases ry;obtain⟨its,r,pl,hz⟩:=I.list hq;refine SeqAt.notIn_listAt (kH its ds d) pl.isList (λw hw=>pM I fh hu h1 h2 dl r dx rx w (by simpa using hw)) ⟨.bl _,H,I,rfl,?_⟩;rw [show its.toArray.any (kH its ds d)=its.any (kH its ds d) by simp,any_map',p7 I fh (by omega) dl r,<- any_map'];exact q
def xM (neg:Bool) (i:Nat) (ta:TD):TB:=λenv Q=>ta env λx=>∃xs,env[i]?=some (some (.own xs))/\bV xs<=60/\dep x<=60/\Q (if neg then !xs.any (λe=>aV e x) else xs.any λe=>aV e x)
theorem BS {x:Str} {px:Pos} (i:Nat) (hu:X.A.units + 64 < cLine) (ha:QE X a ta) (hN:X.N[i]?=some x:=by rfl) (hv:ua X.env.scope x:=by first | exact Or.inl rfl | exact Or.inr (Or.inl rfl) | exact Or.inr (Or.inr rfl)) (hd:(x == ("__debug__" : Str))=false:=by decide)
  (hcd:(x == ("__classdict__" : Str))=false:=by decide) (hm:behindInMarks .NotIn (.Name x px)=false:=by rfl):QT X (.Compare a [.NotIn] [.Name x px] pos) (xM true i ta):=by
 refine⟨λB σ F H env Q rp h=>rL (mi DF bO (dU hN hv hd hcd) hm) ?_⟩;refine aC (ha B σ F H env _ rp h) λy H1 hq0=>?_;obtain⟨F1,d,r1,s1,d1,xs,hx,l1,l2,q1⟩:=hq0;obtain⟨p,vs,g1,g2,g3,g4,g5⟩:=r1.ov i xs hx;exact⟨.ref p,g1,F1,d,xs,vs,p,r1.fh,d1,rfl,fZ.of g2,g5,hu,l1,l2,_,rfl,F1,r1,s1,q1⟩
def qL (to te:TD):TD:=λenv Q=>to env λx=>∃ds,x=.lst ds/\bV ds<=60/\te env λy=>dep y<=60/\∃j:Nat,(ds[j]?.map λd=>aV d y)=some true/\(∀m,m < j->(ds[m]?.map λd=>aV d y)=some false)/\Q (.int j)
theorem yQ (hu:X.A.units + 64 < cLine) (ho:QE X o to) (he:QE X e te) (m:M1 X o "index" apos e cpos:=by exact⟨rfl,rfl,rfl,rfl⟩):QE X (.Call (.Attribute o "index" apos) [e] [] cpos) (qL to te):=by
 refine⟨λB σ F H env Q rp h pins s I=>?_⟩;refine wpAny_Call_method m.base m.few m.line PySem.F.plainAttrs_list PySem.F.slot_list_index PySem.F.type_list_index (bP (ho B σ F H env _ rp h pins s I) λu s1 hq0=>?_);obtain⟨x,H1,I1,rx,F1,d,r1,z1,d1,ds,e1,hds,q1⟩:=hq0;subst e1;simp only [Den] at d1;obtain⟨p,vs,rfl,hq,dl⟩:=d1;cases rx;obtain⟨its0,_,⟨o0,n0,g0,c0,nd0,_⟩,_⟩:=I1.list (r1.fh.seq hq);refine⟨⟨o0,g0,c0⟩,λb eb=>by cases eb;exact⟨o0,g0,nd0⟩,?_⟩
 rw [m.trees];refine Calls.callWith_builtin rfl (Calls.evalArgs_plain (Ml (bP (he B σ F1 H1 env _ r1 q1 pins s1 I1) λiv s2 ⟨y,H2,I2,ry,F2,d',r2,z2,d2,hy,j,hj,hno,q2⟩=>Calls.spliced_nil ?_)));have hq2:=z2.seq hq;have dl2:=ak.mono z2 _ _ dl;obtain⟨its,rv,⟨⟨oc,od,odt,osl⟩,n,g,c,nd,dd⟩,hz⟩:=I2.list (r2.fh.seq hq2)
 replace c:oc=.type "list":=c
 replace dd:odt=.seq its.toArray n:=dd
 subst c dd;have l1:=dl2.length;have l2:=rv.length
 have at_:∀(k:Nat) (b:Bool),(ds[k]?.map λd=>aV d d')=some b->∃hk:k < its.length,kH its ds d' its[k]=b:=λk b hb=>by
  obtain⟨w,hw,rfl⟩:=LY.mp hb;have hk:k < its.length:=by have:=(La.mp hw).1;omega
  exact⟨hk,pb I2 r2.fh (by omega) dl2 rv hw (Lc hk)⟩
 obtain⟨hjl,hit⟩:=at_ j true hj
 have hsz:(j:Int) < 2 ^ 63 - 1:=by
  have:j < sizeLine:=by omega
  rw [Lu] at this;omega
 refine call_meets PySem.F.slot_list_index ⟨_,g,rfl⟩ PySem.F.entry_list_index (PySem.F.args_list_index_2 _ _) (SeqAt.list_indexAt p its.toArray n od osl iv (kH its ds d') j (by simpa using hjl) hsz (by simpa using hit) (λk hk hkj=>by
  obtain⟨hkl,z⟩:=at_ k false (hno k hkj)
  simpa using z)) ⟨g,λw hw=>zr I2 r2.fh _ (by simp only [units_in1];omega) hds hy dl2 rv d2 ry w (by simpa using hw),?_⟩
 exact⟨.int _,H2,I2.tok _,⟨_,rfl⟩,F2,_,r2,z1.trans z2,bz,q2⟩
end
section
variable {X:Cx} {a e:Expr} {es:List Expr} {ta te:TD} {ts:fY} {p pos apos cpos:Pos}
def qH (neg:Bool) (i:Nat) (ta:TD):TB:=λenv Q=>ta env λx=>∃kvs,env[i]?=some (some (.dic kvs))/\aR x=true/\dep x<=8/\bD kvs/\Q (if neg then !(kvs.any λkv=>aV kv.1 x) else kvs.any λkv=>aV kv.1 x)
theorem vX {x:Str} {px:Pos} (i:Nat) (hu:X.A.units + 64 < cLine) (ha:QE X a ta) (hN:X.N[i]?=some x:=by rfl) (hv:ua X.env.scope x:=by first | exact Or.inl rfl | exact Or.inr (Or.inl rfl) | exact Or.inr (Or.inr rfl)) (hd:(x == ("__debug__" : Str))=false:=by decide)
  (hcd:(x == ("__classdict__" : Str))=false:=by decide) (hm:behindInMarks .NotIn (.Name x px)=false:=by rfl):QT X (.Compare a [.NotIn] [.Name x px] pos) (qH true i ta):=by
 refine⟨λB σ F H env Q rp h=>rL (mi (yV hu) bO (dU hN hv hd hcd) hm) ?_⟩;refine aC (ha B σ F H env _ rp h) λy H1 hq0=>?_;obtain⟨F1,d,r1,s1,d1,kvs,hx,l1,l2,ok,q1⟩:=hq0;obtain⟨p,ep,us,vs,g1,g2,g3,g4,g5,g6⟩:=r1.mv i kvs hx;exact⟨.ref p,g1,p,ep,F1,kvs,us,vs,d,rfl,r1.fh,ok,g5,g6,g2,l1,l2,d1,_,rfl,F1,r1,s1,q1⟩
end
def ow (a:Addr):HO:=.ext λh=>∃(r:Int) (t:Tok) (n:Nat),h.get? a=some { cls:=.type "list",data:=.seq #[.int r t] n }
def eu:Le->Hp->Addr->Prop:=λ_ G a=>G a=some (ow a)
theorem yO {P:Program} {w:World} {H:Hp} {h:Heap} {a:Addr} {r:Int} {t:Tok} {n:Nat} (e:h.get? a=some { cls:=.type "list",data:=.seq #[.int r t] n }):bH P w H h a (ow a):=by
 refine⟨⟨r,t,n,e⟩,⟨_,e⟩,?_⟩
 rintro h1 h2 ⟨r,t,n,e⟩ k;exact⟨r,t,n,k _ e⟩
section
variable {X:Cx} {a b e:Expr} {ta te:TD} {pos:Pos}
theorem Bw {H:Hp} {p:Addr} {o:HO} (h:H p=some o):upd H p o=H:=by
 funext b
 by_cases e:b=p
 ·subst e;rw [av,h]
 ·rw [az e]
def pX (i:Nat) (te:TD):bI:=λZ env=>te env λx=>∃r:Int,x=.int r/\Z.nx (env.set i (some (.d (.obj eu))))
theorem xH {x:Str} {pos' pl:Pos} (i:Nat) (hN:X.N.Nodup) (he:QE X e te) (hi:X.N[i]?=some x:=by rfl) (hx:Loc X.env.scope x:=by first|exact Or.inl rfl|exact Or.inr rfl) (hs:swapsWith (.List [e] pl) (some (.Name x pos')) pos.line X.env=pure false:=by rfl)
  (hf:X.fn x=true\/X.env.scope.names.lookup x=some .local:=by first|exact .inl rfl|exact .inr rfl) (hst:starEach [e] X.env=(false,eval e X.env) :: starEach [] X.env:=by exact aZ rfl):QS X (.Assign [.Name x pos'] (.List [e] pl) pos) (pX i te):=by
 refine⟨λB σ F H env Z rp h pins s I=>?_⟩;refine wpAny_Assign_Name ?_ hs;refine wpAny_List_spliced (bP (eG bO gJ hst pl pins s σ H (λvs H1=>∃r,vs=[.int r]/\∃F1,Rep X.K B F1 H1 σ env/\Z.nx (env.set i (some (.d (.obj eu))))) I ?_) λus s1 ⟨vs,H1,I1,rv,r,ev,F1,r1,q⟩=>?_)
 ·refine aC (he B σ F H env _ rp h) λv H1 hq0=>?_;obtain⟨F1,d,r1,s1,d1,r,ed,q⟩:=hq0;subst ed;simp only [Den] at d1;subst d1;exact⟨r,rfl,F1,r1,q⟩
 ·subst ev;obtain⟨u,rfl,ru⟩:=rv.one;obtain⟨t,rfl⟩:=ru;refine⟨by show 1<=sizeLine;simp [Lu],?_⟩;have hfr:H1 s1.heap.objs.size=none:=I1.hok.fresh (Lh _);have I2:=I1.laid (a:=s1.heap.objs.size) (o:=ow s1.heap.objs.size) (h':=s1.heap.push { cls:=.type "list",data:=.seq [Value.int r t].toArray }) (t':=s1.toks) (λb u e=>Ld _ e) (Lh _) (yO (r:=r) (t:=t) (n:=0) (Lv _ rfl))
  refine mB I2 hN hi hx (v:=.ref s1.heap.objs.size) rfl (λs2 I3=>⟨_,_,I3,?_⟩) hf;obtain⟨r2,s2'⟩:=r1.laid (o:=ow s1.heap.objs.size) hfr;refine⟨_,_,r2.set (i:=i) (x:=.obj eu) ?_ ?_,q⟩
  ·simp only [Den];exact⟨_,rfl,λG sG=>sG _ _ av⟩
  ·rw [I.len];exact (La.mp hi).1
def HD:R2:=λx y H Q=>∃p,x=.ref p/\y=.int 0/\H p=some (ow p)/\∀r:Int,Q (.int r) H
theorem yu {pins:List (Addr×Obj)} {σ:St} {H:Hp} {s:Shared} {p:Addr} (I:Inv X pins σ H s) (h:H p=some (ow p)):∃(r:Int) (t:Tok) (n:Nat),s.heap.get? p=some { cls:=.type "list",data:=.seq #[.int r t] n }:=(I.hok p _ h).1
theorem Dn:CO X HD:=by
 intro value slice pins s σ H x y v u Q I rx ry h hs;obtain⟨p,rfl,rfl,hp,q⟩:=h;cases rx;obtain⟨t,rfl⟩:=ry;obtain⟨r,t',n,e⟩:=yu I hp;have fin:EP X pins σ Q (.int r t') s:=⟨.int r,H,I,⟨_,rfl⟩,q r⟩;exact item_listR ⟨_,e,rfl,n,rfl⟩ (by omega) (by simp) (by simp) fin hs
def yl (ta:TD):TD:=λenv Q=>ta env λx=>x=.obj eu/\∀r:Int,Q (.int r)
theorem Bl {p1:Pos} {j1:_} (ha:QE X a ta) (hs:m4 (.Constant (.int 0) j1 p1):=by intro _ _;rfl):QE X (.Subscript a (.Constant (.int 0) j1 p1) pos) (yl ta):=by
 refine⟨λB σ F H env Q rp h=>dA (y4 Dn bO xg hs) ?_⟩;refine aC (ha B σ F H env _ rp h) λx H1 hq0=>?_;obtain⟨F1,d,r1,s1,d1,ed,q⟩:=hq0;subst ed;simp only [Den] at d1;obtain⟨p,rfl,hp⟩:=d1;exact⟨p,rfl,rfl,r1.fh _ _ (hp F1 (ao.refl _)),λr=>⟨F1,_,r1,s1,bz,q r⟩⟩
def IY:V->V->V->Hp->(Hp->Prop)->Prop:=λo i v H Q=>∃p r,o=.ref p/\i=.int 0/\v=.int r/\H p=some (ow p)/\Q H
theorem CM:GY X IY:=by
 intro pins s σ H o i v ov iv u Q I ro ri rv h;obtain⟨p,r,rfl,rfl,rfl,hp,q⟩:=h;cases ro;obtain⟨t,rfl⟩:=ri;obtain⟨t2,rfl⟩:=rv;obtain⟨r0,t0,n,e⟩:=yu I hp
 have e2:(s.heap.update p (Obj.mapSeq (·.setIfInBounds 0 (.int r t2)))).get? p=some { cls:=.type "list",data:=.seq #[.int r t2] n }:=by
  rw [Heap.get?_update_self _ e (by rfl)];rfl
 have I':Inv X pins σ (upd H p (ow p)) { s with heap:=s.heap.update p (Obj.mapSeq (·.setIfInBounds 0 (.int r t2))),toks:=s.toks } :=
  I.write (x:=p) (e:=p) (by rw [hp];trivial) (.inl rfl) (λb u hb q=>(Heap.get?_update_other _ _ (Ne.symm hb)).trans q) ⟨_,e2⟩ (yO e2)
 rw [Bw hp] at I';exact PySem.W.ki_setAt e (by omega) (by decide) (by simp) ⟨_,I',q⟩
def p4 (ta te:TD):bI:=λZ env=>te env λy=>∃r:Int,y=.int r/\ta env λx=>x=.obj eu/\Z.nx env
theorem xb {p1 p2:Pos} {j1:_} (ha:QE X a ta) (he:QE X e te) (hs:swapsWithSole [.Subscript a (.Constant (.int 0) j1 p1) p2] e pos.line X.env=pure false:=by rfl) (hw:swappedStores [.Subscript a (.Constant (.int 0) j1 p1) p2] e X.env=pure none:=by rfl)
  (h1:(assignEach [.Subscript a (.Constant (.int 0) j1 p1) p2] X.env).map (·.2)=[assign (.Subscript a (.Constant (.int 0) j1 p1) p2) X.env]:=by rfl)
  (hg:∀v,assign (.Subscript a (.Constant (.int 0) j1 p1) p2) X.env v=(do
   let ov <- holding [v] (eval a X.env)
   let iv <- holding [v,ov] (eval (.Constant (.int 0) j1 p1) X.env)
   standAt p2
   holding [v,ov,iv] (setItem ov iv v)
   release [v,ov,iv] []):=by intro _;rfl):QS X (.Assign [.Subscript a (.Constant (.int 0) j1 p1) p2] e pos) (p4 ta te):=by
 refine⟨λB σ F H env Z rp h=>?_⟩;refine ei (xa bO (BJ bO xg CM hg) hs hw h1) ?_;refine aC (he B σ F H env _ rp h) λy H1 hq0=>?_;obtain⟨F1,d,r1,s1,d1,r,ed,q1⟩:=hq0;subst ed;simp only [Den] at d1;subst d1;refine aC (ha B σ F1 H1 env _ r1 q1) λx H2 hq0=>?_;obtain⟨F2,d2,r2,s2,dd2,ed,q2⟩:=hq0;subst ed;simp only [Den] at dd2;obtain⟨p,rfl,hp⟩:=dd2;exact⟨p,r,rfl,rfl,rfl,r2.fh _ _ (hp F2 (ao.refl _)),F2,env,r2,q2⟩
end
theorem DS {prog:Program} {w:World} {A:Around} {E:Value->Shared->Prop} {s:Shared} {value slice:Expr} {o i:Value} {T id:String} {Q:Value->Shared->Prop}
  (hT:s.TypeIs o T) (hl:typeLookup (.type T) "__getitem__" = pure (some (.builtin id))) (hs:subscripted slice false o i=operate [o,i] (getItem o i)) (h:wpAny (model prog w) A (getItem o i) Q E s) :
  wpAny (model prog w) A (subscriptTail value slice o i) Q E s:=by
 unfold subscriptTail;refine K9 ?_;rw [getitemInPython_of_ne hT.not_modules];refine K9 (wpAny_specialOf hT hl ?_)
 have fin:wpAny (model prog w) A (subscripted slice false o i) (λr s₃=>wpAny (model prog w) A (letTemporaryGo value o r >>= λ_=>pure r) Q E s₃) E s:=by
  rw [hs];exact wpAny_operating (LG h (λr s₃ h₃=>K9 (wpAny_letTemporaryGo (Lf h₃))) λ_ _ x=>x)
 first
  | exact Lf (K9 fin)
  | exact K9 (Lf (K9 fin))
  | exact K9 fin
section
variable {X:Cx} {a b:Expr} {ta tb:TD} {pos:Pos}
def EC (X:Cx):R2:=λx y H Q=>∃p ep F kvs us vs d z,x=.ref p/\ao F H/\bD kvs/\ak X.K F (kvs.map (·.1)) us/\ak X.K F (kvs.map (·.2)) vs/\H p=some (bR p ep (bq kvs us vs)) /\
 aR d=true/\dep d<=8/\Den X.K F d y/\dZ kvs d=some z/\∀w,Den X.K F z w->Q w H
theorem Dj (hu:X.A.units + 64 < cLine):CO X (EC X):=by
 intro value slice pins s σ H x y v u Q I rx ry h hs;obtain⟨p,ep,F,kvs,us,vs,d,z,rfl,fh,ok,d1,d2,e,hk,hd,dd,hz,q⟩:=h;cases rx;obtain⟨_,_,es,dh,_⟩:=fD I e;exact DS dh.typeIs PySem.F.slot_dict_getitem.lookup hs (BV (by omega) I fh ok d1 d2 e hk hd dd ry hz λw' u' s3 I3 dw rw'=>⟨w',H,I3,rw',q w' dw⟩)
def EH (x y:D) (Q:D->Prop):Prop:=IH x y Q\/bS x y Q
theorem Hk:wO X (λx y H Q=>EC X x y H Q\/JY X.K x y H Q) EH:=by
 intro B σ F H env Q d d' x y Z rp h1 h2 hz hf;rcases hf with hf|hf
 ·obtain⟨kvs,v,rfl,hk,hd,ok,hv,q⟩:=hf;simp only [Den] at h1;obtain⟨p,rfl,hp⟩:=h1;obtain⟨ep,us,vs,hg,g1,g2⟩:=hp F (ao.refl _);exact .inl ⟨p,ep,F,kvs,us,vs,d',v,rfl,rp.fh,ok,g1,g2,rp.fh _ _ hg,hk,hd,h2,hv,λw dw=>hz w H F v rp (ao.refl _) dw q⟩
 ·exact .inr (EI B σ F H env Q d d' x y Z rp h1 h2 hz hf)
theorem uL (hu:X.A.units + 64 < cLine) (ha:QE X a ta) (hb:QE X b tb) (hs:m4 b):QE X (.Subscript a b pos) (aG EH ta tb):=⟨λB σ F H env Q rp h=>dA (y4 ((Dj hu).or AE) bO bO hs) (two Hk ha hb rp JG h)⟩
end
section
variable {X:Cx} {a b:Expr} {ta tb:TD} {p pos:Pos}
theorem Ft {pins : List (Addr × Obj)} {σ : St} {H : Hp} {s : Shared} {p : Addr} {n : Int} {v : V} (I : Inv X pins σ H s) (e : H p = some (.dK [(.inl n, v)])) : ∃ ep, Inv X pins σ (upd H p (bR p ep [(hashInt n, .int n, v)])) s := by
  obtain ⟨z, hs, vs, rel, o, es, ep, g, c, dd, kk, pp, nd⟩ := (show bH X.prog X.w H s.heap p (.dK [(.inl n, v)]) from I.hok p _ e);have rel' : KV [((.inl n : Key), v)] vs := rel
  cases rel' with
  | @cons x y xs ys h t =>
    have : ys = [] := by cases t; rfl
    subst this
    have hes : ∃ en, es.toList = [en] /\ (dO X.prog X.w).is y.1 en.key = true /\ en.val = y.2 := by
      cases hh : es.toList with
      | nil => rw [hh] at pp; cases pp
      | cons en r =>
        rw [hh] at pp
        cases pp with
        | cons h1 h2 h3 => cases h3; exact ⟨en, rfl, h1, h2⟩
    obtain ⟨en, he, h1, h2⟩ := hes;have hy : y.1 = .inl n := h.1.symm
    obtain ⟨k, k1, k2⟩ := kk en (by have : en ∈ es.toList := by rw [he]; simp
                                    simpa using this)
    have ek : k = y.1 := (dO X.prog X.w).inj _ _ _ k1 h1;rw [hy] at ek h1;subst ek
    have kv : ∃ t, en.key = Value.int n t := by
      have h1' : Value.isInt n en.key = true := h1
      cases hh : en.key with
      | int a t =>
        rw [hh] at h1';have : a = n := by simp only [Value.isInt, beq_iff_eq] at h1'; first|exact h1'|exact h1'.symm
        subst this; exact ⟨t, rfl⟩
      | _ => rw [hh] at h1'; simp [Value.isInt] at h1'
    have pr : Paired tG [(hashInt n, V.int n, v)] es.toList := by
      rw [he];exact .cons ⟨k2, kv, by rw [h2]; exact h.2⟩ .nil
    refine ⟨ep, ?_⟩;have := gv (h' := s.heap) (t' := s.toks) (ob := bR p ep [(hashInt n, V.int n, v)]) I (by rw [e]; exact True.intro) (.refl ..) ⟨o, g⟩ ⟨⟨by simp [Lu], hs, es, ⟨o, g, c, dd⟩, pr⟩, ⟨o, g⟩, ?_⟩
    · exact this
    · rintro h1 h2 ⟨z, hs, es, ⟨o, ho, c, dd⟩, pr⟩ k
      exact ⟨z, hs, es, ⟨o, k _ ho, c, dd⟩, pr⟩
theorem Rep.jZ {K:Le} {B:Base} {F H:Hp} {σ:St} {e:En} (r:Rep K B F H σ e) {i:Nat} {p:Addr} (ep:Nat) {kvs:List (D×D)} {us vs:List V} (h:H p=none) (hl:i < σ.length) (hd1:ak K F (kvs.map (·.1)) us) (hd2:ak K F (kvs.map (·.2)) vs) :
  Rep K B F (upd H p (bR p ep (bq kvs us vs))) (σ.set i (some (.ref p))) (e.set i (some (.dic kvs))):=by
 have r1:=r.loose (o:=bR p ep (bq kvs us vs)) h;have hb:B.H p=none:=r.h0.free h
 have old:∀(j:Nat) (ys:List (D×D)),e[j]?=some (some (.dic ys))->σ[j]?≠some (some (.ref p)):=λj ys q z=>by
  obtain⟨q1,_,_,_,h1,h2,_⟩:=r.mv j ys q;rw [z] at h1;cases h1;rw [h] at h2;cases h2
 refine⟨r1.f0,r1.fh,r1.h0,r1.nf,λj y q=>?_,λj y q=>?_,λj k ys zs q hjk q1 q2 q3 q4=>?_,λj y q=>?_,λj k ys zs q hjk q1 q2 q3 q4=>?_⟩
 ·have z:=mG (λ_ w=>by cases w) q;rw [Lb z] at q ⊢;exact r1.dv j y q
 ·have z:=aX (λ_ w=>by cases w) q;rw [Lb z] at q ⊢;exact r1.ov j y q
 ·have z1:=aX (λ_ w=>by cases w) q1;have z2:=aX (λ_ w=>by cases w) q2;rw [Lb z1] at q1 q3;rw [Lb z2] at q2 q4;exact r.ne j k ys zs q hjk q1 q2 q3 q4
 ·by_cases z:i=j
  ·subst z
   by_cases w:i < e.length
   ·rw [Lm w] at q;cases q;exact⟨p,ep,us,vs,Lm hl,av,r.mj h,hb,hd1,hd2⟩
   ·rw [Lp (by simpa using w)] at q;cases q
  ·rw [Lb z] at q ⊢;exact r1.mv j y q
 ·by_cases z1:i=j
  ·subst z1;rw [Lb hjk] at q2 q4;rw [Lm hl] at q3;cases q3;exact old k zs q2 q4
  ·rw [Lb z1] at q1 q3
   by_cases z2:i=k
   ·subst z2;rw [Lm hl] at q4;cases q4;exact old j ys q1 q3
   ·rw [Lb z2] at q2 q4;exact r.nm j k ys zs q hjk q1 q2 q3 q4
def sV (i:Nat) (tk tv:TD):bI:=λZ env=>tk env λk=>∃n:Int,k=.int n/\tv env λv=>Z.nx (env.set i (some (.dic [(.int n,v)])))
theorem zD {x:Str} {pos' pd:Pos} (i:Nat) (hN:X.N.Nodup) (ha:QE X a ta) (hb:QE X b tb) (hi:X.N[i]?=some x:=by rfl) (hx:Loc X.env.scope x:=by first|exact Or.inl rfl|exact Or.inr rfl) (hs:swapsWith (.Dict [some a] [b] pd) (some (.Name x pos')) pos.line X.env=pure false:=by rfl)
  (hf:X.fn x=true\/X.env.scope.names.lookup x=some .local:=by first|exact .inl rfl|exact .inr rfl):QS X (.Assign [.Name x pos'] (.Dict [some a] [b] pd) pos) (sV i ta tb):=by
 refine⟨λB σ F H env Z rp h pins s I=>?_⟩;have hl:i < σ.length:=by rw [I.len];exact (La.mp hi).1
 refine bP (ju (i:=i) hN hi hx (Dz (mF bO bO uF) rfl rfl (by simp) (by simp)) hs hf pins s σ H
  { nx:=λσ' H'=>∃p n v F' d,σ'=σ.set i (some (.ref p))/\H' p=some (.dK [(.inl n,v)])/\Rep X.K B F' (λb=>if b=p then none else H' b) σ env/\Den X.K F' d v/\Z.nx (env.set i (some (.dic [(.int n,d)]))),rt:=λ_ _=>False,bk:=λ_ _=>False,ct:=λ_ _=>False } I λp hp=>?_) λf s' q=>?_
 ·have hb0:B.H p=none:=rp.h0.free hp;refine aC (ha (B.guard p (.dK [])) σ F (upd H p (.dK [])) env _ (rp.guarded hp) h) λk H1 hq0=>?_;obtain⟨F1,d1,r1,s1,e1,n,ed,q1⟩:=hq0;subst ed;simp only [Den] at e1;subst e1;refine aC (hb _ σ F1 H1 env _ r1 q1) λv H2 hq0=>?_;obtain⟨F2,d2,r2,s2,e2,q2⟩:=hq0;obtain⟨r3,hp2,hf2⟩:=r2.l4 hb0;refine⟨hp2,[(.inl n,v)],rfl,by simp,p,n,v,F2,d2,rfl,av,?_,e2,q2⟩
  have e:(λb=>if b=p then none else upd H2 p (.dK (ny [] [(.inl n,v)])) b)=λb=>if b=p then none else H2 b:=by
   funext b
   by_cases z:b=p
   ·rw [if_pos z,if_pos z]
   ·rw [if_neg z,if_neg z,az z]
  rw [e];refine⟨r3.f0,λb o z=>?_,λb o z=>?_,r3.nf,r3.dv,λj xs hj=>?_,r3.ne,λj xs hj=>?_,r3.nm⟩
  ·have:b≠p:=λw=>by subst w;rw [hf2] at z;cases z
   rw [if_neg this];exact r3.fh _ _ z
  ·have:b≠p:=λw=>by subst w;rw [hb0] at z;cases z
   rw [if_neg this];exact r3.h0 _ _ z
  ·obtain⟨p2,us,g1,g2,g3,g4,g5⟩:=r3.ov j xs hj;have:p2≠p:=λw=>by subst w;rw [hp2] at g2;cases g2
   exact⟨p2,us,g1,by rw [if_neg this];exact g2,g3,g4,g5⟩
  ·obtain⟨p2,ep,us,vs,g1,g2,g3,g4,g5,g6⟩:=r3.mv j xs hj;have:p2≠p:=λw=>by subst w;rw [hp2] at g2;cases g2
   exact⟨p2,ep,us,vs,g1,by rw [if_neg this];exact g2,g3,g4,g5,g6⟩
 ·cases f with
  | next =>
   obtain⟨σ',H',I',p,n,v,F',d,rfl,hp,r,dd,q⟩:=q;obtain⟨ep,I2⟩:=Ft I' hp;refine⟨_,_,I2,F',_,?_,q⟩;have h0:(λb=>if b=p then none else H' b) p=none:=if_pos rfl
   have e:upd H' p (bR p ep [(hashInt n,V.int n,v)])=upd (λb=>if b=p then none else H' b) p (bR p ep (bq [(D.int n,d)] [V.int n] [v])):=by
    funext b
    by_cases z:b=p
    ·subst z;rw [av,av];rfl
    ·rw [az z,az z,if_neg z]
   rw [e]
   exact r.jZ (i:=i) ep h0 hl (aD bz aH) (aD dd aH)
  | brk=>obtain⟨_,_,_,q⟩:=q;exact q.elim
  | cont=>obtain⟨_,_,_,q⟩:=q;exact q.elim
  | ret u=>obtain⟨_,_,_,_,_,q⟩:=q;exact q.elim
end
def sg:Option Int->Value->Bool
 | some i,v=>Value.isInt i v
 | none,.none=>true
 | none,_=>false
theorem eR {k:Option Int} {v:Value} (h:sg k v=true):(∃i t,k=some i/\v=.int i t)\/(k=none/\v=.none):=by
 cases k with
 | some i =>
  left
  have h':Value.isInt i v=true:=h
  cases v with
  | int a t =>
   have:a=i:=by simp only [Value.isInt,beq_iff_eq] at h';first|exact h'|exact h'.symm
   subst this;exact⟨a,t,rfl,rfl⟩
  | _=>simp [Value.isInt] at h'
 | none =>
  right
  cases v <;> first|exact⟨rfl,rfl⟩|(simp [sg] at h)
def Fp:Option Int->Int
 | some i=>hashInt i
 | none=>4238894112
theorem zx {prog:Program} {w:World} {A:Around} {E:Value->Shared->Prop} {s:Shared} {Q:Int->Shared->Prop} (h:Q 4238894112 { s with toks:=s.toks + 1 }):wpAny (model prog w) A (pyHash .none) Q E s:=by
 have hT:s.TypeIs .none "NoneType":=rfl
 unfold PySem.pyHash
 first|unfold pyHashByItsType|skip
 refine K9 (wpAny_cRoomFor_or (.inl rfl) ?_);refine K9 (wpAny_specialOf hT PySem.F.slot_NoneType_hash.lookup ?_);show wpAny _ _ (if (some (Value.builtin "NoneType.__hash__") == some Value.none)=true then _ else _) Q E s
 rw [if_neg (by rw [beq_builtin_none];exact Bool.false_ne_true)];refine K9 (wpAny_specialOf hT PySem.F.slot_NoneType_hash.lookup ?_);show wpAny _ _ (callSpecialIfBoundUnlessNone? .none "__hash__" _ >>= _) Q E s
 refine K9 (wpAny_callSpecialIfBoundUnlessNone?_slot hT PySem.F.slot_NoneType_hash (wpAny_call_entry PySem.F.slot_NoneType_hash hT PySem.F.entry_NoneType_hash ?_ (PySem.F.args_NoneType_hash_1 _)));show wpAny _ _ (retInt 4238894112) _ _ _
 refine wpAny_ret_mkInt ?_;exact Lf h
theorem E3 {prog:Program} {w:World} {A:Around} {E:Value->Shared->Prop} {s:Shared} {Q:Bool->Shared->Prop} {u v:Value} (hne:u≠v) (k:SeqAt.RcAt A s u v false) (nf:∀b t,u≠.float b t) (hq:Q false s):wpAny (model prog w) A (eqBool u v) Q E s:=by
 unfold eqBool;refine wpAny_holding ?_;refine wpAny_ite_split (λhab=>absurd (eq_of_beq hab) hne) (λ_=>?_);cases u <;> cases v <;> first|exact absurd rfl (nf _ _)|exact K9 (k prog w E _ (wpAny_truthy_bool hq))
def optKind (prog:Program) (w:World):KeyKind prog w (Option Int) where
 is:=sg
 hash:=Fp
 inj:=λv a b h1 h2=>by
  rcases eR h1 with ⟨i,t,rfl,e⟩|⟨rfl,e⟩ <;> rcases eR h2 with ⟨j,t',rfl,e'⟩|⟨rfl,e'⟩
  ·rw [e] at e';cases e';rfl
  ·rw [e] at e';cases e'
  ·rw [e] at e';cases e'
  ·rfl
 byValue:=λk v h=>by
  rcases eR h with ⟨i,t,rfl,rfl⟩|⟨rfl,rfl⟩ <;> rfl
 pyHash:=λ{A E s k v Q} h q=>by
  rcases eR h with ⟨i,t,rfl,rfl⟩|⟨rfl,rfl⟩
  ·exact (intKind prog w).pyHash (k:=i) (intKind_is prog w i t) q
  ·exact zx q
 eqBool:=λ{A E s a b u v Q} h1 h2 q=>by
  rcases eR h1 with ⟨i,t,rfl,rfl⟩|⟨rfl,rfl⟩ <;> rcases eR h2 with ⟨j,t',rfl,rfl⟩|⟨rfl,rfl⟩
  ·refine (intKind prog w).eqBool (intKind_is prog w i t) (intKind_is prog w j t') ?_;have:decide ((some i:Option Int)=some j)=decide (i=j):=by rw [Bool.eq_iff_iff];simp
   rw [this] at q;exact q
  ·exact E3 (by intro z;cases z) (SeqAt.RcAt.int_none i t) (by intro _ _ z;cases z) (by simpa using q)
  ·exact E3 (by intro z;cases z) (SeqAt.RcAt.none_int j t') (by intro _ _ z;cases z) (by simpa using q)
  ·exact SeqAt.EqAt.same _ prog w E Q (by simpa using q)
 «strs»:=λk x t v h=>by
  rcases eR h with ⟨i,t',rfl,e⟩|⟨rfl,e⟩ <;> cases e
def zk:Option Int->V
 | some i=>.int i
 | none=>.non
def wJ (kvs:List (Option Int×V)):List (Int×V×V):=kvs.map λkv=>(Fp kv.1,zk kv.1,kv.2)
theorem C8 {k:Option Int} {u:Value} (r:RelV (zk k) u):sg k u=true:=by
 cases k with
 | some i=>obtain⟨t,rfl⟩:=r;simp [sg,Value.isInt]
 | none=>cases r;rfl
theorem C3 {k:Option Int} {u:Value} (h:sg k u=true):RelV (zk k) u:=by
 rcases eR h with ⟨i,t,rfl,rfl⟩|⟨rfl,rfl⟩
 ·exact⟨t,rfl⟩
 ·rfl
abbrev KO:List (Option Int×V)->List (Option Int×Value)->Prop:=Paired λp q=>p.1=q.1/\RelV p.2 q.2
theorem wF {P:Program} {w:World}:∀{kvs:List (Option Int×V)} {ws:List (Value×Value)},VV (kvs.map λkv=>(zk kv.1,kv.2)) ws->∃rs,Carries (optKind P w) ws rs/\KO kvs rs
 | [],_,r=>by rw [List.map_nil] at r;cases r;exact⟨[],True.intro,.nil⟩
 | p :: kvs,_,r=>by
  rw [LM] at r
  cases r with
  | @cons a b as bs h t =>
   obtain⟨rs,c,q⟩:=wF (P:=P) (w:=w) t;obtain⟨b1,b2⟩:=b;exact⟨(p.1,b2) :: rs,⟨C8 h.1,rfl,c⟩,.cons ⟨rfl,h.2⟩ q⟩
theorem DB {kvs:List (Option Int×V)} {rs:List (Option Int×Value)} (h:KO kvs rs):rs.map (·.1)=kvs.map (·.1):=by
 unfold KO at h
 induction h with
 | nil=>rfl
 | cons h t ih=>rw [LM,LM,ih,h.1]
theorem rF {P:Program} {w:World} {es:List DictEntry} (hk:∀e∈es,∃k,(optKind P w).is k e.key=true/\e.hash=(optKind P w).hash k):∀{kvs:List (Option Int×V)} {rs:List (Option Int×Value)},KO kvs rs->Pairs (optKind P w) es rs->Paired tG (wJ kvs) es:=by
 intro kvs rs r;unfold KO at r
 induction r generalizing es with
 | nil=>intro p;cases p;exact .nil
 | @cons x y xs ys h t ih =>
  intro p
  cases p with
  | @cons e _ es' _ h1 h2 h3 =>
   obtain⟨k,k1,k2⟩:=hk e Lz;have ek:k=y.1:=(optKind P w).inj _ _ _ k1 h1;subst ek;refine .cons ⟨?_,?_,?_⟩ (ih (λe he=>hk e (Ln _ he)) h3)
   ·show e.hash=Fp x.1
    rw [h.1];exact k2
   ·show RelV (zk x.1) e.key
    rw [h.1];exact C3 h1
   ·rw [h2];exact h.2
def FD (trs:List (TE×TE)):TE:=λσ H Q=>∀p,H p=none->tT trs σ (upd H p (bR p 0 [])) λps H2=>H2 p=some (bR p 0 [])/\∃kvs:List (Option Int×V),ps=kvs.map (λkv=>(zk kv.1,kv.2))/\(kvs.map (·.1)).Nodup/\kvs.length<=15/\∀ep,Q (.ref p) (upd H2 p (bR p ep (wJ kvs)))
theorem BU {X:Cx} {pos:Pos} {keys:List (Option Expr)} {values:List Expr} {trs:List (TE×TE)} (h:HP X pos keys values trs) (hall:keys.all (·.isSome)=true) (hl:keys.length=values.length) (h0:keys≠[])
  (h15:keys.length<=15):PE X (.Dict keys values pos) (FD trs):=by
 intro pins s σ H Q I q;have hn:=I.hok.fresh (Lh s.heap.objs.size);have I1:=I.laid (a:=s.heap.objs.size) (o:=bR s.heap.objs.size 0 []) (h':=s.heap.push { cls:=.type "dict",data:=.dict #[] }) (t':=s.toks) (λ_ _ q=>Ld _ q) (Lh _) (kr s.heap I.big)
 refine wpAny_Dict_walk (knd:=optKind X.prog X.w) hall hl h0 h15 (bP (h pins _ σ _ _ I1 (q _ hn)) λws s2 hq0=>?_);obtain⟨ps,H2,I2,rel,e,kvs,ep,nd,lk,q2⟩:=hq0;subst ep;obtain⟨rs,cr,ko⟩:=wF (P:=X.prog) (w:=X.w) rel;obtain⟨hz,hs,es,⟨o,g,c,dd⟩,pr⟩:=fD I2 e
 have es0:es=#[]:=by
  have:=Paired.length pr;apply Array.eq_empty_of_size_eq_zero
  simpa using this.symm
 subst es0;refine⟨rs,cr,⟨o,#[],0,g,c,dd,λe he=>by simp at he,.nil,by simp⟩,λh' dh sb=>?_⟩;have nk:(rs.map (·.1)).Nodup:=by rw [DB ko];exact nd
 rw [merged_nil_of_nodup rs nk] at dh;obtain⟨o2,es2,ep2,g2,c2,dd2,kk2,pp2,_⟩:=dh;have pr2:=rF (λe he=>kk2 e (by simpa using he)) ko pp2;refine⟨.ref s.heap.objs.size,_,gv (ob:=bR s.heap.objs.size ep2 (wJ kvs)) I2 (by rw [e];exact True.intro) sb ⟨o2,g2⟩ ⟨⟨by unfold wJ;rw [Ll,Lu];omega,hs,es2,⟨o2,g2,c2,dd2⟩,pr2⟩,⟨o2,g2⟩,?_⟩,rfl,q2 ep2⟩
 rintro h1 h2 ⟨z,hs,es,⟨o,ho,c,dd⟩,pr⟩ k;exact⟨z,hs,es,⟨o,k _ ho,c,dd⟩,pr⟩
section
variable {X:Cx} {a b b' e:Expr} {ta tb tb' te:TD} {p pos:Pos}
def tW (i:Nat) (tk tv tw:TD):bI:=λZ env=>tk env λk=>∃n:Int,k=.int n/\tv env λv=>tw env λw=>Z.nx (env.set i (some (.dic [(.int n,v),(.non,w)])))
theorem zd {x:Str} {pos' pd pn:Pos} {jn} (i:Nat) (hN:X.N.Nodup) (ha:QE X a ta) (hb:QE X b tb) (hb':QE X b' tb') (hi:X.N[i]?=some x:=by rfl) (hx:Loc X.env.scope x:=by first|exact Or.inl rfl|exact Or.inr rfl)
  (hs:swapsWith (.Dict [some a,some (.Constant .none jn pn)] [b,b'] pd) (some (.Name x pos')) pos.line X.env=pure false:=by rfl)
  (hf:X.fn x=true\/X.env.scope.names.lookup x=some .local:=by first|exact .inl rfl|exact .inr rfl):QS X (.Assign [.Name x pos'] (.Dict [some a,some (.Constant .none jn pn)] [b,b'] pd) pos) (tW i ta tb tb'):=by
 refine⟨λB σ F H env Z rp h pins s I=>?_⟩;have hl:i < σ.length:=by rw [I.len];exact (La.mp hi).1
 refine ju (i:=i) hN hi hx (BU (mF bO bO (mF Bm bO uF)) rfl rfl (by simp) (by simp)) hs hf pins s σ H _ I λp hp=>?_;have hb0:B.H p=none:=rp.h0.free hp;refine aC (ha (B.guard p (bR p 0 [])) σ F (upd H p (bR p 0 [])) env _ (rp.guarded hp) h) λk H1 hq0=>?_;obtain⟨F1,d1,r1,s1,e1,n,ed,q1⟩:=hq0;subst ed;simp only [Den] at e1;subst e1;refine aC (hb _ σ F1 H1 env _ r1 q1) λv H2 hq0=>?_;obtain⟨F2,d2,r2,s2,e2,q2⟩:=hq0
 refine aC (hb' _ σ F2 H2 env _ r2 q2) λw H3 hq0=>?_;obtain⟨F3,d3,r3,s3,e3,q3⟩:=hq0;obtain⟨r4,hp2,hf2⟩:=r3.l4 hb0;refine⟨hp2,[(some n,v),(none,w)],rfl,by simp,by simp,λep=>?_⟩;have h0:(λb=>if b=p then none else H3 b) p=none:=if_pos rfl
 have ee:upd H3 p (bR p ep (wJ [(some n,v),(none,w)]))=upd (λb=>if b=p then none else H3 b) p (bR p ep (bq [(D.int n,d2),(D.non,d3)] [V.int n,V.non] [v,w])):=by
  funext b
  by_cases z:b=p
  ·subst z;rw [av,av];rfl
  ·rw [az z,az z,if_neg z]
 have r5:Rep X.K B F3 (λb=>if b=p then none else H3 b) σ env:=by
  refine⟨r4.f0,λb o z=>?_,λb o z=>?_,r4.nf,r4.dv,λj xs hj=>?_,r4.ne,λj xs hj=>?_,r4.nm⟩
  ·have:b≠p:=λw=>by subst w;rw [hf2] at z;cases z
   rw [if_neg this];exact r4.fh _ _ z
  ·have:b≠p:=λw=>by subst w;rw [hb0] at z;cases z
   rw [if_neg this];exact r4.h0 _ _ z
  ·obtain⟨p2,us,g1,g2,g3,g4,g5⟩:=r4.ov j xs hj;have:p2≠p:=λw=>by subst w;rw [hp2] at g2;cases g2
   exact⟨p2,us,g1,by rw [if_neg this];exact g2,g3,g4,g5⟩
  ·obtain⟨p2,ep,us,vs,g1,g2,g3,g4,g5,g6⟩:=r4.mv j xs hj;obtain⟨p3,_,_,_,k1,_,_,k4,_,_⟩:=r3.mv j xs hj;have e3:p3=p2:=by rw [k1] at g1;cases g1;rfl
   subst e3;have:p3≠p:=λw=>by subst w;rw [show (B.guard p3 (bR p3 0 [])).H p3=some (bR p3 0 []) from av] at k4;cases k4
   exact⟨p3,ep,us,vs,g1,by rw [if_neg this];exact g2,g3,g4,g5,g6⟩
 rw [ee];exact⟨F3,_,r5.jZ (i:=i) ep h0 hl (aD bz (aD mX aH)) (aD (Den.mono s3 _ _ e2) (aD e3 aH)),q3⟩
theorem Ea:KH X .Add (λx y H Q=>∃i j,x=.int i/\y=.int j/\Q (.int (i + j)) H):=by
 intro pins s σ H x y v u Q I rx ry h;obtain⟨i,j,rfl,rfl,q⟩:=h;obtain⟨t,rfl⟩:=rx;obtain⟨t',rfl⟩:=ry;exact iadd_int ⟨.int _,H,I.tok _,⟨_,rfl⟩,q⟩
def AK (i:Nat) (te:TD):bI:=λZ env=>∃x:Int,env[i]?=some (some (.d (.int x)))/\te env λy=>∃z:Int,y=.int z/\Z.nx (env.set i (some (.d (.int (x + z)))))
theorem Dt {x:Str} {pos':Pos} (i:Nat) (nd:X.N.Nodup) (he:QE X e te) (hi:X.N[i]?=some x:=by rfl) (hx:Loc X.env.scope x:=by first|exact Or.inl rfl|exact Or.inr rfl) (hf:X.fn x=true\/X.env.scope.names.lookup x=some .local:=by first|exact .inl rfl|exact .inr rfl) :
  QS X (.AugAssign (.Name x pos') .Add e pos) (AK i te):=by
 refine⟨λB σ F H env D rp h pins s I=>?_⟩;refine GV (i:=i) nd hi hx bO Ea hf pins s σ H _ I ?_;obtain⟨d,hd,h⟩:=h;obtain⟨v,hv,dv⟩:=rp.dv i _ hd;refine⟨v,hv,aC (he B σ F H env _ rp h) λy H1 ⟨F1,d',r1,s1,d1,z,ez,q1⟩=>?_⟩;subst ez;simp only [Den] at dv d1;subst dv d1;refine⟨_,_,rfl,rfl,F1,_,r1.set bz ?_,q1⟩;rw [I.len];exact (La.mp hi).1
end
section
variable {X:Cx} {pins:List (Addr×Obj)} {σ:St} {H F:Hp} {s:Shared} {kvs:List (D×D)} {us vs:List V} {p:Addr} {A:Around} {d x:D} {v w:V} {u r:Value}
theorem FA (hu:A.units + 9 < cLine) (I:Inv X pins σ H s) (fh:ao F H) (ok:bD kvs) (d1:ak X.K F (kvs.map (·.1)) us) (d2:ak X.K F (kvs.map (·.2)) vs) {ep:Nat} (e:H p=some (bR p ep (bq kvs us vs)))
  (hk:aR d=true) (hd:dep d<=8) (dd:Den X.K F d v) (rv:RelV v u) (dx:Den X.K F x w) (rw':RelV w r) (hl:kvs.length < sizeLine) {E:Value->Shared->Prop} {Q:Unit->Shared->Prop}
  (h:∀ep' us' vs' s',ak X.K F ((putN kvs d x).map (·.1)) us'->ak X.K F ((putN kvs d x).map (·.2)) vs'->Inv X pins σ (upd H p (bR p ep' (bq (putN kvs d x) us' vs'))) s'->Q () s'):wpAny (model X.prog X.w) A (dictSet p u r) Q E s:=by
 obtain⟨hz,hs,es,dh,pr⟩:=fD I e;have lp:=Paired.length pr;have l0:=bN d1 d2;rw [l0] at lp hz;have lp':kvs.length=es.size:=by simpa using lp
 have l1:=d1.length;have l2:=d2.length;simp only [Ll] at l1 l2
 have ext:∀(ep':Nat) (rows:List (Int×V×V)) (h':Heap) (es':Array DictEntry),rows.length<=sizeLine->bp h' p es' ep'->Paired tG rows es'.toList->bH X.prog X.w (upd H p (bR p ep' rows)) h' p (bR p ep' rows):=λep' rows h' es' z dh' pr'=>by
  refine⟨⟨z,hs,es',dh',pr'⟩,?_,?_⟩
  ·obtain⟨o,ho,_⟩:=dh';exact⟨o,ho⟩
  ·rintro h1 h2 ⟨z,hs,es,⟨o,ho,c,dd⟩,pr⟩ k;exact⟨z,hs,es,⟨o,k _ ho,c,dd⟩,pr⟩
 have hash:=gG fh d s A v u I hk (by omega) dd rv;have find:=kB (I.tok (s.toks + Ak d)) fh ok d1 d2 pr hk hd (A:=A) (by omega) dd rv;refine qi hash find dh (by omega) (λhno h' dh' sb=>?_) λj hj hm h' dh' sb=>?_
 ·have any:(kvs.any λkv=>aV kv.1 d)=false:=by
   rw [List.any_eq_false];intro kv hm;obtain⟨j,hj⟩:=LL hm;have:=hno j (by have:=(La.mp hj).1;omega);unfold oQ at this;rw [hj] at this
   simpa using this
  have pe:putN kvs d x=kvs ++ [(d,x)]:=by unfold putN;rw [any];rfl
  have q1:ak X.K F ((putN kvs d x).map (·.1)) (us ++ [v]):=by rw [pe,List.map_append];exact d1.append (aD dd aH)
  have q2:ak X.K F ((putN kvs d x).map (·.2)) (vs ++ [w]):=by rw [pe,List.map_append];exact d2.append (aD dx aH)
  refine h _ _ _ _ q1 q2 (gv I (by rw [e];exact True.intro) sb (let ⟨o,ho,_⟩:=dh';⟨o,ho⟩) (ext _ _ h' _ ?_ dh' ?_))
  ·rw [bN q1 q2,pe];simp;omega
  ·refine gz (by rw [bN q1 q2,pe];simp;omega) λi row en h1 h2=>?_;obtain⟨kv,k1,k2,k3,k4⟩:=dI h1;rw [pe] at k1;simp only [Array.toList_push] at h2
   by_cases c:i < kvs.length
   ·rw [Lx c] at k1;rw [Lx (by omega)] at k3 k4;rw [Lx (by simp;omega)] at h2;obtain⟨row',g1,g2⟩:=fW pr h2;obtain⟨kv',f1,f2,f3,f4⟩:=dI g1;rw [f1] at k1;cases k1;rw [f3] at k3;rw [f4] at k4;have:row'=row:=Mb (by rw [f2,k2]) (Mb (Li k3) (Li k4));rw [<- this];exact g2
   ·have hi:i=kvs.length:=by
     have:=(La.mp k1).1;simp at this;omega
    rw [hi,Ls (Lh _),Nat.sub_self] at k1;rw [show i=us.length by omega,Ls (Lh _),Nat.sub_self] at k3;rw [show i=vs.length by omega,Ls (Lh _),Nat.sub_self] at k4;rw [show i=es.toList.length by simp;omega,Ls (Lh _),Nat.sub_self] at h2;cases k1;cases h2;have a3:v=row.2.1:=Li k3;have a4:w=row.2.2:=Li k4;exact⟨k2.symm,by rw [<- a3];exact rv,by rw [<- a4];exact rw'⟩
 ·obtain⟨kv,a,b,g0,g1,g2,da,db,e1,e2,e3⟩:=pz d1 d2 pr hj;unfold oQ at hm;rw [g0] at hm;have any:(kvs.any λkv=>aV kv.1 d)=true:=List.any_eq_true.mpr ⟨kv,Lg g0,hm⟩;have pe:putN kvs d x=kvs.set j (kv.1,x):=by unfold putN;rw [any,if_pos rfl];exact yN ok hk g0 hm
  have q1:ak X.K F ((putN kvs d x).map (·.1)) us:=by rw [pe,oz g0];exact d1
  have q2:ak X.K F ((putN kvs d x).map (·.2)) (vs.set j w):=by rw [pe,oJ];exact ak.set dx j d2
  refine h _ _ _ _ q1 q2 (gv I (by rw [e];exact True.intro) sb (let ⟨o,ho,_⟩:=dh';⟨o,ho⟩) (ext _ _ h' _ ?_ dh' ?_))
  ·rw [bN q1 q2,pe];simp;omega
  ·refine gz (by rw [bN q1 q2,pe];simp;omega) λi row en h1 h2=>?_;obtain⟨kw,k1,k2,k3,k4⟩:=dI h1;rw [pe] at k1;rw [Ma,Array.getElem?_modify] at h2
   by_cases c:j=i
   ·subst c;rw [if_pos rfl,Array.getElem?_eq_getElem hj] at h2;rw [Lm (by omega)] at k1 k4;cases k1;cases h2;rw [g1] at k3;have a3:a=row.2.1:=Li k3;have a4:w=row.2.2:=Li k4;exact⟨by rw [k2];exact e1,by rw [<- a3];exact e2,by rw [<- a4];exact rw'⟩
   ·rw [if_neg c,<- Ma] at h2;rw [Lb c] at k1 k4;obtain⟨row',f0,f1⟩:=fW pr h2;obtain⟨kv',t1,t2,t3,t4⟩:=dI f0;rw [t1] at k1;cases k1;rw [t3] at k3;rw [t4] at k4;have:row'=row:=Mb (by rw [t2,k2]) (Mb (Li k3) (Li k4));rw [<- this];exact f1
end
section
variable {prog:Program} {w:World} {A:Around} {R:Result->Shared->Prop} {s:Shared}
theorem qR {kx vx target iter:Expr} {ifs:List Expr} {scope:Scope} {pos:Pos} {it:Value} {D:Addr} {env:Env} (I:Nat->Shared->Prop)
  (turn:∀n s,I n s->wpAny (model prog w) A (pyNext it) (λr s₁=>match r with
   | none=>R (.ok .next) s₁
   | some v=>wpAny (model prog w) A (letOwnedTupleGo target it v) (λ_ s₁'=>wpAny (model prog w) A (assign target env v) (λ_ s₂ =>
     wpAny (model prog w) A (forIn ifs true λc r=>if r=true then do let ok <- isTrue c env (eval c env);pure (ForInStep.yield ok) else pure (ForInStep.yield r)) (λok s₃ =>
      if ok=true then wpAny (model prog w) A (eval kx env) (λkv s₄=>wpAny (model prog w) A (eval vx env) (λvv s₅ =>
       wpAny (model prog w) A (dictSet D kv vv) (λ_ s₆=>∃m,m < n/\I m s₆) (λ_ _=>False) s₅) (λ_ _=>False) s₄) (λ_ _=>False) s₃
      else ∃m,m < n/\I m s₃) (λ_ _=>False) s₂) (λ_ _=>False) s₁') (λ_ _=>False) s₁) (λ_ _=>False) s)
  (n:Nat) (h:I n s) :
  codeAny (model prog w) A (.compLoop (.DictComp kx vx [⟨target,iter,ifs,0⟩] scope pos) 0 it (.ref D) env) R s:=by
 refine codeAny_loop rfl I (λn s hI=>?_) n h;show wpAny _ A ((compTurn (.DictComp kx vx [⟨target,iter,ifs,0⟩] scope pos) 0 it (.ref D) env).onRaise (λx=>do noteFrame x env;theTreesLotGoes x)) _ _ s
 refine wpAny_noted ?_;rw [compTurn_dict];refine K9 (wpAny_standAt (K9 (LG (turn n s hI) (λr s₁ h₁=>?_) λ_ _ h'=>h'.elim)))
 cases r with
 | none=>exact Lf h₁
 | some v =>
  refine K9 (LG h₁ (λ_ s₁' h₁'=>?_) λ_ _ h'=>h'.elim);refine K9 (LG h₁' (λ_ s₂ h₂=>K9 (LG h₂ (λok s₃ h₃=>?_) λ_ _ h'=>h'.elim)) λ_ _ h'=>h'.elim)
  cases ok with
  | false=>exact Lf ⟨rfl,h₃⟩
  | true =>
   exact K9 (K9 (LG h₃ (λkv s₄ h₄=>K9 (wpAny_holding (LG h₄ (λvv s₅ h₅=>K9 (wpAny_standAt (wpAny_holding (LG h₅ (λ_ s₆ h₆=>Lf ⟨rfl,h₆⟩) λ_ _ h'=>h'.elim)))) λ_ _ h'=>h'.elim))) λ_ _ h'=>h'.elim))
end
def Gh (X:Cx) (a:Addr) (k v:V) (σ:St) (H:Hp) (Q:Hp->Prop):Prop:=∀(pins:List (Addr×Obj)) (s:Shared) (u r:Value),Inv X pins σ H s->RelV k u->RelV v r ->
 wpAny (model X.prog X.w) X.A (dictSet a u r) (λ_ s'=>∃H',Inv X pins σ H' s'/\Q H') (λ_ _=>False) s
def Cb (X:Cx) (N':List Str) (nt:Nat) (ix:List Nat) (scope:Scope) (kx vx target:Expr) (ifs:List Expr) (wi:TI):TE:=λσ H Q=>wi σ H λJ H1=>∀(a C:Addr) (s:Shared) (fp:List Addr) (pins:List (Addr×Obj)),H1 a=none ->
 ∃W:Nat->Nat->St->Hp->Prop,(∃m,W 0 m (pH nt ix σ) (upd H1 a (bR a 0 [])))/\∀i m σ' H',W i m σ' H'->(J.stop i H'/\Q (.ref a) H')\/(J.go i H'/\∀x H2,J.yld i H' x H2 ->
  wG (aJ X N' scope C s (upd H1 a (bR a 0 [])) fp pins) target x σ' H2 λσ2 H3=>wx (aJ X N' scope C s (upd H1 a (bR a 0 [])) fp pins) ifs σ2 H3 λok H4=>if ok=true then
   wE (aJ X N' scope C s (upd H1 a (bR a 0 [])) fp pins) kx σ2 H4 λk H5=>wE (aJ X N' scope C s (upd H1 a (bR a 0 [])) fp pins) vx σ2 H5 λv H6=>Gh (aJ X N' scope C s (upd H1 a (bR a 0 [])) fp pins) a k v σ2 H6 λH7=>∃m',m' < m/\W (i + 1) m' σ2 H7
   else ∃m',m' < m/\W (i + 1) m' σ2 H4)
section
variable {X:Cx} {N':List Str} {nt:Nat} {ix:List Nat} {scope:Scope}
theorem Ab {kx vx target iter:Expr} {ifs:List Expr} {pos:Pos} {pins:List (Addr×Obj)} {σ:St} {s2:Shared} {Q:VK} {R:It->Hp->Prop} {itv:Value} {RR:Value->Addr->Result->Shared->Prop} (hc:X.calm=true) (O:bK X N' nt ix scope)
  (h2:Je X pins σ target R itv s2)
  (hR:∀J H1,R J H1->∀(a C:Addr) (s:Shared) (fp:List Addr) (pins:List (Addr×Obj)),H1 a=none ->
   ∃W:Nat->Nat->St->Hp->Prop,(∃m,W 0 m (pH nt ix σ) (upd H1 a (bR a 0 [])))/\∀i m σ' H',W i m σ' H'->(J.stop i H'/\Q (.ref a) H')\/(J.go i H'/\∀x H2,J.yld i H' x H2 ->
    wG (aJ X N' scope C s (upd H1 a (bR a 0 [])) fp pins) target x σ' H2 λσ2 H3=>wx (aJ X N' scope C s (upd H1 a (bR a 0 [])) fp pins) ifs σ2 H3 λok H4=>if ok=true then
     wE (aJ X N' scope C s (upd H1 a (bR a 0 [])) fp pins) kx σ2 H4 λk H5=>wE (aJ X N' scope C s (upd H1 a (bR a 0 [])) fp pins) vx σ2 H5 λv H6=>Gh (aJ X N' scope C s (upd H1 a (bR a 0 [])) fp pins) a k v σ2 H6 λH7=>∃m',m' < m/\W (i + 1) m' σ2 H7
     else ∃m',m' < m/\W (i + 1) m' σ2 H4))
  (hRR:∀(a C:Addr) (H':Hp) (s6:Shared) (m:Str->Option Value),Q (.ref a) H'->s6.heap.Ns C m->H' C=none->C≠X.env.locals->X.s₀.heap.objs.size<=C->(∀x c,X.env.cells.lookup x=some c->c≠C)->(∀p∈X.pn ++ pins,p.1≠C) ->
   (∀h',Heap.SameBut C s6.heap h'->Inv X pins σ H' { s6 with heap:=h' })->RR (.ref a) C (.ok .next) s6) :
  wpAny (model X.prog X.w) X.A newDict (λacc s3=>wpAny (model X.prog X.w) X.A (newFunctionEnv scope X.env.globals (gH scope.names X.env.cells []) [] X.env.qual none .none (some X.env)) (λcenv s4 =>
   codeAny (model X.prog X.w) X.A (.compStart (.DictComp kx vx [⟨target,iter,ifs,0⟩] scope pos) 0 itv acc { cenv with scope:=relabel scope X.env }) (RR acc cenv.locals) s4) X.xe s3) X.xe s2:=by
 obtain⟨it,fp,tn,J,H2,e,I2,T,st2,f2,hq0⟩:=h2;have hq:=hR J H2 hq0;subst e;have hlt2:∀b∈fp,b < s2.heap.objs.size:=λb hb=>let ⟨o,e,_⟩:=T.obj _ _ st2 b hb;Lw e
 refine wpAny_newObj_type ?_;generalize hs3:({ s2 with heap:=s2.heap.push { cls:=.type "dict",dict:=none,data:=.dict #[] } }:Shared)=s3
 have k3:∀b o,s2.heap.get? b=some o->s3.heap.get? b=some o:=λb o e=>by rw [<- hs3];exact Ld _ e
 have ha:H2 s2.heap.objs.size=none:=I2.hok.fresh (Lh _)
 have I3:Inv X pins σ (upd H2 s2.heap.objs.size (bR s2.heap.objs.size 0 [])) s3:=by
  rw [<- hs3];exact I2.laid (t':=s2.toks) (λb u e=>Ld _ e) (Lh _) (kr s2.heap I2.big)
 have f3:∀b∈fp,lH X pins (upd H2 s2.heap.objs.size (bR s2.heap.objs.size 0 [])) b:=λb hb=>⟨by rw [az (LJ (hlt2 b hb))];exact (f2 b hb).1,(f2 b hb).2⟩;have st3:tn 0 s3.heap:=T.keep _ _ _ st2 λb hb o e=>k3 b o e;have hlt3:∀b∈fp,b < s3.heap.objs.size:=λb hb=>let ⟨o,e,_⟩:=T.obj _ _ st3 b hb;Lw e
 refine wpAny_newFunctionEnv O.nocell (by intro y hy;simp at hy) (λh1 hns hsb=>?_) O.kind;have k4:∀b o,s3.heap.get? b=some o->h1.get? b=some o:=λb o e=>(hsb.2 b (LJ (Lw e))).trans (Ld _ e);have I4:=pO (tk:=s3.toks + ([]:List (Str×Value)).length) I3 O f3 hlt3 hns k4;have st4:tn 0 h1:=T.keep _ _ _ st3 λb hb o e=>k4 b o e;obtain⟨W,⟨m0,w0⟩,turn⟩:=hq s2.heap.objs.size s3.heap.objs.size s3 fp pins ha
 have fr3:∀b∈fp,(upd H2 s2.heap.objs.size (bR s2.heap.objs.size 0 [])) b=none:=λb hb=>(f3 b hb).1
 have stat:∀{H':Hp},(∀b∈fp,H' b=none)->∀b∈fp,lH (aJ X N' scope s3.heap.objs.size s3 (upd H2 s2.heap.objs.size (bR s2.heap.objs.size 0 [])) fp pins) [] H' b:=λ{H'} hn b hb=>by
  refine⟨hn b hb,LJ (hlt3 b hb),λz=>?_,.inl hb,λx c e=>(f3 b hb).2.2.2.2.1 x c (iG scope.names [] (λy d w=>by simp at w) x c e),λp hp=>?_⟩
  ·rcases LB.mp (I3.lC b z) with q|q
   ·exact (f3 b hb).2.1 q
   ·exact (f3 b hb).2.2.1 q
  ·rw [L4] at hp;exact (f3 b hb).2.2.2.2.2 p hp
 generalize hX:aJ X N' scope s3.heap.objs.size s3 (upd H2 s2.heap.objs.size (bR s2.heap.objs.size 0 [])) fp pins=X' at I4 turn stat;have eP:X'.prog=X.prog:=by rw [<- hX];rfl
 have eW:X'.w=X.w:=by rw [<- hX];rfl
 have eK:X'.K=X.K:=by rw [<- hX];rfl
 have eA:X'.A=X.A:=by rw [<- hX];rfl
 have eC:X'.calm=true:=by rw [<- hX];exact hc
 have eE:X'.env=compEnvC scope (gH scope.names X.env.cells []) s3.heap.objs.size X.env:=by rw [<- hX];rfl
 have eX:X'.xe=λ_ _=>False:=by rw [<- hX];rfl
 have loop:codeAny (model X.prog X.w) X.A (.compLoop (.DictComp kx vx [⟨target,iter,ifs,0⟩] scope pos) 0 (.ref it) (.ref s2.heap.objs.size) (compEnvC scope (gH scope.names X.env.cells []) s3.heap.objs.size X.env))
   (RR (.ref s2.heap.objs.size) s3.heap.objs.size) { s3 with heap:=h1,toks:=s3.toks + ([]:List (Str×Value)).length }:=by
  refine qR (λn s'=>∃i σ' H',Inv X' [] σ' H' s'/\tn i s'.heap/\(∀b∈fp,H' b=none)/\W i n σ' H') ?_ m0 ⟨0,_,_,I4,st4,fr3,w0⟩
  rintro n s5 ⟨i,σ5,H5,I5,st5,fr5,w5⟩;rcases turn i n σ5 H5 w5 with ⟨stop,q⟩|⟨go,step⟩
  ·have:=T.done X' eP eW eK eC i [] s5 σ5 H5 (λ_ _=>False) I5 (stat fr5) st5 stop;rw [eA] at this;refine bP this λr s6 ⟨hr,I6⟩=>?_;subst hr;obtain⟨m,hm,_⟩:=id I6.loc;rw [eE] at hm;have fre:H5 s3.heap.objs.size=none:=by have z:=I6.free;rw [eE] at z;exact z
   refine hRR _ _ H5 s6 m q hm fre (Nat.ne_of_gt I3.lt) I3.sz (λx c e z=>?_) (λp hp z=>?_) λh' hsb'=>?_
   ·obtain⟨v,w⟩:=I3.cell x c e;exact absurd w.lt (by rw [z];exact Nat.lt_irrefl _)
   ·exact absurd (Lw (I3.pin p hp).1) (by rw [z];exact Nat.lt_irrefl _)
   ·rw [<- hX] at I6;exact vg I3 f3 I6 hsb'
  ·have:=T.item X' eP eW eK eC i [] s5 σ5 H5 (λ_ _=>False) I5 (stat fr5) st5 go;rw [eA] at this;refine bP this λr s6 ⟨u,hr,h6⟩=>?_;subst hr;refine bP h6 λ_ s7 hq0=>?_;obtain⟨x,H7,I7,r7,y7,st7,fr7⟩:=hq0;have I7':=I7.pinned (stat fr7) (T.obj _ _ st7);have g7:=step x H7 y7 _ s7 u I7' r7;rw [eP,eW,eA,eE,eX] at g7;refine bP g7 λ_ s8 ⟨σ8,H8,I8,q8⟩=>?_;have t8:=q8 _ s8 I8;rw [eP,eW,eA,eE] at t8;refine bP t8 λok s9 ⟨H9,I9,q9⟩=>?_
   have back:∀{σz:St} {Hz:Hp} {sz:Shared} {m':Nat},Inv X' ([] ++ nX fp s7.heap) σz Hz sz->m' < n->W (i + 1) m' σz Hz->∃m,m < n/\∃i σ' H',Inv X' [] σ' H' sz/\tn i sz.heap/\(∀b∈fp,H' b=none)/\W i m σ' H':=λ{σz Hz sz m'} Iz hm wz=>by
    refine⟨m',hm,i + 1,σz,Hz,Iz.jG,T.keep _ _ _ st7 λb hb o e=>(Iz.pin (b,o) (LP _ (LP _ (fJ hb e)))).1,λb hb=>?_,wz⟩;obtain⟨o,e,d⟩:=T.obj _ _ st7 b hb;exact (Iz.pin (b,o) (LP _ (LP _ (fJ hb e)))).2.1
   cases ok with
   | false =>
    obtain⟨m',hm,w9⟩:=q9
    exact back I9 hm w9
   | true =>
    have e9:=q9 _ s9 I9;rw [eP,eW,eA,eE,eX] at e9;refine bP e9 λuk s10 hq0=>?_;obtain⟨k,H10,I10,r10,q10⟩:=hq0;have e10:=q10 _ s10 I10;rw [eP,eW,eA,eE,eX] at e10;refine bP e10 λuv s11 hq0=>?_;obtain⟨v,H11,I11,r11,q11⟩:=hq0;have e11:=q11 _ s11 uk uv I11 r10 r11;rw [eP,eW,eA] at e11;refine bP e11 λ_ s12 hq0=>?_;obtain⟨H12,I12,m',hm,w12⟩:=hq0;exact back I12 hm w12
 exact codeAny_compStart_dict loop (T.self _ _ _ _ _ st4 loop)
theorem Ay {kx vx target iter:Expr} {ifs:List Expr} {pos:Pos} {wi:TI} (hc:X.calm=true) (hi:PI X target iter wi) (O:bK X N' nt ix scope) (hs:∀x,LX iter X.env x=pure x:=by intro _;rfl) :
  PE X (.DictComp kx vx [⟨target,iter,ifs,0⟩] scope pos) (Cb X N' nt ix scope kx vx target ifs wi):=by
 intro pins s σ H Q I h;rw [arm_eval_DictComp];refine wpAny_comprehension_free (use:=none) rfl hs (O.cA I) O.kind O.names ?_;refine bP (hi pins s σ H _ I h) λv s1 h1=>bP h1 λitv s2 h2=>?_;refine Ab (Q:=Q) (RR:=λacc C=>compPost (model X.prog X.w) X.A X.xe none (EP X pins σ Q) acc C) hc O h2 (λJ H1 z=>z) ?_;intro a C H' s6 m q hm _ _ _ _ _ hI;exact⟨m,hm,λh' hsb=>⟨.ref a,H',hI h' hsb,rfl,q⟩⟩
end
def iT (tt:TB) (tk tv:TD) (di:En) (Q:List (D×D)->Prop):List D->List (D×D)->Prop
 | [],acc=>Q acc
 | x :: xs,acc=>∃a b,x=.tup [a,b]/\tt ((di.set 0 (some (.d a))).set 1 (some (.d b))) λok=>if ok=true then tk ((di.set 0 (some (.d a))).set 1 (some (.d b))) λk=>tv ((di.set 0 (some (.d a))).set 1 (some (.d b))) λv=>aR k=true/\dep k<=8/\bD acc/\acc.length < sizeLine/\iT tt tk tv di Q xs (putN acc k v) else iT tt tk tv di Q xs acc
def RD (X:Cx) (B:Base) (σ:St) (env:En) (F:Hp) (Q:List (D×D)->Prop):VK:=λv H'=>∃F' H1 p ep us vs kvs,v=.ref p/\H1 p=none/\H'=upd H1 p (bR p ep (bq kvs us vs))/\Rep X.K B F' H1 σ env/\ao F F'/\ak X.K F' (kvs.map (·.1)) us/\ak X.K F' (kvs.map (·.2)) vs/\Q kvs
section
variable {X:Cx} {N':List Str} {ix:List Nat} {scope:Scope} {kx vx iter a b:Expr} {ifs:List Expr} {x y:Str} {px py tp pos:Pos} {c:Nat} {tt:TB} {tk tv ti:TD} {ts:fY}
theorem wB (hc:X.calm=true) (hN:N'.Nodup) (h0:N'[0]?=some x) (h1:N'[1]?=some y) (hx:(relabel scope X.env).names.lookup x=some .local) (hy:(relabel scope X.env).names.lookup y=some .local)
  (ht:∀C s H fp pins,pN (aJ X N' scope C s H fp pins) ifs tt) (hk:∀C s H fp pins,QE (aJ X N' scope C s H fp pins) kx tk) (hv:∀C s H fp pins,QE (aJ X N' scope C s H fp pins) vx tv) (hu:X.A.units + 64 < cLine)
  {B:Base} {σ:St} {F F1 H1:Hp} {env:En} {Q:List (D×D)->Prop} {J:It} {xs:List D} (sF:ao F F1) (r1:Rep X.K B F1 H1 σ env) (S:pw X.K J F1 xs) (q1:iT tt tk tv (b9 2 ix env) Q xs []) :
  ∀(a C:Addr) (s:Shared) (fp:List Addr) (pins:List (Addr×Obj)),H1 a=none ->
   ∃W:Nat->Nat->St->Hp->Prop,(∃m,W 0 m (pH 2 ix σ) (upd H1 a (bR a 0 [])))/\∀i m σ' H',W i m σ' H'->(J.stop i H'/\RD X B σ env F Q (.ref a) H')\/(J.go i H'/\∀z H2,J.yld i H' z H2 ->
    wG (aJ X N' scope C s (upd H1 a (bR a 0 [])) fp pins) (.Tuple [.Name x px,.Name y py] c tp) z σ' H2 λσ2 H3=>wx (aJ X N' scope C s (upd H1 a (bR a 0 [])) fp pins) ifs σ2 H3 λok H4=>if ok=true then
     wE (aJ X N' scope C s (upd H1 a (bR a 0 [])) fp pins) kx σ2 H4 λk H5=>wE (aJ X N' scope C s (upd H1 a (bR a 0 [])) fp pins) vx σ2 H5 λv H6=>Gh (aJ X N' scope C s (upd H1 a (bR a 0 [])) fp pins) a k v σ2 H6 λH7=>∃m',m' < m/\W (i + 1) m' σ2 H7
     else ∃m',m' < m/\W (i + 1) m' σ2 H4):=by
 intro a C s fp pins ha;have hF1a:F1 a=none:=r1.mj ha
 refine⟨λi m σ' H'=>m=xs.length - i/\i<=xs.length/\∃(F':Hp) (acc:List (D×D)) (ep:Nat) (us vs:List V),Rep X.K (Base.here F1 H1) F' H' σ' (b9 2 ix env)/\H' a=some (bR a ep (bq acc us vs))/\F' a=none/\ak X.K F' (acc.map (·.1)) us/\ak X.K F' (acc.map (·.2)) vs/\iT tt tk tv (b9 2 ix env) Q (xs.drop i) acc,
  ⟨xs.length,by simp,LZ _,F1,[],0,[],[],yH r1 ha,av,hF1a,aH,aH,by simpa using q1⟩,?_⟩
 rintro i m σ2 H2 ⟨rfl,hi2,F2,acc,ep,us,vs,r2,hys,hFa,hd,hd2,q2⟩;have sH:ao H1 H2:=r2.h0
 by_cases hlt:i < xs.length
 ·have hxi:xs[i]?=some xs[i]:=by simp [hlt]
  rw [drop_cons hxi] at q2;refine .inr ⟨S.go i F2 H2 r2.f0 r2.fh hlt,λz H3 hz=>?_⟩;obtain⟨da,db,exy,q2⟩:=q2;obtain⟨G,rG,sG,dz⟩:=S.yld i F2 H2 z H3 xs[i] (Base.here F2 H2) σ2 (b9 2 ix env) r2.f0 (r2.here cK cJ) hxi hz;rw [exy] at dz;have g1:=aQ (X:=aJ X N' scope C s (upd H1 a (bR a 0 [])) fp pins) (pos:=px) 0 hN h0 (.inl hx) (.inr hx);have g2:=aQ (X:=aJ X N' scope C s (upd H1 a (bR a 0 [])) fp pins) (pos:=py) 1 hN h1 (.inl hy) (.inr hy)
  have g:=ig (X:=aJ X N' scope C s (upd H1 a (bR a 0 [])) fp pins) (pos:=tp) (k:=c) (n:=2) hc (bj g1 (bj g2 fN));refine gS (g (Base.here F2 H2) σ2 G H3 (b9 2 ix env) (λe=>e=((b9 2 ix env).set 0 (some (.d da))).set 1 (some (.d db))) (.tup [da,db]) z rG dz ⟨_,rfl,rfl,_,_,rfl,_,_,rfl,rfl,rfl⟩) λσ3 H4 hq0=>?_;obtain⟨F4,env4,r4,s4,q4⟩:=hq0;subst q4;intro pins' s' I';refine LG (ht C s (upd H1 a (bR a 0 [])) fp pins (Base.here F2 H2) σ3 F4 H4 _ _ r4 q2 pins' s' I') (λok s5 ⟨H5,I5,F5,r5,s5',q5⟩=>⟨H5,I5,?_⟩) λ_ _ e=>e
  have weak':∀(j:Nat) l,(b9 2 ix env)[j]?=some (some l)->(((b9 2 ix env).set 0 (some (.d da))).set 1 (some (.d db)))[j]?=some (some l):=λj l hj=>by
   have hj0:j≠0:=λw=>by
    subst w;simp [b9] at hj
   have hj1:j≠1:=λw=>by
    subst w;simp [b9] at hj
   rw [Lb (Ne.symm hj1),Lb (Ne.symm hj0)];exact hj
  cases ok with
  | false =>
   have q5':iT tt tk tv (b9 2 ix env) Q (xs.drop (i + 1)) acc:=q5
   refine⟨xs.length - (i + 1),by omega,rfl,by omega,F5,acc,ep,us,vs,r5.there r2.f0 sH (λp hp=>r2.nf p hp) weak' cK cJ,r5.h0 _ _ hys,r5.nf a ⟨by rw [hys];simp,hFa⟩,ak.mono r5.f0 _ _ hd,ak.mono r5.f0 _ _ hd2,q5'⟩
  | true =>
   have q5':tk (((b9 2 ix env).set 0 (some (.d da))).set 1 (some (.d db))) λk=>tv (((b9 2 ix env).set 0 (some (.d da))).set 1 (some (.d db))) λv=>aR k=true/\dep k<=8/\bD acc/\acc.length < sizeLine/\iT tt tk tv (b9 2 ix env) Q (xs.drop (i + 1)) (putN acc k v):=q5;refine aC (hk C s (upd H1 a (bR a 0 [])) fp pins (Base.here F2 H2) σ3 F5 H5 _ _ r5 q5') λu H6' hq0=>?_;obtain⟨F6',d,r6',s6',d6,q6⟩:=hq0;refine aC (hv C s (upd H1 a (bR a 0 [])) fp pins (Base.here F2 H2) σ3 F6' H6' _ _ r6' q6) λw H6 hq0=>?_
   obtain⟨F6,d',r6,s7,d7,k1,k2,ok,hl,q7⟩:=hq0;have ha6:H6 a=some (bR a ep (bq acc us vs)):=r6.h0 _ _ hys;have hF6:F6 a=none:=r6.nf a ⟨by rw [hys];simp,hFa⟩;intro pins' s' uu rr I' ru rr';refine FA (X:=aJ X N' scope C s (upd H1 a (bR a 0 [])) fp pins) (show X.A.units + 9 < cLine by omega) I' r6.fh ok (ak.mono r6.f0 _ _ hd) (ak.mono r6.f0 _ _ hd2) ha6 k1 k2 (Den.mono s7 _ _ d6) ru d7 rr' hl λep' us' vs' s'' e1 e2 I2=>⟨_,I2,xs.length - (i + 1),by omega,rfl,by omega,F6,putN acc d d',ep',us',vs',?_,av,hF6,e1,e2,q7⟩
   have r7:Rep X.K (Base.here F1 H1) F6 H6 σ3 (b9 2 ix env):=r6.there r2.f0 sH (λp hp=>r2.nf p hp) weak' cK cJ;refine⟨r7.f0,λb o hb=>?_,λb o hb=>?_,r7.nf,r7.dv,λj zs q=>(cK j zs q).elim,r7.ne,λj zs q=>(cJ j zs q).elim,r7.nm⟩
   ·have:b≠a:=λw=>by subst w;rw [hF6] at hb;cases hb
    rw [az this];exact r7.fh _ _ hb
   ·have:b≠a:=λw=>by subst w;have hb':H1 b=some o:=hb;rw [ha] at hb';cases hb'
    rw [az this];exact r7.h0 _ _ hb
 ·have e:i=xs.length:=by omega
  subst e;rw [L9 (Lh _)] at q2;refine .inl ⟨S.stop F2 H2 r2.f0 r2.fh,F2,λb=>if b=a then none else H2 b,a,ep,us,vs,acc,rfl,if_pos rfl,?_,?_,sF.trans r2.f0,hd,hd2,q2⟩
  ·funext b;unfold upd
   by_cases z:b=a
   ·rw [if_pos z,z];exact hys
   ·rw [if_neg z];show H2 b=if b=a then none else H2 b
    rw [if_neg z]
  ·refine r1.ext r2.f0 (λb o hb=>?_) (λb o hb=>?_) λp h1 h2=>r2.nf p ⟨h1,h2⟩
   ·have:b≠a:=λw=>by subst w;rw [hFa] at hb;cases hb
    show (if b=a then none else H2 b)=_
    rw [if_neg this];exact r2.fh _ _ hb
   ·have:b≠a:=λw=>by subst w;rw [ha] at hb;cases hb
    show (if b=a then none else H2 b)=_
    rw [if_neg this];exact sH _ _ hb
def nz (i:Nat) (ix:List Nat) (ts:fY) (tt:TB) (tk tv:TD):bI:=λZ env=>ts env λds=>∃d xs,ds=[d]/\Ck d=some xs/\iT tt tk tv (b9 2 ix env) (λkvs=>Z.nx (env.set i (some (.dic kvs)))) (jN xs) []
theorem wm {n:Str} {p pos2 pn spos:Pos} (i:Nat) (nd:X.N.Nodup) (hu:X.A.units + 64 < cLine) (hc:X.calm=true) (O:bK X N' 2 ix scope) (hN:N'.Nodup) (h0:N'[0]?=some x) (h1:N'[1]?=some y) (hx:(relabel scope X.env).names.lookup x=some .local) (hy:(relabel scope X.env).names.lookup y=some .local) (hgl:Gl X "enumerate") (hm:X.mg "enumerate" = none) (ha:QA X [a] ts)
  (ht:∀C s H fp pins,pN (aJ X N' scope C s H fp pins) ifs tt) (hk:∀C s H fp pins,QE (aJ X N' scope C s H fp pins) kx tk) (hv:∀C s H fp pins,QE (aJ X N' scope C s H fp pins) vx tv)
  (hi:X.N[i]?=some n:=by rfl) (hn:Loc X.env.scope n:=by first|exact Or.inl rfl|exact Or.inr rfl)
  (hsw:swapsWith (.DictComp kx vx [⟨.Tuple [.Name x px,.Name y py] c tp,.Call (.Name "enumerate" p) [a] [] pos2,ifs,0⟩] scope pos) (some (.Name n pn)) spos.line X.env=pure false:=by rfl)
  (hf:X.fn n=true\/X.env.scope.names.lookup n=some .local:=by first|exact .inl rfl|exact .inr rfl) (hst:starEach [a] X.env=[(false,eval a X.env)]:=by rfl)
  (hs:∀x,LX (.Call (.Name "enumerate" p) [a] [] pos2) X.env x=pure x:=by intro _;rfl) :
  QS X (.Assign [.Name n pn] (.DictComp kx vx [⟨.Tuple [.Name x px,.Name y py] c tp,.Call (.Name "enumerate" p) [a] [] pos2,ifs,0⟩] scope pos) spos) (nz i ix ts tt tk tv):=by
 refine⟨λB σ F H env Z rp h pins s I=>?_⟩;have hl:i < σ.length:=by rw [I.len];exact (La.mp hi).1
 refine ju (i:=i) nd hi hn (Ay hc (Ew hgl hm jh hst) O hs) hsw hf pins s σ H _ I ?_;unfold FG Cb;refine Bv (P:=λxs=>iT tt tk tv (b9 2 ix env) (λkvs=>Z.nx (env.set i (some (.dic kvs)))) xs []) ha rp h ?_;intro J F1 H1 xs r1 s1 S q a C s fp pins hA;obtain⟨W,w0,turn⟩:=wB (px:=px) (py:=py) (tp:=tp) (c:=c) hc hN h0 h1 hx hy ht hk hv hu s1 r1 S q a C s fp pins hA;refine⟨W,w0,λi' m σ' H' w=>?_⟩;rcases turn i' m σ' H' w with ⟨st,F',H2,p,ep,us,vs,kvs,e1,e2,e3,r3,s3,d1,d2,q3⟩|t
 ·refine .inl ⟨st,?_⟩;rw [e1,e3];exact⟨F',_,r3.jZ (i:=i) ep e2 hl d1 d2,q3⟩
 ·exact .inr t
end
end L2.L3
namespace L2
open PySem PySem.Spec PyProof.Rows
section
variable {prog:Program} {w:World} {A:Around} {E:Value->Shared->Prop} {s:Shared}
theorem y0 {h h':Heap} {l:Addr} {xs:Array Value} (g:h.IsTuple l xs) (k:∀o,h.get? l=some o->h'.get? l=some o):h'.IsTuple l xs:=by
 obtain⟨o,e,r⟩:=g;exact⟨o,k o e,r⟩
theorem DJ {z t o i1 i2 l1 l2:Addr} {k:Nat} {xs ys:Array Value} {x y a b:Value} {Q:Value->Shared->Prop} (D:ZipApart z t o i1 i2 l1 l2) (hz:IsZip s.heap z t o .none) (ht:IsPair s.heap t (.ref i1) (.ref i2)) (ho:IsPair s.heap o a b)
  (j1:s.heap.IsTupleIter i1 l1 k) (j2:s.heap.IsTupleIter i2 l2 k) (g1:s.heap.IsTuple l1 xs) (g2:s.heap.IsTuple l2 ys) (ex:xs[k]?=some x) (ey:ys[k]?=some y)
  (q:∀h',IsZip h' z t o (rawInt s.heap.objs.size)->IsPair h' o x y->h'.IsTupleIter i1 l1 (k + 1)->h'.IsTupleIter i2 l2 (k + 1)->IsPair h' s.heap.objs.size x y ->
   (∀c v,c≠z->c≠o->c≠i1->c≠i2->s.heap.get? c=some v->h'.get? c=some v)->Q (.ref s.heap.objs.size) { s with heap:=h' }) :
  wpAny (model prog w) A (Builtin.«zip.__next__» ⟨[.ref z],[]⟩) (λfin s'=>∃v,fin=.done (.ret v)/\Q v s') E s:=by
 show wpAny _ _ (field (.ref z) 2 >>= _) _ _ s
 refine K9 (wpAny_field hz rfl (x:=.bool false) rfl (show wpAny _ _ (field (.ref z) 3 >>= _) _ _ s from K9 (wpAny_field hz rfl (x:=.ref t) rfl (K9 (wpAny_seqItems ht rfl ?_)))));show wpAny _ _ (Builtin.SmallTypes.ownedTupleIsFree (.ref z) >>= _) _ _ s
 refine K9 ?_;unfold Builtin.SmallTypes.ownedTupleIsFree;refine K9 (wpAny_field hz rfl (x:=.none) rfl (Lf ?_));simp only [if_true];refine K9 (wpAny_rule (K9 (wpAny_field hz rfl (x:=.ref o) rfl (K9 (wpAny_setField_rec hz (by simp) λha za ba=>?_)))))
 replace za:IsZip ha z t o .ellipsis:=za
 refine K9 ?_;simp only [List.zipIdx_cons,List.zipIdx_nil,List.forIn_cons,List.forIn_nil];refine K9 (K9 (wpAny_onRaise (show wpAny _ _ (Builtin.SmallTypes.nextOf (.ref i1) >>= _) _ _ _ from K9 (xX (j1.at λv e=>ba.extBut _ v D.i1z e) (y0 g1 λv e=>ba.extBut _ v D.l1z e) ex λhb jb bb=>Lf ?_))));have ob:IsPair hb o a b:=bb.extBut _ _ D.TOi1 (ba.extBut _ _ D.TOz ho);refine K9 (wpAny_seqItems ob rfl (K9 (wpAny_updateSeq_pair ob λhc oc bc=>?_)))
 replace oc:IsPair hc o x b:=oc
 refine K9 (wpAny_letGo (Lf (K9 (K9 (wpAny_onRaise (show wpAny _ _ (Builtin.SmallTypes.nextOf (.ref i2) >>= _) _ _ _ from K9 (xX (j2.at λv e=>bc.extBut _ v D.TOi2.symm (bb.extBut _ v D.i12.symm (ba.extBut _ v D.i2z e))) (y0 g2 λv e=>bc.extBut _ v D.l2TO (bb.extBut _ v D.l2i1 (ba.extBut _ v D.l2z e))) ey λhd jd bd=>Lf ?_)))))));have od:IsPair hd o x b:=bd.extBut _ _ D.TOi2 oc;refine K9 (wpAny_seqItems od rfl (K9 (wpAny_updateSeq_pair od λhe oe be=>?_)))
 replace oe:IsPair he o x y:=oe
 refine K9 (wpAny_letGo (Lf (Lf (K9 (wpAny_seqItems oe rfl (K9 (wpAny_newTuple ?_)))))));have sz:he.objs.size=s.heap.objs.size:=by rw [be.1,bd.1,bc.1,bb.1,ba.1]
 have ze:IsZip he z t o .ellipsis:=be.extBut _ _ D.TOz.symm (bd.extBut _ _ D.i2z.symm (bc.extBut _ _ D.TOz.symm (bb.extBut _ _ D.i1z.symm za)));have ke:∀c v,c≠z->c≠o->c≠i1->c≠i2->s.heap.get? c=some v->he.get? c=some v:=λc v n1 n2 n3 n4 e=>be.extBut _ _ n2 (bd.extBut _ _ n4 (bc.extBut _ _ n2 (bb.extBut _ _ n3 (ba.extBut _ _ n1 e))));have ie:he.IsTupleIter i1 l1 (k + 1):=jb.at λv e=>be.extBut _ v D.TOi1.symm (bd.extBut _ v D.i12 (bc.extBut _ v D.TOi1.symm e))
 have je:he.IsTupleIter i2 l2 (k + 1):=jd.at λv e=>be.extBut _ v D.TOi2.symm e;have lz:z < he.objs.size:=Lw ze;show wpAny _ _ (Builtin.SmallTypes.ownedTupleHandOut (.ref z) (.ref he.objs.size) >>= _) _ _ _
 refine K9 ?_;unfold Builtin.SmallTypes.ownedTupleHandOut;have zf:IsZip (he.push { cls:=.type "tuple",data:=.seq #[x,y] }) z t o .ellipsis:=Ld _ ze
 refine K9 (wpAny_setField_rec zf (by simp) λhg zg bg=>?_)
 replace zg:IsZip hg z t o (rawInt he.objs.size):=zg
 refine wpAny_setField_rec zg (by simp) λhi zi bi=>?_
 replace zi:IsZip hi z t o (rawInt he.objs.size):=zi
 have up:∀c v,c≠z->he.get? c=some v->hi.get? c=some v:=λc v n e=>bi.extBut _ _ n (bg.extBut _ _ n (Ld _ e));have ni:IsPair hi he.objs.size x y:=bi.extBut _ _ (Nat.ne_of_gt lz) (bg.extBut _ _ (Nat.ne_of_gt lz) (Lv _ rfl));rw [sz] at zi ni;refine Lf ⟨_,rfl,?_⟩;show Q (.ref he.objs.size) _
 rw [sz];exact q hi zi (up _ _ D.TOz oe) (ie.at λv e=>up _ v D.i1z e) (je.at λv e=>up _ v D.i2z e) ni λc v n1 n2 n3 n4 e=>up c v n1 (ke c v n1 n2 n3 n4 e)
theorem Em {z t o i1 i2 l1 l2:Addr} {k:Nat} {xs ys:Array Value} {x y a b:Value} {Q:Option Value->Shared->Prop} (D:ZipApart z t o i1 i2 l1 l2) (hz:IsZip s.heap z t o .none) (ht:IsPair s.heap t (.ref i1) (.ref i2)) (ho:IsPair s.heap o a b)
  (j1:s.heap.IsTupleIter i1 l1 k) (j2:s.heap.IsTupleIter i2 l2 k) (g1:s.heap.IsTuple l1 xs) (g2:s.heap.IsTuple l2 ys) (ex:xs[k]?=some x) (ey:ys[k]?=some y)
  (q:∀h',IsZip h' z t o (rawInt s.heap.objs.size)->IsPair h' o x y->h'.IsTupleIter i1 l1 (k + 1)->h'.IsTupleIter i2 l2 (k + 1)->IsPair h' s.heap.objs.size x y ->
   (∀c v,c≠z->c≠o->c≠i1->c≠i2->s.heap.get? c=some v->h'.get? c=some v)->Q (some (.ref s.heap.objs.size)) { s with heap:=h' }):wpAny (model prog w) A (pyNext (.ref z)) Q E s:=by
 have ty:s.TypeIs (.ref z) "zip":=⟨_,hz,rfl⟩
 unfold pyNext
 exact K9 (wpAny_attempt (LV (name:=Str.ofString "__next__") ty F.slot_zip_next (wpAny_call_entry F.slot_zip_next ty F.entry_zip_next
  (DJ D hz ht ho j1 j2 g1 g2 ex ey λh' a1 a2 a3 a4 a5 a6=>Lf (q h' a1 a2 a3 a4 a5 a6)) (F.args_zip_next_1 _))))
theorem GG {z t o i1 i2 l1 l2:Addr} {k:Nat} {xs:Array Value} {a b:Value} {Q:Option Value->Shared->Prop} (hh:A.handled=none) (D:ZipApart z t o i1 i2 l1 l2) (hz:IsZip s.heap z t o .none) (ht:IsPair s.heap t (.ref i1) (.ref i2)) (ho:IsPair s.heap o a b)
  (j1:s.heap.IsTupleIter i1 l1 k) (g1:s.heap.IsTuple l1 xs) (ex:xs[k]?=none)
  (q:∀h',(∀c v,c≠z->c≠i1->s.heap.get? c=some v->h'.get? c=some v)->Q none { s with heap:=h' }):wpAny (model prog w) A (pyNext (.ref z)) Q E s:=by
 have ty:s.TypeIs (.ref z) "zip":=⟨_,hz,rfl⟩
 unfold pyNext;refine K9 (wpAny_attempt (LV (name:=Str.ofString "__next__") ty F.slot_zip_next (wpAny_call_entry F.slot_zip_next ty F.entry_zip_next ?_ (F.args_zip_next_1 _))))
 show wpAny _ _ (field (.ref z) 2 >>= _) _ _ s
 refine K9 (wpAny_field hz rfl (x:=.bool false) rfl (show wpAny _ _ (field (.ref z) 3 >>= _) _ _ s from K9 (wpAny_field hz rfl (x:=.ref t) rfl (K9 (wpAny_seqItems ht rfl ?_)))));show wpAny _ _ (Builtin.SmallTypes.ownedTupleIsFree (.ref z) >>= _) _ _ s
 refine K9 ?_;unfold Builtin.SmallTypes.ownedTupleIsFree;refine K9 (wpAny_field hz rfl (x:=.none) rfl (Lf ?_));simp only [if_true];refine K9 (wpAny_rule (K9 (wpAny_field hz rfl (x:=.ref o) rfl (K9 (wpAny_setField_rec hz (by simp) λha za ba=>?_)))))
 replace za:IsZip ha z t o .ellipsis:=za
 refine K9 ?_;simp only [List.zipIdx_cons,List.zipIdx_nil,List.forIn_cons,List.forIn_nil];refine K9 (K9 (wpAny_onRaise (show wpAny _ _ (Builtin.SmallTypes.nextOf (.ref i1) >>= _) _ _ _ from K9 (qJ hh (j1.at λv e=>ba.extBut _ v D.i1z e) (y0 g1 λv e=>ba.extBut _ v D.l1z e) ex λhb x bb cb=>?_))));obtain⟨v,hv,cv⟩:=cb;have zb:IsZip hb z t o .ellipsis:=bb _ _ D.i1z.symm za;have nx:x≠z:=λe=>by subst e;rw [zb] at hv;cases hv;simp at cv
 refine wpAny_setField_rec zb (by simp) λhc _ bc=>?_;refine K9 (wpAny_isInstance (T:="StopIteration") (b:=true) ⟨v,bc.extBut _ _ nx hv,cv⟩ isSubtype_stop (Lf (q _ λc u n1 n2 e=>bc.extBut _ _ n1 (bb _ _ n2 (ba.extBut _ _ n1 e)))))
end
end L2
namespace L2.L3
open PySem PySem.Spec PyProof.Rows
abbrev JC (h:Heap) (l1:Addr):Heap:=h.push { cls:=.type "tuple_iterator",data:=.fields #[.ref l1,.int 0 0] }
abbrev Jv (h:Heap) (l1 l2:Addr):Heap:=(JC h l1).push { cls:=.type "tuple_iterator",data:=.fields #[.ref l2,.int 0 0] }
abbrev Jz (h:Heap) (l1 l2:Addr):Heap:=(Jv h l1 l2).push { cls:=.type "tuple",data:=.seq #[.ref h.objs.size,.ref (JC h l1).objs.size] }
abbrev Jx (h:Heap) (l1 l2:Addr):Heap:=(Jz h l1 l2).push { cls:=.type "tuple",data:=.seq #[.none,.none] }
abbrev Ht (h:Heap) (l1 l2:Addr):Heap:=(Jx h l1 l2).push { cls:=.type "zip",data:=.fields #[.none,.bool false,.bool false,.ref (Jv h l1 l2).objs.size,.ref (Jz h l1 l2).objs.size] }
open AutoSeq1 (wpAny_loadPart') in
theorem FO (l1 l2:Addr) (xs ys:Array Value) :
  Meets (Builtin.«zip.__new__» ⟨[.type "zip",.ref l1,.ref l2],[]⟩) (λ_ R s=>s.heap.IsTuple l1 xs/\s.heap.IsTuple l2 ys /\
   R (.ok (.ret (.ref (Jx s.heap l1 l2).objs.size))) { s with heap:=Ht s.heap l1 l2 }) :=
 .of_wp λprog w A R s h=>by
  obtain⟨hp,g,d,tk,os⟩:=s;obtain⟨g1,g2,h⟩:=h;have hsub:=sub_zip;have t1:Heap.IsTuple (Shared.heap ⟨hp,g,d,tk,os⟩) l1 xs:=g1;have t2:Heap.IsTuple (Shared.heap ⟨hp.push { cls:=.type "tuple_iterator",data:=.fields #[.ref l1,.int 0 0] },g,d,tk,os⟩) l2 ys:=y0 g2 λo e=>Ld _ e
  wp_walk using wpAny_pyIter_tuple t1,wpAny_pyIter_tuple t2
  exact⟨_,rfl,h⟩
section
variable {prog:Program} {w:World} {A:Around} {E:Value->Shared->Prop} {s:Shared}
theorem AF {l1 l2:Addr} {xs ys:Array Value} {Q:Value->Shared->Prop} (g1:s.heap.IsTuple l1 xs) (g2:s.heap.IsTuple l2 ys)
  (q:∀h',IsZip h' (s.heap.objs.size + 4) (s.heap.objs.size + 2) (s.heap.objs.size + 3) .none->IsPair h' (s.heap.objs.size + 2) (.ref s.heap.objs.size) (.ref (s.heap.objs.size + 1))->IsPair h' (s.heap.objs.size + 3) .none .none ->
   h'.IsTupleIter s.heap.objs.size l1 0->h'.IsTupleIter (s.heap.objs.size + 1) l2 0->(∀c o,s.heap.get? c=some o->h'.get? c=some o)->Q (.ref (s.heap.objs.size + 4)) { s with heap:=h' }) :
  wpAny (model prog w) A (call (.type "zip") [.ref l1,.ref l2]) Q E s:=by
 refine callType_new F.called_zip (by decide) (F.typeCall_zip_2 _ _) (F.newCall_zip_2 _ _) (λob=>F.args_object_init_3 ob _ _) F.entry_zip_new (FO l1 l2 xs ys) ⟨g1,g2,?_⟩;have a1:(JC s.heap l1).objs.size=s.heap.objs.size + 1:=Heap.size_push ..;have a2:(Jv s.heap l1 l2).objs.size=s.heap.objs.size + 2:=by rw [Heap.size_push,a1]
 have a3:(Jz s.heap l1 l2).objs.size=s.heap.objs.size + 3:=by rw [Heap.size_push,a2]
 have a4:(Jx s.heap l1 l2).objs.size=s.heap.objs.size + 4:=by rw [Heap.size_push,a3]
 have e5:(Ht s.heap l1 l2).get? (Jx s.heap l1 l2).objs.size=some _:=Lv _ rfl;have e4:(Ht s.heap l1 l2).get? (Jz s.heap l1 l2).objs.size=some _:=Ld _ (Lv _ rfl);have e3:(Ht s.heap l1 l2).get? (Jv s.heap l1 l2).objs.size=some _:=Ld _ (Ld _ (Lv _ rfl));have e2:(Ht s.heap l1 l2).get? (JC s.heap l1).objs.size=some _:=Ld _ (Ld _ (Ld _ (Lv _ rfl)));have e1:(Ht s.heap l1 l2).get? s.heap.objs.size=some _:=Ld _ (Ld _ (Ld _ (Ld _ (Lv _ rfl))))
 show _/\_
 rw [a2,a3,a4] at e5;rw [a1,a2] at e3;rw [a3] at e4;rw [a1] at e2;rw [a4];exact⟨⟨_,e5,rfl⟩,q _ e5 e3 e4 ⟨_,e1,rfl,rfl⟩ ⟨_,e2,rfl,rfl⟩ λc o x=>Ld _ (Ld _ (Ld _ (Ld _ (Ld _ x))))⟩
end
def JI (K:Le) (a b:Addr):It :=
 ⟨λi H=>∃xs ys x y,gr K H a xs/\gr K H b ys/\xs[i]?=some x/\ys[i]?=some y,λi H v H'=>∃p x y,(∀xs,gr K H a xs->xs[i]?=some x)/\(∀ys,gr K H b ys->ys[i]?=some y)/\H p=none/\v=.ref p/\H'=upd H p (.tup [x,y]),λi H=>∃xs ys,gr K H a xs/\gr K H b ys/\xs.length<=i⟩
theorem Dl {P:Program} {w:World} {K:Le} {elts:List Expr} {x1:Nat} {tp:Pos} (a b n:Nat) (la:a < n) (lb:b < n):Turn P w K (.Tuple elts x1 tp) (JI K a b) [n + 4,n + 2,n + 3,n,n + 1] (n + 4)
  (λi h=>IsZip h (n + 4) (n + 2) (n + 3) .none/\IsPair h (n + 2) (.ref n) (.ref (n + 1))/\(∃u v,IsPair h (n + 3) u v)/\h.IsTupleIter n a i/\h.IsTupleIter (n + 1) b i) where
 mem:=by simp
 obj:=λi h st c hc=>by
  obtain⟨e1,e2,⟨u,v,e3⟩,⟨o4,e4,_,d4⟩,⟨o5,e5,_,d5⟩⟩:=st;simp only [LB,LR,or_false] at hc;rcases hc with rfl|rfl|rfl|rfl|rfl
  ·exact⟨_,e1,λv q=>by have q':Data.fields _=Data.cell v:=q;cases q'⟩
  ·exact⟨_,e2,λv q=>by have q':Data.seq _ _=Data.cell v:=q;cases q'⟩
  ·exact⟨_,e3,λv q=>by have q':Data.seq _ _=Data.cell v:=q;cases q'⟩
  ·exact⟨o4,e4,λv q=>by rw [d4] at q;cases q⟩
  ·exact⟨o5,e5,λv q=>by rw [d5] at q;cases q⟩
 keep:=λi h h' st k=>by
  obtain⟨e1,e2,⟨u,v,e3⟩,j1,j2⟩:=st;exact⟨k _ (by simp) _ e1,k _ (by simp) _ e2,⟨u,v,k _ (by simp) _ e3⟩,j1.at λo q=>k n (by simp) o q,j2.at λo q=>k (n + 1) (by simp) o q⟩
 item:=by
  intro X hP hw hK hc i pins s σ H E I hf st hg;subst hP hw hK;obtain⟨e1,e2,⟨u,v,e3⟩,j1,j2⟩:=st;obtain⟨xs,ys,x,y,hq1,hq2,hx,hy⟩:=hg;obtain⟨as,r1,p1,_⟩:=I.tuple hq1;obtain⟨bs,r2,p2,_⟩:=I.tuple hq2;obtain⟨x',hx',rx⟩:=r1.get hx;obtain⟨y',hy',ry⟩:=r2.get hy;have lz:n + 4 < s.heap.objs.size:=Lw e1;have D:ZipApart (n + 4) (n + 2) (n + 3) n (n + 1) a b:=zipApart_new la lb;refine Em D e1 e2 e3 j1 j2 (show s.heap.IsTuple a as.toArray from p1) (show s.heap.IsTuple b bs.toArray from p2) (x:=x') (y:=y') (by simpa using hx') (by simpa using hy') λh1 z1 o1 k1 k2 n1 fr=>?_
  refine⟨_,rfl,wpAny_letOwnedTupleGo_zip z1 λh2 z2 b2=>?_⟩;have ne:∀m,m<=4->s.heap.objs.size≠n + m:=λm hm=>by omega
  have n2:h2.get? s.heap.objs.size=some { cls:=.type "tuple",data:=.seq #[x',y'] }:=(b2.2 _ (ne 4 (by decide))).trans n1
  have hn:H s.heap.objs.size=none:=I.hok.fresh (Lh _)
  have fr2:∀c o,c∉[n + 4,n + 2,n + 3,n,n + 1]->s.heap.get? c=some o->h2.get? c=some o:=λc o hc e=>by
   simp only [LB,LR,or_false,not_or] at hc;exact (b2.2 c hc.1).trans (fr c o hc.1 hc.2.2.1 hc.2.2.2.1 hc.2.2.2.2 e)
  have I1:Inv X pins σ (upd H s.heap.objs.size (.tup [x,y])) { s with heap:=s.heap.push { cls:=.type "tuple",data:=.seq #[x',y'] },toks:=s.toks } :=
   I.laid (t':=s.toks) (λb o e=>Ld _ e) (Lh _) (show bH X.prog X.w _ _ _ (.tup [x,y]) from ⟨by simp [Lu],[x',y'],.cons rx (.cons ry .nil),pD.new _ _⟩)
  have fpn:∀c∈[n + 4,n + 2,n + 3,n,n + 1],(upd H s.heap.objs.size (.tup [x,y])) c=none:=λc hc=>by
   rw [az]
   ·exact (hf c hc).1
   ·simp only [LB,LR,or_false] at hc;rcases hc with rfl|rfl|rfl|rfl|rfl
    ·exact (ne 4 (by decide)).symm
    ·exact (ne 2 (by decide)).symm
    ·exact (ne 3 (by decide)).symm
    ·exact (ne 0 (by decide)).symm
    ·exact (ne 1 (by decide)).symm
  have I2:Inv X pins σ (upd H s.heap.objs.size (.tup [x,y])) { s with heap:=h2,toks:=s.toks }:=by
   refine Inv.ue (s:={ s with heap:=s.heap.push { cls:=.type "tuple",data:=.seq #[x',y'] },toks:=s.toks }) (h':=h2) (t':=s.toks) (ch:=[n + 4,n + 2,n + 3,n,n + 1]) I1 (λc o hc hg=>?_) λc hc=>⟨fpn c hc,(hf c hc).2⟩
   rcases Heap.get?_push_cases hg with ⟨rfl,rfl⟩|hg
   ·exact n2
   ·exact fr2 c o hc hg
  refine⟨.ref s.heap.objs.size,_,I2,rfl,⟨_,x,y,λzs hz=>by rw [I.iu hz hq1];exact hx,λzs hz=>by rw [I.iu hz hq2];exact hy,hn,rfl,rfl⟩,⟨z2,(b2.2 _ D.TIz).trans (fr _ _ D.TIz D.TITO D.TIi1 D.TIi2 e2),⟨_,_,(b2.2 _ D.TOz).trans o1⟩,k1.at λo q=>(b2.2 _ D.i1z).trans q,k2.at λo q=>(b2.2 _ D.i2z).trans q⟩,fpn⟩
 done:=by
  intro X hP hw hK hc i pins s σ H E I hf st hg;subst hP hw hK;obtain⟨e1,e2,⟨u,v,e3⟩,j1,j2⟩:=st;obtain⟨xs,ys,hq1,hq2,hx⟩:=hg;obtain⟨as,r1,p1,_⟩:=I.tuple hq1;have hl:=r1.length;have D:ZipApart (n + 4) (n + 2) (n + 3) n (n + 1) a b:=zipApart_new la lb;refine GG (I.ok.hd hc) D e1 e2 e3 j1 (show s.heap.IsTuple a as.toArray from p1) (by simp;omega) λh1 k1=>⟨rfl,?_⟩
  exact I.ue (t':=s.toks) (ch:=[n + 4,n]) (λc o hc e=>k1 c o (λz=>hc (by simp [z])) (λz=>hc (by simp [z])) e) λc hc=>hf c (by
   simp only [LB,LR,or_false] at hc ⊢
   rcases hc with rfl|rfl <;> simp)
 self:=λ_ _ _ _ _ st h=>wpAny_pyIter_zip st.1 h
section
variable {X:Cx}
def K7 (K:Le) (ta:TA):TI:=λσ H R=>ta σ H λvs H1=>∃a b,vs=[.ref a,.ref b]/\(∃xs,gr K H1 a xs)/\(∃ys,gr K H1 b ys)/\R (JI K a b) H1
theorem Ik {elts:List Expr} {x1:Nat} {tp:Pos} {a b:Expr} {ta:TA} {p pos:Pos} (hg:Gl X "zip") (hm:X.mg "zip" = none) (ha:PA X [a,b] ta) (hs:starEach [a,b] X.env=(false,eval a X.env) :: starEach [b] X.env:=by rfl) (hpl:(backTo pos (starEach [b] X.env)).any (·.1)=false:=by rfl) :
  PI X (.Tuple elts x1 tp) (.Call (.Name "zip" p) [a,b] [] pos) (K7 X.K ta):=by
 intro pins s σ H R I h;refine Call_ (lD I hg hm boot_zip (PyProof.Rows.callWith_type1 (bP (ha pos pins s σ H _ I h) λus s1 ⟨vs,H1,I1,r1,q1⟩=>?_) hs hpl));obtain⟨l,m,e,⟨xs,hq1⟩,⟨ys,hq2⟩,q⟩:=q1;subst e
 cases r1 with
 | cons r rr =>
  cases rr with
  | cons r' rr' =>
   cases rr';cases r;cases r';obtain⟨as,_,p1,_⟩:=I1.tuple hq1;obtain⟨bs,_,p2,_⟩:=I1.tuple hq2;have l1:l < s1.heap.objs.size:=by obtain⟨_,e,_⟩:=(show s1.heap.IsTuple l as.toArray from p1);exact Lw e
   have l2:m < s1.heap.objs.size:=by obtain⟨_,e,_⟩:=(show s1.heap.IsTuple m bs.toArray from p2);exact Lw e
   refine AF (show s1.heap.IsTuple l as.toArray from p1) (show s1.heap.IsTuple m bs.toArray from p2) λh1 z1 t1 o1 j1 j2 k1=>?_;refine wpAny_pyIter_zip z1 ⟨_,_,_,_,H1,rfl,I1.kept (t':=s1.toks) k1,Dl l m s1.heap.objs.size l1 l2,⟨z1,t1,⟨_,_,o1⟩,j1,j2⟩,λc hc=>?_,q⟩
   have hb:s1.heap.objs.size<=c:=by
    simp only [LB,LR,or_false] at hc;rcases hc with rfl|rfl|rfl|rfl|rfl <;> omega
   exact I1.w6 hb (I1.hok.fresh hb)
def sW (xs ys:List D):List D:=List.zipWith (λx y=>.tup [x,y]) xs ys
theorem Es {xs ys:List D} {i:Nat} {z:D} (h:(sW xs ys)[i]?=some z):∃x y,xs[i]?=some x/\ys[i]?=some y/\z=.tup [x,y]:=by
 unfold sW at h;rw [List.getElem?_zipWith] at h
 cases e:xs[i]? with
 | none=>rw [e] at h;cases h
 | some x =>
  cases e':ys[i]? with
  | none=>rw [e,e'] at h;cases h
  | some y=>rw [e,e'] at h;cases h;exact⟨x,y,rfl,rfl,rfl⟩
theorem Bx {K:Le} {F1:Hp} {us vs:List V} {xs ys:List D} {a b:Addr} (q1:gr K F1 a us) (q2:gr K F1 b vs) (r1:ak K F1 xs us) (r2:ak K F1 ys vs) (hl:xs.length<=ys.length):pw K (JI K a b) F1 (sW xs ys) where
 go:=λi G H' s1 s2 hi=>by
  have:(sW xs ys).length=xs.length:=by unfold sW;simp;omega
  rw [this] at hi;have h1:i < us.length:=by rw [<- r1.length];exact hi
  have h2:i < vs.length:=by rw [<- r2.length];omega
  exact⟨us,vs,us[i],vs[i],ao.bF s2 (ao.bF s1 q1),ao.bF s2 (ao.bF s1 q2),by simp [h1],by simp [h2]⟩
 yld:=λi G H' y H'' x B σ env s1 rp hx hy=>by
  obtain⟨x',y',hx',hy',rfl⟩:=Es hx;obtain⟨v1,h1,d1⟩:=r1.get hx';obtain⟨v2,h2,d2⟩:=r2.get hy';obtain⟨p,u1,u2,e1,e2,e3,rfl,rfl⟩:=hy;have g1:=e1 us (ao.bF rp.fh (ao.bF s1 q1));have g2:=e2 vs (ao.bF rp.fh (ao.bF s1 q2));rw [h1] at g1;cases g1;rw [h2] at g2;cases g2;obtain⟨r3,s3⟩:=rp.laid (o:=.tup [v1,v2]) e3;exact⟨_,r3,s3,fP (gr.of av) (aD (Den.mono (s1.trans s3) _ _ d1) (aD (Den.mono (s1.trans s3) _ _ d2) aH))⟩
 stop:=λG H' s1 s2=>by
  have:(sW xs ys).length=xs.length:=by unfold sW;simp;omega
  exact⟨us,vs,ao.bF s2 (ao.bF s1 q1),ao.bF s2 (ao.bF s1 q2),by rw [this,r1.length];exact Lh _⟩
def CJ (ts:fY) (g:o9) (tb:bI):bI:=λD env=>ts env λds=>∃xs ys,ds=[.tup xs,.tup ys]/\xs.length<=ys.length/\turns g tb D (sW xs ys) env
theorem Ei {elts:List Expr} {x1:Nat} {body:List Stmt} {g:o9} {t:bI} {a b:Expr} {ts:fY} {p pos2 pos tp:Pos} (hp:PassesOwn (model X.prog X.w) X.A X.env X.xe) (hc:X.calm=true) (hgl:Gl X "zip") (hm:X.mg "zip" = none) (ha:QA X [a,b] ts) (hg:QG X (.Tuple elts x1 tp) g) (hb:o7 X body t)
  (hst:starEach [a,b] X.env=(false,eval a X.env) :: starEach [b] X.env:=by exact aZ rfl) (hpl:(backTo pos2 (starEach [b] X.env)).any (·.1)=false:=by rfl) (hs:∀x,LX (.Call (.Name "zip" p) [a,b] [] pos2) X.env x=pure x:=by intro _;rfl):QS X (.For (.Tuple elts x1 tp) (.Call (.Name "zip" p) [a,b] [] pos2) body [] pos) (CJ ts g t):=by
 refine⟨λB σ F H env D rp h=>ei (nQ hp hc (Ik hgl hm jh hst hpl) vO fi hs) ?_⟩;refine cO (ha B σ F H env _ rp h) λvs H1 hq0=>?_;obtain⟨F1,ds,r1,s1,d1,xs,ys,hx,hl,q1⟩:=hq0;subst hx;simp only [ak] at d1;obtain⟨v,r,rfl,dv,w,r',rfl,dw,rfl⟩:=d1;simp only [Den] at dv dw;obtain⟨l,us,rfl,q,e1⟩:=dv;obtain⟨l',us',rfl,q',e2⟩:=dw;exact⟨l,l',rfl,⟨us,ao.bF r1.fh q⟩,⟨us',ao.bF r1.fh q'⟩,sr hg hb r1 (Bx q q' e1 e2 hl) q1⟩
end
section
variable {prog:Program} {w:World} {A:Around} {E:Value->Shared->Prop} {s:Shared}
theorem zT {d:Addr} {es:Array DictEntry} {ep:Nat} {key v:Value} {h:Int} {n:Nat} {m:Nat->Bool} {Q:Value->Shared->Prop} (hh:gb prog w A s key h n) (f:iL prog w A { s with toks:=s.toks + n } es key h m) (x:bp s.heap d es ep) (hz:es.size<=sizeLine)
  (hnone:(∀j,j < es.size->m j=false)->∀h',bp h' d (es.push ⟨h,key,v⟩) (ep + 1)->Heap.SameBut d s.heap h'->Q v { s with heap:=h',toks:=s.toks + n })
  (hsome:∀j (hj:j < es.size),m j=true->Q es[j].val { s with toks:=s.toks + n }):wpAny (model prog w) A (dictSetDefault d key v) Q E s:=by
 obtain⟨o,ho,hc,hd⟩:=x;unfold dictSetDefault
 try with_reducible refine wpAny_holding ?_
 refine K9 (hh _ _ (K9 (nV (s:={ s with toks:=s.toks + n }) f ho hd ?_ ?_)))
 ·intro hno;exact K9 (wpAny_rule (K9 (wpAny_updateDictKeys (hz:=hz) (s:={ s with toks:=s.toks + n }) ho hd (Lf (hnone hno _ ⟨_,Heap.get?_update_self _ ho (Obj.isFreed_of_dict (Obj.data_mapDictKeys hd _)),hc.mapDictKeys _,Obj.data_mapDictKeys hd _⟩ (Heap.SameBut.update ..))))))
 ·intro j hj hm;refine K9 (wpAny_dictEntries (s:={ s with toks:=s.toks + n }) ho hd ?_);rw [Array.getElem?_eq_getElem hj];exact K9 (wpAny_rule (Lf (hsome j hj hm)))
theorem Bi {d:Addr} {es:Array DictEntry} {ep:Nat} {key v:Value} {h:Int} {n:Nat} {m:Nat->Bool} {Q:Value->Shared->Prop} (hh:gb prog w A.in1 s key h n) (f:iL prog w A.in1 { s with toks:=s.toks + n } es key h m) (x:bp s.heap d es ep) (hz:es.size<=sizeLine) (hs:(d == sysModules)=false)
  (hnone:(∀j,j < es.size->m j=false)->∀h',bp h' d (es.push ⟨h,key,v⟩) (ep + 1)->Heap.SameBut d s.heap h'->Q v { s with heap:=h',toks:=s.toks + n })
  (hsome:∀j (hj:j < es.size),m j=true->Q es[j].val { s with toks:=s.toks + n }):wpAny (model prog w) A (call (.builtin "dict.setdefault") [.ref d,key,v]) Q E s:=by
 refine wpAny_call_entry PySem.F.slot_dict_setdefault x.typeIs PySem.F.entry_dict_setdefault ?_ (PySem.F.args_dict_setdefault_3 _ _ _);unfold Builtin.«dict.setdefault»;refine K9 ?_;unfold Builtin.Dict.keyAndDefault;refine K9 (wpAny_notOrdered_dict x.typeIs ?_);show wpAny _ _ (pure (d,key,some v)) _ _ s
 refine Lf ?_;show wpAny _ _ (if (d == sysModules)=true then _ else (dictSetDefault d key v >>= _)) _ _ s
 rw [if_neg (by rw [hs];exact Bool.false_ne_true)];exact K9 (zT hh f x hz (λhno h' a b=>Lf ⟨_,rfl,hnone hno h' a b⟩) λj hj hm=>Lf ⟨_,rfl,hsome j hj hm⟩)
end
section
variable {X:Cx} {pins:List (Addr×Obj)} {σ:St} {H F:Hp} {s:Shared} {kvs:List (D×D)} {us vs:List V} {p:Addr} {A:Around} {d x:D} {v w:V} {u r:Value}
theorem zI {kvs:List (D×D)} {d:D} (h:(kvs.any λkv=>aV kv.1 d)=false):dZ kvs d=none:=by
 unfold dZ;rw [List.find?_eq_none.mpr λkv hk=>by simpa using (List.any_eq_false.mp h kv hk)];rfl
theorem B1 {kvs:List (D×D)} {d:D} {kv:D×D} {j:Nat} (ok:bD kvs) (hk:aR d=true) (g:kvs[j]?=some kv) (m:aV kv.1 d=true):dZ kvs d=some kv.2:=by
 unfold dZ
 cases e:kvs.find? λkv=>aV kv.1 d with
 | none=>exact absurd m (by simpa using List.find?_eq_none.mp e kv (Lg g))
 | some kw =>
  obtain⟨i,hi⟩:=LL (List.mem_of_find?_eq_some e);have mw:=List.find?_some e;have:i=j:=ok.dif i j kw kv hi g (by rw [c4 kw.1 d (ok.key kw (Lg hi)).1 (by simpa using mw) hk,c4 kv.1 d (ok.key kv (Lg g)).1 m hk]);subst this;rw [hi] at g;cases g;rfl
theorem DL (hu:A.units + 9 < cLine) (I:Inv X pins σ H s) (fh:ao F H) (ok:bD kvs) (d1:ak X.K F (kvs.map (·.1)) us) (d2:ak X.K F (kvs.map (·.2)) vs) {ep:Nat} (e:H p=some (bR p ep (bq kvs us vs)))
  (hk:aR d=true) (hd:dep d<=8) (dd:Den X.K F d v) (rv:RelV v u) (dx:Den X.K F x w) (rw':RelV w r) (hl:kvs.length < sizeLine) {E:Value->Shared->Prop} {Q:Value->Shared->Prop}
  (hn:(kvs.any λkv=>aV kv.1 d)=false->∀ep' us' vs' s',ak X.K F ((putN kvs d x).map (·.1)) us'->ak X.K F ((putN kvs d x).map (·.2)) vs'->Inv X pins σ (upd H p (bR p ep' (bq (putN kvs d x) us' vs'))) s'->Q r s')
  (hsm:∀y w' u' s',dZ kvs d=some y->Inv X pins σ H s'->Den X.K F y w'->RelV w' u'->Q u' s'):wpAny (model X.prog X.w) A (call (.builtin "dict.setdefault") [.ref p,u,r]) Q E s:=by
 obtain⟨hz,hs,es,dh,pr⟩:=fD I e;have lp:=Paired.length pr;have l0:=bN d1 d2;rw [l0] at lp hz;have lp':kvs.length=es.size:=by simpa using lp
 have l1:=d1.length;have l2:=d2.length;simp only [Ll] at l1 l2
 have ext:∀(ep':Nat) (rows:List (Int×V×V)) (h':Heap) (es':Array DictEntry),rows.length<=sizeLine->bp h' p es' ep'->Paired tG rows es'.toList->bH X.prog X.w (upd H p (bR p ep' rows)) h' p (bR p ep' rows):=λep' rows h' es' z dh' pr'=>by
  refine⟨⟨z,hs,es',dh',pr'⟩,?_,?_⟩
  ·obtain⟨o,ho,_⟩:=dh';exact⟨o,ho⟩
  ·rintro h1 h2 ⟨z,hs,es,⟨o,ho,c,dd⟩,pr⟩ k;exact⟨z,hs,es,⟨o,k _ ho,c,dd⟩,pr⟩
 have hash:=gG fh d s A.in1 v u I hk (by rw [units_in1];omega) dd rv;have find:=kB (I.tok (s.toks + Ak d)) fh ok d1 d2 pr hk hd (A:=A.in1) (by rw [units_in1];omega) dd rv;refine Bi hash find dh (by omega) hs (λhno h' dh' sb=>?_) λj hj hm=>?_
 ·have any:(kvs.any λkv=>aV kv.1 d)=false:=by
   rw [List.any_eq_false];intro kv hm;obtain⟨j,hj⟩:=LL hm;have:=hno j (by have:=(La.mp hj).1;omega);unfold oQ at this;rw [hj] at this
   simpa using this
  have pe:putN kvs d x=kvs ++ [(d,x)]:=by unfold putN;rw [any];rfl
  have q1:ak X.K F ((putN kvs d x).map (·.1)) (us ++ [v]):=by rw [pe,List.map_append];exact d1.append (aD dd aH)
  have q2:ak X.K F ((putN kvs d x).map (·.2)) (vs ++ [w]):=by rw [pe,List.map_append];exact d2.append (aD dx aH)
  refine hn any _ _ _ _ q1 q2 (gv I (by rw [e];exact True.intro) sb (let ⟨o,ho,_⟩:=dh';⟨o,ho⟩) (ext _ _ h' _ ?_ dh' ?_))
  ·rw [bN q1 q2,pe];simp;omega
  ·refine gz (by rw [bN q1 q2,pe];simp;omega) λi row en h1 h2=>?_;obtain⟨kv,k1,k2,k3,k4⟩:=dI h1;rw [pe] at k1;simp only [Array.toList_push] at h2
   by_cases c:i < kvs.length
   ·rw [Lx c] at k1;rw [Lx (by omega)] at k3 k4;rw [Lx (by simp;omega)] at h2;obtain⟨row',g1,g2⟩:=fW pr h2;obtain⟨kv',f1,f2,f3,f4⟩:=dI g1;rw [f1] at k1;cases k1;rw [f3] at k3;rw [f4] at k4;have:row'=row:=Mb (by rw [f2,k2]) (Mb (Li k3) (Li k4));rw [<- this];exact g2
   ·have hi:i=kvs.length:=by
     have:=(La.mp k1).1;simp at this;omega
    rw [hi,Ls (Lh _),Nat.sub_self] at k1;rw [show i=us.length by omega,Ls (Lh _),Nat.sub_self] at k3;rw [show i=vs.length by omega,Ls (Lh _),Nat.sub_self] at k4;rw [show i=es.toList.length by simp;omega,Ls (Lh _),Nat.sub_self] at h2;cases k1;cases h2;have a3:v=row.2.1:=Li k3;have a4:w=row.2.2:=Li k4;exact⟨k2.symm,by rw [<- a3];exact rv,by rw [<- a4];exact rw'⟩
 ·obtain⟨kv,a,b,g0,g1,g2,da,db,e1,e2,e3⟩:=pz d1 d2 pr hj;unfold oQ at hm;rw [g0] at hm;exact hsm kv.2 b _ _ (B1 ok hk g0 hm) (I.tok _) db e3
end
section
variable {X:Cx} {a b c:Expr} {ta tb:TD} {pos apos cpos p1:Pos}
def Ca (i:Nat) (ta tb:TD):HW:=λenv Q=>∃kvs,env[i]?=some (some (.dic kvs))/\ta env λk=>tb env λv=>aR k=true/\dep k<=8/\bD kvs/\kvs.length < sizeLine /\
 (∀y,dZ kvs k=some y->Q y env)/\(dZ kvs k=none->Q v (env.set i (some (.dic (putN kvs k v)))))
theorem Er {x:Str} {px:Pos} (i:Nat) (hu:X.A.units + 64 < cLine) (ha:QE X a ta) (hb:QE X b tb) (m:M2 X (.Name x px) "setdefault" apos a b cpos:=by exact⟨rfl,rfl,rfl,rfl⟩) (hN:X.N[i]?=some x:=by rfl) (hv:ua X.env.scope x:=by first | exact Or.inl rfl | exact Or.inr (Or.inl rfl) | exact Or.inr (Or.inr rfl)) (hd:(x == ("__debug__" : Str))=false:=by decide)
  (hcd:(x == ("__classdict__" : Str))=false:=by decide):Hy X (.Call (.Attribute (.Name x px) "setdefault" apos) [a,b] [] cpos) (Ca i ta tb):=by
 refine⟨λB σ F H env Q rp h pins s I=>?_⟩;obtain⟨kvs,hx,q0⟩:=h;obtain⟨p,ep0,us0,vs0,h1,h2,h3,h4,h5,h6⟩:=rp.mv i _ hx;refine wpAny_Call_method m.base m.few m.line PySem.F.plainAttrs_dict PySem.F.slot_dict_setdefault PySem.F.type_dict_setdefault (bP (dU hN hv hd hcd pins s σ H (λv H'=>v=.ref p/\H'=H) I ⟨.ref p,h1,rfl,rfl⟩) λu s1 hq0=>?_);obtain⟨x',H1,I1,rx,ex,eH⟩:=hq0;subst ex eH;cases rx;obtain⟨_,_,es0,⟨o0,g0,c0,d0⟩,_⟩:=fD I1 h2
 refine⟨⟨o0,g0,c0.1⟩,λb eb=>by cases eb;exact⟨o0,g0,c0.2.1⟩,?_⟩;rw [m.trees];refine Calls.callWith_builtin rfl (Calls.evalArgs_plain (Ml (bP (ha B σ F H1 env _ rp q0 pins s1 I1) λkv s2 ⟨y,H2,I2,ry,F2,dk,r2,z2,dd2,q2⟩=>Ml (bP (hb B σ F2 H2 env _ r2 q2 pins s2 I2) λvv s3 ⟨y',H3,I3,ry',F3,dv,r3,z3,dd3,hk,hdp,ok,hl,qs,qn⟩=>Calls.spliced_nil ?_))));obtain⟨p',ep',us',vs',e1,e2,e3,e4,e5,e6⟩:=r3.mv i kvs hx
 rw [h1] at e1;cases e1;refine DL (by omega) I3 r3.fh ok e5 e6 e2 hk hdp (Den.mono z3 _ _ dd2) ry dd3 ry' hl (λany ep2 as bs s4 f1 f2 I4=>?_) λz w' u' s4 hz I4 dz rz=>?_
 ·exact⟨y',_,I4,ry',F3,dv,_,r3.rO ep2 hx h1 f1 f2,z2.trans z3,dd3,qn (zI any)⟩
 ·exact⟨w',H3,I4,rz,F3,z,env,r3,z2.trans z3,dz,qs z hz⟩
def CF (ta tb:HW) (t u:bI):bI:=λZ env=>ta env λx e1=>tb e1 λy e2=>nO x y λz=>∃k,z=.bl k/\if k=true then t Z e2 else u Z e2
theorem Dr {ta tb:HW} {t u:bI} {body els:List Stmt} (hu:X.A.units + 64 < cLine) (ha:Hy X a ta) (hb:Hy X b tb) (ht:o7 X body t) (he:o7 X els u):QS X (.If (.Compare a [.NotEq] [b] p1) body els pos) (CF ta tb t u):=by
 refine⟨λB σ F H env Z rp h=>ei (Ba (mi tm bO bO (f7 _)) fi fi) ?_⟩;refine aC (ha.run B σ F H env _ rp h) λx H1 hq0=>?_;obtain⟨F1,d,e1,r1,s1,d1,q1⟩:=hq0;refine aC (hb.run B σ F1 H1 e1 _ r1 q1) λy H2 hq0=>?_;obtain⟨F2,d',e2,r2,s2,d2,q2⟩:=hq0;refine B0 hu B σ F2 H2 e2 (λz=>∃k,z=.bl k/\if k=true then t Z e2 else u Z e2) d d' x y _ r2 (Den.mono s2 _ _ d1) d2 (λv H' F' d' r' s' hd q=>?_) q2
 obtain⟨k,rfl,q⟩:=q;refine⟨k,kX hd,?_⟩
 cases k with
 | true=>exact ht B σ F' H' e2 Z r' q
 | false=>exact he B σ F' H' e2 Z r' q
end
variable {T:Type}
end L2.L3
namespace L2.L3
open PySem PySem.Spec PyProof.Rows
structure BD (K:Le) (C S:Addr):Prop where
 ty:PySem.W.typeIn K (.ref S)=some (.type "type")
 dct:PySem.W.hasDictIn K S=true
 be:PySem.W.subIn K (.ref S) (.type "BaseException")=some true
 sub:PySem.W.subIn K (.ref C) (.ref S)=some true
theorem rB {K:Le}:PySem.W.subIn K (.type "type") (.type "tuple")=some false:=by
 show Option.map (λx=>x.contains (Value.type "tuple")) (fastBuiltinMro "type")=some false
 decide +kernel
theorem Cp {M:Model} {A:Around} {E:Value->Shared->Prop} {K:Le} {h:Heap} {g:Array GenState} {d:Drawn} {t:Nat} {os:OsState} {e C S:Addr} {Q:Bool->Shared->Prop} (X:K.In h) (O:BD K C S)
  (ht:PySem.W.Looks M h (typeOf (.ref e)) (.ref C)) (hq:Q true ⟨h,g,d,t,os⟩):wpAny M A (excMatches (.ref e) (.ref S)) Q E ⟨h,g,d,t,os⟩:=by
 have L1:PySem.W.Looks M h (isInstance (.ref S) (.type "tuple")) false:=(PySem.W.looks_typeIn X O.ty).andThen (PySem.W.looks_subIn X rB)
 have L2:=PySem.W.looks_subIn (M:=M) X O.be;have L3:=PySem.W.looks_subIn (M:=M) X O.sub;obtain⟨c,dd,cd,sl,lk⟩:=DH O.dct;have hS:=X _ _ lk;have LT:PySem.W.Looks M h (isType (.ref S)) true:=λA Q E s keep q=>K9 (wpAny_loadPart (keep _ _ hS) (Lf q));have LE:PySem.W.Looks M h (isExcClass (.ref S)) true:=LT.andThen L2;unfold excMatches;refine K9 (L1.at ?_);rw [if_neg (by decide)];refine K9 (Lf ?_);simp only [List.forIn_cons,List.forIn_nil]
 refine K9 (K9 (K9 (LE.at (Lf (Lf ?_)))));refine K9 (ht.at (K9 (K9 (K9 (L3.at (Lf (Lf ?_)))))));exact Lf hq
structure HA (k:Nat) (A:Around):Prop where
 dp:A.depth + 3 * k + 5 < recursionLimit
 un:A.units + 16 * k + 200 < cLine
theorem _root_.L2.dG.hand {k:Nat} {A:Around} (r:dG k A) (v:Option Value):HA k (A.mark v):=⟨r.dp,r.un⟩
theorem mL {N P:List Str} {sc:Scope} (a:sc.kind=.function:=by rfl) (b:sc.isCoroutine=false:=by rfl) (c:sc.isGenerator=false:=by rfl) (d:N.Nodup:=by decide +kernel) (e:N.take P.length=P:=by rfl) (f:∀x∈P,sc.names.lookup x=some .local\/sc.names.lookup x=some .cell:=by decide +kernel) (g:∀y∈sc.names,y.2≠.free:=by decide +kernel):aM N P sc:=⟨a,b,c,d,e,f,g⟩
theorem _root_.L2.dG.md {j k:Nat} {A:Around} (r:dG k A) (h:j<=k:=by decide):dG j A:=r.mono h
structure cj (K:Le) (x:Str) (st:Stmt):Prop where
 ex:∃(f:Addr) (oc:Value) (od an:Option Addr) (sl:Array (Option Value)) (kV dc pm cd ct:Value),PySem.W.nsIn K mainGlobals x=some (some (.ref f)) /\
  K.lookup f=some ⟨oc,od,.func (PySem.W.fnOf x x (eY st) (cp st) (aq st) .none kV dc pm an cd ct),sl⟩/\PySem.W.codeIn K cd x=true/\PySem.W.keepIn K (.ref f)=true
section
variable {K:Le} {h:Heap} {mg:Str->Option Value} {x:Str} {st:Stmt} {i:Int}
theorem cj.get {ps:List Str} (D:cj K x st) (X:K.In h) (G:h.Ns mainGlobals mg)
  (hb:∀(kV doc pm:Value) (an:Option Addr) (cdv ct:Value) (us:List Value),us.length=ps.length->bindArgs (PySem.W.fnOf x x (eY st) (cp st) (aq st) .none kV doc pm an cdv ct) ⟨us,[]⟩=pure (ps.zip us)) :
  ∃fa fd,uH K x x st fa fd/\mg x=some (.ref fa)/\Binds K fd ps []:=by
 obtain⟨f,oc,od,an,sl,kV,dc,pm,cd,ct,a,l,c,k⟩:=D.ex;have F:=xT l c k;exact⟨f,_,F,Mi X G a,F.binds hb⟩
theorem cj.K1 {fa:Addr} {p:Str} (D:cj K x st) (X:K.In h) (G:h.Ns mainGlobals mg) (hfa:mg x=some (.ref fa))
  (hb:∀(kV doc pm:Value) (an:Option Addr) (cdv ct:Value) (v:Value),bindArgs (PySem.W.fnOf x x (eY st) (cp st) (aq st) .none kV doc pm an cdv ct) ⟨[v],[]⟩=pure [(p,v)]) :
  ∃fd,uH K x x st fa fd/\∀(s:Shared) (v:Value),BindsTo s fd ⟨[v],[]⟩ [(p,v)]:=by
 obtain⟨f,oc,od,an,sl,kV,dc,pm,cd,ct,a,l,c,k⟩:=D.ex;have e:=hfa.symm.trans (Mi X G a);cases e;exact⟨_,xT l c k,λs v=>.of_eq (hb kV dc pm an cd ct v)⟩
end
theorem KS {P:List Value->Prop} (h:P []) (us:List Value) (hu:us.length=0):P us:=by
 cases us with
 | nil=>exact h
 | cons a l=>simp at hu
theorem A6 {P:List Value->Prop} (h:∀a,P [a]) (us:List Value) (hu:us.length=1):P us:=by
 cases us with
 | nil=>simp at hu
 | cons a l=>exact KS (P:=λl=>P (a :: l)) (h a) l (by simpa using hu)
theorem zK {P:List Value->Prop} (h:∀a b,P [a,b]) (us:List Value) (hu:us.length=2):P us:=by
 cases us with
 | nil=>simp at hu
 | cons a l=>exact A6 (P:=λl=>P (a :: l)) (h a) l (by simpa using hu)
theorem EZ {P:List Value->Prop} (h:∀a b c,P [a,b,c]) (us:List Value) (hu:us.length=3):P us:=by
 cases us with
 | nil=>simp at hu
 | cons a l=>exact zK (P:=λl=>P (a :: l)) (h a) l (by simpa using hu)
structure Df (K:Le) (mg:Str->Option Value) (x:Str) (st:Stmt) (ps:List Str):Prop where
 ex:∃fa fd,uH K x x st fa fd/\mg x=some (.ref fa)/\Binds K fd ps []
section
variable {P:Program} {w:World} {K:Le} {mg:Str->Option Value} {base:Heap} {x:Str} {st:Stmt} {N ps:List Str} {k:Nat} {f:Fw} {fx:xC} {i:Int}
theorem Df.known (F:Df K mg x st ps) (S:aM N ps (aq st)) (hl:∀ds Q,f ds Q->ds.length=ps.length)
  (hbody:∀(fa:Addr) (cdv:Value) (A:Around) (outer:List Env) (s:Shared) (H:Hp) (E:XK),dG k (A.deeper (envOfC x (aq st) s.heap.objs.size fa cdv)) ->
   ∃t,o7 (kI Al P w K mg base N x (aq st) fa cdv A outer s H E).sL (cp st) t/\∀ds (Q:D->Prop),f ds Q->t { nx:=λ_=>Q .non,rt:=Q } (aF N ds)):Known P w K mg base (k + 1) x f :=
 let ⟨fa,_,F,m,b⟩:=F.ex;uH.known F S m b hl (hbody fa)
theorem Df.xI (F:Df K mg x st ps) (S:aM N ps (aq st)) (hl:∀ds Q R,fx ds Q R->ds.length=ps.length)
  (hbody:∀(fa:Addr) (cdv:Value) (A:Around) (outer:List Env) (s:Shared) (H:Hp) (E:XK),dG k (A.deeper (envOfC x (aq st) s.heap.objs.size fa cdv)) ->
   ∃t,Hq (kI (E5 P w) P w K mg base N x (aq st) fa cdv A outer s H E) (cp st) t/\∀ds (Q:D->Prop) (R:Str->Prop),fx ds Q R->t { nx:=λ_=>Q .non,rt:=Q,xc:=R } (aF N ds)):fG P w K mg base (k + 1) x fx :=
 let ⟨fa,_,F,m,b⟩:=F.ex;uH.xI F S m b hl (hbody fa)
end
open PySem PySem.Spec PyProof.Rows PySem.W
theorem uM {a b:Int} {t u:Tok} {c:Value}:∀(l:List Value),TriplesOk l->TriplesOk (l ++ [.int a t,.int b u,c]):=by
 intro l
 fun_induction TriplesOk l with
 | case1=>intro _;trivial
 | case2 i t j u c rest ih=>intro h;exact ih h
 | case3 l h1 h2=>intro h;exact h.elim
theorem xo {pos:Pos} {a b:Int} {t u:Tok} {c cv:Value}:∀(l:List Value),TriplesOk l->codeAmong pos (l ++ [.int a t,.int b u,c])=some cv->codeAmong pos l=some cv\/cv=c:=by
 intro l
 fun_induction TriplesOk l with
 | case1 =>
  intro _ h;simp only [List.nil_append,codeAmong] at h
  split at h
  ·cases h;exact .inr rfl
  ·cases h
 | case2 i t j u c rest ih =>
  intro h z;simp only [List.cons_append,codeAmong] at z ⊢
  split at z
  ·rename_i q;rw [if_pos q];exact .inl z
  ·rename_i q;rw [if_neg q];exact ih h z
 | case3 l h1 h2=>intro h;exact h.elim
def mT (oc:Obj) (q:Str):Prop:=∃vs t,oc.data=.fields vs/\vs[1]?=some (.str q t)
theorem mT.rec {h:Heap} {c:Addr} {oc:Obj} {q:Str} (x:mT oc q) (e:h.get? c=some oc):h.CodeRec (.ref c) q:=let ⟨vs,t,d,v⟩:=x;⟨c,oc,vs,t,rfl,e,d,v⟩
section
variable {X:Cx} {pins:List (Addr×Obj)} {σ:St} {H:Hp} {s:Shared} {c P:Addr} {qual:Str}
def Made (H:Hp) (q:Str) (f c':Addr) (oc fo:Obj) (H':Hp):Prop:=H f=none/\H' f=some (.frz fo (.cdr c' q))/\H' c'=some (.frz oc (.own c'))/\mT oc q/\ao H H'
theorem _root_.L2.Inv.Iq (I:Inv X pins σ H s) (hP:H P=some (.fU qual)) {ps:Array Value} (hps:s.heap.get? P=some (tabObj ps)) (htr:TriplesOk ps.toList) (hcs:∀pos cv,codeAmong pos ps.toList=some cv->∃c oc vs t,cv=.ref c/\H c=some (.frz oc (.own c))/\oc.data=.fields vs/\vs[1]?=some (.str qual t))
  {a b:Int} {t u:Tok} {c':Addr} {h':Heap} {fo:Obj} {tk:Nat} (hx:Heap.ExtBut P s.heap h') (hge:s.heap.objs.size<=c') (hlt:c' < h'.objs.size) (hrec:h'.CodeRec (.ref c') qual) (htb:h'.get? P=some (tabObj (ps ++ #[.int a t,.int b u,.ref c'])))
  (hfo:Obj.isFreed fo=false) :
  ∃oc H',Made H qual h'.objs.size c' oc fo H'/\Inv X pins σ H' { s with heap:=h'.push fo,toks:=tk }:=by
 obtain⟨c2,oc,vs,tt,e2,hoc,hd,hv⟩:=hrec;cases e2;have sz:s.heap.objs.size<=h'.objs.size:=L6 hge (Mn hlt);have nc:H c'=none:=I.hok.fresh hge;have nf:H h'.objs.size=none:=I.hok.fresh sz;have fc:h'.objs.size≠c':=Nat.ne_of_gt hlt
 let H1:Hp:=upd H c' (.frz oc (.own c'))
 have nf1:H1 h'.objs.size=none:=by show upd H c' _ _=none;rw [az fc];exact nf
 let H2:Hp:=upd H1 h'.objs.size (.frz fo (.cdr c' qual))
 have s1:ao H H1:=bC nc;have s2:ao H1 H2:=bC nf1;have s12:=s1.trans s2;have hcP:c'≠P:=λz=>by rw [z] at nc;rw [nc] at hP;cases hP
 have hfP:h'.objs.size≠P:=λz=>by rw [z] at nf;rw [nf] at hP;cases hP
 have nP:∀x,H x=none->x≠P:=λx z w=>by rw [w,hP] at z;cases z
 have keep:∀x o,x≠P->s.heap.get? x=some o->(h'.push fo).get? x=some o:=λx o n e=>Ld _ (hx x o n e);have gP:(h'.push fo).get? P=some (tabObj (ps ++ #[.int a t,.int b u,.ref c'])):=Ld _ htb;have gc:(h'.push fo).get? c'=some oc:=Ld _ hoc;have gf:(h'.push fo).get? h'.objs.size=some fo:=Lv _ hfo;have other:∀x,x≠c'->x≠h'.objs.size->H2 x=H x:=λx n1 n2=>by show upd H1 _ _ _=_;rw [az n2];show upd H _ _ _=_;rw [az n1]
 refine⟨oc,H2,⟨nf,av,s2 _ _ av,⟨vs,tt,hd,hv⟩,s12⟩,I.un (t':=tk) ⟨λx o e n _ _=>keep x o (nP x n) e,λx o e n _ _=>⟨o.slots,keep x o (nP x n) e⟩,λx o e n _=>?_,λx o e _=>?_,λx xs q=>s12 _ _ q,λx o xs q=>s12 _ _ q,λx q e=>s12 _ _ e⟩ λx o e=>?_⟩
 ·have hl:=Lw e;rw [other x (LJ (Lr hl hge)) (LJ (Lr hl sz))];exact n
 ·by_cases z:x=P
  ·exact⟨_,by rw [z];exact gP⟩
  ·exact⟨o,keep x o z e⟩
 ·by_cases z1:x=h'.objs.size
  ·subst z1;have e':some (HO.frz fo (.cdr c' qual))=some o:=av.symm.trans e;cases e';exact⟨gf,⟨fo,gf⟩,oc,vs,tt,s2 _ _ av,hd,hv⟩
  ·by_cases z2:x=c'
   ·subst z2;have e':some (HO.frz oc (.own x))=some o:=(s2 _ _ av).symm.trans e;cases e';exact⟨gc,oc,gc⟩
   ·rw [other x z2 z1] at e
    by_cases z:x=P
    ·subst z;rw [hP] at e;cases e;refine⟨_,gP,?_,λpos cv hc=>?_⟩
     ·have:=uM (a:=a) (b:=b) (t:=t) (u:=u) (c:=.ref c') ps.toList htr
      simpa using this
     ·have hc':codeAmong pos (ps.toList ++ [.int a t,.int b u,.ref c'])=some cv:=by simpa using hc
      rcases xo ps.toList htr hc' with q|q
      ·obtain⟨c,oc',vs',t',e1,e3,e4⟩:=hcs pos cv q;exact⟨c,oc',vs',t',e1,s12 _ _ e3,e4⟩
      ·exact⟨c',oc,vs,tt,q,s2 _ _ av,hd,hv⟩
    ·refine (I.hok x o e).p0 (λy v hy q=>keep y v (λw=>?_) q) (λy q=>s12 _ _ q) (λy xs q=>s12 _ _ q) λy o' xs q=>s12 _ _ q;rcases hy with w'|w'
     ·exact z (w'.symm.trans w)
     ·rw [w,hP] at w';cases w'
theorem _root_.L2.Inv.IZ (I:Inv X pins σ H s) {c':Addr} {oc fo:Obj} {h':Heap} {tk:Nat} (hc:H c'=some (.frz oc (.own c'))) (hq:mT oc qual) (hk:∀b o,s.heap.get? b=some o->h'.get? b=some o) (sz:s.heap.objs.size<=h'.objs.size) (hfo:Obj.isFreed fo=false) :
  ∃H',Made H qual h'.objs.size c' oc fo H'/\Inv X pins σ H' { s with heap:=h'.push fo,toks:=tk }:=by
 have nf:H h'.objs.size=none:=I.hok.fresh sz;have gf:(h'.push fo).get? h'.objs.size=some fo:=Lv _ hfo;obtain⟨vs,tt,hd,hv⟩:=hq;exact⟨_,⟨nf,av,bC nf _ _ hc,⟨vs,tt,hd,hv⟩,bC nf⟩,I.laid (a:=h'.objs.size) (o:=.frz fo (.cdr c' qual)) (t':=tk) (λb u e=>Ld _ (hk b u e)) sz ⟨gf,⟨fo,gf⟩,oc,vs,tt,bC nf _ _ hc,hd,hv⟩⟩
theorem Bu {E:Value->Shared->Prop} {Q:Value->Shared->Prop} {M:Model} {A:Around} {name:Str} {params:Arguments} {body:Expr} {scope:Scope} {pos:Pos} {line:Nat} {cA:List (Str×Addr)} (I:Inv X pins σ H s) (hcode:X.env.code=.ref c) (C:CodeHd X.base c P) (hq:tq X.K P=some qual)
  (hcl:closureFor scope X.env=pure cA)
  (h:∀f c' pm ctv oc H' s',Made H qual f c' oc (kla_obj name qual params body scope cA pm c' ctv) H'->Inv X pins σ H' s'->Q (.ref f) s') :
  wpAny M A (makeFunction name qual params (.expr body) scope X.env [] [] [] pos line) Q E s:=by
 have hP:=I.tb P qual hq;obtain⟨ps,hps,htr,hcs⟩:=I.hok P _ hP;obtain⟨bm,ob,b1,b2,b3,b4,b5,b6⟩:=I.mod.bm;have hg:=I.mod.glob.keeps I.bk
 have hgP:mainGlobals≠P:=λz=>by
  obtain⟨o,es,ep,e,hd,_⟩:=I.mod.glob;have n:=(I.bs _ _ e).2;rw [z,hP] at n;cases n
 have hbP:bm≠P:=λz=>by
  have n:=(I.bs _ _ b3).2;rw [z,hP] at n;cases n
 have hbG:bm≠mainGlobals:=λz=>by
  obtain⟨o,es,ep,e,hd,_⟩:=I.mod.glob;rw [z,e] at b3;cases b3;rw [hd] at b6;cases b6
 have hB:s.heap.BuiltinsAt X.mg P:=⟨bm,ob,b1,b2,hbG,hbP,I.bk _ _ b3,b4,b5,b6⟩
 cases ha:codeAmong pos ps.toList with
 | none =>
  refine kla_makeFunction hcl I.ok.glob hg hcode (C.keeps I.bk) hps htr ha hgP hB λc' ctv h' tk hx hge hlt hrec htb=>?_;obtain⟨oc,H',m,I'⟩:=I.Iq (fo:=kla_obj name qual params body scope cA ((X.mg "__name__").getD .none) c' ctv) (tk:=tk) hP hps htr hcs hx hge hlt hrec htb rfl
  exact h _ c' _ ctv oc H' _ m I'
 | some cv =>
  obtain⟨c',oc,vs,t,rfl,hc,hd,hv⟩:=hcs pos cv ha;refine kla_makeFunctionHit hcl I.ok.glob hg hcode (C.keeps I.bk) hps htr ha hB λctv h' tk hk hsz=>?_;obtain⟨H',m,I'⟩:=I.IZ (fo:=kla_obj name qual params body scope cA ((X.mg "__name__").getD .none) c' ctv) (tk:=tk) hc ⟨vs,t,hd,hv⟩ hk hsz rfl
  exact h _ c' _ ctv oc H' _ m I'
end
structure kT (P:Program) (w:World) (K:Frag) (mg:Str->Option Value) (base:Heap) (k:Nat) (Pf:Frag->Hp->Addr->Prop) (φ:Fw):Prop where
 here:∀(H:Hp) (h:Heap) (a:Addr),Pf K H a->kY P w H h->FnAt a h
 run:∀(F:Hp) (a:Addr) (A:Around) (outer:List Env) (s:Shared) (H:Hp) (us:List Value) (vs:List V) (ds:List D) (Pd:D->Prop) (Q:VK) (E:XK),(∀G,ao F G->Pf K G a)->dG k A->ya P w K mg base A outer s H->ao F H->ak K F ds vs->Vals vs us->φ ds Pd ->
  (∀(d:D) (v:V) (F' H':Hp),ao F F'->ao H H'->ao F' H'->(∀p,H p≠none->F p=none->F' p=none)->Den K F' d v->Pd d->Q v H') ->
  codeAny (model P w) A (.call (.ref a) ⟨us,[]⟩) (CR Al outer P w H s Q E) s
def xN (i:Nat) (Pf:Frag->Hp->Addr->Prop) (φ:Fw) (ts:fY):TD:=λenv Q=>env[i]?=some (some (.d (.obj Pf)))/\ts env λds=>φ ds Q
section
variable {X:Cx} {e:Expr} {es:List Expr} {ts:fY} {p pos:Pos} {x:Str} {k:Nat} {φ:Fw} {Pf:Frag->Hp->Addr->Prop}
theorem DX (i:Nat) (h:kT X.prog X.w X.K X.mg X.base k Pf φ) (hr:dG k X.A) (ha:QA X (e :: es) ts) (hN:X.N[i]?=some x:=by rfl) (hv:ua X.env.scope x:=by first | exact Or.inl rfl | exact Or.inr (Or.inl rfl) | exact Or.inr (Or.inr rfl)) (hd:(x == ("__debug__" : Str))=false:=by decide)
  (hcd:(x == ("__classdict__" : Str))=false:=by decide)
  (he:starEach (e :: es) X.env=(false,eval e X.env) :: starEach es X.env:=by exact aZ rfl) (hpl:(backTo pos (starEach es X.env)).any (·.1)=false:=by rfl):QE X (.Call (.Name x p) (e :: es) [] pos) (xN i Pf φ ts):=by
 refine⟨λB σ F H env Q rp hq pins s I=>?_⟩;obtain⟨hi,hq⟩:=hq;obtain⟨v,hv',hdn⟩:=rp.dv i _ hi;simp only [Den] at hdn;obtain⟨a,rfl,hP⟩:=hdn;refine wpAny_Call_Name_kw (bP (dU (pos:=p) hN hv hd hcd pins s σ H (λv H'=>v=.ref a/\H'=H) I ⟨.ref a,hv',rfl,rfl⟩) λu s1 hq0=>?_);obtain⟨v,H1,I1,r,ev,eH⟩:=hq0;subst ev;subst eH;obtain rfl:u=Value.ref a:=r;refine callWith_F (first:=[]) (h.here H1 _ a (hP H1 rp.fh) I1.hok) (bP (ha B σ F H1 env _ rp hq pos pins s1 I1) λus s2 hq1=>?_) he hpl
 obtain⟨vs,H2,I2,rv,F2,ds,r2,s2',d2,hf⟩:=hq1;have hP2:∀G,ao F2 G->Pf X.K G a:=λG sG=>hP G (s2'.trans sG);refine⟨h.here H2 _ a (hP2 H2 r2.fh) I2.hok,?_⟩;refine wpAny_call (codeAny_mono (h.run F2 a X.A X.stack s2 H2 us vs ds Q (RV X B σ env F Q) E0 hP2 hr I2.di r2.fh d2 rv hf λd v F' H' a b c n hd q=>⟨F',d,r2.ext a c b n,s2'.trans a,hd,q⟩) λr s' hq=>?_)
 cases r with
 | error e=>exact False.elim hq
 | ok fl =>
  cases fl with
  | ret u=>exact I2.after hq
  | next=>exact False.elim hq
  | brk=>exact False.elim hq
  | cont=>exact False.elim hq
end
structure Kl (h:Heap) (cA:List (Str×Addr)) (cn:List Str) (ws:List V):Prop where
 len:ws.length=cn.length
 inj:∀x y c,cA.lookup x=some c->cA.lookup y=some c->x=y
 cell:∀x c,cA.lookup x=some c->∃v,h.IsCell c v
 has:∀(i:Nat) x v,cn[i]?=some x->ws[i]?=some v->∃u c,RelV v u/\cA.lookup x=some c/\h.IsCell c (some u)
structure JH (scope:Scope) (ps cn:List Str):Prop where
 kind:scope.kind=.function
 co:scope.isCoroutine=false
 gen:scope.isGenerator=false
 cell:∀y∈scope.names,y.2≠.cell
 fr:∀y∈scope.names,y.2=.free->y.1∈cn
 par:∀x∈ps,scope.names.lookup x=some .local
 cap:∀x∈cn,scope.names.lookup x=some .free
 nd:(ps ++ cn).Nodup
theorem KL {scope:Scope} {ps cn:List Str} (a:scope.kind=.function:=by rfl) (b:scope.isCoroutine=false:=by rfl) (c:scope.isGenerator=false:=by rfl) (d:∀y∈scope.names,y.2≠.cell:=by decide +kernel) (e:∀y∈scope.names,y.2=.free->y.1∈cn:=by decide +kernel)
  (f:∀x∈ps,scope.names.lookup x=some .local:=by decide +kernel) (g:∀x∈cn,scope.names.lookup x=some .free:=by decide +kernel) (h:(ps ++ cn).Nodup:=by decide +kernel):JH scope ps cn:=⟨a,b,c,d,e,f,g,h⟩
abbrev Jw (P:Program) (w:World) (K:Frag) (mg:Str->Option Value) (base:Heap) (N:List Str) (qual:Str) (scope:Scope) (f c':Addr) (cA:List (Str×Addr)) (A:Around) (outer:List Env) (s:Shared) (H:Hp):Cx where
 prog:=P
 w:=w
 K:=K
 mg:=mg
 base:=base
 A:=A.deeper (envX qual scope s.heap.objs.size f (.ref c') cA)
 N:=N
 s₀:=s
 H₀:=H
 env:=envX qual scope s.heap.objs.size f (.ref c') cA
 outer:=outer
 stack:=envX qual scope s.heap.objs.size f (.ref c') cA :: outer
 ex:=[]
 calm:=true
 fn:=λ_=>false
 pn:=[]
 xe:=λ_ _=>False
theorem jM:∀{ps:List Str} {us:List Value} {x:Str} {u:Value} {i:Nat},ps.Nodup->ps[i]?=some x->us[i]?=some u->(ps.zip us).reverse.lookup x=some u
 | [],_,_,_,_,_,h,_=>by simp at h
 | _ :: _,[],_,_,_,_,_,h=>by simp at h
 | y :: ps,v :: us,x,u,i,nd,h1,h2=>by
  rw [List.zip_cons_cons,List.reverse_cons,List.lookup_append]
  cases i with
  | zero =>
   simp at h1 h2;subst h1;subst h2
   have:(ps.zip us).reverse.lookup y=none:=by
    rw [List.lookup_eq_none_iff];intro p hp;rw [List.mem_reverse] at hp;obtain⟨a,b⟩:=p;have hm:=(List.of_mem_zip hp).1;simp only [bne_iff_ne,beq_eq_false_iff_ne,ne_eq];exact λw=>(L5.mp nd).1 (by rw [w];exact hm)
   rw [this]
   simp [List.lookup]
  | succ i =>
   rw [jM (i:=i) (L5.mp nd).2 (by simpa using h1) (by simpa using h2)];rfl
section
variable {P:Program} {w:World} {K:Frag} {mg:Str->Option Value} {base:Heap} {qual:Str} {params:Arguments} {scope:Scope} {cA:List (Str×Addr)} {ps cn:List Str} {ws:List V} {caps:List D} {k:Nat} {A:Around} {outer:List Env} {s:Shared} {H:Hp}
theorem xZ {f c':Addr} {us:List Value} {vs:List V} {h1:Heap} {tk:Nat} (S:JH scope ps cn) (CL:Kl base cA cn ws) (hfr:∀x c,cA.lookup x=some c->x∈cn) (hd:A.handled=none) (e0:ya P w K mg base A outer s H) (hl:vs.length=ps.length) (r:Vals vs us)
  (hns:h1.Ns s.heap.objs.size λx=>(ps.zip us).reverse.lookup x) (hk1:∀b o,s.heap.get? b=some o->h1.get? b=some o) :
  Inv (Jw P w K mg base (ps ++ cn) qual scope f c' cA A outer s H) [] (start (ps ++ cn) (vs ++ ws)) H { s with heap:=h1,toks:=tk }:=by
 have noA:∀b:Addr,b∉(Jw P w K mg base (ps ++ cn) qual scope f c' cA A outer s H).ex:=λb z=>absurd (show b∈([]:List Addr) from z) (by simp);have cellB:∀c v,base.IsCell c v->h1.IsCell c v/\H c=none:=λc v ⟨o,ho,hd⟩=>⟨⟨o,hk1 _ _ (e0.bs c o ho).1,hd⟩,(e0.bs c o ho).2⟩
 have stE:start (ps ++ cn) (vs ++ ws)=(vs ++ ws).map some:=by
  unfold start;rw [show (ps ++ cn).length - (vs ++ ws).length=0 by rw [LI,LI,hl,CL.len];omega];simp
 refine⟨⟨e0.mod,S.kind,rfl,rfl,Lh _,λy z c h1 h2=>CL.inj y z c h1 h2,λy hy=>?_,λy c z _=>(by cases z),λ_=>hd,Around.frames_deeper e0.frames,.inr ⟨rfl,rfl⟩,λb z=>absurd z (noA b),e0.bs,e0.bsz,λb _ _=>noA b,λb z=>absurd z (noA b),e0.lU,e0.frf⟩,
  rfl,e0.bare,Un.kept hk1,⟨_,hns,λi y v h1 h2 h3=>?_⟩,λy c h=>?_,e0.hok.fresh (Lh _),λy c h=>?_,λp hp=>absurd (show p∈([]:List (Addr×Obj)) from hp) (by simp),e0.hok.kept hk1,?_⟩
 ·have hy:scope.names.lookup y=some .cell\/scope.names.lookup y=some .free:=hy;rcases hy with hy|hy
  ·exact absurd rfl (S.cell _ (PySem.mem_of_lookup hy))
  ·have hm:=S.fr _ (PySem.mem_of_lookup hy) rfl;obtain⟨i,hi⟩:=List.mem_iff_getElem?.mp hm;have hlt:i < ws.length:=by rw [CL.len];exact (La.mp hi).1
   obtain⟨u,c,_,e,_⟩:=CL.has i _ _ hi (Lc hlt);exact⟨c,e⟩
 ·rw [stE,Lj] at h2
  have ha:(vs ++ ws)[i]?=some v:=by
   cases e:(vs ++ ws)[i]? with
   | none=>rw [e] at h2;cases h2
   | some a=>rw [e] at h2;cases h2;rfl
  have h1':(ps ++ cn)[i]?=some y:=h1
  by_cases hi:i < ps.length
  ·rw [Lx hi] at h1';rw [Lx (by omega)] at ha;obtain⟨u,hu,rv⟩:=r.get ha;refine⟨u,rv,.inl ⟨S.par y (Lg h1'),?_⟩⟩;exact jM (S.nd.sublist (List.sublist_append_left _ _)) h1' hu
  ·rw [Ls (by omega)] at h1';rw [Ls (by omega)] at ha;rw [hl] at ha;obtain⟨u,c,rv,e,z⟩:=CL.has _ _ _ h1' ha;exact⟨u,rv,.inr ⟨.inr (S.cap y (Lg h1')),c,e,(cellB c _ z).1⟩⟩
 ·obtain⟨v,z⟩:=CL.cell y c h;exact⟨v,(cellB c v z).1⟩
 ·obtain⟨v,z⟩:=CL.cell y c h;exact (cellB c v z).2
 ·rw [stE,Ll,LI,hl,CL.len,<- LI]
def Gi (qual:Str) (params:Arguments) (body:Expr) (scope:Scope) (cA:List (Str×Addr)) (caps:List D) (ws:List V):Frag->Hp->Addr->Prop:=λK G a=>(∃c' pm ctv,G a=some (.frz (kla_obj "<lambda>" qual params body scope cA pm c' ctv) (.cdr c' qual)))/\ak K G caps ws
theorem BP {body:Expr} {t:TD} (S:JH scope ps cn) (CL:Kl base cA cn ws) (hfr:∀x c,cA.lookup x=some c->x∈cn)
  (hb:∀pm c' ctv (us:List Value),us.length=ps.length->bindArgs (kla_fn "<lambda>" qual params body scope cA pm (.ref c') ctv) ⟨us,[]⟩=pure (ps.zip us))
  (hbody:∀(f c':Addr) (A:Around) (outer:List Env) (s:Shared) (H:Hp),dG k (A.deeper (envX qual scope s.heap.objs.size f (.ref c') cA))->QE (Jw P w K mg base (ps ++ cn) qual scope f c' cA A outer s H) body t) :
  kT P w K mg base (k + 1) (Gi qual params body scope cA caps ws) λds Q=>ds.length=ps.length/\t (aF (ps ++ cn) (ds ++ caps)) Q:=by
 refine⟨λH h a hP hok=>?_,λF a A outer s H us vs ds Pd Q E hP hr e0 fh hd r hf kk=>?_⟩
 ·obtain⟨⟨c',pm,ctv,e1⟩,_⟩:=hP;obtain⟨e,_⟩:=hok a _ e1;exact⟨_,_,_,_,e⟩
 ·obtain⟨⟨c',pm,ctv,e1⟩,hcap⟩:=hP F (ao.refl _);obtain⟨ho,_,oc,vs',tt,e2,hd',hv'⟩:=e0.hok a _ (fh _ _ e1);obtain⟨hoc,_⟩:=e0.hok c' _ e2;have hq:mT oc qual:=⟨vs',tt,hd',hv'⟩;obtain⟨hl,hf⟩:=hf;have lu:us.length=ps.length:=by rw [<- r.length,<- hd.length];exact hl
  refine kla_callFunE hr.depth ho rfl S.co S.gen rfl (hq.rec hoc) ?_;rw [hb pm c' ctv us lu];have lim:s.heap.NoLimit:=e0.mod.nolimit.keeps λb o e=>(e0.bs b o e).1;refine Lf (wpAny_newFunctionEnv S.cell (λy hy=>S.par _ (List.of_mem_zip hy).1) (λh1 hns hsb=>?_) S.kind);have hk1:∀b o,s.heap.get? b=some o->h1.get? b=some o:=λb o e=>hsb.extBut b o (LJ (Lw e)) (Ld _ e);refine⟨lim.keeps hk1,?_⟩;show codeAny _ _ (.expr body (envX qual scope s.heap.objs.size a (.ref c') cA)) _ _
  have I:=xZ (qual:=qual) (f:=a) (c':=c') (tk:=s.toks + (ps.zip us).length) S CL hfr hr.hd e0 (by rw [<- hd.length];exact hl) r hns hk1;have hw:=hbody a c' A outer s H (hr.deeper _);have core:=hw _ _ F H _ Pd (iS (N:=ps ++ cn) fh (hd.append hcap)) hf [] _ I;refine kla_codeExpr (LG core (λu s' hq0=>?_) λe s' z=>False.elim z);obtain⟨v,H',J,rv,F',d,rp,sF,dd,q⟩:=hq0;exact⟨v,H',J.os,J.bare,J.base,J.hok,rv,kk d v F' H' rp.f0 rp.h0 rp.fh (λp h1 h2=>rp.nf p ⟨h1,h2⟩) dd q⟩
end
def zZ (env:En):List Nat->Option (List D)
 | []=>some []
 | i :: r=>match env[i]? with
  | some (some (.d x))=>(zZ env r).map (x :: ·)
  | _=>none
theorem vo {K:Frag} {B:Base} {F H:Hp} {σ:St} {env:En} (rp:Rep K B F H σ env):∀{ix:List Nat} {caps:List D},zZ env ix=some caps->∃ws:List V,ws.length=ix.length/\ak K F caps ws/\∀(j i:Nat) w,ix[j]?=some i->ws[j]?=some w->σ[i]?=some (some w)
 | [],caps,h=>by cases h;exact⟨[],rfl,aH,λj i w z=>by simp at z⟩
 | i :: r,caps,h=>by
  unfold zZ at h
  split at h
  ·rename_i x hx
   cases e:zZ env r with
   | none=>rw [e] at h;cases h
   | some cs =>
    rw [e] at h;cases h;obtain⟨ws,l,d,f⟩:=vo rp e;obtain⟨v,hv,dv⟩:=rp.dv i x hx;refine⟨v :: ws,by simp [l],aD dv d,λj i' w z1 z2=>?_⟩
    cases j with
    | zero=>simp at z1 z2;subst z1;subst z2;exact hv
    | succ j=>exact f j i' w (by simpa using z1) (by simpa using z2)
  ·cases h
def cellAt (env:Env) (x:Str):Addr:=(env.cells.lookup x).getD 0
def dj (env:Env) (cn:List Str):List (Str×Addr):=cn.map λx=>(x,cellAt env x)
theorem fX {env:Env} {x:Str} {c:Addr}:∀{cn:List Str},(dj env cn).lookup x=some c->x∈cn/\c=cellAt env x
 | [],h=>by cases h
 | y :: cn,h=>by
  have h':((y,cellAt env y) :: dj env cn).lookup x=some c:=h;rw [List.lookup_cons] at h'
  cases e:x == y with
  | true =>
   rw [e] at h';cases h';have:=eq_of_beq e;subst this
   exact⟨Lz,rfl⟩
  | false =>
   rw [e] at h';obtain⟨a,b⟩:=fX (cn:=cn) h';exact⟨Ln _ a,b⟩
theorem sM {env:Env} {x:Str}:∀{cn:List Str},x∈cn->(dj env cn).lookup x=some (cellAt env x)
 | y :: cn,h=>by
  show ((y,cellAt env y) :: dj env cn).lookup x=_
  rw [List.lookup_cons]
  cases e:x == y with
  | true=>have:=eq_of_beq e;subst this;rfl
  | false =>
   rcases LB.mp h with z|z
   ·subst z;simp at e
   ·exact sM z
def resT (h:Heap) (p:Addr->Bool):Heap:=hideAll h ((List.range h.objs.size).filter λb=>!p b)
theorem yM {h:Heap} {p:Addr->Bool} {b:Addr} {o:Obj} (e:h.get? b=some o) (hp:p b=true):(resT h p).get? b=some o:=hideAll_get _ e (by simp [hp])
theorem Ar {h:Heap} {p:Addr->Bool} {b:Addr} {o:Obj} (e:(resT h p).get? b=some o):h.get? b=some o/\p b=true:=by
 have e1:h.get? b=some o:=of_hideAll _ e;refine⟨e1,?_⟩
 cases q:p b with
 | true=>rfl
 | false =>
  have hm:b∈(List.range h.objs.size).filter λb=>!p b:=List.mem_filter.mpr ⟨LF.mpr (Lw e1),by simp [q]⟩;have z:(resT h p).get? b=none:=hideAll_none _ hm;rw [z] at e;cases e
def pR (base h:Heap) (cA:List (Str×Addr)):Heap:=resT h λb=>(base.get? b).isSome || (cA.map (·.2)).contains b
section
variable {X:Cx} {pins:List (Addr×Obj)} {σ:St} {H:Hp} {s:Shared} {cn:List Str}
theorem vR {env:Env} {b:Addr} (h:((dj env cn).map (·.2)).contains b=true):∃x∈cn,b=cellAt env x:=by
 rw [List.contains_iff_mem] at h;obtain⟨p,hp,rfl⟩:=LC.mp h;obtain⟨x,hx,rfl⟩:=LC.mp hp;exact⟨x,hx,rfl⟩
theorem kD (I:Inv X pins σ H s) (hck:∀x∈cn,X.env.kindOf x=some .cell) {x:Str} (hx:x∈cn):X.env.cells.lookup x=some (cellAt X.env x):=by
 obtain⟨c,e⟩:=I.ok.has x (.inl (hck x hx));unfold cellAt;rw [e];rfl
theorem _root_.L2.Inv.JV (I:Inv X pins σ H s) (hck:∀x∈cn,X.env.kindOf x=some .cell) (hfn:∀x∈cn,X.fn x=true):ya X.prog X.w X.K X.mg (pR X.base s.heap (dj X.env cn)) X.A X.stack s H:=by
 have keep:∀b o,X.base.get? b=some o->(pR X.base s.heap (dj X.env cn)).get? b=some o:=λb o e=>yM (I.bk b o e) (by simp [e]);refine⟨I.ok.frames,⟨I.mod.kin.keeps keep,I.mod.glob.keeps keep,let ⟨mb,h1,h2⟩:=I.mod.blt;⟨mb,h1.keeps keep,h2⟩,I.mod.nolimit.keeps keep,let ⟨bm,ob,b1,b2,b3,b4⟩:=I.mod.bm;⟨bm,ob,b1,b2,keep _ _ b3,b4⟩⟩,λb o e=>?_,Nat.le_of_eq (hideAll_size _ _),?_,⟨I.oZ,I.tb⟩,I.hok,I.bare⟩
 ·obtain⟨e1,hp⟩:=Ar e;refine⟨e1,?_⟩;rcases Bool.or_eq_true_iff.mp hp with z|z
  ·obtain⟨o',e'⟩:=Option.isSome_iff_exists.mp z;exact (I.bs b o' e').2
  ·obtain⟨x,hx,rfl⟩:=vR z;exact I.freeC x _ (kD I hck hx)
 ·have no:∀L∈lN X.stack,X.base.get? L=none->(pR X.base s.heap (dj X.env cn)).get? L=none:=λL hL hn=>by
   cases e:(pR X.base s.heap (dj X.env cn)).get? L with
   | none=>rfl
   | some o =>
    obtain⟨e1,hp⟩:=Ar e;rcases Bool.or_eq_true_iff.mp hp with z|z
    ·rw [hn] at z;cases z
    ·obtain⟨x,hx,rfl⟩:=vR z;have lk:=kD I hck hx;rcases LB.mp (I.lC _ hL) with w|w
     ·exact absurd w (I.EG x _ lk)
     ·obtain⟨_,o',ho',_⟩:=I.ok.lU.mem w;exact absurd (Lr (Lw ho') (I.ok.cab x _ (hfn x hx) lk)) (Nat.lt_irrefl _)
  have all:∀(l:List Env),(∀b∈lN l,b∈lN X.stack)->s.heap.FunFrames X.base l->s.heap.FunFrames (pR X.base s.heap (dj X.env cn)) l:=by
   intro l
   induction l with
   | nil=>intro _ _;trivial
   | cons env r ih =>
    intro hs hl;obtain⟨hk,⟨L,o,hf,hn,ho,hd⟩,hr⟩:=hl;have hL:L∈lN X.stack:=hs L (by unfold lN;rw [List.filterMap_cons,hf];exact Lz);exact⟨hk,⟨L,o,hf,no L hL hn,ho,hd⟩,ih (λb hb=>hs b (by unfold lN;rw [List.filterMap_cons,hf];exact Ln _ hb)) hr⟩
  exact all X.stack (λ_ h=>h) I.stack
theorem _root_.L2.Inv.JO (I:Inv X pins σ H s) (hck:∀x∈cn,X.env.kindOf x=some .cell) {ix:List Nat} (hix:ix.map (X.N[·]?)=cn.map some) {ws:List V} (hl:ws.length=ix.length) (hσ:∀(j i:Nat) w,ix[j]?=some i->ws[j]?=some w->σ[i]?=some (some w)) :
  Kl (pR X.base s.heap (dj X.env cn)) (dj X.env cn) cn ws:=by
 have put:∀x∈cn,∀v,s.heap.IsCell (cellAt X.env x) v->(pR X.base s.heap (dj X.env cn)).IsCell (cellAt X.env x) v:=λx hx v ⟨o,e,d⟩=>by
  refine⟨o,yM e ?_,d⟩
  have:((dj X.env cn).map (·.2)).contains (cellAt X.env x)=true:=by
   rw [List.contains_iff_mem];exact LC.mpr ⟨(x,cellAt X.env x),LC.mpr ⟨x,hx,rfl⟩,rfl⟩
  rw [this,Bool.or_true]
 have len:ix.length=cn.length:=by have:=congrArg List.length hix;simpa using this
 refine⟨hl.trans len,λx y c h1 h2=>?_,λx c h=>?_,λi x v h1 h2=>?_⟩
 ·obtain⟨m1,rfl⟩:=fX h1;obtain⟨m2,e⟩:=fX h2;exact I.ok.inj x y _ (kD I hck m1) (by rw [e];exact kD I hck m2)
 ·obtain⟨m,rfl⟩:=fX h;obtain⟨v,z⟩:=I.cell x _ (kD I hck m);exact⟨v,put x m v z⟩
 ·have m:=Lg h1;have hlt:i < ix.length:=by rw [len];exact (La.mp h1).1
  have h3:(ix.map (X.N[·]?))[i]?=(cn.map some)[i]?:=by rw [hix]
  rw [Lj,Lj,h1,Lc hlt] at h3;have h3':X.N[ix[i]]?=some x:=by simpa using h3
  have h4:=hσ i _ v (Lc hlt) h2;obtain⟨mm,_,hloc⟩:=I.loc;obtain⟨u,r,l⟩:=hloc _ x v h3' h4 (.inr (.inl (hck x m)));rcases l with ⟨k,_⟩|⟨_,c,e,z⟩
  ·rw [hck x m] at k;cases k
  ·have ec:c=cellAt X.env x:=by have:=kD I hck m;rw [e] at this;exact Li this
   subst ec;exact⟨u,_,r,sM m,put x m _ z⟩
end
def oH (K:Frag) (cdv:Value) (q:Str):Prop:=∃c P o vs file tf flags tg inF text tt,cdv=.ref c/\K.lookup c=some o/\o.cls=.type "code"/\o.data=.fields vs/\vs[11]?=some (.ref P)/\vs.getD 11 .none=.ref P/\vs.getD 18 .none=.str file tf/\vs.getD 7 .none=.int flags tg /\
 vs.getD 9 .none=.bool inF/\vs.getD 10 .none=.int text tt/\c≠P/\tq K P=some q
theorem oH.hd {K:Frag} {cdv:Value} {q:Str} {base:Heap} (x:oH K cdv q) (hb:K.In base):∃c P,cdv=.ref c/\CodeHd base c P/\tq K P=some q:=by
 obtain⟨c,P,o,vs,file,tf,flags,tg,inF,text,tt,e,l,h1,h2,h3,h4,h5,h6,h7,h8,h9,h10⟩:=x;exact⟨c,P,e,⟨o,vs,file,tf,flags,tg,inF,text,tt,hb _ _ l,h1,h2,h3,h4,h5,h6,h7,h8,h9⟩,h10⟩
def J3 (q:Str) (params:Arguments) (body:Expr) (scope:Scope) (cA:List (Str×Addr)):TE:=λ_ H Q=>∀f c' pm ctv oc H',Made H q f c' oc (kla_obj "<lambda>" q params body scope cA pm c' ctv) H'->Q (.ref f) H'
section
variable {X:Cx} {e body:Expr} {params:Arguments} {scope:Scope} {lpos p pos:Pos} {cA:List (Str×Addr)} {q x:Str} {te t:TD} {ps:List Str}
theorem FK (hck:oH X.K X.env.code q) (hq:X.env.qual ++ "<lambda>" = q) (hcl:closureFor scope X.env=pure cA) (hdef:defaultsOf params X.env=([],[])):PE X (.Lambda params body scope lpos) (J3 q params body scope cA):=by
 intro pins s σ H Q I h;obtain⟨c,P,e,C,hP⟩:=hck.hd I.ok.mod.kin;refine kla_eval hdef ?_;rw [hq];exact Bu I e C hP hcl λf c' pm ctv oc H' s' m I'=>⟨.ref f,H',I',rfl,h f c' pm ctv oc H' m⟩
theorem Made.rep {K:Frag} {B:Base} {F H H':Hp} {σ:St} {env:En} {f c':Addr} {oc fo:Obj} (m:Made H q f c' oc fo H') (r:Rep K B F H σ env):Rep K B (upd F f (.frz fo (.cdr c' q))) H' σ env/\ao F (upd F f (.frz fo (.cdr c' q))):=by
 obtain⟨nf,h1,_,_,sH⟩:=m;have nF:=r.mj nf;refine⟨r.ext (bC nF) (λb u z=>?_) sH λb h2 h3=>?_,bC nF⟩
 ·by_cases w:b=f
  ·subst w;rw [av] at z;cases z;exact h1
  ·rw [az w] at z;exact sH _ _ (r.fh _ _ z)
 ·rw [az (λw=>by subst w;exact h2 nf)];exact h3
def mz (fx:Fw->(Frag->Hp->Addr->Prop)->xC) (te:TD) (ix:List Nat) (n:Nat) (N:List Str) (t:TD):TX:=λenv Q R=>te env λd=>∃caps,zZ env ix=some caps/\∀Pf,fx (λds Q=>ds.length=n/\t (aF N (ds ++ caps)) Q) Pf [d,.obj Pf] Q R
theorem vn {fx:Fw->(Frag->Hp->Addr->Prop)->xC} {kf k:Nat} (ix:List Nat) (cn:List Str)
  (h:∀base Pf φ,kT X.prog X.w X.K X.mg base (kf + 1) Pf φ->fG X.prog X.w X.K X.mg base k x (fx φ Pf)) (hfa:∃fa,X.mg x=some (.ref fa)/\keepIn X.K (.ref fa)=true) (hr:dG k X.A) (he:QE X.sL e te) (hck:oH X.K X.env.code q) (S:JH scope ps cn)
  (hb:∀cA pm c' ctv (us:List Value),us.length=ps.length->bindArgs (kla_fn "<lambda>" q params body scope cA pm (.ref c') ctv) ⟨us,[]⟩=pure (ps.zip us))
  (hbody:∀(base:Heap) (cA:List (Str×Addr)) (f c':Addr) (A:Around) (outer:List Env) (s:Shared) (H:Hp),dG kf (A.deeper (envX q scope s.heap.objs.size f (.ref c') cA))->QE (Jw X.prog X.w X.K X.mg base (ps ++ cn) q scope f c' cA A outer s H) body t)
  (hq:X.env.qual ++ "<lambda>" = q:=by rfl) (hcell:∀x∈cn,X.env.kindOf x=some .cell:=by decide +kernel) (hfn:∀x∈cn,X.fn x=true:=by exact λ_ _=>rfl) (hix:ix.map (X.N[·]?)=cn.map some:=by rfl) (hcl:closureFor scope X.env=pure (dj X.env cn):=by rfl) (hdef:defaultsOf params X.env=([],[]):=by rfl)
  (hg:Gl X x:=by rfl) (hdb:(x == ("__debug__" : Str))=false:=by decide)
  (hst:starEach [e,.Lambda params body scope lpos] X.env=(false,eval e X.env) :: starEach [.Lambda params body scope lpos] X.env:=by exact aZ rfl) (hpl:(backTo pos (starEach [.Lambda params body scope lpos] X.env)).any (·.1)=false:=by rfl) :
  QX X (.Call (.Name x p) [e,.Lambda params body scope lpos] [] pos) (mz fx te ix ps.length (ps ++ cn) t):=by
 refine⟨λB σ F H env Q R rp hq0 pins s I=>?_⟩;obtain⟨fa,hm,hk⟩:=hfa;refine wpAny_Call_Name_kw (j4 I hg hm ?_ hdb)
 have hw:=(eG (X:=X.cM (XX X pins σ B env R)) bO (eG (FK hck hq hcl hdef) gJ (aZ rfl)) hst) pos pins s σ H (λvs H2=>∃v d F2 caps f c' pm ctv,vs=[v,.ref f]/\Rep X.K B F2 H2 σ env/\ao F F2/\Den X.K F2 d v/\F2 f=some (.frz (kla_obj "<lambda>" q params body scope (dj X.env cn) pm c' ctv) (.cdr c' q))/\zZ env ix=some caps/\∀Pf,fx (λds Q=>ds.length=ps.length/\t (aF (ps ++ cn) (ds ++ caps)) Q) Pf [d,.obj Pf] Q R) (I.cM _)
  (GW (aC (he B σ F H env _ rp hq0) λv H1 hq1=>by
   obtain⟨F1,d,r1,s1,dd,caps,hc,hf⟩:=hq1;intro f c' pm ctv oc H' m;obtain⟨r2,s2⟩:=m.rep r1
   exact⟨v,d,_,caps,f,c',pm,ctv,rfl,r2,s1.trans s2,Den.mono s2 _ _ dd,av,hc,hf⟩))
 refine callWith_K (h₀:=X.base) I.ok.mod.kin hk (bP hw λus s1 hq1=>?_) hst hpl;obtain⟨vs,H2,I2w,rv,v,d,F2,caps,f,c',pm,ctv,rfl,r2,sF,dd,hf2,hc,hf⟩:=hq1;have I2:Inv X pins σ H2 s1:=I2w.bG;refine⟨I2.BI,?_⟩;obtain⟨ws,lw,dw,hσ⟩:=vo r2 hc;have CL:=I2.JO hcell hix lw hσ;have runs:=BP (P:=X.prog) (w:=X.w) (K:=X.K) (mg:=X.mg) (caps:=caps) (k:=kf) S CL (λx c z=>(fX z).1) (hb _) (hbody _ _);have KX:=h _ _ _ runs
 obtain⟨fa',fd,psx,G,hm',hk',hbd⟩:=KX.ex;obtain rfl:fa'=fa:=by rw [hm] at hm';cases hm';rfl
 have hd2:ak X.K F2 [d,.obj (Gi q params body scope (dj X.env cn) caps ws)] [v,.ref f]:=aD dd (aD (by
  simp only [Den]
  exact⟨f,rfl,λG sG=>⟨⟨c',pm,ctv,sG _ _ hf2⟩,ak.mono sG _ _ dw⟩⟩) aH)
 have hsp:Kc X.K X.mg (fx (λds Q=>ds.length=ps.length/\t (aF (ps ++ cn) (ds ++ caps)) Q) (Gi q params body scope (dj X.env cn) caps ws)) ([v,.ref f] ++ []) H2 (RV X B σ env F Q) (λC dd H'=>dd=none/\∃(c:Str) (F':Hp),Rep X.K B F' H' σ env/\X.mg c=some C/\R c):=by
  rw [L4];exact⟨F2,_,Q,R,r2.fh,hd2,hf _,λd v F' H' a b c n hd q=>⟨F',d,r2.ext a c b n,sF.trans a,hd,q⟩,λc C F' H' a b c' n hm hx=>⟨rfl,c,F',r2.ext a c' b n,hm,hx⟩⟩
 have hl:(us ++ []).length=psx.length:=by
  have:=G.len _ _ _ _ hsp;rw [L4] at this ⊢;rw [<- rv.length];exact this
 refine wpAny_call (codeAny_mono (G.run X.A X.stack s1 H2 ⟨us,[]⟩ (us ++ []) ([v,.ref f] ++ []) _ _ hr (I2.JV hcell hfn) (hbd s1 us I2.BI hl) (by simpa using rv) hsp) λrs s' hq'=>?_)
 cases rs with
 | error ex =>
  obtain⟨a,C,dd,H',rfl,os,bare,un,hok,fl,rfl,c,F',r',hm',hx⟩:=hq'
  exact⟨a,c,C,H',F',rfl,⟨H2,s1,I2,os,bare,un,hok,fl⟩,r',hm',hx⟩
 | ok fl =>
  cases fl with
  | ret u=>exact I2.after hq'
  | next=>exact False.elim hq'
  | brk=>exact False.elim hq'
  | cont=>exact False.elim hq'
end
section
variable {X:Cx} {a b:Expr} {ta tb:TD} {p pos:Pos}
theorem Bb {prog:Program} {w:World} {A:Around} {E:Value->Shared->Prop} {s:Shared} {env:Env} {k v:Expr} {Q:Value->Shared->Prop}
  (h:wpAny (model prog w) A (evalPairs (pairTrees [some k] [v] env pos)) (λvs s₁=>∃kv vv,vs=[(kv,vv)]/\wpAny (model prog w) A (dictSet s.heap.objs.size kv vv) (λ_ s₂=>Q (.ref s.heap.objs.size) s₂) E s₁) E
   { s with heap:=s.heap.push { cls:=.type "dict",data:=.dict #[] } }) :
  wpAny (model prog w) A (eval (.Dict [some k] [v] pos) env) Q E s:=by
 rw [arm_eval_Dict,zip_pairTrees [some k] [v] env pos rfl rfl,dictDisplay_pairs (pairTrees [some k] [v] env pos) (by intro z;have:=congrArg List.length z;rw [pairTrees_length [some k] [v] env pos rfl rfl] at this;cases this) (by rw [pairTrees_length [some k] [v] env pos rfl rfl];show 1 < 17;decide)];refine K9 (wpAny_standAt (K9 ?_));unfold subDict;refine K9 (wpAny_alloc ?_);refine K9 (wpAny_holding ?_)
 rw [if_pos (by rw [pairTrees_length [some k] [v] env pos rfl rfl];show 1<=15;decide)];refine K9 (LG h (λvs s₁ h₁=>?_) λ_ _ e=>e);obtain⟨kv,vv,rfl,h₁⟩:=h₁;refine wpAny_holding ?_;refine K9 ?_;rw [List.forIn_cons];refine K9 (K9 (LG h₁ (λ_ s₂ h₂=>Lf ?_) λ_ _ e=>e));show wpAny _ _ (forIn [] PUnit.unit _) _ _ _
 rw [List.forIn_nil];exact Lf (Lf (Lf (Lf h₂)))
def Bo (K:Le) (p:Addr) (Q:VK) (k v:V) (H2:Hp):Prop:=H2 p=some (bR p 0 [])/\∃F d,ao F H2/\Den K F d k/\aR d=true/\dep d<=8/\∀ep,Q (.ref p) (upd H2 p (bR p ep [(yW d,k,v)]))
def FN (K:Le) (p:Addr) (Q:VK):List (V×V)->Hp->Prop
 | [(k,v)],H2=>Bo K p Q k v H2
 | _,_=>False
def GA (ta tb:TE) (K:Le):TE:=λσ H Q=>∀p,H p=none->ta σ (upd H p (bR p 0 [])) λk H1=>tb σ H1 λv H2=>Bo K p Q k v H2
theorem AI {ta tb:TE} (hu:X.A.units + 9 < cLine) (ha:PE X a ta) (hb:PE X b tb):PE X (.Dict [some a] [b] pos) (GA ta tb X.K):=by
 intro pins s σ H Q I q;have hn:=I.hok.fresh (Lh s.heap.objs.size);have I1:=I.laid (a:=s.heap.objs.size) (o:=bR s.heap.objs.size 0 []) (h':=s.heap.push { cls:=.type "dict",data:=.dict #[] }) (t':=s.toks) (λ_ _ q=>Ld _ q) (Lh _) (kr s.heap I.big)
 refine Bb (bP ((mF (pos:=pos) ha hb uF) pins _ σ _ (FN X.K s.heap.objs.size Q) I1 (q _ hn)) λws s2 hq0=>?_);obtain⟨ps,H2,I2,rel,hq⟩:=hq0
 cases rel with
 | nil=>exact hq.elim
 | @cons x y xs ys r t =>
  cases t with
  | cons _ _=>exact hq.elim
  | nil =>
   obtain⟨k,v⟩:=x;obtain⟨ku,vu⟩:=y;have hq':Bo X.K s.heap.objs.size Q k v H2:=hq;obtain⟨e,F,d,fh,dd,hk,hd,q2⟩:=hq';refine⟨ku,vu,rfl,?_⟩;obtain⟨hz,hs,es,dh,pr⟩:=fD I2 e
   have es0:es=#[]:=by
    have:=Paired.length pr;apply Array.eq_empty_of_size_eq_zero
    simpa using this.symm
   subst es0;have hash:=gG fh d s2 X.A k ku I2 hk (by omega) dd r.1;have find:=kB (kvs:=[]) (us:=[]) (vs:=[]) (I2.tok (s2.toks + Ak d)) fh bD.nil aH aH (es:=#[]) .nil hk hd (A:=X.A) (by omega) dd r.1;refine qi hash find dh (by simp) (λ_ h' dh' sb=>?_) λj hj=>by simp at hj
   obtain⟨o2,g2,c2,dd2⟩:=id dh';refine⟨.ref s.heap.objs.size,_,gv (ob:=bR s.heap.objs.size (0 + 1) [(yW d,k,v)]) I2 (by rw [e];exact True.intro) sb ⟨o2,g2⟩ ⟨⟨by simp [Lu],hs,_,dh',.cons ⟨rfl,r.1,r.2⟩ .nil⟩,⟨o2,g2⟩,?_⟩,rfl,q2 _⟩
   rintro h1 h2 ⟨z,hs,es,⟨o,ho,c,dd⟩,pr⟩ k;exact⟨z,hs,es,⟨o,k _ ho,c,dd⟩,pr⟩
def qF (i:Nat) (tk tv:TD):bI:=λZ env=>tk env λk=>aR k=true/\dep k<=8/\tv env λv=>Z.nx (env.set i (some (.dic [(k,v)])))
theorem xD {x:Str} {pos' pd:Pos} (i:Nat) (hN:X.N.Nodup) (hu:X.A.units + 64 < cLine) (ha:QE X a ta) (hb:QE X b tb) (hi:X.N[i]?=some x:=by rfl) (hx:Loc X.env.scope x:=by first|exact Or.inl rfl|exact Or.inr rfl) (hs:swapsWith (.Dict [some a] [b] pd) (some (.Name x pos')) pos.line X.env=pure false:=by rfl)
  (hf:X.fn x=true\/X.env.scope.names.lookup x=some .local:=by first|exact .inl rfl|exact .inr rfl):QS X (.Assign [.Name x pos'] (.Dict [some a] [b] pd) pos) (qF i ta tb):=by
 refine⟨λB σ F H env Z rp h pins s I=>?_⟩;have hl:i < σ.length:=by rw [I.len];exact (La.mp hi).1
 refine ju (i:=i) hN hi hx (AI (by omega) bO bO) hs hf pins s σ H _ I λp hp=>?_;have hb0:B.H p=none:=rp.h0.free hp;refine aC (ha (B.guard p (bR p 0 [])) σ F (upd H p (bR p 0 [])) env _ (rp.guarded hp) h) λk H1 hq0=>?_;obtain⟨F1,d1,r1,s1,e1,hk,hd,q1⟩:=hq0;refine aC (hb _ σ F1 H1 env _ r1 q1) λv H2 hq0=>?_;obtain⟨F3,d2,r3,s2,e2,q3⟩:=hq0;obtain⟨r4,hp2,hf2⟩:=r3.l4 hb0;refine⟨hp2,F3,d1,r3.fh,Den.mono s2 _ _ e1,hk,hd,λep=>?_⟩
 have h0:(λb=>if b=p then none else H2 b) p=none:=if_pos rfl
 have ee:upd H2 p (bR p ep [(yW d1,k,v)])=upd (λb=>if b=p then none else H2 b) p (bR p ep (bq [(d1,d2)] [k] [v])):=by
  funext b
  by_cases z:b=p
  ·subst z;rw [av,av];rfl
  ·rw [az z,az z,if_neg z]
 have r5:Rep X.K B F3 (λb=>if b=p then none else H2 b) σ env:=by
  refine⟨r4.f0,λb o z=>?_,λb o z=>?_,r4.nf,r4.dv,λj xs hj=>?_,r4.ne,λj xs hj=>?_,r4.nm⟩
  ·have:b≠p:=λw=>by subst w;rw [hf2] at z;cases z
   rw [if_neg this];exact r4.fh _ _ z
  ·have:b≠p:=λw=>by subst w;rw [hb0] at z;cases z
   rw [if_neg this];exact r4.h0 _ _ z
  ·obtain⟨p2,us,g1,g2,g3,g4,g5⟩:=r4.ov j xs hj;have:p2≠p:=λw=>by subst w;rw [hp2] at g2;cases g2
   exact⟨p2,us,g1,by rw [if_neg this];exact g2,g3,g4,g5⟩
  ·obtain⟨p2,ep,us,vs,g1,g2,g3,g4,g5,g6⟩:=r4.mv j xs hj;obtain⟨p3,_,_,_,k1,_,_,k4,_,_⟩:=r3.mv j xs hj;have e3:p3=p2:=by rw [k1] at g1;cases g1;rfl
   subst e3;have:p3≠p:=λw=>by subst w;rw [show (B.guard p3 (bR p3 0 [])).H p3=some (bR p3 0 []) from av] at k4;cases k4
   exact⟨p3,ep,us,vs,g1,by rw [if_neg this];exact g2,g3,g4,g5,g6⟩
 rw [ee];exact⟨F3,_,r5.jZ (i:=i) ep h0 hl (aD (Den.mono s2 _ _ e1) aH) (aD e2 aH),q3⟩
end
theorem IE {K:Le} {cdv:Value} {q:Str} {c P:Addr} {o:Obj} {vs:Array Value} {file:Str} {tf:Tok} {flags:Int} {tg:Tok} {inF:Bool} {text:Int} {tt:Tok} (e:cdv=.ref c) (l:K.lookup c=some o) (h1:o.cls=.type "code") (h2:o.data=.fields vs) (h3:vs[11]?=some (.ref P)) (h4:vs.getD 11 .none=.ref P) (h5:vs.getD 18 .none=.str file tf)
  (h6:vs.getD 7 .none=.int flags tg) (h7:vs.getD 9 .none=.bool inF) (h8:vs.getD 10 .none=.int text tt) (h9:c≠P) (h10:tq K P=some q):oH K cdv q:=⟨c,P,o,vs,file,tf,flags,tg,inF,text,tt,e,l,h1,h2,h3,h4,h5,h6,h7,h8,h9,h10⟩
structure uj (K:Le) (x:Str) (st:Stmt) (q:Str):Prop where
 ex:∃(f:Addr) (oc:Value) (od an:Option Addr) (sl:Array (Option Value)) (kV dc pm cd ct:Value),PySem.W.nsIn K mainGlobals x=some (some (.ref f)) /\
  K.lookup f=some ⟨oc,od,.func (PySem.W.fnOf x x (eY st) (cp st) (aq st) .none kV dc pm an cd ct),sl⟩/\PySem.W.codeIn K cd x=true/\PySem.W.keepIn K (.ref f)=true/\oH K cd q
structure Fs (K:Le) (mg:Str->Option Value) (x:Str) (st:Stmt) (ps:List Str) (q:Str):Prop where
 ex:∃(fa:Addr) (oc:Value) (od:Option Addr) (kV doc pm:Value) (an:Option Addr) (cdv ct:Value) (osl:Array (Option Value)),K.lookup fa=some ⟨oc,od,.func (PySem.W.fnOf x x (eY st) (cp st) (aq st) .none kV doc pm an cdv ct),osl⟩/\PySem.W.codeIn K cdv x=true/\PySem.W.keepIn K (.ref fa)=true /\
  oH K cdv q/\mg x=some (.ref fa)/\Binds K (PySem.W.fnOf x x (eY st) (cp st) (aq st) .none kV doc pm an cdv ct) ps []
section
variable {P:Program} {w:World} {K:Le} {mg:Str->Option Value} {base h:Heap} {x q:Str} {st:Stmt} {N ps:List Str} {k:Nat} {fx:xC}
theorem uj.get (D:uj K x st q) (X:K.In h) (G:h.Ns mainGlobals mg)
  (hb:∀(kV doc pm:Value) (an:Option Addr) (cdv ct:Value) (us:List Value),us.length=ps.length->bindArgs (PySem.W.fnOf x x (eY st) (cp st) (aq st) .none kV doc pm an cdv ct) ⟨us,[]⟩=pure (ps.zip us)):Fs K mg x st ps q:=by
 obtain⟨f,oc,od,an,sl,kV,dc,pm,cd,ct,a,l,c,kp,ck⟩:=D.ex;exact⟨f,oc,od,kV,dc,pm,an,cd,ct,sl,l,c,kp,ck,Mi X G a,(xT l c kp).binds hb⟩
theorem Fs.CN (F:Fs K mg x st ps q) (S:aM N ps (aq st)) (hl:∀ds Q R,fx ds Q R->ds.length=ps.length)
  (hbody:∀(fa:Addr) (cdv:Value) (A:Around) (outer:List Env) (s:Shared) (H:Hp) (E:XK),oH K cdv q->dG k (A.deeper (envOfC x (aq st) s.heap.objs.size fa cdv)) ->
   ∃t,II (kI (E5 P w) P w K mg base N x (aq st) fa cdv A outer s H E) (cp st) t/\∀ds (Q:D->Prop) (R:Str->Prop),fx ds Q R->t { nx:=λ_=>Q .non,rt:=Q,xc:=R } (aF N ds)):fG P w K mg base (k + 1) x fx:=by
 obtain⟨fa,oc,od,kV,doc,pm,an,cdv,ct,osl,lk,hcd,kp,ck,hmg,hb⟩:=F.ex;refine⟨fa,_,ps,?_,hmg,kp,hb⟩;refine B8 lk hcd S (λvs H Q E h=>?_) λA outer s H vs Q E hr h=>?_
 ·obtain⟨F0,ds,P,R,_,hd,hf,_⟩:=h;rw [<- hd.length];exact hl ds _ _ hf
 ·obtain⟨F0,ds,P',R,fh,hd,hf,kk,kx⟩:=h;obtain⟨t,ht,hq⟩:=hbody fa cdv A outer s H E ck hr;refine⟨_,fi,?_⟩;have core:=ht.run _ (start N vs) F0 H (aF N ds) _ (iS fh hd) (hq ds P' R hf);intro pins s1 I;refine LG (core pins s1 (I.cM _)) (λfl s2 z=>?_) λex s2 z=>?_
  ·refine pj (SP.bG z) (λσ' H' ⟨F',env',r,q⟩=>?_) (λv H' ⟨F',d',r,dd,q⟩=>?_) (λ_ _ ⟨_,_,_,q⟩=>q) (λ_ _ ⟨_,_,_,q⟩=>q)
   ·exact kk .non .non F' H' r.f0 r.h0 r.fh (λp h1 h2=>r.nf p ⟨h1,h2⟩) mX q
   ·exact kk d' v F' H' r.f0 r.h0 r.fh (λp h1 h2=>r.nf p ⟨h1,h2⟩) dd q
  ·obtain⟨pins',a,c,C,σ',H',F',env',rfl,th,r,hm,hx⟩:=z;exact th.leave (kx c C F' H' r.f0 r.h0 r.fh (λp h1 h2=>r.nf p ⟨h1,h2⟩) hm hx)
theorem Df.at_ (F:Df K mg x st ps):∃fa,mg x=some (.ref fa)/\PySem.W.keepIn K (.ref fa)=true:=let ⟨fa,_,F,m,_⟩:=F.ex;⟨fa,m,F.kp⟩
end
section
variable {prog:Program} {w:World} {A:Around} {E:Value->Shared->Prop} {s:Shared}
theorem lM {R:Result->Shared->Prop} {r:Addr} {a b c:Int} {t u v:Tok} {n:Nat} (hh:A.handled=none) (hr:IsRange s.heap r a b c t u v) (hsmall:Builtin.Range.small a b c=true) (hn:Builtin.Range.rangeSize a b c=n) (hlen:n<=2 ^ 24)
  (hR:∀h' tk acc' c',(∀b o,b≠s.heap.objs.size->s.heap.get? b=some o->h'.get? b=some o)->h'.get? s.heap.objs.size=some { cls:=.type "list",dict:=none,data:=.seq acc' c',slots:=#[] } ->
   ItemsOf (λi v=>∃t,v=.int (a + i * c) t) acc' n->R (.ok (.ret (.ref s.heap.objs.size))) { s with heap:=h',toks:=tk }):codeAny (model prog w) A (.builtin "proto.collect" ⟨[.ref r],[]⟩) R s:=by
 refine codeAny_builtin F.entry_proto_collect ?_;rw [Around.under_plainId F.plain_proto_collect _];show wpAny _ A.in1 (newList [] >>= λl=>again (.builtin "list.__iadd__" ⟨[l,.ref r],[]⟩)) _ _ s
 refine K9 (wpAny_newObj_type ?_);refine Lf ⟨plainId_quiet F.plain_list_iadd _,codeAny_builtin F.entry_list_iadd ?_⟩;rw [Around.under_plainId F.plain_list_iadd _];have hS₁:(s.heap.push { cls:=.type "list",data:=.seq ([]:List Value).toArray }).get? s.heap.objs.size=some { cls:=.type "list",data:=.seq ([]:List Value).toArray }:=Lv _ rfl
 show wpAny _ A.in1 (Builtin.List.listExtendWith (.ref s.heap.objs.size) (.ref r) (.ref s.heap.objs.size)) _ _ _
 refine wpAny_extend_range (s:={ s with heap:=s.heap.push { cls:=.type "list",data:=.seq ([]:List Value).toArray } }) hh (Ld _ hr) hsmall hn hlen s.heap.objs.size (.ref s.heap.objs.size) _ hS₁ λh' tk acc' c' hk hS' hacc=>?_
 exact hR h' tk acc' c' (λb o hb e=>hk b o hb (Ld _ e)) hS' hacc
theorem rH {Q:List Value->Shared->Prop} {r:Addr} {a b c:Int} {t u v:Tok} {n:Nat} (hh:A.handled=none) (hr:IsRange s.heap r a b c t u v) (hsmall:Builtin.Range.small a b c=true) (hn:Builtin.Range.rangeSize a b c=n) (hlen:n<=2 ^ 24)
  (hQ:∀h' tk acc,(∀b o,s.heap.get? b=some o->h'.get? b=some o)->s.heap.objs.size<=h'.objs.size->ItemsOf (λi v=>∃t,v=.int (a + i * c) t) acc n->Q acc.toList { s with heap:=h',toks:=tk }):wpAny (model prog w) A (collect (.ref r)) Q E s:=by
 unfold collect;refine K9 (wpAny_runValue (lM hh hr hsmall hn hlen λh' tk acc' c' hk hS' hacc=>?_));show wpAny _ A (load s.heap.objs.size >>= _) _ _ _
 refine K9 (wpAny_load hS' ?_);exact Lf (hQ h' tk acc' (λb o e=>hk b o (LJ (Lw e)) e) (Mn (Lw hS')) hacc)
theorem mR {r:Addr} {a b c:Int} {t u v:Tok} {n:Nat} (hsmall:Builtin.Range.small a b c=true) (hn:Builtin.Range.rangeSize a b c=n) (hlen:n<=2 ^ 24) (hsz:n<=sizeLine) :
  Meets (Builtin.«tuple.__new__» ⟨[.type "tuple",.ref r],[]⟩)
   (λA R s=>A.handled=none/\IsRange s.heap r a b c t u v/\∀(h':Heap) (tk:Nat) (acc:Array Value),(∀b o,s.heap.get? b=some o->h'.get? b=some o)->s.heap.objs.size<=h'.objs.size->ItemsOf (λi v=>∃t,v=.int (a + i * c) t) acc n ->
    R (.ok (.ret (.ref h'.objs.size))) { s with heap:=h'.push { cls:=.type "tuple",data:=.seq acc },toks:=tk }) :=
 .of_wp λprog w A R s h=>by
  obtain⟨hh,hr,h⟩:=h;have hsub:=sub_tuple_self;have hinit:=init_tuple_lookup;have hmh:=madeHere_tuple;have hT:s.TypeIs (.ref r) "range":=⟨_,hr,rfl⟩
  have hh1:A.in1.handled=none:=hh
  wp_walk using wpAny_typeOf hT,rH hh1 hr hsmall hn hlen
  intro h' tk acc hk hz hacc;show wpAny _ _ (Builtin.Tuple.tupleExact acc.toList.toArray >>= λv=>ret v) _ _ _
  unfold Builtin.Tuple.tupleExact;refine K9 (wpAny_newObj_type ?_ (show acc.toList.toArray.size<=sizeLine by simp only [Array.toArray_toList];rw [hacc.1];exact hsz));refine Lf ⟨_,rfl,?_⟩;have e:acc.toList.toArray=acc:=by simp
  rw [e];exact h h' tk acc hk hz hacc
theorem nU {Q:Value->Shared->Prop} {r:Addr} {a b c:Int} {t u v:Tok} {n:Nat} (hh:A.handled=none) (hr:IsRange s.heap r a b c t u v) (hsmall:Builtin.Range.small a b c=true) (hn:Builtin.Range.rangeSize a b c=n) (hlen:n<=2 ^ 24) (hsz:n<=sizeLine)
  (h:∀(h':Heap) (tk:Nat) (acc:Array Value),(∀b o,s.heap.get? b=some o->h'.get? b=some o)->s.heap.objs.size<=h'.objs.size->ItemsOf (λi v=>∃t,v=.int (a + i * c) t) acc n->Q (.ref h'.objs.size) { s with heap:=h'.push { cls:=.type "tuple",data:=.seq acc },toks:=tk }) :
  wpAny (model prog w) A (call (.type "tuple") [.ref r]) Q E s :=
 callType_new F.called_tuple (by decide) (F.typeCall_tuple_1 _) (F.newCall_tuple_1 _) (λobj=>F.args_object_init_2 obj _) F.entry_tuple_new
  (mR hsmall hn hlen hsz) ⟨hh,hr,λh' tk acc hk hz hacc=>⟨⟨_,Lv _ rfl,rfl⟩,h h' tk acc hk hz hacc⟩⟩
end
section
variable {X:Cx} {ts:fY} {pos:Pos}
theorem Ac (hc:X.calm=true):e7 X (.type "tuple") (λxs H Q=>∃r n,xs=[.ref r]/\H r=some (.rng 0 n)/\(-(2 ^ 62)<=n/\n<=16777216)/\∀l,H l=none->Q (.ref l) (upd H l (.tup ((List.range n.toNat).map λ(i:Nat)=>V.int (i:Int))))):=by
 intro pins s σ H xs us Q I r h;obtain⟨a,n,rfl,hr,⟨n1,n2⟩,q⟩:=h;obtain⟨u,rfl,rx⟩:=vals1 r;cases rx;obtain⟨t,u,v,e⟩:=(show bH X.prog X.w H s.heap a (.rng 0 n) from I.hok a _ hr);have hsz:Builtin.Range.rangeSize 0 n 1=(n.toNat:Int):=by rw [rangeSize_one];split <;> omega
 refine nU (I.ok.hd hc) e (small_one (by decide) (by decide) n1 (by omega)) hsz (by omega) (by rw [Lu];omega) λh' tk acc kp sz it=>?_
 refine⟨.ref h'.objs.size,_,I.laid (t':=tk) (λb o e=>Ld _ (kp b o e)) sz (show bH X.prog X.w _ _ _ (.tup ((List.range n.toNat).map λ(i:Nat)=>V.int (i:Int))) from ⟨by simp [Lu];omega,acc.toList,iH it,by
  have:=pD.new h' acc
  simpa using this⟩),rfl,q _ (I.hok.fresh sz)⟩
def CH (ts:fY):TD:=λenv Q=>ts env λds=>∃n:Int,ds=[.int n]/\(-(2 ^ 62)<=n/\n<=16777216)/\Q (.tup (aW 0 n.toNat))
theorem GS {a:Expr} {p p2 pos2:Pos} (hm:X.mg "tuple" = none) (hm2:X.mg "range" = none) (ha:QA X [a] ts) (hc:X.calm=true:=by rfl) (hg:Gl X "tuple":=by rfl) (hg2:Gl X "range":=by rfl) (hs:starEach [a] X.env=[(false,eval a X.env)]:=by rfl)
  (he:starEach [.Call (.Name "range" p2) [a] [] pos2] X.env=(false,eval (.Call (.Name "range" p2) [a] [] pos2) X.env) :: starEach [] X.env:=by exact aZ rfl) (hpl:(backTo pos (starEach ([]:List Expr) X.env)).any (·.1)=false:=by rfl) :
  QE X (.Call (.Name "tuple" p) [.Call (.Name "range" p2) [a] [] pos2] [] pos) (CH ts):=by
 refine⟨λB σ F H env Q rp h=>dA (kC (Ac hc) hg hm oq (eG (rN hg2 hm2 jh hs) gJ he) (by decide) (by decide) he hpl) ?_⟩;refine cO (ha B σ F H env _ rp h) λvs H1 hq0=>?_;obtain⟨F1,ds,r1,s1,d1,n,e1,hn,q1⟩:=hq0;subst e1;simp only [ak,Den] at d1;obtain⟨v,r,rfl,rfl,rfl⟩:=d1;refine⟨n,rfl,λr hr=>?_⟩;obtain⟨r2,s2⟩:=r1.laid (o:=.rng 0 n) hr;refine⟨r,n,rfl,av,hn,λw hw=>?_⟩;obtain⟨r3,s3⟩:=r2.laid (o:=.tup ((List.range n.toNat).map λ(i:Nat)=>V.int (i:Int))) hw
 exact⟨_,_,r3,(s1.trans s2).trans s3,fP (gr.of av) (pq _),q1⟩
end
def B9 (cls:Str) (tx:TX) (tb:bI):bI:=λD env=>tx env D.rt λc=>c=cls/\tb { nx:=λ_=>False,rt:=D.rt } env
section
variable {X:Cx} {e:Expr} {tx:TX} {cls sup:Str} {C S:Addr} {np epos hpos pos:Pos} {b0:Stmt} {body:List Stmt} {tb:bI}
theorem Dp (hst:X.stack=X.env :: X.outer) (hf:X.env.frame=some X.env.locals) (as:PySem.W.nsIn X.K mainGlobals sup=some (some (.ref S))) (ac:PySem.W.nsIn X.K mainGlobals cls=some (some (.ref C))) (O:BD X.K C S)
  (h:QX X e tx) (hb:∀x,o7 (Cx.hand X x) (b0 :: body) tb) (hg:Gl X sup:=by rfl) (hdb:(sup == ("__debug__" : Str))=false:=by decide) :
  QS X (.Try [.Return (some e) epos] [.ExceptHandler (some (.Name sup np)) none (b0 :: body) hpos] [] [] pos) (B9 cls tx tb):=by
 refine⟨λB σ F H env D rp ht pins s I=>?_⟩;have hmg:X.mg cls=some (.ref C):=Mi I.ok.mod.kin I.ok.mod.glob ac;have hms:X.mg sup=some (.ref S):=Mi I.ok.mod.kin I.ok.mod.glob as;have core:=h.run B σ F H env _ _ rp ht pins s I;refine wpAny_Try_except (wpAny_execs_cons (wpAny_Return_some (LG core (λv s1 ⟨x,H1,I1,r1,F1,d1,rp1,_,hd1,q1⟩=>?_) λex s1 z=>?_)))
 ·exact⟨x,σ,H1,I1,r1,F1,d1,rp1.bare,hd1,q1⟩
 ·obtain⟨a,c,C',H1,F1,rfl,th,r1,hm,hce,hq1⟩:=z;rw [hce,hmg] at hm;cases hm;refine th.note hst hf λs2 th2=>?_;have I2:=Inv.hand th2.inv a;refine wpAny_handleBy_cons (codeAny_handlers_test (j4 (X:=Cx.hand X a) I2 hg hms ?_ hdb)) (by intro q;cases q)
  have flc:∃ox,PySem.W.InstAt s2.heap a ox C none:=by
   obtain⟨_,_,_,_,_,_,_,_,_,oe,vs,he,hc,hdc,hd,_⟩:=th2;refine⟨oe,he,hc,?_,?_⟩
   ·unfold PySem.W.notCls;rw [hd]
   ·rw [hdc];exact True.intro
  obtain⟨ob,hob⟩:=flc;have kin:=I2.BI;obtain⟨h2,g2,d2,t2,o2⟩:=s2;refine Cp kin O hob.type (codeAny_handlers_suite ?_);refine eD.land th2 λs3 th3=>?_;obtain⟨na,I3⟩:=jI.Fy th3;obtain⟨rp3,sm⟩:=r1.laid (o:=.ext (excAt a C)) na;have run:=(hb a).run B _ _ _ _ { nx:=λ_=>False,rt:=D.rt } rp3 hq1 pins s3 (Inv.hand I3 a);refine LG run (λf s5 z=>?_) λ_ _ z=>False.elim z
  cases f with
  | next=>obtain⟨σ',H',_,F',env',_,q⟩:=z;exact q.elim
  | brk=>obtain⟨σ',H',_,F',env',_,q⟩:=z;exact q.elim
  | cont=>obtain⟨σ',H',_,F',env',_,q⟩:=z;exact q.elim
  | ret u =>
   obtain⟨v,σ',H',I5,rv,q⟩:=z;exact⟨v,_,H',Inv.GK I.ok I5,rv,q⟩
end
theorem fG.plain {P:Program} {w:World} {K:Le} {mg:Str->Option Value} {base:Heap} {k:Nat} {x:Str} {f:xC} (h:fG P w K mg base k x f):Known P w K mg base k x (λds Q=>f ds Q λ_=>False):=by
 obtain⟨fa,fd,ps,G,hm,hk,hb⟩:=h.ex;refine⟨fa,fd,ps,⟨λvs H Q E hs=>?_,λA outer s H args us vs Q E hr he hbt hv hs=>?_⟩,hm,hk,hb⟩
 ·obtain⟨F,ds,Pd,fh,hd,hf,kk⟩:=hs;exact G.len vs H Q E ⟨F,ds,Pd,λ_=>False,fh,hd,hf,kk,λ_ _ _ _ _ _ _ _ _ z=>z.elim⟩
 ·obtain⟨F,ds,Pd,fh,hd,hf,kk⟩:=hs;refine codeAny_mono (G.run A outer s H args us vs Q (λ_ _ _=>False) hr he hbt hv ⟨F,ds,Pd,λ_=>False,fh,hd,hf,kk,λ_ _ _ _ _ _ _ _ _ z=>z⟩) λr s' hq=>?_
  cases r with
  | ok v=>cases v <;> exact hq
  | error e =>
   obtain⟨_,_,_,_,_,_,_,_,_,_,z⟩:=hq;exact z.elim
open PySem
structure M4 where
 a:Int
 b:Int
 c:Int
 d:Int
 deriving DecidableEq
namespace M4
def KY (m:M4):Prop:=m.c < 0\/(m.c=0/\m.d < 0)
instance (m:M4):Decidable m.KY:=inferInstanceAs (Decidable (_\/_))
end M4
def isLet (c:Nat):Prop:=c=115\/c=114\/c=113
def LW (z:Str):Prop:=∀c∈z.cps.toList,isLet c
theorem snoc_ind {α:Type} {P:List α->Prop} (h0:P []) (hs:∀r c,P r->P (r ++ [c])) (xs:List α):P xs:=by
 have h:∀ys:List α,P ys.reverse:=λys=>by
  induction ys with
  | nil=>exact h0
  | cons y r ih=>rw [List.reverse_cons];exact hs _ _ ih
 simpa using h xs.reverse
abbrev Z2:=Int×Int
def gn (x:Z2):D:=.tup [.int x.1,.int x.2]
def Kq (x:Z2):Prop:=x.2 < 0\/(x.2=0/\x.1 < 0)
instance (x:Z2):Decidable (Kq x):=inferInstanceAs (Decidable (_\/_))
def B2 (n:Nat) (x:Z2):Prop:=kG n x.1/\kG n x.2
theorem Bs {n m:Nat} {x:Z2} (h:B2 n x) (hm:n<=m):B2 m x:=⟨bits_le h.1 hm,bits_le h.2 hm⟩
theorem HN:B2 1 ((1,0):Z2):=⟨yp _ _ (by decide),yp _ _ (by decide)⟩
theorem Fd (x y:Z2):aV (gn x) (gn y)=decide (x=y):=by
 simp only [gn,aV,dB,Mp];rw [Bool.eq_iff_iff];simp [Prod.ext_iff]
theorem AW (x:Z2):dep (gn x)=1:=by simp [gn,dep,bV]
theorem Hl {x y:Z2} {Q:D->Prop}:nO (gn x) (gn y) Q=Q (.bl (!decide (x=y))):=by
 unfold nO gF;rw [AW,AW,Fd];simp
def G2 (P:D->D->(D->Prop)->(Str->Prop)->Prop):xC:=λds Q R=>∃x y,ds=[x,y]/\P x y Q R
theorem IV {P}:∀ds (Q:D->Prop) (R:Str->Prop),G2 P ds Q R->ds.length=2:=by rintro ds Q R ⟨x,y,rfl,_⟩;rfl
theorem HH {P} {x y:D} {Q R}:G2 P [x,y] Q R=P x y Q R:=by
 unfold G2;apply propext;constructor
 ·rintro⟨x',y',e,h⟩;cases e;exact h
 ·intro h;exact⟨_,_,rfl,h⟩
def JK (p q:Int):Prop:=(p < 0/\0 < q)\/(q < 0/\0 < p)
instance (p q:Int):Decidable (JK p q):=inferInstanceAs (Decidable (_\/_))
theorem Dg {α:Type} (l:List α) (m:α) (j i:Nat) (hj:j<=l.length):(l.take j ++ m :: l.drop j)[i]?=if i < j then l[i]? else if i=j then some m else l[i - 1]?:=by
 have hl:(l.take j).length=j:=by rw [List.length_take];omega
 by_cases h1:i < j
 ·rw [if_pos h1,Lx (by omega),List.getElem?_take_of_lt h1]
 ·rw [if_neg h1,Ls (by omega),hl]
  by_cases h2:i=j
  ·rw [if_pos h2,h2,Nat.sub_self];rfl
  ·rw [if_neg h2,show i - j=(i - j - 1) + 1 by omega,LK,Mr]
   congr 1;omega
structure u3 (k:Nat) (row:List Z2):Prop where
 len:row.length=k + 3
 first:row[0]?=some (-1,0)
 last:row[k + 2]?=some (1,0)
 det:∀(i:Nat) (p r:Z2),row[i]?=some p->row[i + 1]?=some r->p.1 * r.2 - p.2 * r.1 = -1
 low:∀(i:Nat) (p:Z2),row[i]?=some p->0 < i->i < k + 2->1<=p.2
 nought:∃i,0 < i/\i < k + 2/\row[i]?=some (0,1)
 bits:∀p∈row,B2 (k + 2) p
theorem Kg:u3 0 [(-1,0),(0,1),(1,0)] where
 len:=rfl
 first:=rfl
 last:=rfl
 det:=λi p r h1 h2=>by
  match i with
  | 0=>cases h1;cases h2;decide
  | 1=>cases h1;cases h2;decide
  | 2=>cases h2
  | i + 3=>cases h1
 low:=λi p h h0 h1=>by
  have:i=1:=by omega
  subst this;cases h;decide
 nought:=⟨1,by decide,by decide,rfl⟩
 bits:=λp hp=>by
  simp only [LB,LR,or_false] at hp;rcases hp with rfl|rfl|rfl <;> exact⟨yp _ _ (by decide),yp _ _ (by decide)⟩
theorem GX {k:Nat} {row:List Z2} (h:u3 k row) {at_:Nat} (ha:at_ < k + 2) {p r:Z2} (hp:row[at_]?=some p) (hr:row[at_ + 1]?=some r) :
  u3 (k + 1) (row.take (at_ + 1) ++ (p.1 + r.1,p.2 + r.2) :: row.drop (at_ + 1)):=by
 have hl:=h.len;have g:=λi=>Dg row (p.1 + r.1,p.2 + r.2) (at_ + 1) i (by omega);have hd:=h.det at_ p r hp hr
 have pl:0<=p.2:=by
  by_cases z:at_=0
  ·subst z;rw [h.first] at hp;cases hp;decide
  ·have:=h.low at_ p hp (by omega) ha;omega
 have rl:0<=r.2:=by
  by_cases z:at_ + 1=k + 2
  ·rw [z,h.last] at hr;cases hr;decide
  ·have:=h.low (at_ + 1) r hr (by omega) (by omega);omega
 have ne:¬ (p.2=0/\r.2=0):=fun⟨a,b⟩=>by rw [a,b] at hd;simp at hd
 refine⟨by simp;omega,?_,?_,λi x y h1 h2=>?_,λi x h1 h0 h2=>?_,?_,λx hx=>?_⟩
 ·rw [g,if_pos (by omega)];exact h.first
 ·rw [g,if_neg (by omega),if_neg (by omega)];exact h.last
 ·rw [g] at h1 h2
  by_cases c1:i < at_
  ·rw [if_pos (by omega)] at h1 h2;exact h.det i x y h1 h2
  ·by_cases c2:i=at_
   ·subst c2;rw [if_pos (by omega),hp] at h1;rw [if_neg (by omega),if_pos rfl] at h2;cases h1;cases h2;show p.1 * (p.2 + r.2) - p.2 * (p.1 + r.1) = -1
    grind
   ·by_cases c3:i=at_ + 1
    ·subst c3;rw [if_neg (by omega),if_pos rfl] at h1;rw [if_neg (by omega),if_neg (by omega),Nat.add_sub_cancel,hr] at h2;cases h1;cases h2;show (p.1 + r.1) * r.2 - (p.2 + r.2) * r.1 = -1
     grind
    ·rw [if_neg (by omega),if_neg c3] at h1;rw [if_neg (by omega),if_neg (by omega)] at h2;exact h.det (i - 1) x y h1 (by rw [show i - 1 + 1=i + 1 - 1 by omega];exact h2)
 ·rw [g] at h1
  by_cases c1:i < at_ + 1
  ·rw [if_pos c1] at h1;exact h.low i x h1 h0 (by omega)
  ·rw [if_neg c1] at h1
   by_cases c2:i=at_ + 1
   ·rw [if_pos c2] at h1;cases h1;show 1<=p.2 + r.2
    omega
   ·rw [if_neg c2] at h1;exact h.low (i - 1) x h1 (by omega) (by omega)
 ·obtain⟨i,h0,h1,h2⟩:=h.nought
  by_cases c1:i < at_ + 1
  ·exact⟨i,h0,by omega,by rw [g,if_pos c1];exact h2⟩
  ·exact⟨i + 1,by omega,by omega,by rw [g,if_neg (by omega),if_neg (by omega),Nat.add_sub_cancel];exact h2⟩
 ·have hm:∀y∈row,B2 (k + 1 + 2) y:=λy hy=>Bs (h.bits y hy) (by omega);rcases LQ.mp hx with hx|hx
  ·exact hm x (List.mem_of_mem_take hx)
  ·rcases LB.mp hx with rfl|hx
   ·have b1:=h.bits p (Lg hp);have b2:=h.bits r (Lg hr)
    have e:∀{x y:Int},kG (k + 2) x->kG (k + 2) y->kG (k + 1 + 2) (x + y):=λhx hy=>by
     have:=bits_add hx hy;rw [Nat.max_self] at this;exact bits_le this (by omega)
    exact⟨e b1.1 b2.1,e b1.2 b2.2⟩
   ·exact hm x (List.mem_of_mem_drop hx)
structure bT (n:Nat) (fs:List Z2):Prop where
 len:fs.length=n
 two:2<=n
 most:n<=22
 first:fs[0]?=some (1,0)
 det0:∀p,fs[1]?=some p->p.2=1
 det:∀(i:Nat) (p r:Z2),0 < i->fs[i]?=some p->fs[i + 1]?=some r->p.1 * r.2 - p.2 * r.1 = -1
 last:∀p,fs[n - 1]?=some p->p.2=1
 low:∀(i:Nat) (p:Z2),fs[i]?=some p->0 < i->1<=p.2
 nought:(0,1)∈fs
 bits:∀p∈fs,B2 30 p
theorem Cd {k:Nat} {row:List Z2} (h:u3 k row) (hk:k<=20):bT (k + 2) ((1,0) :: (row.drop 1).take (k + 1)):=by
 have hl:=h.len
 have g:∀i,0 < i->i < k + 2->((1,0) :: (row.drop 1).take (k + 1))[i]?=row[i]?:=λi h0 h1=>by
  rw [show i=(i - 1) + 1 by omega,LK,List.getElem?_take_of_lt (by omega),Mr]
  congr 1;omega
 have len:((1,0) :: (row.drop 1).take (k + 1)).length=k + 2:=by simp;omega
 have lt:∀(i:Nat) (p:Z2),((1,0) :: (row.drop 1).take (k + 1))[i]?=some p->i < k + 2:=λi p hp=>by
  have:=(La.mp hp).1;omega
 refine⟨len,by omega,by omega,rfl,λp hp=>?_,λi p r h0 h1 h2=>?_,λp hp=>?_,λi p hp h0=>?_,?_,λp hp=>?_⟩
 ·rw [g 1 (by omega) (by omega)] at hp;have:=h.det 0 _ p h.first hp;simp at this;omega
 ·rw [g i h0 (lt _ _ h1)] at h1;rw [g (i + 1) (by omega) (lt _ _ h2)] at h2;exact h.det i p r h1 h2
 ·rw [show k + 2 - 1=k + 1 by omega,g (k + 1) (by omega) (by omega)] at hp;have:=h.det (k + 1) p _ hp h.last;simp at this;omega
 ·have:=lt _ _ hp;rw [g i h0 this] at hp;exact h.low i p hp h0 this
 ·obtain⟨i,h0,h1,h2⟩:=h.nought;exact Lg (i:=i) (by rw [g i h0 h1];exact h2)
 ·rcases LB.mp hp with rfl|hp
  ·exact Bs HN (by decide)
  ·exact Bs (h.bits p (List.mem_of_mem_drop (List.mem_of_mem_take hp))) (by omega)
theorem fO {α:Type} (f:α->D) (l:List α) (i:Nat) (x:α) (h:l[i]?=some x):j6 (l.map f) (i:Int)=some (f x):=by
 rw [yg (by omega) (by have:=(La.mp h).1;simp;omega)];simp [h]
theorem yn {x:Z2} {Q:D->Prop}:bS (gn x) (.int 0) Q=Q (.int x.1):=by
 apply propext;constructor
 ·rintro⟨v,e,h⟩;cases e;exact h
 ·intro h;exact⟨_,rfl,h⟩
theorem yc {x:Z2} {Q:D->Prop}:bS (gn x) (.int 1) Q=Q (.int x.2):=by
 apply propext;constructor
 ·rintro⟨v,e,h⟩;cases e;exact h
 ·intro h;exact⟨_,rfl,h⟩
inductive Mk where
 | half|bo|gap (j:Nat)
 deriving DecidableEq
def mS:Mk->D
 | .half=>.str "half"
 | .bo=>.str "third"
 | .gap j=>.int j
structure pK (n:Nat) (ms:List Mk):Prop where
 len:ms.length=n
 pair:∀(i j:Nat),ms[i]?=some (Mk.gap j)->j≠i/\ms[j]?=some (Mk.gap i)
 few:n=2->Mk.bo∈ms/\∀(i j:Nat),ms[i]?≠some (Mk.gap j)
structure ia (n:Nat) (left:List Nat) (ms:List Mk):Prop where
 len:ms.length=n
 nd:left.Nodup
 lt:∀i∈left,i < n
 free:∀i∈left,ms[i]?=some Mk.half
 pair:∀(i j:Nat),ms[i]?=some (Mk.gap j)->j≠i/\ms[j]?=some (Mk.gap i)
theorem ia.bo {n g:Nat} {left:List Nat} {ms:List Mk} (h:ia n (g :: left) ms):ia n left (ms.set g .bo):=by
 have hg:=h.free g Lz;have hnd:=L5.mp h.nd;refine⟨by rw [List.length_set];exact h.len,hnd.2,λi hi=>h.lt i (Ln _ hi),λi hi=>?_,λi j hij=>?_⟩
 ·rw [Lb (λz=>by subst z;exact hnd.1 hi)];exact h.free i (Ln _ hi)
 ·have hig:g≠i:=λz=>by
   subst z;rw [Lm (by rw [h.len];exact h.lt _ Lz)] at hij;cases hij
  rw [Lb hig] at hij;obtain⟨h1,h2⟩:=h.pair i j hij;refine⟨h1,?_⟩;have:g≠j:=λz=>by subst z;rw [hg] at h2;cases h2
  rw [Lb this];exact h2
theorem ia.skip {n g:Nat} {left:List Nat} {ms:List Mk} (h:ia n (g :: left) ms):ia n left ms :=
 ⟨h.len,(L5.mp h.nd).2,λi hi=>h.lt i (Ln _ hi),λi hi=>h.free i (Ln _ hi),h.pair⟩
theorem ia.two {n g o k:Nat} {left:List Nat} {ms:List Mk} (h:ia n (g :: left) ms) (ho:left[k]?=some o):ia n (left.eraseIdx k) ((ms.set g (.gap o)).set o (.gap g)):=by
 have hg:=h.free g Lz;have hnd:=L5.mp h.nd;have om:o∈left:=Lg ho;have hoh:=h.free o (Ln _ om);have ne:g≠o:=λz=>hnd.1 (z▸om);have gl:g < ms.length:=by rw [h.len];exact h.lt _ Lz
 have ol:o < ms.length:=by rw [h.len];exact h.lt _ (Ln _ om)
 have sub:∀i∈left.eraseIdx k,i∈left/\i≠o:=λi hi=>by
  refine⟨List.mem_of_mem_eraseIdx hi,λz=>?_⟩;subst z;obtain⟨j,hj1,hj2⟩:=List.mem_eraseIdx_iff_getElem?.mp hi;obtain⟨hk,ek⟩:=La.mp ho;obtain⟨hj,ej⟩:=La.mp hj2;exact hj1 ((List.getElem_inj (h₀:=hj) (h₁:=hk) hnd.2).mp (by rw [ej,ek]))
 have get:∀i,((ms.set g (.gap o)).set o (.gap g))[i]?=if i=o then some (.gap g) else if i=g then some (.gap o) else ms[i]?:=λi=>by
  by_cases c1:i=o
  ·subst c1;rw [if_pos rfl,Lm (by rw [List.length_set];exact ol)]
  ·rw [if_neg c1,Lb (Ne.symm c1)]
   by_cases c2:i=g
   ·subst c2;rw [if_pos rfl,Lm gl]
   ·rw [if_neg c2,Lb (Ne.symm c2)]
 refine⟨by rw [List.length_set,List.length_set];exact h.len,hnd.2.eraseIdx k,λi hi=>h.lt i (Ln _ (sub i hi).1),λi hi=>?_,λi j hij=>?_⟩
 ·obtain⟨h1,h2⟩:=sub i hi;rw [get,if_neg h2,if_neg (λz=>by subst z;exact hnd.1 h1)];exact h.free i (Ln _ h1)
 ·rw [get] at hij
  by_cases c1:i=o
  ·rw [if_pos c1] at hij;cases hij;subst c1;exact⟨ne,by rw [get,if_neg ne,if_pos rfl]⟩
  ·rw [if_neg c1] at hij
   by_cases c2:i=g
   ·rw [if_pos c2] at hij;cases hij;subst c2;exact⟨Ne.symm ne,by rw [get,if_pos rfl]⟩
   ·rw [if_neg c2] at hij;obtain⟨h1,h2⟩:=h.pair i j hij;refine⟨h1,?_⟩;rw [get,if_neg (λz=>by subst z;rw [hoh] at h2;cases h2),if_neg (λz=>by subst z;rw [hg] at h2;cases h2)];exact h2
theorem Bg {α β:Type} (f:α->β):∀(l:List α) (k:Nat),(l.map f).eraseIdx k=(l.eraseIdx k).map f
 | [],_=>rfl
 | _ :: _,0=>rfl
 | a :: l,k + 1=>by show f a :: (l.map f).eraseIdx k=f a :: (l.eraseIdx k).map f;rw [Bg f l k]
theorem D0 (ms:List Mk):bV (ms.map mS)=0:=by
 induction ms with
 | nil=>rfl
 | cons m r ih=>rw [LM];simp only [bV,ih];cases m <;> rfl
theorem rW (l:List Nat):bV (l.map λ(i:Nat)=>D.int i)=0:=by
 induction l with
 | nil=>rfl
 | cons m r ih=>rw [LM];simp only [bV,ih,dep];rfl
theorem zh (ms:List Mk):((ms.map mS).any λe=>aV e (.str "third"))=decide (Mk.bo∈ms):=by
 induction ms with
 | nil=>rfl
 | cons m r ih =>
  rw [LM,List.any_cons,ih]
  cases m with
  | half =>
   rw [show aV (mS .half) (.str "third")=false by decide]
   simp
  | bo=>rw [show aV (mS .bo) (.str "third")=true by decide];simp
  | gap j=>rw [show aV (mS (.gap j)) (.str "third")=false from rfl];simp
def au (l:List Nat):List D:=l.map λ(i:Nat)=>D.int i
structure kS (fs:List Z2) (ms:List Mk):Prop where
 fr:bT fs.length fs
 mar:pK fs.length ms
def qZ (fs:List Z2) (ms:List Mk):D:=.tup [.tup (fs.map gn),.tup (ms.map mS)]
theorem getD_some {α:Type} {l:List α} {i:Nat} {d:α} (h:i < l.length):l[i]?=some (l.getD i d):=by
 rw [LD,Lc h];rfl
theorem Cz {α:Type} {f:α->D} {l:List α} {i:Nat} {x:α} {Q:D->Prop} (h:l[i]?=some x) (q:Q (f x)):bS (.tup (l.map f)) (.int (i:Int)) Q:=⟨_,fO f l i x h,q⟩
open PySem L2
def fz (u v:Z2):Int:=u.1 * v.2 - u.2 * v.1
theorem vk (u v w:Z2):fz u w * v.2=fz u v * w.2 + fz v w * u.2:=by unfold fz;grind
theorem ve {a b:Int} (h:a * b < 0) (hb:0 < b):a < 0:=by
 by_cases c:a < 0
 ·exact c
 ·have:=Int.mul_nonneg (show 0<=a by omega) (Int.le_of_lt hb);omega
theorem p6 {a b:Int} (h:a * b = -1) (hb:0 < b):b=1 :=
 Int.eq_one_of_dvd_one (Int.le_of_lt hb) ⟨-a,by rw [Int.mul_neg,Int.mul_comm,h];rfl⟩
theorem bT.lt {n:Nat} {fs:List Z2} (h:bT n fs):∀(k i:Nat) (u w:Z2),0 < i->fs[i]?=some u->fs[i + k + 1]?=some w->fz u w < 0
 | 0,i,u,w,h0,hu,hw=>by
  have:=h.det i u w h0 hu hw
  unfold fz;omega
 | k + 1,i,u,w,h0,hu,hw=>by
  have hl:=(La.mp hw).1;obtain⟨v,hv⟩:∃v,fs[i + k + 1]?=some v:=⟨fs[i + k + 1]'(by omega),Lc _⟩;have h1:=bT.lt h k i u v h0 hu hv;have h2:fz v w = -1:=h.det (i + k + 1) v w (by omega) hv hw;have qu:=h.low i u hu h0;have qv:=h.low _ v hv (by omega);have qw:=h.low _ w hw (by omega);have e:=vk u v w;rw [h2] at e;have a1:fz u v * w.2 < 0:=Int.mul_neg_of_neg_of_pos h1 (by omega);have a2:fz u w * v.2 < 0:=by rw [e];omega
  exact ve a2 (by omega)
theorem bT.inj {n:Nat} {fs:List Z2} (h:bT n fs) {i j:Nat} {u:Z2} (hi:fs[i]?=some u) (hj:fs[j]?=some u):i=j:=by
 have self:fz u u=0:=by unfold fz;rw [Int.mul_comm];omega
 have top:∀k:Nat,0 < k->fs[k]?≠some (1,0):=λk hk e=>by have:=h.low k _ e hk;simp at this
 rcases Nat.lt_trichotomy i j with c|c|c
 ·exfalso
  by_cases z:0 < i
  ·have:=h.lt (j - i - 1) i u u z hi (by rw [show i + (j - i - 1) + 1=j by omega];exact hj);omega
  ·have z':i=0:=by omega
   subst z';rw [h.first] at hi;cases hi;exact top j (by omega) hj
 ·exact c
 ·exfalso
  by_cases z:0 < j
  ·have:=h.lt (i - j - 1) j u u z hj (by rw [show j + (i - j - 1) + 1=i by omega];exact hi);omega
  ·have z':j=0:=by omega
   subst z';rw [h.first] at hj;cases hj;exact top i (by omega) hi
structure Hu (n:Nat) (fs:List Z2) (i:Nat) (u v w:Z2):Prop where
 i0:0 < i
 il:i < n
 near:fs[i - 1]?=some u
 mid:fs[i]?=some v
 far:fs[(i + 1) % n]?=some w
 ne:v≠(0,1)
 one:(fz u w).natAbs=1
theorem yS {n:Nat} {fs:List Z2} (h:bT n fs) (m:Nat):∀k,k<=n->0 < k->(∀i,0 < i->i < k->∀p,fs[i]?=some p->p.2<=m)\/∃i p,0 < i/\i < k/\fs[i]?=some p/\(m:Int) < p.2/\∀j,0 < j->j < k->∀r,fs[j]?=some r->r.2<=p.2
 | 0,_,h0=>absurd h0 (by decide)
 | 1,_,_=>.inl λi hi h1=>by omega
 | k + 2,hk,_=>by
  have hl:=h.len;obtain⟨p,hp⟩:∃p,fs[k + 1]?=some p:=⟨fs[k + 1]'(by omega),Lc _⟩;rcases yS h m (k + 1) (by omega) (by omega) with a|⟨i,r,i0,il,hr,hm,a⟩
  ·by_cases c:p.2<=m
   ·refine .inl λi h0 h1 r hr=>?_;rcases LS.mp h1 with z|z
    ·exact a i h0 z r hr
    ·subst z;rw [hp] at hr;cases hr;exact c
   ·refine .inr ⟨k + 1,p,by omega,by omega,hp,by omega,λj h0 h1 r hr=>?_⟩;rcases LS.mp h1 with z|z
    ·have:=a j h0 z r hr;omega
    ·subst z;rw [hp] at hr;cases hr;exact Int.le_refl _
  ·by_cases c:p.2<=r.2
   ·refine .inr ⟨i,r,i0,by omega,hr,hm,λj h0 h1 q hq=>?_⟩;rcases LS.mp h1 with z|z
    ·exact a j h0 z q hq
    ·subst z;rw [hp] at hq;cases hq;exact c
   ·refine .inr ⟨k + 1,p,by omega,by omega,hp,by omega,λj h0 h1 q hq=>?_⟩;rcases LS.mp h1 with z|z
    ·have:=a j h0 z q hq;omega
    ·subst z;rw [hp] at hq;cases hq;exact Int.le_refl _
theorem Gr {n:Nat} {fs:List Z2} (h:bT n fs) (hn:2 < n):∃i u v w,Hu n fs i u v w:=by
 have hl:=h.len;have at_:∀i,i < n->∃p,fs[i]?=some p:=λi hi=>⟨fs[i]'(by omega),Lc _⟩;rcases yS h 1 n (Lh _) (by omega) with a|⟨i,v,i0,il,hv,hm,a⟩
 ·
  obtain⟨p1,h1⟩:=at_ 1 (by omega);obtain⟨p2,h2⟩:=at_ 2 hn;obtain⟨pl,hpl⟩:=at_ (n - 1) (by omega);obtain⟨pk,hpk⟩:=at_ (n - 2) (by omega);have q2:p2.2=1:=by have:=a 2 (by omega) hn p2 h2;have:=h.low 2 p2 h2 (by omega);omega
  have qk:pk.2=1:=by have:=a (n - 2) (by omega) (by omega) pk hpk;have:=h.low _ pk hpk (by omega);omega
  by_cases c:p1=(0,1)
  ·have cl:pl≠(0,1):=λe=>by
    have:=h.inj (i:=1) (j:=n - 1) (u:=(0,1)) (by rw [h1,c]) (by rw [hpl,e]);omega
   refine⟨n - 1,pk,pl,(1,0),by omega,by omega,by rw [show n - 1 - 1=n - 2 by omega];exact hpk,hpl,?_,cl,?_⟩
   ·rw [show n - 1 + 1=n by omega,Nat.mod_self];exact h.first
   ·unfold fz;show (pk.1 * 0 - pk.2 * 1).natAbs=1;rw [qk];simp
  ·refine⟨1,(1,0),p1,p2,by omega,by omega,h.first,h1,?_,c,?_⟩
   ·rw [Nat.mod_eq_of_lt (by omega)];exact h2
   ·unfold fz;show (1 * p2.2 - 0 * p2.1).natAbs=1;rw [q2];simp
 ·
  have i1:1 < i:=by
   rcases Mf 1 i with c|c
   ·exact c
   ·have:i=1:=by omega
    subst this;have:=h.det0 v hv;omega
  have i2:i + 1 < n:=by
   rcases Mf (i + 1) n with c|c
   ·exact c
   ·have:i=n - 1:=by omega
    subst this;have:=h.last v hv;omega
  obtain⟨u,hu⟩:=at_ (i - 1) (by omega);obtain⟨w,hw⟩:=at_ (i + 1) i2;have d1:fz u v = -1:=h.det (i - 1) u v (by omega) hu (by rw [show i - 1 + 1=i by omega];exact hv);have d2:fz v w = -1:=h.det i v w i0 hv hw;have qu:=h.low _ u hu (by omega);have qw:=h.low _ w hw (by omega);have mu:=a (i - 1) (by omega) (by omega) u hu;have mw:=a (i + 1) (by omega) i2 w hw;have e:=vk u v w;rw [d1,d2] at e;refine⟨i,u,v,w,i0,il,hu,hv,by rw [Nat.mod_eq_of_lt i2];exact hw,λz=>by rw [z] at hm;simp at hm,?_⟩
  have nu:u.2≠v.2:=λz=>by
   unfold fz at d1;rw [z,Int.mul_comm v.2] at d1;have:(u.1 - v.1) * v.2 = -1:=by rw [Int.sub_mul];exact d1
   have:=p6 this (by omega);omega
  have nw:w.2≠v.2:=λz=>by
   unfold fz at d2;rw [z,Int.mul_comm v.2] at d2;have:(v.1 - w.1) * v.2 = -1:=by rw [Int.sub_mul];exact d2
   have:=p6 this (by omega);omega
  have lo:fz u w * v.2 < 0:=by rw [e];omega
  have hi:-(2 * v.2) < fz u w * v.2:=by rw [e];omega
  have l1:fz u w < 0:=ve lo (by omega)
  have l2:-2 < fz u w:=by
   by_cases c:-2 < fz u w
   ·exact c
   ·have:=Int.mul_le_mul_of_nonneg_right (show fz u w<=-2 by omega) (show 0<=v.2 by omega);omega
  omega
theorem uQ {α:Type} (l:List α) (i j:Nat):(l.eraseIdx i)[j]?=if j < i then l[j]? else l[j + 1]?:=List.getElem?_eraseIdx ..
theorem bT.cut {n:Nat} {fs:List Z2} (h:bT n fs) (hn:2 < n) {i:Nat} {u v w:Z2} (e:Hu n fs i u v w):bT (n - 1) (fs.eraseIdx i):=by
 have hl:=h.len;have i0:=e.i0;have il:=e.il;have hu:=e.near;have hw:=e.far;have one:=e.one;have g:=λj=>uQ fs i j;have sub:∀p,p∈fs.eraseIdx i->p∈fs:=λp hp=>List.mem_of_mem_eraseIdx hp;refine⟨by rw [List.length_eraseIdx,if_pos (by omega)];omega,by omega,by have:=h.most;omega,?_,λp hp=>?_,λj p r j0 hp hr=>?_,λp hp=>?_,λj p hp j0=>?_,?_,λp hp=>h.bits p (sub p hp)⟩
 ·rw [g,if_pos i0];exact h.first
 ·rw [g] at hp
  by_cases c:1 < i
  ·rw [if_pos c] at hp;exact h.det0 p hp
  ·have:i=1:=by omega
   subst this;rw [if_neg c] at hp;rw [Nat.mod_eq_of_lt (by omega)] at hw;rw [hw] at hp;cases hp;rw [h.first] at hu;cases hu;have:=h.low _ w hw (by omega);unfold fz at one;simp at one;omega
 ·rw [g] at hp hr
  by_cases c:j + 1 < i
  ·rw [if_pos (by omega)] at hp;rw [if_pos c] at hr;exact h.det j p r j0 hp hr
  ·rw [if_neg c] at hr
   by_cases c2:j + 1=i
   ·rw [if_pos (by omega)] at hp;rw [show i - 1=j by omega,hp] at hu;cases hu;have:=(La.mp hr).1;rw [Nat.mod_eq_of_lt (by omega),<- c2,hr] at hw;cases hw;have:=h.lt 1 j _ _ j0 hp hr;show fz _ _ = -1
    omega
   ·rw [if_neg (by omega)] at hp;exact h.det (j + 1) p r (by omega) hp hr
 ·rw [g] at hp
  by_cases c:i=n - 1
  ·rw [if_pos (by omega),show n - 1 - 1=i - 1 by omega,hu] at hp;cases hp;rw [c,show n - 1 + 1=n by omega,Nat.mod_self,h.first] at hw;cases hw;have:=h.low _ u hu (by omega);unfold fz at one;simp at one;omega
  ·rw [if_neg (by omega),show n - 1 - 1 + 1=n - 1 by omega] at hp;exact h.last p hp
 ·rw [g] at hp
  by_cases c:j < i
  ·rw [if_pos c] at hp;exact h.low j p hp j0
  ·rw [if_neg c] at hp;exact h.low (j + 1) p hp (by omega)
 ·obtain⟨k,hk⟩:=LL h.nought;have hk':=(La.mp hk).1;have ne:k≠i:=λz=>by rw [z,e.mid] at hk;exact e.ne (Li hk)
  by_cases c:k < i
  ·exact Lg (i:=k) (by rw [g,if_pos c];exact hk)
  ·exact Lg (i:=k - 1) (by rw [g,if_neg (by omega),show k - 1 + 1=k by omega];exact hk)
abbrev uI:=Z2×Z2
def nx (n i:Nat):Nat:=if i + 1=n then 0 else i + 1
def Bd (row:List Z2) (e:uI):Prop:=∃i,row[i]?=some e.1/\row[nx row.length i]?=some e.2
def Inj (row:List Z2):Prop:=∀(i j:Nat) (u:Z2),row[i]?=some u->row[j]?=some u->i=j
theorem As {n i:Nat} (h:i < n):(i + 1) % n=nx n i:=by
 unfold nx
 by_cases c:i + 1=n
 ·rw [if_pos c,c,Nat.mod_self]
 ·rw [if_neg c,Nat.mod_eq_of_lt (by omega)]
theorem BY {row:List Z2} (hi:Inj row) {i:Nat} {u v w:Z2} (i0:0 < i) (h2:2 < row.length)
  (hu:row[i - 1]?=some u) (hv:row[i]?=some v) (hw:row[nx row.length i]?=some w) (e:uI) :
  Bd (row.eraseIdx i) e↔e=(u,w)\/(Bd row e/\e.1≠v/\e.2≠v):=by
 have il:=(La.mp hv).1;have hl:(row.eraseIdx i).length=row.length - 1:=by rw [List.length_eraseIdx,if_pos il]
 have g:=λj=>uQ row i j
 have gap:(row.eraseIdx i)[i - 1]?=some u/\(row.eraseIdx i)[nx (row.length - 1) (i - 1)]?=some w:=by
  refine⟨by rw [g,if_pos (by omega)];exact hu,?_⟩;rw [g]
  by_cases c:i + 1=row.length
  ·have e1:nx (row.length - 1) (i - 1)=0:=by unfold nx;rw [if_pos (by omega)]
   have e2:nx row.length i=0:=by unfold nx;rw [if_pos c]
   rw [e2] at hw;rw [e1,if_pos i0];exact hw
  ·have e1:nx (row.length - 1) (i - 1)=i:=by unfold nx;rw [if_neg (by omega)];omega
   have e2:nx row.length i=i + 1:=by unfold nx;rw [if_neg c]
   rw [e2] at hw;rw [e1,if_neg (by omega)];exact hw
 have nv:∀j x,row[j]?=some x->j≠i->x≠v:=λj x hj hne z=>hne (hi j i v (z▸hj) hv)
 constructor
 ·rintro⟨j,ha,hb⟩;rw [hl] at hb
  by_cases c1:j + 1=i
  ·have:j=i - 1:=by omega
   subst this
   left
   rw [gap.1] at ha;rw [gap.2] at hb;exact Mb (Li ha).symm (Li hb).symm
  ·right
   rw [g] at ha hb
   by_cases c2:j < i
   ·have e1:nx (row.length - 1) j=j + 1:=by unfold nx;rw [if_neg (by omega)]
    have e2:nx row.length j=j + 1:=by unfold nx;rw [if_neg (by omega)]
    rw [if_pos c2] at ha;rw [e1,if_pos (by omega)] at hb;exact⟨⟨j,ha,by rw [e2];exact hb⟩,nv j _ ha (by omega),nv (j + 1) _ hb (by omega)⟩
   ·rw [if_neg c2] at ha
    by_cases c3:j + 1=row.length - 1
    ·have e1:nx (row.length - 1) j=0:=by unfold nx;rw [if_pos c3]
     have e2:nx row.length (j + 1)=0:=by unfold nx;rw [if_pos (by omega)]
     rw [e1,if_pos i0] at hb;exact⟨⟨j + 1,ha,by rw [e2];exact hb⟩,nv _ _ ha (by omega),nv 0 _ hb (by omega)⟩
    ·have e1:nx (row.length - 1) j=j + 1:=by unfold nx;rw [if_neg c3]
     have e2:nx row.length (j + 1)=j + 2:=by unfold nx;rw [if_neg (by omega)]
     rw [e1,if_neg (by omega)] at hb;exact⟨⟨j + 1,ha,by rw [e2];exact hb⟩,nv _ _ ha (by omega),nv _ _ hb (by omega)⟩
 ·rintro (rfl|⟨⟨j,ha,hb⟩,h1,h2'⟩)
  ·exact⟨i - 1,gap.1,by rw [hl];exact gap.2⟩
  ·have j1:j≠i:=λz=>h1 (by rw [z,hv] at ha;exact (Li ha).symm);have j2:nx row.length j≠i:=λz=>h2' (by rw [z,hv] at hb;exact (Li hb).symm);have jl:=(La.mp ha).1
   by_cases c:j < i
   ·have e2:nx row.length j=j + 1:=by unfold nx;rw [if_neg (by omega)]
    rw [e2] at hb j2;refine⟨j,by rw [g,if_pos c];exact ha,?_⟩;have e1:nx (row.length - 1) j=j + 1:=by unfold nx;rw [if_neg (by omega)]
    rw [hl,e1,g,if_pos (by omega)];exact hb
   ·refine⟨j - 1,by rw [g,if_neg (by omega),show j - 1 + 1=j by omega];exact ha,?_⟩;rw [hl,g]
    by_cases c3:j + 1=row.length
    ·have e1:nx (row.length - 1) (j - 1)=0:=by unfold nx;rw [if_pos (by omega)]
     have e2:nx row.length j=0:=by unfold nx;rw [if_pos c3]
     rw [e2] at hb;rw [e1,if_pos i0];exact hb
    ·have e1:nx (row.length - 1) (j - 1)=j:=by unfold nx;rw [if_neg (by omega)];omega
     have e2:nx row.length j=j + 1:=by unfold nx;rw [if_neg c3]
     rw [e2] at hb;rw [e1,if_neg (by omega)];exact hb
abbrev fH:=Z2×Z2×Z2
def te (t:fH):List uI:=[(t.1,t.2.1),(t.2.1,t.2.2),(t.2.2,t.1)]
def fy (ts:List fH):List uI:=ts.flatMap te
def rv (e:uI):uI:=(e.2,e.1)
def oA:uI:=((1,0),(0,1))
def wX:uI:=((0,1),(1,0))
inductive fq:List Z2->List fH->Prop
 | done {row:List Z2}:row.length=2->fq row []
 | cut {row:List Z2} {i:Nat} {u v w:Z2} {ts:List fH}:2 < row.length->Hu row.length row i u v w->fq (row.eraseIdx i) ts->fq row ((u,v,w) :: ts)
theorem cu {t:fH} {ts:List fH} {e:uI}:e∈fy (t :: ts)↔e=(t.1,t.2.1)\/e=(t.2.1,t.2.2)\/e=(t.2.2,t.1)\/e∈fy ts:=by
 unfold fy te;simp only [List.flatMap_cons,LQ,LB,LR,or_false,or_assoc]
theorem Bd.next {row:List Z2} (hi:Inj row) {a b c:Z2} (h1:Bd row (a,b)) (h2:Bd row (a,c)):b=c:=by
 obtain⟨i,a1,b1⟩:=h1;obtain⟨j,a2,b2⟩:=h2;have:=hi i j a a1 a2;subst this;rw [b1] at b2;exact Li b2
theorem Bd.back {row:List Z2} (hi:Inj row) (hl:2 < row.length) {a b:Z2} (h1:Bd row (a,b)) (h2:Bd row (b,a)):False:=by
 obtain⟨i,a1,b1⟩:=h1;obtain⟨j,b2,a2⟩:=h2;have e1:=hi _ _ _ b1 b2;have e2:=hi _ _ _ a1 a2;have l1:=(La.mp a1).1;have l2:=(La.mp b2).1;unfold nx at e1 e2
 split at e1 <;> split at e2 <;> omega
theorem Bd.mem {row:List Z2} {e:uI} (h:Bd row e):e.1∈row/\e.2∈row:=by
 obtain⟨i,a,b⟩:=h;exact⟨Lg a,Lg b⟩
structure Cut (row row':List Z2) (u v w:Z2):Prop where
 inj:Inj row
 inj':Inj row'
 more:2 < row.length
 one:Bd row (u,v)
 two:Bd row (v,w)
 bd:∀e,Bd row' e↔e=(u,w)\/(Bd row e/\e.1≠v/\e.2≠v)
 off:v∉row'
 ne0:v≠(0,1)
 ne1:v≠(1,0)
 uv:u≠v
 vw:v≠w
 uw:u≠w
 sub:∀p∈row',p∈row
 mu:u∈row
 mv:v∈row
 mw:w∈row
theorem bT.IT {row:List Z2} (h:bT row.length row) (hn:2 < row.length) {i:Nat} {u v w:Z2} (e:Hu row.length row i u v w):Cut row (row.eraseIdx i) u v w:=by
 have i0:=e.i0;have il:=e.il;have hi:Inj row:=λ_ _ _=>h.inj;have hw:=e.far;rw [As il] at hw;have hc:=h.cut hn e;have n1:nx row.length (i - 1)=i:=by unfold nx;rw [if_neg (by omega)];omega
 have b1:Bd row (u,v):=⟨i - 1,e.near,by rw [n1];exact e.mid⟩;have b2:Bd row (v,w):=⟨i,e.mid,hw⟩
 have uv:u≠v:=λz=>by
  have:=hi _ _ _ e.near (z▸e.mid);omega
 refine⟨hi,λ_ _ _=>hc.inj,hn,b1,b2,BY hi i0 hn e.near e.mid hw,λhm=>?_,e.ne,λz=>?_,uv,λz=>?_,λz=>?_,λp hp=>List.mem_of_mem_eraseIdx hp,b1.mem.1,b1.mem.2,b2.mem.2⟩
 ·obtain⟨j,hj⟩:=LL hm;rw [uQ] at hj
  by_cases c:j < i
  ·rw [if_pos c] at hj;have:=hi _ _ _ hj e.mid;omega
  ·rw [if_neg c] at hj;have:=hi _ _ _ hj e.mid;omega
 ·have:=hi _ _ _ h.first (z▸e.mid);omega
 ·have:=hi _ _ _ (z▸e.mid) hw;unfold nx at this;split at this <;> omega
 ·have:=hi _ _ _ (z▸e.near) hw;unfold nx at this;split at this <;> omega
theorem bT.pair {row:List Z2} (h:bT row.length row) (h2:row.length=2):row=[(1,0),(0,1)]:=by
 match row,h2,h.first,h.nought with
 | [a,b],_,f,m =>
  cases (Li f:a=(1,0));simp at m;rw [<- m]
theorem um (e:uI):Bd [(1,0),(0,1)] e↔e=oA\/e=wX:=by
 constructor
 ·rintro⟨i,a,b⟩
  match i with
  | 0=>exact .inl (Mb (Li a).symm (Li b).symm)
  | 1=>exact .inr (Mb (Li a).symm (Li b).symm)
  | i + 2=>cases a
 ·rintro (rfl|rfl)
  ·exact⟨0,rfl,rfl⟩
  ·exact⟨1,rfl,rfl⟩
structure eZ (row:List Z2) (ts:List fH):Prop where
 inn:∀e∈fy ts,e.1∈row/\e.2∈row
 ne:∀e∈fy ts,e.1≠e.2
 none:∀e,Bd row e->rv e∉fy ts
 dif:(fy ts).Nodup
 a:oA∈fy ts↔¬ Bd row wX
 b:wX∈fy ts↔¬ Bd row oA
 c:∀e,Bd row e->e≠oA->e≠wX->e∈fy ts
 d:∀e∈fy ts,¬ Bd row e->e≠oA->e≠wX->rv e∈fy ts
 e:∀S:uI->Prop,(∀t∈ts,(S (t.1,t.2.1)->S (t.2.1,t.2.2))/\(S (t.2.1,t.2.2)->S (t.2.2,t.1))/\(S (t.2.2,t.1)->S (t.1,t.2.1)))->(∀e∈fy ts,¬ Bd row e->S e->S (rv e))->(oA∈fy ts->S oA)->(wX∈fy ts->S wX)->∀e∈fy ts,S e
theorem zQ:eZ [(1,0),(0,1)] [] where
 inn:=λe h=>by cases h
 ne:=λe h=>by cases h
 none:=λe _ h=>by cases h
 dif:=List.nodup_nil
 a:=⟨λh=>absurd h (by simp [fy]),λh=>absurd ((um _).mpr (.inr rfl)) h⟩
 b:=⟨λh=>absurd h (by simp [fy]),λh=>absurd ((um _).mpr (.inl rfl)) h⟩
 c:=λe h h1 h2=>((um e).mp h).elim (λz=>absurd z h1) (λz=>absurd z h2)
 d:=λe h=>by cases h
 e:=λS _ _ _ _ e h=>by cases h
theorem sO {row row':List Z2} {u v w:Z2} {ts:List fH} (k:Cut row row' u v w) (h:eZ row' ts) {x y:uI} (hr:rv x=y) (hx:x.1≠v/\x.2≠v)
  (h':x∈fy ts↔¬ Bd row' y):x∈fy ((u,v,w) :: ts)↔¬ Bd row y:=by
 subst hr;rw [cu]
 by_cases c:x=(w,u)
 ·subst c;refine⟨λ_ hb=>?_,λ_=>.inr (.inr (.inl rfl))⟩;exact k.vw (Bd.next k.inj k.one hb)
 ·have:Bd row' (rv x)↔Bd row (rv x):=by
   rw [k.bd];refine⟨?_,λhb=>.inr ⟨hb,hx.2,hx.1⟩⟩
   rintro (z|z)
   ·exact absurd (by have:=congrArg rv z;exact this) c
   ·exact z.1
  rw [<- this,<- h'];refine⟨?_,λm=>.inr (.inr (.inr m))⟩
  rintro (z|z|z|z)
  ·exact absurd (by rw [z]) hx.2
  ·exact absurd (by rw [z]) hx.1
  ·exact absurd z c
  ·exact z
theorem CT {row row':List Z2} {u v w:Z2} {ts:List fH} (k:Cut row row' u v w) (h:eZ row' ts):eZ row ((u,v,w) :: ts):=by
 have novert:∀e∈fy ts,e.1≠v/\e.2≠v:=λe he=>⟨λz=>k.off (z▸(h.inn e he).1),λz=>k.off (z▸(h.inn e he).2)⟩;have buw:Bd row' (u,w):=(k.bd _).mpr (.inl rfl);have nuw:¬ Bd row (u,w):=λhb=>k.vw (Bd.next k.inj k.one hb);have nwu:(w,u)∉fy ts:=h.none (u,w) buw;refine⟨λe he=>?_,λe he=>?_,λe hb he=>?_,?_,sO k h rfl ⟨λz=>k.ne1 z.symm,λz=>k.ne0 z.symm⟩ h.a,sO k h rfl ⟨λz=>k.ne0 z.symm,λz=>k.ne1 z.symm⟩ h.b,λe hb n1 n2=>?_,λe he hb n1 n2=>?_,λS hr hv h1 h2=>?_⟩
 ·rcases cu.mp he with rfl|rfl|rfl|m
  ·exact⟨k.mu,k.mv⟩
  ·exact⟨k.mv,k.mw⟩
  ·exact⟨k.mw,k.mu⟩
  ·exact⟨k.sub _ (h.inn e m).1,k.sub _ (h.inn e m).2⟩
 ·rcases cu.mp he with rfl|rfl|rfl|m
  ·exact k.uv
  ·exact k.vw
  ·exact λz=>k.uw z.symm
  ·exact h.ne e m
 ·rcases cu.mp he with z|z|z|m
  ·have:e=(v,u):=congrArg rv z;exact Bd.back k.inj k.more k.one (this▸hb)
  ·have:e=(w,v):=congrArg rv z;exact Bd.back k.inj k.more k.two (this▸hb)
  ·have:e=(u,w):=congrArg rv z;exact nuw (this▸hb)
  ·have nv:=novert _ m;exact h.none e ((k.bd e).mpr (.inr ⟨hb,nv.2,nv.1⟩)) m
 ·show (te (u,v,w) ++ fy ts).Nodup
  refine Mj.mpr ⟨?_,h.dif,?_⟩
  ·unfold te;simp only [L5,LB,LR,or_false,not_or,Prod.mk.injEq,not_and,not_false_eq_true,List.nodup_nil,and_true];exact⟨⟨λz=>absurd z k.uv,λz=>absurd z k.uw⟩,λz=>absurd z k.vw⟩
  ·intro a ha b hb z;subst z;have nv:=novert _ hb;unfold te at ha;simp only [LB,LR,or_false] at ha;rcases ha with rfl|rfl|rfl
   ·exact nv.2 rfl
   ·exact nv.1 rfl
   ·exact nwu hb
 ·by_cases c:e.1=v
  ·have:e=(v,w):=Mb c (Bd.next k.inj (show Bd row (v,e.2) by rw [<- c];exact hb) k.two);exact cu.mpr (.inr (.inl this))
  ·by_cases c2:e.2=v
   ·obtain⟨i,a1,b1⟩:=hb;obtain⟨j,a2,b2⟩:=k.one;have il:=(La.mp a1).1;have jl:=(La.mp a2).1;have:=k.inj _ _ v (c2▸b1) b2;have ij:i=j:=by unfold nx at this;split at this <;> split at this <;> omega
    subst ij;rw [a1] at a2;exact cu.mpr (.inl (Mb (Li a2) c2))
   ·exact cu.mpr (.inr (.inr (.inr (h.c e ((k.bd e).mpr (.inr ⟨hb,c,c2⟩)) n1 n2))))
 ·rcases cu.mp he with z|z|z|m
  ·exact absurd (z▸k.one) hb
  ·exact absurd (z▸k.two) hb
  ·have:rv e=(u,w):=congrArg rv z;rw [this];refine cu.mpr (.inr (.inr (.inr (h.c _ buw (λq=>n2 ?_) (λq=>n1 ?_)))))
   ·rw [z];exact congrArg rv q
   ·rw [z];exact congrArg rv q
  ·by_cases c:Bd row' e
   ·rcases (k.bd e).mp c with rfl|⟨q,_⟩
    ·exact cu.mpr (.inr (.inr (.inl rfl)))
    ·exact absurd q hb
   ·exact cu.mpr (.inr (.inr (.inr (h.d e m c n1 n2))))
 ·have old:∀e∈fy ts,S e:=h.e S (λt ht=>hr t (Ln _ ht)) (λe he hb=>by
    refine hv e (cu.mpr (.inr (.inr (.inr he)))) λq=>hb ?_;have nv:=novert e he
    exact (k.bd e).mpr (.inr ⟨q,nv.1,nv.2⟩)) (λm=>h1 (cu.mpr (.inr (.inr (.inr m))))) (λm=>h2 (cu.mpr (.inr (.inr (.inr m)))))
  have r:=hr (u,v,w) (Lz ..)
  have last:S (w,u):=by
   by_cases c1:(u,w)=oA
   ·have:(w,u)=wX:=congrArg rv c1;rw [this];exact h2 (cu.mpr (.inr (.inr (.inl this.symm))))
   ·by_cases c2:(u,w)=wX
    ·have:(w,u)=oA:=congrArg rv c2;rw [this];exact h1 (cu.mpr (.inr (.inr (.inl this.symm))))
    ·have m:=h.c _ buw c1 c2;exact hv (u,w) (cu.mpr (.inr (.inr (.inr m)))) nuw (old _ m)
  intro e he;rcases cu.mp he with rfl|rfl|rfl|m
  ·exact r.2.2 last
  ·exact r.1 (r.2.2 last)
  ·exact last
  ·exact old e m
theorem u9 {row:List Z2} {ts:List fH} (t:fq row ts):bT row.length row->eZ row ts:=by
 induction t with
 | done h2=>intro h;rw [h.pair h2];exact zQ
 | cut hn e _ ih =>
  rename_i row i u v w ts _;intro h;have hc:=h.cut hn e;have hl:(row.eraseIdx i).length=row.length - 1:=by rw [List.length_eraseIdx,if_pos e.il]
  exact CT (h.IT hn e) (ih (by rw [hl];exact hc))
inductive cf where
 | gap (i:Nat)|edge (e:uI)
 deriving DecidableEq
def bE (fs:List Z2) (i:Nat):uI:=(fs.getD i (1,0),fs.getD (nx fs.length i) (1,0))
theorem Co {n i:Nat} (h:i < n):nx n i < n:=by unfold nx;split <;> omega
section
variable {fs:List Z2} {ms:List Mk} {ts:List fH} {ha th:cf->Option cf}
theorem my {l:List Z2} {i:Nat} (h:i < l.length):l[i]?=some (l.getD i (1,0)):=by
 rw [LD,Lc h];rfl
theorem yj {i:Nat} (h:i < fs.length):Bd fs (bE fs i):=⟨i,my h,my (Co h)⟩
theorem tD {e:uI} (h:Bd fs e):∃i,i < fs.length/\e=bE fs i:=by
 obtain⟨i,h1,h2⟩:=h;have hi:=(La.mp h1).1;rw [my hi] at h1;rw [my (Co hi)] at h2;exact⟨i,hi,Mb (Li h1).symm (Li h2).symm⟩
theorem qd (h:bT fs.length fs) {i j:Nat} (hi:i < fs.length) (hj:j < fs.length) (e:bE fs i=bE fs j):i=j :=
 h.inj (my hi) (by rw [my hj];exact congrArg some (congrArg Prod.fst e).symm)
structure Links (fs:List Z2) (ms:List Mk) (ts:List fH) (ha th:cf->Option cf):Prop where
 rot:∀t∈ts,th (.edge (t.1,t.2.1))=some (.edge (t.2.1,t.2.2))/\th (.edge (t.2.1,t.2.2))=some (.edge (t.2.2,t.1))/\th (.edge (t.2.2,t.1))=some (.edge (t.1,t.2.1))
 thg:∀i,ms[i]?=some Mk.bo->th (.gap i)=some (.gap i)
 hag:∀i,ms[i]?=some Mk.bo->ha (.gap i)=some (.edge (bE fs i))/\ha (.edge (bE fs i))=some (.gap i)
 hah:∀i,ms[i]?=some Mk.half->ha (.edge (bE fs i))=some (.edge (bE fs i))
 ham:∀i j,ms[i]?=some (Mk.gap j)->ha (.edge (bE fs i))=some (.edge (bE fs j))
 hai:∀e∈fy ts,¬ Bd fs e->ha (.edge e)=some (.edge (rv e))
def rd (ms:List Mk) (ts:List fH):cf->Prop
 | .gap i=>ms[i]?=some Mk.bo
 | .edge e=>e∈fy ts
theorem l5 {e:uI} (h:e∈fy ts):∃t∈ts,e∈te t:=List.mem_flatMap.mp h
theorem AJ {t:fH} (h:t∈ts) {e:uI} (he:e∈te t):e∈fy ts:=List.mem_flatMap.mpr ⟨t,h,he⟩
theorem lL (h:bT fs.length fs) (hn:2 < fs.length) (k:eZ fs ts) {i:Nat} (hi:i < fs.length):bE fs i∈fy ts:=by
 have hb:=yj hi;have inj:Inj fs:=λ_ _ _=>h.inj
 by_cases c1:bE fs i=oA
 ·rw [c1] at hb ⊢;exact k.a.mpr λh2=>Bd.back inj hn hb h2
 ·by_cases c2:bE fs i=wX
  ·rw [c2] at hb ⊢;exact k.b.mpr λh2=>Bd.back inj hn h2 hb
  ·exact k.c _ hb c1 c2
theorem Ij (k:eZ fs ts) {e:uI} (he:e∈fy ts) (hb:¬ Bd fs e):rv e∈fy ts:=by
 by_cases c1:e=oA
 ·subst c1;exact k.b.mpr hb
 ·by_cases c2:e=wX
  ·subst c2;exact k.a.mpr hb
  ·exact k.d e he hb c1 c2
theorem tJ (m:pK fs.length ms) {i:Nat} (hi:i < fs.length):ms[i]?=some Mk.half\/ms[i]?=some Mk.bo\/∃j,j < fs.length/\ms[i]?=some (Mk.gap j):=by
 have hl:=m.len;have:ms[i]?=some (ms[i]'(by omega)):=Lc _
 cases e:ms[i]'(by omega) with
 | half=>rw [e] at this;exact .inl this
 | bo=>rw [e] at this;exact .inr (.inl this)
 | gap j =>
  rw [e] at this;have q:=(La.mp (m.pair i j this).2).1;exact .inr (.inr ⟨j,by omega,this⟩)
theorem dW (m:pK fs.length ms) {i:Nat} {x:Mk} (h:ms[i]?=some x):i < fs.length:=by
 have:=(La.mp h).1;have:=m.len;omega
theorem jS (h:kS fs ms) (hn:2 < fs.length) (k:eZ fs ts) (l:Links fs ms ts ha th) {p:cf} (hp:rd ms ts p):∃q,ha p=some q/\rd ms ts q/\ha q=some p:=by
 cases p with
 | gap i =>
  have hp':ms[i]?=some Mk.bo:=hp
  exact⟨_,(l.hag i hp').1,lL h.fr hn k (dW h.mar hp'),(l.hag i hp').2⟩
 | edge e =>
  have he:e∈fy ts:=hp
  by_cases hb:Bd fs e
  ·obtain⟨i,hi,rfl⟩:=tD hb;rcases tJ h.mar hi with c|c|⟨j,hj,c⟩
   ·exact⟨_,l.hah i c,he,l.hah i c⟩
   ·exact⟨_,(l.hag i c).2,c,(l.hag i c).1⟩
   ·exact⟨_,l.ham i j c,lL h.fr hn k hj,l.ham j i (h.mar.pair i j c).2⟩
  ·have r:=Ij k he hb;refine⟨_,l.hai e he hb,r,?_⟩;have nb:¬ Bd fs (rv e):=λq=>k.none _ q he;exact l.hai (rv e) r nb
theorem vW (l:Links fs ms ts ha th) {p:cf} (hp:rd ms ts p):∃q,th p=some q/\rd ms ts q:=by
 cases p with
 | gap i=>exact⟨_,l.thg i hp,hp⟩
 | edge e =>
  obtain⟨t,ht,he⟩:=l5 hp;have r:=l.rot t ht;have m:∀x∈te t,x∈fy ts:=λx hx=>AJ ht hx;unfold te at he m;simp only [LB,LR,or_false] at he;rcases he with rfl|rfl|rfl
  ·exact⟨_,r.1,m _ (by simp)⟩
  ·exact⟨_,r.2.1,m _ (by simp)⟩
  ·exact⟨_,r.2.2,m _ (by simp)⟩
theorem Ha (h:kS fs ms) (hn:2 < fs.length) (k:eZ fs ts) (l:Links fs ms ts ha th) {p:cf} (hp:rd ms ts p):ha p=some p↔∃i,ms[i]?=some Mk.half/\p=.edge (bE fs i):=by
 constructor
 ·intro hf
  cases p with
  | gap i=>rw [(l.hag i hp).1] at hf;cases hf
  | edge e =>
   have he:e∈fy ts:=hp
   by_cases hb:Bd fs e
   ·obtain⟨i,hi,rfl⟩:=tD hb;rcases tJ h.mar hi with c|c|⟨j,hj,c⟩
    ·exact⟨i,c,rfl⟩
    ·rw [(l.hag i c).2] at hf;cases hf
    ·rw [l.ham i j c] at hf;have:=qd h.fr hj hi (by injection hf with q;injection q);exact absurd this (h.mar.pair i j c).1
   ·rw [l.hai e he hb] at hf;have q:rv e=e:=by injection hf with q;injection q
    exact absurd (congrArg Prod.fst q).symm (k.ne e he)
 ·rintro⟨i,c,rfl⟩;exact l.hah i c
theorem Gn (k:eZ fs ts) (l:Links fs ms ts ha th) {p:cf} (hp:rd ms ts p):th p=some p↔∃i,ms[i]?=some Mk.bo/\p=.gap i:=by
 constructor
 ·intro hf
  cases p with
  | gap i=>exact⟨i,hp,rfl⟩
  | edge e =>
   exfalso;have hp':e∈fy ts:=hp;obtain⟨t,ht,he⟩:=l5 hp';have r:=l.rot t ht;have ne:=k.ne e hp';unfold te at he;simp only [LB,LR,or_false] at he;rcases he with rfl|rfl|rfl
   ·rw [r.1] at hf;injection hf with q;injection q with q;exact ne (congrArg Prod.fst q).symm
   ·rw [r.2.1] at hf;injection hf with q;injection q with q;exact ne (congrArg Prod.fst q).symm
   ·rw [r.2.2] at hf;injection hf with q;injection q with q;exact ne (congrArg Prod.fst q).symm
 ·rintro⟨i,c,rfl⟩;exact l.thg i c
def ur (fs:List Z2) (ts:List fH) (ha:cf->Option cf) (f:cf):Prop:=(oA∈fy ts/\f=.edge oA)\/(oA∉fy ts/\ha (.edge (bE fs (fs.length - 1)))=some f)
theorem Bn (h:bT fs.length fs) (hb:Bd fs wX):bE fs (fs.length - 1)=wX:=by
 obtain⟨i,hi,e⟩:=tD hb
 have h2:fs[nx fs.length i]?=some (1,0):=by
  rw [my (Co hi)];exact congrArg some (congrArg Prod.snd e).symm
 have:=h.inj h2 h.first;unfold nx at this
 split at this
 ·have:i=fs.length - 1:=by omega
  rw [<- this];exact e.symm
 ·omega
theorem Ce (h:kS fs ms) (hn:2 < fs.length) (k:eZ fs ts) (l:Links fs ms ts ha th) {f:cf} (hf:ur fs ts ha f):rd ms ts f:=by
 rcases hf with ⟨a,rfl⟩|⟨_,b⟩
 ·exact a
 ·obtain⟨q,h1,h2,_⟩:=jS (p:=.edge (bE fs (fs.length - 1))) h hn k l (lL h.fr hn k (by omega));rw [b] at h1;cases h1;exact h2
theorem reach (h:kS fs ms) (hn:2 < fs.length) (k:eZ fs ts) (l:Links fs ms ts ha th) {f:cf} (hf:ur fs ts ha f) {S:cf->Prop} (s0:S f) (s1:∀p q,S p->ha p=some q->S q) (s2:∀p q,S p->th p=some q->S q):∀p,rd ms ts p->S p:=by
 have both:(oA∈fy ts->S (.edge oA))/\(wX∈fy ts->S (.edge wX)):=by
  rcases hf with ⟨a,rfl⟩|⟨na,b⟩
  ·refine⟨λ_=>s0,λm=>?_⟩;exact s1 _ _ s0 (l.hai oA a (k.b.mp m))
  ·refine⟨λm=>absurd m na,λ_=>?_⟩;have hb:Bd fs wX:=Classical.byContradiction λq=>na (k.a.mpr q);obtain⟨q,h1,h2,h3⟩:=jS (p:=.edge (bE fs (fs.length - 1))) h hn k l (lL h.fr hn k (by omega));rw [b] at h1;cases h1;rw [Bn h.fr hb] at h3;exact s1 _ _ s0 h3
 have edges:∀e∈fy ts,S (.edge e):=k.e (λe=>S (.edge e)) (λt ht=>⟨λq=>s2 _ _ q (l.rot t ht).1,λq=>s2 _ _ q (l.rot t ht).2.1,λq=>s2 _ _ q (l.rot t ht).2.2⟩) (λe he hb q=>s1 _ _ q (l.hai e he hb)) both.1 both.2;intro p hp
 cases p with
 | edge e=>exact edges e hp
 | gap i =>
  have hp':ms[i]?=some Mk.bo:=hp;exact s1 _ _ (edges _ (lL h.fr hn k (dW h.mar hp'))) (l.hag i hp').2
end
theorem Ai {α β:Type} [DecidableEq α] {met:List α} {is:List β} {g:β->α} (P:α->Bool) (nd:met.Nodup) (gi:∀i∈is,∀j∈is,g i=g j->i=j) (ni:is.Nodup) (hP:∀p∈met,P p=true↔∃i∈is,p=g i) (hm:∀i∈is,g i∈met):(met.filter P).length=is.length:=by
 have n1:(met.filter P).Nodup:=nd.filter P
 have n2:(is.map g).Nodup:=by
  rw [List.nodup_iff_pairwise_ne,List.pairwise_map];exact (List.nodup_iff_pairwise_ne.mp ni).imp_of_mem λha hb ne e=>ne (gi _ ha _ hb e)
 have perm:(met.filter P).Perm (is.map g):=(List.perm_ext_iff_of_nodup n1 n2).mpr λa=>by
  rw [List.mem_filter,LC]
  constructor
  ·rintro⟨h1,h2⟩;obtain⟨i,hi,e⟩:=(hP a h1).mp h2;exact⟨i,hi,e.symm⟩
  ·rintro⟨i,hi,rfl⟩;exact⟨hm i hi,(hP _ (hm i hi)).mpr ⟨i,hi,rfl⟩⟩
 rw [perm.length_eq,Ll]
end L2.L3
namespace K55
open PySem L2 L2.L3
def JB (t:fH):D:=.tup [gn t.1,gn t.2.1,gn t.2.2]
theorem zp {α β:Type} (f:α->β) (l:List α) (i:Nat):(l.map f).eraseIdx i=(l.eraseIdx i).map f:=by
 apply List.ext_getElem?
 intro j;simp only [uQ,Lj]
 split <;> rfl
def Bq (x:D) (Q:D->Prop):Prop:=∃fs,x=.tup (fs.map gn)/\bT fs.length fs/\∀ts,fq fs ts->ts.length<=fs.length->Q (.lst (ts.map JB))
def eQ:Fw:=F1 Bq
def i9:bI:=(gq Du (af (cC (.int 1)) (af (cH 1) aw)) (a9 3) (aI (bJ 4 (cZ 1 (aG oR (ag 3) (cC (.int 1))))) (aI (bJ 5 (cZ 1 (aG pI (aG fe (ag 3) (cC (.int 1))) (cH 1)))) (iI (qI (aN (aG nO (cZ 1 (ag 3)) (bU (af (cC (.int 0)) (af (cC (.int 1)) aw))))) (aN (aG jm (aA AO (af (aG oR (aG x8 (aG bS (ag 4) (cC (.int 0))) (aG bS (ag 5) (cC (.int 1)))) (aG x8 (aG bS (ag 4) (cC (.int 1))) (aG bS (ag 5) (cC (.int 0))))) aw)) (cC (.int 1))))) (aI (dS 2 (bU (af (ag 4) (af (cZ 1 (ag 3)) (af (ag 5) aw))))) (aI (u6 1 (ag 3)) jF)) bQ))))
def jL:bI:=(aI (cw 1 (kd (af (ag 0) aw))) (aI (cw 2 (mE aw)) (aI (ic (aN (aG IK (cH 1) (cC (.int 2)))) i9) (dq 2 (cz (ag 2))))))
theorem rA:∀ds Q,eQ ds Q->ds.length=1:=qM
theorem ud:∀ds (Q:D->Prop),eQ ds Q->jL { nx:=λ_=>Q .non,rt:=Q } (aF ["_law_fractions_here","_law_row_here","_law_tiles_here","_law_i","_law_near","_law_far"] ds):=by
 rintro ds Q ⟨x,rfl,fs,rfl,hf,h⟩
 simp_arith only [jL,ic,u6]
 refine⟨λe=>∃(row:List Z2) (acc:List fH) (k3 k4 k5:Option Lo),e=[some (.d (.tup (fs.map gn))),some (.own (row.map gn)),some (.own (acc.map JB)),k3,k4,k5]/\bT row.length row/\(∀rest,fq row rest->fq fs (acc ++ rest))/\acc.length + row.length=fs.length,
  BL 1,⟨fs,[],none,none,none,rfl,hf,λrest t=>t,by simp⟩,?_⟩
 rintro env ⟨row,acc,k3,k4,k5,rfl,hr,ht,hlen⟩;have two:=hr.two;have most:=hf.most;refine⟨_,rfl,?_⟩
 by_cases c:2 < row.length
 ·rw [if_pos (by rw [Ll];omega)]
  simp_arith only [i9,u6,Ll]
  refine⟨by omega,by omega,?_⟩;refine cm (λi e=>∃k3 k4 k5:Option Lo,e=[some (.d (.tup (fs.map gn))),some (.own (row.map gn)),some (.own (acc.map JB)),k3,k4,k5]/\∀j u v w,j < i + 1->¬ Hu row.length row j u v w) ?_ ?_ ⟨k3,k4,k5,rfl,λj u v w hj e=>by have:=e.i0;omega⟩
  ·rintro i x env N hx ⟨k3,k4,k5,rfl,hno⟩ hN
   have hi:i < row.length - 1:=by
    have:=(La.mp hx).1;simp [aW] at this;omega
   have hxe:x=.int ((i + 1:Nat):Int):=by
    unfold aW at hx;rw [Lj,LH (by omega)] at hx;cases hx;simp
    try omega
   subst hxe;have hu:row[i]?=some row[i]:=Lc (by omega);have hv:row[i + 1]?=some row[i + 1]:=Lc (by omega);have hm:(i + 1 + 1) % row.length < row.length:=Nat.mod_lt _ (by omega);have hw:row[(i + 1 + 1) % row.length]?=some (row[(i + 1 + 1) % row.length]):=Lc hm;generalize row[i]=u at hu;generalize row[i + 1]=v at hv;generalize row[(i + 1 + 1) % row.length]=w at hw;have e1:j6 (row.map gn) (((i + 1:Nat):Int) - 1)=some (gn u):=by rw [show ((i + 1:Nat):Int) - 1=(i:Int) by omega];exact fO _ _ i _ hu
   have e2:j6 (row.map gn) ((i + 1:Nat):Int)=some (gn v):=fO _ _ (i + 1) _ hv
   have e3:j6 (row.map gn) ((((i + 1:Nat):Int) + 1).fmod (row.length:Int))=some (gn w):=by
    have:(((i + 1:Nat):Int) + 1).fmod (row.length:Int)=(((i + 1 + 1) % row.length:Nat):Int):=by
     rw [Int.fmod_eq_emod_of_nonneg _ (by omega),Int.natCast_emod,show (((i + 1 + 1:Nat)):Int)=((i + 1:Nat):Int) + 1 by omega]
    rw [this];exact fO _ _ _ _ hw
   have bu:=hr.bits u (Lg hu);have bw:=hr.bits w (Lg hw)
   simp_arith only [u6,Ll]
   refine⟨_,_,rfl,e1,by show (row.length:Int)≠0;omega,_,_,rfl,e3,_,_,rfl,e2,?_⟩;rw [show (D.tup [D.int 0,D.int 1])=gn (0,1) from rfl,Hl];refine⟨_,rfl,?_⟩
   by_cases c0:v=(0,1)
   ·rw [decide_eq_true c0];refine hN _ ⟨_,_,_,rfl,λj a b d hj e=>?_⟩;rcases LS.mp hj with z|z
    ·exact hno j a b d z e
    ·subst z;have:=e.mid;rw [hv] at this;exact e.ne ((Li this).symm.trans c0)
   ·rw [decide_eq_false c0];show bS (gn u) (.int 0) _
    rw [yn,yc]
    simp_arith only [and_true]
    refine⟨BF bu.1 bw.2 (by decide),?_⟩;rw [yc,yn]
    simp_arith only [and_true]
    refine⟨BF bu.2 bw.1 (by decide),?_⟩
    by_cases c1:((u.1 * w.2 - u.2 * w.1).natAbs:Int)=1
    ·rw [if_pos c1];have ear:Hu row.length row (i + 1) u v w:=⟨by omega,by omega,by rw [show i + 1 - 1=i by omega];exact hu,hv,hw,c0,by show (u.1 * w.2 - u.2 * w.1).natAbs=1;omega⟩;have cut:=hr.cut c ear;have hle:(row.eraseIdx (i + 1)).length=row.length - 1:=by rw [List.length_eraseIdx,if_pos (by omega)]
     refine⟨by omega,_,_,rfl,e2,i + 1,rfl,by omega,by omega,⟨row.eraseIdx (i + 1),acc ++ [(u,v,w)],_,_,_,zp .. ,by rw [List.map_append];rfl,rfl,rfl,rfl,by rw [hle];exact cut,λrest t=>?_,?_⟩,?_⟩
     ·have:=ht ((u,v,w) :: rest) (.cut c ear t);rw [List.append_assoc];exact this
     ·rw [hle,LI];simp;omega
     ·show ((row.map gn).eraseIdx (i + 1)).length < (row.map gn).length
      rw [List.length_eraseIdx,if_pos (by simp;omega),Ll];omega
    ·rw [if_neg c1];refine hN _ ⟨_,_,_,rfl,λj a b d hj e=>?_⟩;rcases LS.mp hj with z|z
     ·exact hno j a b d z e
     ·subst z;have q1:=e.near;have q2:=e.far;rw [show i + 1 - 1=i by omega,hu] at q1;rw [hw] at q2;cases q1;cases q2;have:=e.one;unfold fz at this;exact c1 (by omega)
  ·rintro env ⟨k3,k4,k5,rfl,hno⟩
   exfalso;obtain⟨i,u,v,w,e⟩:=Gr hr c;have el:(aW 1 ((row.length:Int) - 1).toNat).length=row.length - 1:=by simp [aW] <;> omega
   rw [el] at hno;exact hno i u v w (by have:=e.il;omega) e
 ·rw [if_neg (by rw [Ll];omega)];refine⟨_,rfl,_,rfl,?_⟩;have t:=ht [] (.done (by omega));rw [L4] at t;exact h acc t (by omega)
def dP:cf->D
 | .gap i=>.int i
 | .edge e=>.tup [gn e.1,gn e.2]
theorem bW (p:cf):aR (dP p)=true/\dep (dP p)<=8:=by
 cases p with
 | gap i=>exact⟨rfl,by simp [dP,dep]⟩
 | edge e=>exact⟨by simp [dP,gn,aR,g9],by simp [dP,gn,dep,bV]⟩
theorem yP {x y:Z2} (h:gn x=gn y):x=y:=by
 unfold gn at h;simp only [D.tup.injEq,List.cons.injEq,D.int.injEq,and_true] at h;exact Mb h.1 h.2
theorem yh {p q:cf} (h:dP p=dP q):p=q:=by
 cases p with
 | gap i=>cases q with
  | gap j=>simp only [dP,D.int.injEq] at h;rw [show i=j by omega]
  | edge e=>simp only [dP] at h;cases h
 | edge e=>cases q with
  | gap j=>simp only [dP] at h;cases h
  | edge d =>
   simp only [dP,D.tup.injEq,List.cons.injEq,and_true] at h;rw [show e=d from Mb (yP h.1) (yP h.2)]
theorem x4 (p q:cf):aV (dP p) (dP q)=decide (p=q):=by
 rw [Bool.eq_iff_iff,DQ (bW p).1 (bW q).1,decide_eq_true_eq];exact⟨yh,λh=>h▸rfl⟩
structure gu (kvs:List (D×D)) (f:cf->Option cf):Prop where
 ok:bD kvs
 get:∀p,dZ kvs (dP p)=(f p).map dP
 key:∀kv∈kvs,∃p,kv.1=dP p
def rf (f:cf->Option cf) (p q:cf):cf->Option cf:=λx=>if x=p then some q else f x
theorem b8 {f:cf->Option cf} {p q:cf}:rf f p q p=some q:=if_pos rfl
theorem bM {f:cf->Option cf} {p q x:cf} (h:x≠p):rf f p q x=f x:=if_neg h
theorem gu.nil:gu [] (λ_=>none):=⟨bD.nil,λ_=>rfl,λkv h=>absurd h LR⟩
theorem gu.put {kvs:List (D×D)} {f:cf->Option cf} (h:gu kvs f) (p q:cf):gu (putN kvs (dP p) (dP q)) (rf f p q):=by
 refine⟨h.ok.put (bW p).1 (bW p).2,λx=>?_,λkv m=>?_⟩
 ·rw [iC h.ok (bW p).1 (bW x).1,x4,h.get];unfold rf
  by_cases c:p=x
  ·rw [if_pos (decide_eq_true c),if_pos c.symm];rfl
  ·rw [if_neg (by simpa using c),if_neg (λz=>c z.symm)]
 ·unfold putN at m
  split at m
  ·obtain⟨kw,m',rfl⟩:=LC.mp m;obtain⟨z,hz⟩:=h.key kw m';refine⟨z,?_⟩
   split <;> exact hz
  ·rcases LQ.mp m with m|m
   ·exact h.key kv m
   ·rw [LA] at m;subst m;exact⟨p,rfl⟩
theorem gu.any {kvs:List (D×D)} {f:cf->Option cf} (h:gu kvs f) (p:cf):(kvs.any λkv=>aV kv.1 (dP p))=(f p).isSome:=by
 rw [wU,h.get,Option.isSome_map]
theorem gu.mem {kvs:List (D×D)} {f:cf->Option cf} (h:gu kvs f) (p:cf):dP p∈kvs.map (·.1)↔(f p).isSome=true:=by
 rw [<- h.any,List.any_eq_true,LC]
 constructor
 ·rintro⟨kv,m,e⟩;exact⟨kv,m,by rw [e];exact gD _ (bW p).1⟩
 ·rintro⟨kv,m,e⟩;obtain⟨z,hz⟩:=h.key kv m;rw [hz,x4,decide_eq_true_eq] at e;exact⟨kv,m,by rw [hz,e]⟩
def qz (fs:List Z2) (ms:List Mk) (ha th:cf->Option cf) (f:cf):Prop :=
 (2 < fs.length/\∃ts,eZ fs ts/\fq fs ts/\ts.length<=fs.length/\Links fs ms ts ha th/\ur fs ts ha f) \/
 (fs.length=2/\(∀i,ms[i]?=some Mk.bo->th (.gap i)=some (.gap i)/\ha (.gap i)=some (.gap (if ms[1 - i]?=some Mk.bo then 1 - i else i)))/\f=.gap (if ms[1]?=some Mk.bo then 1 else 0))
def AS (x:D) (Q:D->Prop):Prop:=∃fs ms,x=qZ fs ms/\kS fs ms/\∀hk tk ha th f,gu hk ha->gu tk th->qz fs ms ha th f->Q (.tup [.obj (qQ hk),.obj (qQ tk),dP f])
structure vj (ts:List fH) (th:cf->Option cf):Prop where
 rot:∀t∈ts,th (.edge (t.1,t.2.1))=some (.edge (t.2.1,t.2.2))/\th (.edge (t.2.1,t.2.2))=some (.edge (t.2.2,t.1))/\th (.edge (t.2.2,t.1))=some (.edge (t.1,t.2.1))
 only:∀e,(th (.edge e)).isSome=true->e∈fy ts
 gaps:∀i,th (.gap i)=none
theorem vj.nil:vj [] (λ_=>none):=⟨λt h=>absurd h LR,λe h=>(by cases h),λ_=>rfl⟩
theorem wM (ts:List fH) (t:fH):fy (ts ++ [t])=fy ts ++ te t:=by unfold fy;simp
theorem vj.snoc {ts:List fH} {th:cf->Option cf} (h:vj ts th) {t:fH} (nd:(fy (ts ++ [t])).Nodup) :
  vj (ts ++ [t]) (rf (rf (rf th (.edge (t.1,t.2.1)) (.edge (t.2.1,t.2.2))) (.edge (t.2.1,t.2.2)) (.edge (t.2.2,t.1))) (.edge (t.2.2,t.1)) (.edge (t.1,t.2.1))):=by
 rw [wM,Mj] at nd;obtain⟨n1,n2,n3⟩:=nd;unfold te at n2 n3;simp only [L5,LB,LR,or_false,not_or] at n2;obtain⟨⟨a12,a13⟩,a23,_⟩:=n2;have e12:(cf.edge (t.1,t.2.1))≠.edge (t.2.1,t.2.2):=λz=>a12 (by injection z);have e13:(cf.edge (t.1,t.2.1))≠.edge (t.2.2,t.1):=λz=>a13 (by injection z);have e23:(cf.edge (t.2.1,t.2.2))≠.edge (t.2.2,t.1):=λz=>a23 (by injection z)
 have old:∀e∈fy ts,rf (rf (rf th (.edge (t.1,t.2.1)) (.edge (t.2.1,t.2.2))) (.edge (t.2.1,t.2.2)) (.edge (t.2.2,t.1))) (.edge (t.2.2,t.1)) (.edge (t.1,t.2.1)) (.edge e)=th (.edge e):=λe he=>by
  have q:=λx hx (z:cf.edge e=.edge x)=>n3 e he x hx (by injection z);rw [bM (q _ (by simp)),bM (q _ (by simp)),bM (q _ (by simp))]
 refine⟨λu hu=>?_,λe he=>?_,λi=>?_⟩
 ·rcases LQ.mp hu with hu|hu
  ·have m:∀x∈te u,x∈fy ts:=λx hx=>AJ hu hx;unfold te at m;have r:=h.rot u hu;exact⟨by rw [old _ (m _ (by simp))];exact r.1,by rw [old _ (m _ (by simp))];exact r.2.1,by rw [old _ (m _ (by simp))];exact r.2.2⟩
  ·rw [LA] at hu;subst hu;exact⟨by rw [bM e13,bM e12,b8],by rw [bM e23,b8],b8⟩
 ·rw [wM]
  by_cases c:e∈te t
  ·exact LQ.mpr (.inr c)
  ·refine LQ.mpr (.inl (h.only e ?_));unfold te at c;simp only [LB,LR,or_false,not_or] at c;have q:∀x,e≠x->cf.edge e≠.edge x:=λx hx z=>hx (by injection z);rw [bM (q _ c.2.2),bM (q _ c.2.1),bM (q _ c.1)] at he;exact he
 ·rw [bM (by simp),bM (by simp),bM (by simp)];exact h.gaps i
structure BG (fs:List Z2) (ms:List Mk) (ts:List fH) (j:Nat) (ha th:cf->Option cf):Prop where
 rot:∀t∈ts,th (.edge (t.1,t.2.1))=some (.edge (t.2.1,t.2.2))/\th (.edge (t.2.1,t.2.2))=some (.edge (t.2.2,t.1))/\th (.edge (t.2.2,t.1))=some (.edge (t.1,t.2.1))
 only:∀e,(th (.edge e)).isSome=true->e∈fy ts
 thg:∀i,i < j->ms[i]?=some Mk.bo->th (.gap i)=some (.gap i)
 hag:∀i,i < j->ms[i]?=some Mk.bo->ha (.gap i)=some (.edge (bE fs i))/\ha (.edge (bE fs i))=some (.gap i)
 hah:∀i,i < j->ms[i]?=some Mk.half->ha (.edge (bE fs i))=some (.edge (bE fs i))
 ham:∀i k,i < j->ms[i]?=some (Mk.gap k)->ha (.edge (bE fs i))=some (.edge (bE fs k))
 hai:∀e∈fy ts,(∀i,i < j->e≠bE fs i)->ha (.edge e)=some (.edge (rv e))
theorem BG.more {fs:List Z2} {ms:List Mk} {ts:List fH} {j:Nat} {ha th ha' th':cf->Option cf} (hf:bT fs.length fs) (hj:j < fs.length) (h:BG fs ms ts j ha th)
  (h1:∀x,x≠.gap j->x≠.edge (bE fs j)->ha' x=ha x) (h2:∀x,x≠.gap j->th' x=th x)
  (h3:ms[j]?=some Mk.bo->th' (.gap j)=some (.gap j)/\ha' (.gap j)=some (.edge (bE fs j))/\ha' (.edge (bE fs j))=some (.gap j))
  (h4:ms[j]?=some Mk.half->ha' (.edge (bE fs j))=some (.edge (bE fs j))) (h5:∀k,ms[j]?=some (Mk.gap k)->ha' (.edge (bE fs j))=some (.edge (bE fs k))):BG fs ms ts (j + 1) ha' th':=by
 have ne:∀i,i < j->cf.edge (bE fs i)≠.edge (bE fs j):=λi hi z=>by
  have:=qd (i:=i) (j:=j) hf (by omega) hj (by injection z);omega
 have ng:∀i,i < j->cf.gap i≠.gap j:=λi hi z=>by injection z with z;omega
 refine⟨λt ht=>?_,λe he=>?_,λi hi hm=>?_,λi hi hm=>?_,λi hi hm=>?_,λi k hi hm=>?_,λe he hn=>?_⟩
 ·rw [h2 _ (by simp),h2 _ (by simp),h2 _ (by simp)];exact h.rot t ht
 ·rw [h2 _ (by simp)] at he;exact h.only e he
 ·rcases LS.mp hi with z|z
  ·rw [h2 _ (ng i z)];exact h.thg i z hm
  ·subst z;exact (h3 hm).1
 ·rcases LS.mp hi with z|z
  ·rw [h1 _ (ng i z) (by simp),h1 _ (by simp) (ne i z)];exact h.hag i z hm
  ·subst z;exact (h3 hm).2
 ·rcases LS.mp hi with z|z
  ·rw [h1 _ (by simp) (ne i z)];exact h.hah i z hm
  ·subst z;exact h4 hm
 ·rcases LS.mp hi with z|z
  ·rw [h1 _ (by simp) (ne i z)];exact h.ham i k z hm
  ·subst z;exact h5 k hm
 ·rw [h1 _ (by simp) (λz=>hn j (by omega) (by injection z))];exact h.hai e he λi hi=>hn i (by omega)
theorem r8 {fs:List Z2} {i:Nat} (h:i < fs.length) {Q:D->Prop} (q:Q (dP (.edge (bE fs i)))):bS (.lst ((List.range fs.length).map λi=>dP (.edge (bE fs i)))) (.int (i:Int)) Q :=
 ⟨_,fO (λi=>dP (.edge (bE fs i))) (List.range fs.length) i i (by rw [LH h]),q⟩
section
variable {a b:D} {Q:D->Prop}
theorem m8:bS (.tup [a,b]) (.int 0) Q=Q a:=propext ⟨fun⟨v,e,q⟩=>by have:some a=some v:=e;cases this;exact q,λq=>⟨a,rfl,q⟩⟩
theorem vT:bS (.tup [a,b]) (.int 1) Q=Q b:=propext ⟨fun⟨v,e,q⟩=>by have:some b=some v:=e;cases this;exact q,λq=>⟨b,rfl,q⟩⟩
theorem GF:bS (.lst [a,b]) (.int 0) Q=Q a:=propext ⟨fun⟨v,e,q⟩=>by have:some a=some v:=e;cases this;exact q,λq=>⟨a,rfl,q⟩⟩
theorem Fc:bS (.lst [a,b]) (.int 1) Q=Q b:=propext ⟨fun⟨v,e,q⟩=>by have:some b=some v:=e;cases this;exact q,λq=>⟨b,rfl,q⟩⟩
end
theorem x3 {z z':Str} {Q:D->Prop}:nO (.str z) (.str z') Q=Q (.bl (!(z == z'))):=by
 unfold nO gF;simp only [dep,aV,LZ,and_self,true_and]
theorem FW {i:Int} {z:Str} {Q:D->Prop}:jm (.int i) (.str z) Q=Q (.bl false):=by
 unfold jm gF;simp [dep,aV]
def uR (fs:List Z2):List D:=(List.range fs.length).map λi=>dP (.edge (bE fs i))
def dY:bI:=(aI (bJ 11 (bU (af (bU (af (cC (.int 1)) (af (cC (.int 0)) aw))) (af (bU (af (cC (.int 0)) (af (cC (.int 1)) aw))) aw)))) (aI (dJ 4 (iI (aN (aG jm (aA fB (af (ag 1) aw)) (cC (.int 2)))) (aI (bJ 11 (aG bS (jx (af (cC (.int 1)) (af (cC (.int 0)) aw))) (aA tF (af (aG nO (aG bS (ag 2) (cC (.int 1))) (cC (.str "third"))) aw)))) (mI (jx (af (cC (.int 0)) (af (cC (.int 1)) aw))) (a9 9) (iI (aN (aG jm (aG bS (ag 2) (ag 9)) (cC (.str "third")))) (aU 8 (ag 9) (aG bS (jx (af (ag 9) (af (aG oR (cC (.int 1)) (ag 9)) aw))) (aA tF (af (aG jm (aG bS (ag 2) (aG oR (cC (.int 1)) (ag 9))) (cC (.str "third"))) aw)))) bQ))) (iI (aN (aG (HL true) (ag 11) (ag 4))) (bJ 11 (fM 8 (aG bS (ag 3) (Cg zU (cC (.int 1)))))) bQ))) (dJ 8 (cz (bU (af (ag 8) (af (ag 4) (af (ag 11) aw))))))))
def dX:bI:=(aI (r9 (af (ag 2) aw) (jo 2 (cQ (a9 9) (cQ (a9 10) jg))) (iI (aN (aG jm (ag 10) (cC (.str "third")))) (aI (aU 4 (ag 9) (ag 9)) (aI (aU 8 (ag 9) (aG bS (ag 3) (ag 9))) (aU 8 (aG bS (ag 3) (ag 9)) (ag 9)))) (iI (aN (aG jm (ag 10) (cC (.str "half")))) (aU 8 (aG bS (ag 3) (ag 9)) (aG bS (ag 3) (ag 9))) (aU 8 (aG bS (ag 3) (ag 9)) (aG bS (ag 3) (ag 10)))))) dY)
def fS:bI:=(aI (kb 8) (aI (oY 4 (jo 2 (cQ (a9 5) (cQ (a9 7) jg))) (aU 8 (bU (af (ag 5) (af (ag 7) aw))) (bU (af (ag 7) (af (ag 5) aw))))) dX))
theorem xq {fs:List Z2} {ms:List Mk} {Q:D->Prop} (hf:kS fs ms) (h:∀hk tk ha th f,gu hk ha->gu tk th->qz fs ms ha th f->Q (.tup [.obj (qQ hk),.obj (qQ tk),dP f])) :
  ∀(ts:List fH) (tk:List (D×D)) (th:cf->Option cf) (k5 k6 k7:Option Lo),fq fs ts->ts.length<=fs.length->gu tk th->vj ts th->tk.length<=3 * ts.length ->
  fS { nx:=λ_=>Q .non,rt:=Q } [some (.d (qZ fs ms)),some (.d (.tup (fs.map gn))),some (.d (.tup (ms.map mS))),some (.d (.lst (uR fs))),some (.dic tk),k5,k6,k7,none,none,none,none]:=by
 have two:=hf.fr.two;have most:=hf.fr.most;intro ts tk th k5 k6 k7 htl hlen hd ht hl;have ok:=u9 htl hf.fr
 have rest6:∀(hk:List (D×D)) (ha:cf->Option cf) (k5 k7:Option Lo),gu hk ha->(∀e∈fy ts,ha (.edge e)=some (.edge (rv e)))->(∀i,ha (.gap i)=none)->hk.length<=tk.length ->
   dX { nx:=λ_=>Q .non,rt:=Q } [some (.d (qZ fs ms)),some (.d (.tup (fs.map gn))),some (.d (.tup (ms.map mS))),some (.d (.lst (uR fs))),some (.dic tk),k5,k6,k7,some (.dic hk),none,none,none]:=by
  intro hk ha k5 k7 hd2 hrv hg hl2
  have rest7:∀(hk tk:List (D×D)) (ha th:cf->Option cf) (k9 k10:Option Lo),gu hk ha->gu tk th->BG fs ms ts fs.length ha th->hk.length<=1000 ->
    dY { nx:=λ_=>Q .non,rt:=Q } [some (.d (qZ fs ms)),some (.d (.tup (fs.map gn))),some (.d (.tup (ms.map mS))),some (.d (.lst (uR fs))),some (.dic tk),k5,k6,k7,some (.dic hk),k9,k10,none]:=by
   intro hk tk ha th k9 k10 e1 e2 hh hl;have ed:(D.tup [D.tup [D.int 1,D.int 0],D.tup [D.int 0,D.int 1]])=dP (.edge oA):=rfl
   simp_arith only [dY,dJ,Lo.dic.injEq,Ll]
   rw [ed]
   by_cases c:fs.length=2
   ·rw [if_pos (by omega)];obtain⟨t3,ngap⟩:=hf.mar.few c;have ml:=hf.mar.len
    have at_:∀i,i < 2->ms[i]?=some Mk.bo\/ms[i]?=some Mk.half:=λi hi=>by
     rcases tJ hf.mar (i:=i) (by omega) with z|z|⟨j,_,z⟩
     ·exact .inr z
     ·exact .inl z
     ·exact absurd z (ngap i j)
    have sz2:=Lu;have kg0:=bW (.gap 0);have kg1:=bW (.gap 1)
    obtain⟨m0,m1,rfl⟩:∃m0 m1,ms=[m0,m1]:=by
     match ms,(show ms.length=2 by omega) with
     | [a,b],_=>exact⟨a,b,rfl⟩
    have b0:=at_ 0 (by omega);have b1:=at_ 1 (by omega);simp only [LO,LK,Option.some.injEq] at b0 b1;have q1:(Str.ofString "half" == Str.ofString "third")=false:=by decide
    have q2:(Str.ofString "third" == Str.ofString "third")=true:=by decide
    rcases b0 with rfl|rfl <;> rcases b1 with rfl|rfl
    ·have a1:=e1.put (.gap 0) (.gap 1);have a2:=a1.put (.gap 1) (.gap 0);have n1:=dH (kvs:=hk) (k:=dP (.gap 0)) (v:=dP (.gap 1))
     simp_arith only [turns,mS,x3,q1,q2,aU,dJ,Lo.dic.injEq,m8,vT,GF,Fc]
     refine⟨kg0.1,kg0.2,e1.ok,by omega,kg1.1,kg1.2,a1.ok,Mo n1 (by omega),h _ _ _ _ (.gap 1) a2 e2 (.inr ⟨c,λi hi=>⟨hh.thg i (dW hf.mar hi) hi,?_⟩,rfl⟩)⟩
     match i,hi with
     | 0,_=>rw [bM (by simp),b8];rfl
     | 1,_=>rw [b8];rfl
    ·have a1:=e1.put (.gap 0) (.gap 0)
     simp_arith only [turns,mS,x3,q1,q2,aU,dJ,Lo.dic.injEq,m8,vT,GF,Fc]
     refine⟨kg0.1,kg0.2,e1.ok,by omega,h _ _ _ _ (.gap 0) a1 e2 (.inr ⟨c,λi hi=>⟨hh.thg i (dW hf.mar hi) hi,?_⟩,rfl⟩)⟩
     match i,hi with
     | 0,_=>rw [b8];rfl
     | 1,hi=>simp at hi
    ·have a1:=e1.put (.gap 1) (.gap 1)
     simp_arith only [turns,mS,x3,q1,q2,aU,dJ,Lo.dic.injEq,m8,vT,GF,Fc]
     refine⟨kg1.1,kg1.2,e1.ok,by omega,h _ _ _ _ (.gap 1) a1 e2 (.inr ⟨c,λi hi=>⟨hh.thg i (dW hf.mar hi) hi,?_⟩,rfl⟩)⟩
     match i,hi with
     | 0,hi=>simp at hi
     | 1,_=>rw [b8];rfl
    ·simp at t3
   ·rw [if_neg (by omega)];have hn:2 < fs.length:=by omega
    have lk:Links fs ms ts ha th:=⟨hh.rot,λi hi=>hh.thg i (dW hf.mar hi) hi,λi hi=>hh.hag i (dW hf.mar hi) hi,λi hi=>hh.hah i (dW hf.mar hi) hi,λi k hi=>hh.ham i k (dW hf.mar hi) hi,λe he hb=>hh.hai e he λi hi z=>hb (z▸yj hi)⟩
    have in1:(th (.edge oA)).isSome=true↔oA∈fy ts:=⟨hh.only oA,λm=>by
     obtain⟨q,hq,_⟩:=vW (p:=.edge oA) lk m
     rw [hq];rfl⟩
    simp only [HL];have ke:=bW (.edge oA);refine⟨tk,rfl,ke.1,ke.2,e2.ok,_,rfl,?_⟩;rw [if_pos trivial,e2.any]
    by_cases m:oA∈fy ts
    ·rw [in1.mpr m];exact h hk tk ha th _ e1 e2 (.inl ⟨hn,ts,ok,htl,hlen,lk,.inl ⟨m,rfl⟩⟩)
    ·have nm:(th (.edge oA)).isSome=false:=by
      cases z:(th (.edge oA)).isSome with
      | false=>rfl
      | true=>exact absurd (in1.mp z) m
     rw [nm];obtain⟨f,hf1,hf2,hf3⟩:=jS (p:=.edge (bE fs (fs.length - 1))) hf hn ok lk (lL hf.fr hn ok (by omega));have kl:=bW (.edge (bE fs (fs.length - 1)))
     have al:j6 (uR fs) (-1)=some (dP (.edge (bE fs (fs.length - 1)))):=by
      have lg:(uR fs).length=fs.length:=by simp [uR]
      have ix:rZ (uR fs).length (-1)=some (fs.length - 1):=by
       unfold rZ;rw [lg,if_neg (by decide),if_pos (by omega)]
       congr 1;omega
      unfold j6;rw [ix];show (uR fs)[fs.length - 1]?=_
      unfold uR;rw [Lj,LH (by omega)];rfl
     show fM 8 _ _ _
     simp_arith only [fM,Lo.dic.injEq]
     refine⟨_,al,dP f,kl.1,kl.2,e1.ok,by rw [e1.get,hf1];rfl,?_⟩;exact h hk tk ha th f e1 e2 (.inl ⟨hn,ts,ok,htl,hlen,lk,.inr ⟨m,hf1⟩⟩)
  simp_arith only [dX,r9,Lo.dic.injEq]
  refine⟨_,_,rfl,rfl,?_⟩;have ml:=hf.mar.len;have sz:=Lu;refine cm (λj e=>∃(hk tk:List (D×D)) (ha th:cf->Option cf) (k9 k10:Option Lo),e=[some (.d (qZ fs ms)),some (.d (.tup (fs.map gn))),some (.d (.tup (ms.map mS))),some (.d (.lst (uR fs))),some (.dic tk),k5,k6,k7,some (.dic hk),k9,k10,none]/\gu hk ha/\gu tk th/\BG fs ms ts j ha th/\hk.length<=100 + 2 * j/\tk.length<=100 + j) ?_ ?_ ⟨hk,tk,ha,th,none,none,rfl,hd2,hd,⟨ht.rot,ht.only,λi hi=>absurd hi (L7 _),λi hi=>absurd hi (L7 _),λi hi=>absurd hi (L7 _),λi k hi=>absurd hi (L7 _),λe he _=>hrv e he⟩,by omega,by omega⟩
  ·rintro j x env N hx ⟨hk,tk,ha,th,k9,k10,rfl,e1,e2,hh,l1,l2⟩ hN
   obtain⟨m,hm,rfl⟩:∃m,ms[j]?=some m/\x=.tup [.int (j:Int),mS m]:=by
    obtain⟨y,hy,rfl⟩:=vH hx;rw [Lj] at hy;obtain⟨m,hm,rfl⟩:=LY.mp hy;exact⟨m,hm,rfl⟩
   have hj:=dW hf.mar hm;have kg:=bW (.gap j);have ke:=bW (.edge (bE fs j))
   cases m with
   | bo =>
    have a1:=e2.put (.gap j) (.gap j);have a2:=e1.put (.gap j) (.edge (bE fs j));have a3:=a2.put (.edge (bE fs j)) (.gap j);have n1:=dH (kvs:=tk) (k:=dP (.gap j)) (v:=dP (.gap j));have n2:=dH (kvs:=hk) (k:=dP (.gap j)) (v:=dP (.edge (bE fs j)));have n3:=dH (kvs:=putN hk (dP (.gap j)) (dP (.edge (bE fs j)))) (k:=dP (.edge (bE fs j))) (v:=dP (.gap j))
    simp_arith only [mS,aU,Lo.dic.injEq,uR]
    rw [if_pos (beq_self_eq_true _)];refine⟨kg.1,kg.2,e2.ok,by omega,r8 hj ⟨kg.1,kg.2,e1.ok,by omega,r8 hj ⟨ke.1,ke.2,a2.ok,Mo n2 (by omega),hN _ ⟨_,_,_,_,_,_,rfl,a3,a1,?_,L6 n3 (by omega),L6 n1 (by omega)⟩⟩⟩⟩
    refine hh.more hf.fr hj (λx x1 x2=>by rw [bM x2,bM x1]) (λx x1=>bM x1) (λ_=>⟨b8,by rw [bM (by simp),b8],b8⟩) (λz=>by rw [hm] at z;cases z) (λk z=>by rw [hm] at z;cases z)
   | half =>
    have a1:=e1.put (.edge (bE fs j)) (.edge (bE fs j));have n1:=dH (kvs:=hk) (k:=dP (.edge (bE fs j))) (v:=dP (.edge (bE fs j)))
    simp_arith only [mS,aU,Lo.dic.injEq,uR]
    rw [if_neg (by decide),if_pos (beq_self_eq_true _)];refine r8 hj (r8 hj ⟨ke.1,ke.2,e1.ok,by omega,hN _ ⟨_,_,_,_,_,_,rfl,a1,e2,?_,L6 n1 (by omega),by omega⟩⟩)
    exact hh.more hf.fr hj (λx x1 x2=>bM x2) (λx x1=>rfl) (λz=>by rw [hm] at z;cases z) (λ_=>b8) (λk z=>by rw [hm] at z;cases z)
   | gap k =>
    have hk':k < fs.length:=dW hf.mar (hf.mar.pair j k hm).2;have a1:=e1.put (.edge (bE fs j)) (.edge (bE fs k));have n1:=dH (kvs:=hk) (k:=dP (.edge (bE fs j))) (v:=dP (.edge (bE fs k)))
    simp_arith only [mS,aU,Lo.dic.injEq,uR,FW]
    refine r8 hk' (r8 hj ⟨ke.1,ke.2,e1.ok,by omega,hN _ ⟨_,_,_,_,_,_,rfl,a1,e2,?_,L6 n1 (by omega),by omega⟩⟩);exact hh.more hf.fr hj (λx x1 x2=>bM x2) (λx x1=>rfl) (λz=>by rw [hm] at z;cases z) (λz=>by rw [hm] at z;cases z) (λk' z=>by rw [hm] at z;cases z;exact b8)
  ·rintro env ⟨hk,tk,ha,th,k9,k10,rfl,e1,e2,hh,l1,l2⟩;have el:(jN (ms.map mS)).length=fs.length:=by rw [nh,Ll,ml]
   rw [el] at hh l1;exact rest7 hk tk ha th k9 k10 e1 e2 hh (by omega)
 simp_arith only [fS,kb,oY,Lo.dic.injEq]
 intro p;have sz:=Lu;refine cm (λi e=>∃(hk:List (D×D)) (ha:cf->Option cf) (k5 k7:Option Lo),e=[some (.d (qZ fs ms)),some (.d (.tup (fs.map gn))),some (.d (.tup (ms.map mS))),some (.d (.lst (uR fs))),some (.d (.obj (GU p))),k5,k6,k7,some (.dic hk),none,none,none]/\gu hk ha/\(∀e,dP (.edge e)∈(tk.map (·.1)).take i->ha (.edge e)=some (.edge (rv e)))/\(∀i,ha (.gap i)=none)/\hk.length<=i) ?_ ?_ ⟨[],_,k5,k7,rfl,gu.nil,λe he=>by simp at he,λ_=>rfl,by simp⟩
 ·rintro i x env N hx ⟨hk,ha,k5,k7,rfl,hd2,hr,hg,hl2⟩ hN;have hi:i < tk.length:=by have:=(La.mp hx).1;simpa using this
  have hm:=Lg hx;obtain⟨kv,hkv,rfl⟩:=LC.mp hm;obtain⟨q,hq⟩:=hd.key kv hkv;rw [hq] at hm hx ⊢;have hs:=(hd.mem q).mp hm
  cases q with
  | gap g=>rw [ht.gaps g] at hs;cases hs
  | edge e =>
   have k1:=bW (.edge e);have d1:=hd2.put (.edge e) (.edge (rv e));have l1:=dH (kvs:=hk) (k:=dP (.edge e)) (v:=dP (.edge (rv e)));have tke:(tk.map (·.1)).take (i + 1)=(tk.map (·.1)).take i ++ [dP (.edge e)]:=by rw [Mm,hx];rfl
   simp only [dP,rv] at l1
   simp_arith only [dP,aU,Lo.dic.injEq]
   refine⟨k1.1,k1.2,hd2.ok,by omega,hN _ ⟨_,_,_,_,rfl,d1,λd hdm=>?_,λg=>?_,by omega⟩⟩
   ·by_cases c:d=e
    ·subst c;exact b8
    ·rw [bM (λz=>c (by injection z))];rw [tke] at hdm;rcases LQ.mp hdm with z|z
     ·exact hr d z
     ·rw [LA] at z;exact absurd (by have:=yh z;injection this) c
   ·rw [bM (by simp)];exact hg g
 ·rintro env ⟨hk,ha,k5,k7,rfl,hd2,hr,hg,hl2⟩;refine⟨rfl,?_⟩;rw [Ll] at hr hl2;refine rest6 hk ha k5 k7 hd2 (λe he=>hr e ?_) hg hl2;rw [Mh (by simp),hd.mem];obtain⟨t,htt,het⟩:=l5 he;have r:=ht.rot t htt;unfold te at het;simp only [LB,LR,or_false] at het;rcases het with rfl|rfl|rfl
  ·rw [r.1];rfl
  ·rw [r.2.1];rfl
  ·rw [r.2.2];rfl
theorem dD {α:Type} [DecidableEq α]:∀(l m:List α),l.Nodup->(∀x∈l,x∈m)->l.length<=m.length
 | [],m,_,_=>LZ _
 | x :: l,m,nd,h=>by
  rw [L5] at nd;have hx:=h x Lz;have ih:=dD l (m.erase x) nd.2 λy hy=>(List.mem_erase_of_ne (a:=y) (b:=x) (λe=>nd.1 (by rw [<- e];exact hy))).mpr (h y (Ln _ hy));rw [List.length_erase_of_mem hx] at ih;have:0 < m.length:=List.length_pos_of_mem hx;simp only [L0];omega
structure Sys (ha th:cf->Option cf) (f:cf) (isP:cf->Prop) (all:List cf):Prop where
 f0:isP f
 h1:∀p,isP p->∃q,ha p=some q/\isP q
 t1:∀p,isP p->∃q,th p=some q/\isP q
 hh:∀p q,isP p->ha p=some q->ha q=some p
 t3:∀p,isP p->∃q r,th p=some q/\th q=some r/\th r=some p
 al:∀p,isP p->p∈all
 few:all.length<=500
 re:∀S:cf->Prop,S f->(∀p q,S p->ha p=some q->S q)->(∀p q,S p->th p=some q->S q)->∀p,isP p->S p
structure sd (a b:List Nat):Prop where
 len:b.length=a.length
 al:∀(i x:Nat),a[i]?=some x->x < a.length
 bl:∀(i x:Nat),b[i]?=some x->x < a.length
 aa:∀(i x:Nat),a[i]?=some x->a[x]?=some i
 bbb:∀(i x y:Nat),b[i]?=some x->b[x]?=some y->b[y]?=some i
def Bz (fs:List Z2) (ms:List Mk) (ha th:cf->Option cf) (isP:cf->Prop):Prop :=
 (2 < fs.length/\∃ts,eZ fs ts/\fq fs ts/\Links fs ms ts ha th/\∀p,isP p↔rd ms ts p) \/
 (fs.length=2/\(∀i,ms[i]?=some Mk.bo->th (.gap i)=some (.gap i)/\ha (.gap i)=some (.gap (if ms[1 - i]?=some Mk.bo then 1 - i else i)))/\∀p,isP p↔∃i,ms[i]?=some Mk.bo/\p=.gap i)
theorem sC [DecidableEq Mk] (x:Mk):∀ms:List Mk,((List.range ms.length).filter λi=>decide (ms[i]?=some x)).length=ms.count x
 | []=>rfl
 | m :: ms=>by
  have ih:=sC x ms;rw [L0,List.range_succ_eq_map,List.filter_cons,List.count_cons,<- ih,List.filter_map,LO];have e:((λi=>decide ((m :: ms)[i]?=some x))∘Nat.succ)=λi=>decide (ms[i]?=some x):=by funext i;rfl
  rw [e]
  by_cases c:m=x
  ·subst c;simp
  ·have c':¬ (m == x)=true:=by simpa using c
   simp [c]
theorem km {met:List cf} {ms:List Mk} (x:Mk) (g:Nat->cf) (P:cf->Bool) (nd:met.Nodup) (gi:∀i j,ms[i]?=some x->ms[j]?=some x->g i=g j->i=j) (hP:∀p∈met,P p=true↔∃i,ms[i]?=some x/\p=g i) (hm:∀i,ms[i]?=some x->g i∈met):(met.filter P).length=ms.count x:=by
 rw [<- sC]
 have mem:∀i,i∈((List.range ms.length).filter λi=>decide (ms[i]?=some x))↔ms[i]?=some x:=λi=>by
  rw [List.mem_filter,LF,decide_eq_true_eq];exact⟨λz=>z.2,λz=>⟨(La.mp z).1,z⟩⟩
 refine Ai (g:=g) P nd (λi hi j hj e=>gi i j ((mem i).mp hi) ((mem j).mp hj) e) (List.nodup_range.filter _) (λp hp=>?_) (λi hi=>hm i ((mem i).mp hi));rw [hP p hp];exact⟨fun⟨i,a,b⟩=>⟨i,(mem i).mpr a,b⟩,fun⟨i,a,b⟩=>⟨i,(mem i).mp a,b⟩⟩
theorem ub:∀ts:List fH,(fy ts).length=3 * ts.length
 | []=>rfl
 | t :: ts=>by
  have:=ub ts;show (te t ++ fy ts).length=_
  rw [LI,this];unfold te;simp;omega
theorem Gb {fs:List Z2} {ms:List Mk} {ha th:cf->Option cf} {f:cf} (hf:kS fs ms) (h:qz fs ms ha th f):∃isP all,Sys ha th f isP all/\Bz fs ms ha th isP /\
  ∀met:List cf,met.Nodup->(∀p,isP p↔p∈met)->(met.filter λp=>decide (ha p=some p)).length=ms.count .half/\(met.filter λp=>decide (th p=some p)).length=ms.count .bo:=by
 have most:=hf.fr.most;have ml:=hf.mar.len;rcases h with ⟨hn,ts,ok,htl,hlen,lk,fo⟩|⟨c,hl,rfl⟩
 ·refine⟨rd ms ts,(fy ts).map .edge ++ (List.range fs.length).map .gap,⟨Ce hf hn ok lk fo,λp hp=>?_,λp hp=>vW lk hp,λp q hp hq=>?_,λp hp=>?_,λp hp=>?_,?_,λS s0 s1 s2=>reach hf hn ok lk fo s0 s1 s2⟩,.inl ⟨hn,ts,ok,htl,lk,λ_=>Iff.rfl⟩,λmet nd hm=>⟨?_,?_⟩⟩
  ·obtain⟨q,a,b,_⟩:=jS hf hn ok lk hp;exact⟨q,a,b⟩
  ·obtain⟨q',a,_,c⟩:=jS hf hn ok lk hp;rw [hq] at a;cases a;exact c
  ·cases p with
   | gap i=>exact⟨_,_,lk.thg i hp,lk.thg i hp,lk.thg i hp⟩
   | edge e =>
    obtain⟨t,ht,he⟩:=l5 hp;have r:=lk.rot t ht;unfold te at he;simp only [LB,LR,or_false] at he;rcases he with rfl|rfl|rfl
    ·exact⟨_,_,r.1,r.2.1,r.2.2⟩
    ·exact⟨_,_,r.2.1,r.2.2,r.1⟩
    ·exact⟨_,_,r.2.2,r.1,r.2.1⟩
  ·cases p with
   | edge e=>exact LQ.mpr (.inl (LC.mpr ⟨e,hp,rfl⟩))
   | gap i=>exact LQ.mpr (.inr (LC.mpr ⟨i,LF.mpr (dW hf.mar hp),rfl⟩))
  ·rw [LI,Ll,Ll,ub,List.length_range];omega
  ·refine km .half (λi=>.edge (bE fs i)) _ nd (λi j hi hj e=>qd hf.fr (dW hf.mar hi) (dW hf.mar hj) (by injection e)) (λp hp=>?_) (λi hi=>?_)
   ·rw [decide_eq_true_eq];exact Ha hf hn ok lk ((hm p).mpr hp)
   ·exact (hm _).mp (lL hf.fr hn ok (dW hf.mar hi))
  ·refine km .bo (λi=>.gap i) _ nd (λi j hi hj e=>by injection e) (λp hp=>?_) (λi hi=>(hm _).mp hi);rw [decide_eq_true_eq];exact Gn ok lk ((hm p).mpr hp)
 ·obtain⟨t3,ngap⟩:=hf.mar.few c;have lt2:∀i x,ms[i]?=some x->i < 2:=λi x hi=>by have:=(La.mp hi).1;omega
  have two:∀i,i < 2->ms[i]?=some Mk.bo\/ms[i]?=some Mk.half:=λi hi=>by
   rcases tJ hf.mar (i:=i) (by omega) with z|z|⟨j,_,z⟩
   ·exact .inr z
   ·exact .inl z
   ·exact absurd z (ngap i j)
  have one3:ms[1]?≠some Mk.bo->ms[0]?=some Mk.bo:=λz=>by
   obtain⟨i,hi⟩:=LL t3;have:=lt2 i _ hi;have:i≠1:=λw=>z (w▸hi);have:i=0:=by omega
   exact this▸hi
  refine⟨λp=>∃i,ms[i]?=some Mk.bo/\p=.gap i,[.gap 0,.gap 1],⟨?_,?_,?_,?_,?_,?_,by simp,λS s0 s1 s2=>?_⟩,.inr ⟨c,hl,λ_=>Iff.rfl⟩,λmet nd hm=>⟨?_,?_⟩⟩
  ·by_cases z:ms[1]?=some Mk.bo
   ·rw [if_pos z];exact⟨1,z,rfl⟩
   ·rw [if_neg z];exact⟨0,one3 z,rfl⟩
  ·rintro p ⟨i,hi,rfl⟩;refine⟨_,(hl i hi).2,?_⟩
   by_cases z:ms[1 - i]?=some Mk.bo
   ·rw [if_pos z];exact⟨1 - i,z,rfl⟩
   ·rw [if_neg z];exact⟨i,hi,rfl⟩
  ·rintro p ⟨i,hi,rfl⟩;exact⟨_,(hl i hi).1,i,hi,rfl⟩
  ·rintro p q ⟨i,hi,rfl⟩ hq;have l2:=lt2 i _ hi;rw [(hl i hi).2] at hq
   by_cases z:ms[1 - i]?=some Mk.bo
   ·rw [if_pos z] at hq;cases hq;rw [(hl _ z).2,show 1 - (1 - i)=i by omega,if_pos hi]
   ·rw [if_neg z] at hq;cases hq;rw [(hl i hi).2,if_neg z]
  ·rintro p ⟨i,hi,rfl⟩;exact⟨_,_,(hl i hi).1,(hl i hi).1,(hl i hi).1⟩
  ·rintro p ⟨i,hi,rfl⟩;have:=lt2 i _ hi
   match i,this with
   | 0,_=>simp
   | 1,_=>simp
  ·rintro p ⟨i,hi,rfl⟩
   by_cases z:ms[1]?=some Mk.bo
   ·rw [if_pos z] at s0;have:=lt2 i _ hi
    match i,this with
    | 1,_=>exact s0
    | 0,_ =>
     have q:=(hl 1 z).2;rw [if_pos (show ms[1 - 1]?=some Mk.bo from hi)] at q;exact s1 _ _ s0 q
   ·rw [if_neg z] at s0;have:=lt2 i _ hi;have:i≠1:=λw=>z (w▸hi);have:i=0:=by omega
    subst this;exact s0
  ·refine km .half (λi=>.gap (1 - i)) _ nd (λi j hi hj e=>by
    have:=lt2 i _ hi;have:=lt2 j _ hj;injection e with e
    omega) (λp hp=>?_) (λi hi=>?_)
   ·obtain⟨i,hi,rfl⟩:=(hm p).mpr hp;have l2:=lt2 i _ hi;rw [decide_eq_true_eq,(hl i hi).2]
    by_cases z:ms[1 - i]?=some Mk.bo
    ·rw [if_pos z];refine⟨λw=>?_,fun⟨k,hk,w⟩=>?_⟩
     ·injection w with w;injection w with w;omega
     ·injection w with w
      have:=lt2 k _ hk;have:k=1 - i:=by omega
      rw [this,z] at hk;cases hk
    ·rw [if_neg z];refine⟨λ_=>⟨1 - i,?_,by rw [show 1 - (1 - i)=i by omega]⟩,λ_=>rfl⟩;rcases two (1 - i) (by omega) with w|w
     ·exact absurd w z
     ·exact w
   ·have l2:=lt2 i _ hi;refine (hm _).mp ⟨1 - i,?_,rfl⟩;rcases two (1 - i) (by omega) with w|w
    ·exact w
    ·exfalso;obtain⟨k,hk⟩:=LL t3;have:=lt2 k _ hk;have:k=i\/k=1 - i:=by omega
     rcases this with v|v
     ·rw [v,hi] at hk;cases hk
     ·rw [v,w] at hk;cases hk
  ·refine km .bo (λi=>.gap i) _ nd (λi j hi hj e=>by injection e) (λp hp=>?_) (λi hi=>(hm _).mp ⟨i,hi,rfl⟩);obtain⟨i,hi,rfl⟩:=(hm p).mpr hp;rw [decide_eq_true_eq];exact⟨λ_=>⟨i,hi,rfl⟩,λ_=>(hl i hi).1⟩
end K55
namespace KR
open PySem L2 L2.L3 K55
def bX:Fw:=F2 yz
def kR:bI:=(aI (iI (aN (aG E9 (ag 1) (aA fB (af (ag 0) aw)))) (cz (aG bS (ag 0) (ag 1))) bQ) (cz (cC (.int 0))))
theorem oS:∀ds Q,bX ds Q->ds.length=2:=kM
theorem qq:∀ds (Q:D->Prop),bX ds Q->kR { nx:=λ_=>Q .non,rt:=Q } (aF ["_law_script","_law_k"] ds):=by
 exact wy
def tM (x y:D) (Q:D->Prop):Prop:=∃m:Int,x=.obj eu/\y=.int m/\0 < m/\m<=1000000000000/\∀d:Int,0<=d->d < m->Q (.int d)
def aE:Fw:=F2 tM
def jK:bI:=(aI (bJ 2 (aG pI (yl (ag 0)) (ag 1))) (aI (p4 (ag 0) (aG EB (yl (ag 0)) (ag 1))) (cz (ag 2))))
theorem qU:∀ds Q,aE ds Q->ds.length=2:=kM
theorem sY:∀ds (Q:D->Prop),aE ds Q->jK { nx:=λ_=>Q .non,rt:=Q } (aF ["_law_rest","_law_many","_law_digit_here"] ds):=by
 rintro ds Q ⟨x,y,rfl,m,rfl,rfl,h0,h1,h⟩
 simp_arith only [jK,yl,p4]
 intro r;have f:=lI (a:=r) (b:=m) h0;have hm:m.natAbs < 2 ^ 256:=Mo (show m.natAbs<=1000000000000 by omega) (by decide);refine⟨vC _ (by omega),λr2=>⟨HB _ ⟨by omega,hm⟩,?_⟩⟩;exact h _ f.1 f.2
def HQ (x y:D) (Q:D->Prop):Prop:=∃n:Nat,x=.obj eu/\y=.int (n:Int)/\2<=n/\n<=22/\∀fs,bT n fs->Q (.tup (fs.map gn))
def cD:Fw:=F2 HQ
def gj:bI:=(aI (cw 2 (mE (af (bU (af (Cg zU (cC (.int 1))) (af (cC (.int 0)) aw))) (af (bU (af (cC (.int 0)) (af (cC (.int 1)) aw))) (af (bU (af (cC (.int 1)) (af (cC (.int 0)) aw))) aw))))) (aI (gq hU (af (aG oR (ag 1) (cC (.int 2))) aw) (a9 3) (aI (bJ 4 (aA aE (af (ag 0) (af (aG oR (cH 2) (cC (.int 1))) aw)))) (pg 2 (aG fe (ag 4) (cC (.int 1))) (bU (af (aG fe (aG bS (cZ 2 (ag 4)) (cC (.int 0))) (aG bS (cZ 2 (aG fe (ag 4) (cC (.int 1)))) (cC (.int 0)))) (af (aG fe (aG bS (cZ 2 (ag 4)) (cC (.int 1))) (aG bS (cZ 2 (aG fe (ag 4) (cC (.int 1)))) (cC (.int 1)))) aw)))))) (dq 2 (cz (aA eJ (af (aG fe (jx (af (bU (af (cC (.int 1)) (af (cC (.int 0)) aw))) aw)) (EM (ag 2) (lR (cC (.int 1))) (lR (aG oR (aA fB (af (ag 2) aw)) (cC (.int 1)))))) aw))))))
theorem lO:∀ds Q,cD ds Q->ds.length=2:=kM
theorem nr:∀ds (Q:D->Prop),cD ds Q->gj { nx:=λ_=>Q .non,rt:=Q } (aF ["_law_rest","_law_many","_law_row","_law_k","_law_at"] ds):=by
 rintro ds Q ⟨x,y,rfl,n,rfl,rfl,h2,h22,h⟩
 simp_arith only [gj]
 refine⟨by omega,by omega,?_⟩;refine cm (λi e=>∃(row:List Z2) (k1 k2:Option Lo),e=[some (.d (.obj eu)),some (.d (.int n)),some (.own (row.map gn)),k1,k2]/\u3 i row) ?_ ?_ ⟨[(-1,0),(0,1),(1,0)],_,_,rfl,Kg⟩
 ·rintro i x env N hx ⟨row,k1,k2,rfl,hr⟩ hN
  have hi:i < n - 2:=by
   have:=(La.mp hx).1;simp [aW] at this;omega
  have hxe:x=.int (i:Int):=by
   unfold aW at hx;rw [Lj,LH (by omega)] at hx;cases hx;simp
  subst hxe;have hl:=hr.len
  simp_arith only [Ll,aE,gM,tM]
  have hk:((row.length:Int) - 1)=((i + 2:Nat):Int):=by omega
  rw [hk];refine⟨by omega,by omega,λv v0 v1=>?_⟩;obtain⟨a,ea⟩:∃a:Nat,v=(a:Int):=⟨_,(Mg v0).symm⟩;subst ea;have ha:a < i + 2:=by omega
  have hp:row[a]?=some row[a]:=Lc (by omega);have hq:row[a + 1]?=some row[a + 1]:=Lc (by omega);have e1:j6 (row.map gn) (a:Int)=some (gn row[a]):=fO _ _ _ _ hp;have e2:j6 (row.map gn) ((a:Int) + 1)=some (gn row[a + 1]):=fO _ _ (a + 1) _ hq;refine⟨_,_,rfl,e1,?_⟩;rw [yn];refine⟨_,_,rfl,e2,?_⟩;rw [yn];refine⟨_,_,rfl,e1,?_⟩;rw [yc];refine⟨_,_,rfl,e2,?_⟩;rw [yc];refine⟨by omega,by omega,by omega,hN _ ⟨row.take (a + 1) ++ (row[a].1 + row[a + 1].1,row[a].2 + row[a + 1].2) :: row.drop (a + 1),some (.d (.int i)),some (.d (.int a)),?_,GX hr ha hp hq⟩⟩
  rw [show ((a:Int) + 1).toNat=a + 1 by omega,List.map_append,LM,List.map_take,List.map_drop];rfl
 ·rintro env ⟨row,k1,k2,rfl,hr⟩
  simp_arith only [and_true]
  have el:(aW 0 ((n:Int) - 2).toNat).length=n - 2:=by simp [aW];omega
  rw [el] at hr;have hl:=hr.len
  have ec:cutD (row.map gn) (some 1) (some (((row.map gn).length:Int) - 1))=((row.drop 1).take (n - 2 + 1)).map gn:=by
   unfold cutD;rw [Ll,show ((row.length:Int) - 1)=((row.length - 1:Nat):Int) by omega,show (1:Int)=((1:Nat):Int) from rfl,HT.yG,HT.yG];rw [List.map_take,List.map_drop]
   congr 1
   ·omega
   ·congr 1;omega
  rw [ec];refine⟨by simp;omega,?_⟩;have:=h _ (by have:=Cd hr (by omega);rw [show n - 2 + 2=n by omega] at this;exact this);exact this
def HC (x y:D) (Q:D->Prop):Prop:=∃n:Nat,x=.obj eu/\y=.int (n:Int)/\2<=n/\n<=22/\∀ms,pK n ms->Q (.tup (ms.map mS))
def eS:Fw:=F2 HC
def f6:bI:=(iI (qI (aN (aG IK (ag 5) (cC (.int 1)))) (pV 3)) (aI (mO 6 3 (aA aE (af (ag 0) (af (cH 3) aw)))) (aI (rq 2 (ag 4) (ag 6)) (rq 2 (ag 6) (ag 4)))) bQ)
def kN:bI:=(aI (dq 2 (iI (qI (aN (aG jm (ag 1) (cC (.int 2)))) (aN (aG (Gy true) (cC (.str "third")) (ag 2)))) (bJ 2 (jx (af (cC (.str "third")) (af (cC (.str "half")) aw)))) bQ)) (cz (aA eJ (af (ag 2) aw))))
def i8:bI:=(aI (iI (aN (aG jm (ag 5) (cC (.int 1)))) (rq 2 (ag 4) (cC (.str "third"))) bQ) f6)
def jV:bI:=(aI (cw 2 (fv hU [] (af (ag 1) aw) cg (cC (.str "half")))) (aI (cw 3 (p9 (af (ag 1) aw))) (aI (ic (pV 3) (aI (mO 4 3 (cC (.int 0))) (aI (bJ 5 (aA aE (af (ag 0) (af (cC (.int 4)) aw)))) i8))) kN)))
theorem rb:∀ds Q,eS ds Q->ds.length=2:=kM
theorem uO:∀ds (Q:D->Prop),eS ds Q->jV { nx:=λ_=>Q .non,rt:=Q } (aF ["_law_rest","_law_many","_law_marks_here","_law_left","_law_gap","_law_way","_law_other"] ds):=by
 rintro ds Q ⟨x,y,rfl,n,rfl,rfl,h2,h22,h⟩
 simp_arith only [jV,ic]
 refine⟨by omega,by omega,?_⟩;refine nG (λ_=>.str "half") _ _ (λx hx N hN=>by simp_arith only [b9];exact hN) (by simp [aW,Lu];omega) ?_
 refine⟨by omega,by omega,?_⟩
 have ints_nats:aW 0 (n:Int).toNat=au (List.range n):=by
  unfold aW au;rw [show (n:Int).toNat=n by omega];refine List.map_congr_left λi _=>?_;rw [Int.zero_add]
 refine⟨λe=>∃(left:List Nat) (ms:List Mk) (k5 k6 k7:Option Lo),e=[some (.d (.obj eu)),some (.d (.int n)),some (.own (ms.map mS)),some (.own (au left)),k5,k6,k7]/\ia n left ms,
  BL 3,⟨List.range n,List.replicate n .half,none,none,none,?_,?_⟩,?_⟩
 ·rw [ints_nats]
  have e:[] ++ (au (List.range n)).map (λ_=>D.str (Str.ofString "half"))=(List.replicate n Mk.half).map mS:=by
   unfold au;rw [List.nil_append,List.map_map,List.map_replicate];apply List.ext_getElem?
   intro i
   by_cases hi:i < n
   ·rw [Lj,LH hi,LU,if_pos hi];rfl
   ·rw [Lp (by simp;omega),Lp (by simp;omega)]
  rw [e]
 ·refine⟨by simp,List.nodup_range,λi hi=>LF.mp hi,λi hi=>?_,λi j hij=>?_⟩
  ·rw [LU,if_pos (LF.mp hi)]
  ·rw [LU] at hij;split at hij <;> cases hij
 rintro env ⟨left,ms,k5,k6,k7,rfl,hm⟩;refine⟨au left,rfl,by rw [au,rW];decide,?_⟩
 cases left with
 | nil =>
  rw [if_neg (by simp [au])]
  simp_arith only [kN]
  have fin:∀ms:List Mk,pK n ms->Q (.tup (ms.map mS)):=h
  by_cases e2:(n:Int)=2
  ·rw [if_pos e2];have en:n=2:=by omega
   refine⟨ms.map mS,rfl,by rw [L2.L3.D0];decide,by decide,_,rfl,?_⟩;rw [if_pos rfl,zh]
   by_cases ht:Mk.bo∈ms
   ·rw [decide_eq_true ht]
    simp_arith only [and_true]
    refine fin ms ⟨hm.len,hm.pair,λ_=>⟨ht,λi j hij=>?_⟩⟩;obtain⟨h1,h2⟩:=hm.pair i j hij;have l1:=(La.mp hij).1;have l2:=(La.mp h2).1;rw [hm.len] at l1 l2;obtain⟨q,hq,eq⟩:=List.getElem_of_mem ht;rw [hm.len] at hq;have hqi:q=i\/q=j:=by omega
    rcases hqi with z|z
    ·subst z;rw [Lc (by rw [hm.len];exact hq),eq] at hij;cases hij
    ·subst z;rw [Lc (by rw [hm.len];exact hq),eq] at h2;cases h2
   ·rw [decide_eq_false ht]
    simp_arith only [and_true]
    refine fin [.bo,.half] ⟨by rw [en];rfl,λi j hij=>?_,λ_=>⟨by simp,λi j hij=>?_⟩⟩
    ·match i with
     | 0=>cases hij
     | 1=>cases hij
     | i + 2=>cases hij
    ·match i with
     | 0=>cases hij
     | 1=>cases hij
     | i + 2=>cases hij
  ·rw [if_neg e2]
   exact fin ms ⟨hm.len,hm.pair,λz=>absurd (by omega) e2⟩
 | cons g left =>
  rw [if_pos (by simp [au])];have hg:=hm.lt g Lz;refine⟨_,rfl,0,.int g,rfl,rfl,by decide,?_⟩;have eE:(au (g :: left)).eraseIdx 0=au left:=rfl;rw [eE]
  simp_arith only [aE,gM,tM]
  intro w w0 w1
  simp_arith only [i8]
  have hml:(ms.map mS).length=n:=by rw [Ll,hm.len]
  have ixg:∀(l:List D) (j:Nat),l.length=n->j < n->rZ l.length (j:Int)=some j:=λl j hl hj=>by
   unfold rZ;rw [if_pos (by omega),if_pos (by omega)];rfl
  have mset:∀(j:Nat) (m:Mk),(ms.map mS).set j (mS m)=(ms.set j m).map mS:=λj m=>by rw [List.map_set]
  have less:(au left).length < (au (g :: left)).length:=by simp [au]
  by_cases c1:w=1
  ·rw [if_pos c1];subst c1;refine⟨_,g,rfl,ixg _ _ hml hg,?_⟩
   simp_arith only [f6]
   exact⟨⟨left,ms.set g .bo,_,_,_,mset g .bo,rfl,rfl,rfl,rfl,hm.bo⟩,less⟩
  ·rw [if_neg c1]
   simp_arith only [f6]
   by_cases c2:1 < w
   ·rw [if_pos c2];refine⟨by rw [au,rW];decide,?_⟩
    by_cases c3:(au left).isEmpty=false
    ·rw [if_pos c3]
     have hl0:0 < left.length:=by
      cases left with
      | nil=>cases c3
      | cons _ _=>simp
     have ll:=hm.nd
     have lln:left.length<=n:=by
      have:=dD _ (List.range n) (L5.mp ll).2 (λy hy=>LF.mpr (hm.lt y (Ln _ hy)))
      rwa [List.length_range] at this
     have hll:(au left).length=left.length:=by simp [au]
     rw [hll];refine⟨_,_,rfl,_,rfl,rfl,by omega,by omega,λu u0 u1=>?_⟩;obtain⟨a,ea⟩:∃a:Nat,u=(a:Int):=⟨_,(Mg u0).symm⟩;subst ea;have ha:a < left.length:=by omega
     have ho:left[a]?=some left[a]:=Lc ha;have hol:left[a] < n:=hm.lt _ (Ln _ (Md ha));refine⟨a,.int left[a],rfl,by unfold au;rw [Lj,ho];rfl,by omega,_,g,rfl,ixg _ _ hml hg,_,left[a],rfl,ixg _ _ (by rw [List.length_set];exact hml) hol,?_⟩;refine⟨⟨left.eraseIdx a,(ms.set g (.gap left[a])).set left[a] (.gap g),_,_,_,?_,?_,rfl,rfl,rfl,hm.two ho⟩,?_⟩
     ·rw [List.map_set,List.map_set];rfl
     ·unfold au;rw [Bg]
     ·unfold au;simp only [BL,LO,LK];rw [List.length_eraseIdx,Ll,if_pos ha];simp;omega
    ·rw [if_neg c3];exact⟨⟨left,ms,_,_,_,rfl,rfl,rfl,rfl,rfl,hm.skip⟩,less⟩
   ·rw [if_neg c2];exact⟨⟨left,ms,_,_,_,rfl,rfl,rfl,rfl,rfl,hm.skip⟩,less⟩
def EK (x y z:D) (Q:D->Prop):Prop:=∃m g:Int,x=.obj eu/\y=.int m/\z=.int g/\2<=m/\m<=22/\2<=g/\g<=22/\∀fs ms,kS fs ms->(fs.length:Int)<=max m g->Q (qZ fs ms)
def gC:Fw:=F3 EK
def jE:bI:=(cz (bU (af (aA cD (af (ag 0) (af (ag 3) aw))) (af (aA eS (af (ag 0) (af (ag 3) aw))) aw))))
def nq:bI:=(aI (bJ 3 (aG fe (cC (.int 2)) (aA aE (af (ag 0) (af (aG oR (ag 1) (cC (.int 1))) aw))))) (aI (iI (aN (aG jm (aA aE (af (ag 0) (af (cC (.int 8)) aw))) (cC (.int 1)))) (bJ 3 (aG fe (cC (.int 2)) (aA aE (af (ag 0) (af (aG oR (ag 2) (cC (.int 1))) aw))))) bQ) jE))
theorem wV:∀ds Q,gC ds Q->ds.length=3:=pT
theorem w8:∀ds (Q:D->Prop),gC ds Q->nq { nx:=λ_=>Q .non,rt:=Q } (aF ["_law_rest","_law_most","_law_great","_law_many"] ds):=by
 rintro ds Q ⟨x,y,z,rfl,m,g,rfl,rfl,rfl,m2,m22,g2,g22,h⟩
 have fin:∀n:Int,2<=n->n<=max m g->jE { nx:=λ_=>Q .non,rt:=Q } [some (.d (.obj eu)),some (.d (.int m)),some (.d (.int g)),some (.d (.int n))]:=λn h1 h2=>by
  obtain⟨k,rfl⟩:∃k:Nat,n=(k:Int):=⟨_,(Mg (by omega)).symm⟩
  simp_arith only [jE,cD,eS,gM,HQ,HC]
  refine⟨k,rfl,by omega,by omega,λfs hfs=>⟨k,rfl,by omega,by omega,λms hms=>?_⟩⟩;have e:=hfs.len;exact h fs ms ⟨by rw [e];exact hfs,by rw [e];exact hms⟩ (by omega)
 simp_arith only [nq,aE,gM,tM]
 refine⟨by omega,by omega,λd d0 d1 e e0 e1=>?_⟩
 by_cases c:e=1
 ·rw [if_pos c];exact⟨by omega,by omega,λd d0 d1=>fin _ (by omega) (by omega)⟩
 ·rw [if_neg c];exact fin _ (by omega) (by omega)
def Ib (x y:D) (Q:D->Prop):Prop:=∃(ns:List Int) (k:Int),x=.lst (ns.map D.int)/\y=.int k/\0<=k/\k<=1000/\∀r:Int,Q (.int r)
def gB:Fw:=F2 Ib
theorem Kz {l:List Int} (hl:l.length=8) (P:Int->Prop) (hP:∀x∈l,P x) {i:Int} (h0:0<=i) (h8:i < 8) {Q:D->Prop} (q:∀x,P x->Q (.int x)):bS (.tup (l.map D.int)) (.int i) Q:=by
 obtain⟨k,rfl⟩:∃k:Nat,i=(k:Int):=⟨_,(Mg h0).symm⟩;have hk:k < l.length:=by omega
 refine⟨.int l[k],?_,q _ (hP _ (Md hk))⟩;have e1:rZ (l.map D.int).length (k:Int)=some k:=by unfold rZ;rw [Ll,if_pos (by omega),if_pos (by omega)];simp
 unfold j6;rw [e1];simp [hk]
def kQ:bI:=(bJ 5 (aG fe (aG x8 (ag 5) (cC (.int 7919))) (aG pI (aG pI (aG x8 (ag 7) (aG bS (ag 2) (aG pI (ag 6) (cC (.int 8))))) (aG bS (ag 3) (aG pI (ag 6) (cC (.int 8))))) (cC (.int 7919)))))
def oE:bI:=(aI (bJ 5 (cC (.int 0))) (aI (gq hU (af (cC (.int 60)) aw) (a9 6) (aI (bJ 7 (aG fe (aG fe (aG pI (aA bX (af (ag 0) (af (aG fe (ag 1) (aG pI (ag 6) (cC (.int 9)))) aw))) (aG FR (cC (.int 10)) (cC (.int 18)))) (cC (.int 1))) (aG x8 (ag 6) (ag 6)))) kQ)) (cz (ag 5))))
def oh:bI:=(aI (bJ 2 (bU (af (cC (.int 48271)) (af (cC (.int 69621)) (af (cC (.int 16807)) (af (cC (.int 39373)) (af (cC (.int 21401)) (af (cC (.int 60493)) (af (cC (.int 87721)) (af (cC (.int 31337)) aw)))))))))) (aI (bJ 3 (bU (af (cC (.int 99991)) (af (cC (.int 99989)) (af (cC (.int 99971)) (af (cC (.int 99961)) (af (cC (.int 99929)) (af (cC (.int 99923)) (af (cC (.int 99907)) (af (cC (.int 99901)) aw)))))))))) (aI (bJ 4 (aA bX (af (ag 0) (af (ag 1) aw)))) (aI (iI (aN (aG KG (ag 4) (aG FR (cC (.int 10)) (cC (.int 18))))) (cz (ag 4)) bQ) oE))))
theorem u4:∀ds Q,gB ds Q->ds.length=2:=kM
theorem xu:∀ds (Q:D->Prop),gB ds Q->oh { nx:=λ_=>Q .non,rt:=Q } (aF ["_law_script","_law_at","_law_by","_law_prime","_law_cell","_law_big_here","_law_k","_law_one"] ds):=by
 rintro ds Q ⟨x,y,rfl,ns,k,rfl,rfl,k0,k1,h⟩
 simp_arith only [oh,bX,gM,yz]
 refine⟨ns,k,rfl,rfl,k0,Gj _ _ (by decide),?_⟩
 by_cases c:1000000000000000000<=yF ns k
 ·rw [if_pos c];exact h _
 ·rw [if_neg c]
  simp_arith only [oE]
  refine cm (λ_ e=>∃(b:Int) (k6 k7:Option Lo),e=[some (.d (.lst (ns.map D.int))),some (.d (.int k)),some (.d (.tup ([48271,69621,16807,39373,21401,60493,87721,31337].map D.int))),some (.d (.tup ([99991,99989,99971,99961,99929,99923,99907,99901].map D.int))),some (.d (.int (yF ns k))),some (.d (.int b)),k6,k7]) ?_ ?_ ⟨0,none,none,rfl⟩
  ·rintro i x env N hx ⟨b,k6,k7,rfl⟩ hN
   have hi:i < 60:=by
    have:=(La.mp hx).1
    simpa [aW] using this
   have hxe:x=.int (i:Int):=by
    unfold aW at hx;rw [Lj,LH (by omega)] at hx;cases hx;simp
   subst hxe;have f9:=lI (a:=(i:Int)) (b:=9) (by decide);have f8:=lI (a:=(i:Int)) (b:=8) (by decide);simp only [ag,aG,cC,aA,af,aw,aI,bJ,a9,List.set_cons_zero,List.set_cons_succ,LO,LK,Option.some.injEq,Lo.d.injEq,exists_eq_left',oi,iZ,gM,yz,bX,kQ];refine⟨vC _ (by decide),ns,_,rfl,rfl,by omega,Gj _ _ (by decide),vC _ (by decide),qK (by omega) (by omega),mJ (by decide) (by decide),vC _ (by decide),?_⟩;refine Kz rfl (λx=>-(2 ^ 64) < x/\x < 2 ^ 64) (by decide) f8.1 f8.2 λy hy=>?_
   refine⟨mJ hy.1 hy.2,vC _ (by decide),?_⟩;refine Kz rfl (λx=>x≠0) (by decide) f8.1 f8.2 λz hz=>?_;exact⟨vC _ hz,vC _ (by decide),hN _ ⟨_,_,_,rfl⟩⟩
  ·rintro env ⟨b,k6,k7,rfl⟩
   simp_arith only [and_true]
   exact h b
def fF:Fw:=F1 λx Q=>∃fs:List Z2,x=.tup (fs.map gn)/\0 < fs.length/\fs.length<=22/\Q (.lst (uR fs))
def kW:bI:=(cz (cX (fv hU [0] (af (aA fB (af (ag 0) aw)) aw) cg (bU (af (aG bS (ag 1) (ag 0)) (af (aG bS (ag 1) (aG pI (aG fe (ag 0) (cC (.int 1))) (aA fB (af (ag 1) aw)))) aw))))))
theorem uf:∀ds Q,fF ds Q->ds.length=1:=qM
theorem v8:∀ds (Q:D->Prop),fF ds Q->kW { nx:=λ_=>Q .non,rt:=Q } (aF ["_law_fractions_here"] ds):=by
 rintro ds Q ⟨x,rfl,fs,rfl,h0,h22,h⟩
 simp_arith only [kW,Ll]
 refine⟨by omega,by omega,?_⟩;refine nG (λx=>match x with|.int i=>dP (.edge (bE fs i.toNat))|_=>.non) _ _ (λx hx N hN=>?_) (by simp [aW,Lu];omega) ?_
 ·obtain⟨i,hi,rfl⟩:∃i:Nat,i < fs.length/\x=.int (i:Int):=by
   unfold aW at hx;obtain⟨i,hi,rfl⟩:=LC.mp hx;exact⟨i,by simpa using hi,by simp⟩
  simp_arith only [b9,Ll]
  have hm:(i + 1) % fs.length < fs.length:=Nat.mod_lt _ (by omega)
  have e2:((i:Int) + 1).fmod (fs.length:Int)=(((i + 1) % fs.length:Nat):Int):=by
   rw [Int.fmod_eq_emod_of_nonneg _ (by omega),Int.natCast_emod,show (((i + 1:Nat)):Int)=(i:Int) + 1 by omega]
  refine Cz (my hi) ⟨by show (fs.length:Int)≠0;omega,?_⟩;rw [e2];refine Cz (my hm) ?_;rw [As hi];exact hN
 ·have eg:[] ++ (aW 0 (fs.length:Int).toNat).map (λx=>match x with|.int i=>dP (.edge (bE fs i.toNat))|_=>.non)=uR fs:=by
   unfold uR aW;simp
  rw [eg];exact h
def eT:Fw:=F1 AS
def dY:bI:=(aI (bJ 11 (bU (af (bU (af (cC (.int 1)) (af (cC (.int 0)) aw))) (af (bU (af (cC (.int 0)) (af (cC (.int 1)) aw))) aw)))) (aI (dJ 4 (iI (aN (aG jm (aA fB (af (ag 1) aw)) (cC (.int 2)))) (aI (bJ 11 (aG bS (jx (af (cC (.int 1)) (af (cC (.int 0)) aw))) (aA tF (af (aG nO (aG bS (ag 2) (cC (.int 1))) (cC (.str "third"))) aw)))) (mI (jx (af (cC (.int 0)) (af (cC (.int 1)) aw))) (a9 9) (iI (aN (aG jm (aG bS (ag 2) (ag 9)) (cC (.str "third")))) (aU 8 (ag 9) (aG bS (jx (af (ag 9) (af (aG oR (cC (.int 1)) (ag 9)) aw))) (aA tF (af (aG jm (aG bS (ag 2) (aG oR (cC (.int 1)) (ag 9))) (cC (.str "third"))) aw)))) bQ))) (iI (aN (aG (HL true) (ag 11) (ag 4))) (bJ 11 (fM 8 (aG bS (ag 3) (Cg zU (cC (.int 1)))))) bQ))) (dJ 8 (cz (bU (af (ag 8) (af (ag 4) (af (ag 11) aw))))))))
def dX:bI:=(aI (r9 (af (ag 2) aw) (jo 2 (cQ (a9 9) (cQ (a9 10) jg))) (iI (aN (aG jm (ag 10) (cC (.str "third")))) (aI (aU 4 (ag 9) (ag 9)) (aI (aU 8 (ag 9) (aG bS (ag 3) (ag 9))) (aU 8 (aG bS (ag 3) (ag 9)) (ag 9)))) (iI (aN (aG jm (ag 10) (cC (.str "half")))) (aU 8 (aG bS (ag 3) (ag 9)) (aG bS (ag 3) (ag 9))) (aU 8 (aG bS (ag 3) (ag 9)) (aG bS (ag 3) (ag 10)))))) dY)
def fS:bI:=(aI (kb 8) (aI (oY 4 (jo 2 (cQ (a9 5) (cQ (a9 7) jg))) (aU 8 (bU (af (ag 5) (af (ag 7) aw))) (bU (af (ag 7) (af (ag 5) aw))))) dX))
def jr:bI:=(aI (oW (ag 0) (jo 2 (cQ (a9 1) (cQ (a9 2) jg)))) (aI (bJ 3 (aA fF (af (ag 1) aw))) (aI (kb 4) (aI (mI (aA eQ (af (ag 1) aw)) (jo 3 (cQ (a9 5) (cQ (a9 6) (cQ (a9 7) jg)))) (aI (aU 4 (bU (af (ag 5) (af (ag 6) aw))) (bU (af (ag 6) (af (ag 7) aw)))) (aI (aU 4 (bU (af (ag 6) (af (ag 7) aw))) (bU (af (ag 7) (af (ag 5) aw)))) (aU 4 (bU (af (ag 7) (af (ag 5) aw))) (bU (af (ag 5) (af (ag 6) aw))))))) fS))))
theorem qP:∀ds Q,eT ds Q->ds.length=1:=qM
theorem tH:∀ds (Q:D->Prop),eT ds Q->jr { nx:=λ_=>Q .non,rt:=Q } (aF ["_law_fan_here","_law_fractions_here","_law_marks_here","_law_gaps_here","_law_thirds","_law_one","_law_mid","_law_other","_law_halves","_law_i","_law_mark","_law_first"] ds):=by
 rintro ds Q ⟨x,rfl,fs,ms,rfl,hf,h⟩;have two:=hf.fr.two;have most:=hf.fr.most;have rest4:=xq hf h
 simp_arith only [jr,qZ,fF,eQ,uZ,Bq,kb]
 refine⟨fs,rfl,by omega,by omega,fs,rfl,hf.fr,λts htl hlen=>?_⟩;have ok:=u9 htl hf.fr;refine cm (λi e=>∃(tk:List (D×D)) (th:cf->Option cf) (k5 k6 k7:Option Lo),e=[some (.d (qZ fs ms)),some (.d (.tup (fs.map gn))),some (.d (.tup (ms.map mS))),some (.d (.lst (uR fs))),some (.dic tk),k5,k6,k7,none,none,none,none]/\gu tk th/\vj (ts.take i) th/\tk.length<=3 * i) ?_ ?_ ⟨[],_,none,none,none,rfl,gu.nil,by simpa using vj.nil,by simp⟩
 ·rintro i x env N hx ⟨tk,th,k5,k6,k7,rfl,hd,ht,hl⟩ hN;have hi:i < ts.length:=by have:=(La.mp hx).1;simpa using this
  obtain⟨t,hti⟩:∃t,ts[i]?=some t:=⟨ts[i],Lc hi⟩;rw [Lj,hti] at hx;cases hx;have tke:ts.take (i + 1)=ts.take i ++ [t]:=by rw [Mm,hti];rfl
  have nd:(fy (ts.take i ++ [t])).Nodup:=by
   rw [<- tke];have q:=ok.dif;rw [<- List.take_append_drop (i + 1) ts] at q;unfold fy at q ⊢;rw [List.flatMap_append,Mj] at q;exact q.1
  have d1:=hd.put (.edge (t.1,t.2.1)) (.edge (t.2.1,t.2.2));have d2:=d1.put (.edge (t.2.1,t.2.2)) (.edge (t.2.2,t.1));have d3:=d2.put (.edge (t.2.2,t.1)) (.edge (t.1,t.2.1));have l1:=dH (kvs:=tk) (k:=dP (.edge (t.1,t.2.1))) (v:=dP (.edge (t.2.1,t.2.2)));have l2:=dH (kvs:=putN tk (dP (.edge (t.1,t.2.1))) (dP (.edge (t.2.1,t.2.2)))) (k:=dP (.edge (t.2.1,t.2.2))) (v:=dP (.edge (t.2.2,t.1)));have l3:=dH (kvs:=putN (putN tk (dP (.edge (t.1,t.2.1))) (dP (.edge (t.2.1,t.2.2)))) (dP (.edge (t.2.1,t.2.2))) (dP (.edge (t.2.2,t.1)))) (k:=dP (.edge (t.2.2,t.1))) (v:=dP (.edge (t.1,t.2.1)))
  have sz:=Lu;have k1:=bW (.edge (t.1,t.2.1));have k2:=bW (.edge (t.2.1,t.2.2));have k3:=bW (.edge (t.2.2,t.1));simp only [dP] at l1 l2 l3
  simp_arith only [JB,aU,Lo.dic.injEq]
  refine⟨k1.1,k1.2,hd.ok,by omega,k2.1,k2.2,d1.ok,by omega,k3.1,k3.2,d2.ok,by omega,?_⟩;exact hN _ ⟨_,_,_,_,_,rfl,d3,by rw [tke];exact ht.snoc nd,by omega⟩
 ·rintro env ⟨tk,th,k5,k6,k7,rfl,hd,ht,hl⟩;rw [Ll,List.take_length] at ht;rw [Ll] at hl;exact rest4 ts tk th k5 k6 k7 htl hlen hd ht hl
section
variable {β:Type} [DecidableEq β]
def br (met:List β) (q:β):List β:=if q∈met then met else met ++ [q]
def ji (ha th:β->β):Nat->Nat->List β->List β
 | 0,_,met=>met
 | n + 1,at_,met=>match met[at_]? with
  | none=>met
  | some p=>ji ha th n (at_ + 1) (br (br met (ha p)) (th p))
def aP (met:List β) (g:β->β):List Nat:=met.map λp=>met.idxOf (g p)
structure Code (c:β->D):Prop where
 eq:∀p q,aV (c p) (c q)=decide (p=q)
 dp:∀p,dep (c p)<=8
def Look (x:D) (g:β->β) (c:β->D) (P:β->Prop):Prop:=∀p,P p->∀Q:D->Prop,Q (c (g p))->EH x (c p) Q
structure Sy (ha th:β->β) (f:β) (P:β->Prop) (all:List β):Prop where
 f0:P f
 cl:∀p,P p->P (ha p)/\P (th p)
 al:∀p,P p->p∈all
 few:all.length<=500
structure Me (P:β->Prop) (met:List β):Prop where
 nd:met.Nodup
 inn:∀p∈met,P p
theorem Me.add {P:β->Prop} {met:List β} (m:Me P met) {q:β} (hq:P q):Me P (br met q):=by
 unfold br
 by_cases c:q∈met
 ·rw [if_pos c];exact m
 ·rw [if_neg c];refine⟨Mj.mpr ⟨m.nd,by simp,λa ha b hb e=>c (by rw [LA] at hb;rw [<- hb,<- e];exact ha)⟩,λp hp=>?_⟩;rcases LQ.mp hp with z|z
  ·exact m.inn p z
  ·rw [LA] at z;rw [z];exact hq
def w4 (met l:List β) (i:Nat):List β:=(l.take i).foldl br met
theorem si {l met:List β} {i:Nat} {q:β} (h:l[i]?=some q):w4 met l (i + 1)=br (w4 met l i) q:=by
 unfold w4;rw [Mm,h,List.foldl_append];rfl
theorem Me.fold {P:β->Prop}:∀(l met:List β),Me P met->(∀q∈l,P q)->Me P (l.foldl br met)
 | [],met,m,_=>m
 | q :: l,met,m,h=>Me.fold l _ (m.add (h q Lz)) λx hx=>h x (Ln _ hx)
theorem bA {met:List β} {q p:β} {i:Nat} (h:met[i]?=some p):(br met q)[i]?=some p:=by
 unfold br
 by_cases c:q∈met
 ·rw [if_pos c];exact h
 ·rw [if_neg c,Lx (La.mp h).1];exact h
theorem fV {met:List β} {q:β}:q∈br met q:=by
 unfold br
 by_cases c:q∈met
 ·rw [if_pos c];exact c
 ·rw [if_neg c];simp
theorem dF {met:List β} {q p:β} (h:p∈met):p∈br met q:=by
 unfold br
 by_cases c:q∈met
 ·rw [if_pos c];exact h
 ·rw [if_neg c];exact LQ.mpr (.inl h)
theorem Me.len {ha th:β->β} {f:β} {P:β->Prop} {all met:List β} (s:Sy ha th f P all) (m:Me P met):met.length<=all.length:=dD met all m.nd λp hp=>s.al p (m.inn p hp)
theorem Js {c:β->D} (k:Code c) (met:List β) (q:β):((met.map c).any λe=>aV e (c q))=decide (q∈met):=by
 rw [Bool.eq_iff_iff,List.any_eq_true,decide_eq_true_eq]
 constructor
 ·rintro⟨e,h1,h2⟩;obtain⟨z,hz,rfl⟩:=LC.mp h1;rw [k.eq,decide_eq_true_eq] at h2;exact h2▸hz
 ·exact λh=>⟨_,LC.mpr ⟨q,h,rfl⟩,by rw [k.eq];simp⟩
theorem xS {c:β->D} (k:Code c):∀met:List β,bV (met.map c)<=8
 | []=>by simp [bV]
 | a :: l=>by
  have:=xS k l;have:=k.dp a;simp only [LM,bV];omega
theorem cy {met:List β} {q:β} (h:q∈met):met[met.idxOf q]?=some q:=by
 rw [Lc (List.idxOf_lt_length_iff.mpr h),List.getElem_idxOf]
theorem yq {met:List β} {x:D} {g:β->β} {c:β->D} {P:β->Prop} (k:Code c) (lk:Look x g c P) (m:Me P met) (cl:∀p∈met,g p∈met) (hl:met.length<=500) {Q:List D->Prop} (h:Q (au (aP met g))) :
  comps cg (qL (ag 2) (aG EH (ag 1) (ag 0))) [none,some (.d x),some (.d (.lst (met.map c)))] Q (met.map c) []:=by
 refine nH (λx y=>∀p,x=c p->p∈met->y=.int ((met.idxOf (g p):Nat):Int)) _ _ (λx' hx N hN=>?_) (by simp [Lu];omega) (λys hy hR=>?_)
 ·obtain⟨p,hp,rfl⟩:=LC.mp hx;have mq:=cl p hp;have dl:=xS k met;have kq:=k.dp (g p)
  have at_:∀j,(((met.map c)[j]?).map λd=>aV d (c (g p)))=(met[j]?).map λz=>decide (z=g p):=λj=>by
   rw [Lj,Option.map_map]
   congr 1
   funext z;exact k.eq z (g p)
  simp_arith only [qL]
  refine⟨by omega,lk p (m.inn p hp) _ ⟨by omega,met.idxOf (g p),?_,λj hj=>?_,hN _ λp' ep mp=>?_⟩⟩
  ·rw [at_,cy mq];simp
  ·have hkl:j < met.length:=Nat.lt_trans hj (List.idxOf_lt_length_iff.mpr mq);rw [at_,Lc hkl];simp only [Option.map_some,Option.some.injEq,decide_eq_false_iff_not];intro z;have:=(List.getElem?_inj hkl m.nd).mp (show met[j]?=met[met.idxOf (g p)]? by rw [cy mq,Lc hkl,z]);omega
  ·have e:=k.eq p p';rw [<- ep,k.eq] at e;have:p=p':=by simpa using e
   subst this;rfl
 ·have:[] ++ ys=au (aP met g):=by
   rw [List.nil_append];unfold au aP;rw [List.map_map];apply List.ext_getElem?
   intro i;rw [Ll] at hy;rw [Lj]
   by_cases cc:i < met.length
   ·have h1:ys[i]?=some (ys[i]'(by omega)):=Lc _;have h2:met[i]?=some met[i]:=Lc cc;rw [h1,h2];have:=hR i (c met[i]) _ (by rw [Lj,h2];rfl) h1 met[i] rfl (Md cc);rw [this];rfl
   ·rw [Lp (by omega),Lp (by omega)];rfl
  rw [this];exact h
end
def d9 {β:Type} [DecidableEq β] (ha th:β->β) (f:β) (n:Nat):List β:=ji ha th (n + 1) 0 [f]
def E4 (x y z:D) (Q:D->Prop):Prop:=∃(β:Type) (_:DecidableEq β) (c:β->D) (ha th:β->β) (f:β) (P:β->Prop) (all:List β),Code c/\Look x ha c P/\Look y th c P/\z=c f/\Sy ha th f P all /\
 Q (.tup [.tup (au (aP (d9 ha th f all.length) ha)),.tup (au (aP (d9 ha th f all.length) th))])
def cW:Fw:=F3 E4
def jT:bI:=(bJ 4 (aG fe (ag 4) (cC (.int 1))))
def mK:bI:=(dq 3 (cz (bU (af (aA eJ (af (cX (ir [0,3] (ag 3) cg (qL (ag 2) (aG EH (ag 1) (ag 0))))) aw)) (af (aA eJ (af (cX (ir [1,3] (ag 3) cg (qL (ag 2) (aG EH (ag 1) (ag 0))))) aw)) aw)))))
def lB:bI:=(aI (cw 3 (mE (af (ag 2) aw))) (aI (bJ 4 (cC (.int 0))) (aI (ic (aN (aG E9 (ag 4) (cH 3))) (aI (mI (jx (af (aG EH (ag 0) (cZ 3 (ag 4))) (af (aG EH (ag 1) (cZ 3 (ag 4))) aw))) (a9 5) (iI (xM true 3 (ag 5)) (dS 3 (ag 5)) bQ)) jT)) mK)))
theorem tK:∀ds Q,cW ds Q->ds.length=3:=pT
theorem wk:∀ds (Q:D->Prop),cW ds Q->lB { nx:=λ_=>Q .non,rt:=Q } (aF ["_law_halves","_law_thirds","_law_first","_law_met","_law_at","_law_behind"] ds):=by
 rintro ds Q ⟨x,y,z,rfl,β,inst,c,ha,th,f,P,all,k,lx,ly,rfl,sy,h⟩;have sz:=Lu;have few:=sy.few
 simp_arith only [lB,ic]
 refine⟨λe=>∃(met:List β) (at_:Nat) (k5:Option Lo),e=[some (.d x),some (.d y),some (.d (c f)),some (.own (met.map c)),some (.d (.int at_)),k5]/\Me P met/\at_<=met.length/\(∀i p,i < at_->met[i]?=some p->ha p∈met/\th p∈met)/\ji ha th (all.length + 1 - at_) at_ met=d9 ha th f all.length,
  λe=>all.length - Bk 4 e,⟨[f],0,none,rfl,⟨by simp,λp hp=>by rw [LA] at hp;rw [hp];exact sy.f0⟩,LZ _,λi p hi=>absurd hi (L7 _),rfl⟩,?_⟩
 rintro env ⟨met,at_,k5,rfl,m,mle,cl,hb⟩;have ml:=m.len sy
 simp_arith only [Ll]
 by_cases cc:at_ < met.length
 ·rw [if_pos (by omega)];obtain⟨p,hp⟩:∃p,met[at_]?=some p:=⟨met[at_],Lc cc⟩;have ip:=m.inn p (Lg hp);obtain⟨i1,i2⟩:=sy.cl p ip;have ai:j6 (met.map c) (at_:Int)=some (c p):=fO _ _ _ _ hp;refine⟨_,_,rfl,ai,lx p ip _ ⟨_,_,rfl,ai,ly p ip _ ?_⟩⟩;show turns _ _ _ [c (ha p),c (th p)] _
  have m1:=m.add i1;have m2:=m1.add i2
  let mm:Nat->List β:=λi=>match i with
   | 0=>met
   | 1=>br met (ha p)
   | _=>br (br met (ha p)) (th p)
  have hmm:∀i,Me P (mm i):=λi=>match i with
   | 0=>m
   | 1=>m1
   | _ + 2=>m2
  refine cm (λi e=>i<=2/\∃k5,e=[some (.d x),some (.d y),some (.d (c f)),some (.own ((mm i).map c)),some (.d (.int at_)),k5]) ?_ ?_ ⟨by omega,k5,rfl⟩
  ·rintro i x' env N hx ⟨hi2,k5,rfl⟩ hN
   obtain⟨q,rfl,eq⟩:∃q,x'=c q/\mm (i + 1)=br (mm i) q:=by
    match i,hx with
    | 0,hx=>cases hx;exact⟨_,rfl,rfl⟩
    | 1,hx=>cases hx;exact⟨_,rfl,rfl⟩
   have hi:i < 2:=by have:=(La.mp hx).1;simpa using this
   have ml':=(hmm i).len sy;have kq:=k.dp q;have dl:=xS k (mm i)
   simp_arith only [xM,Ll]
   refine⟨by omega,by omega,?_⟩;rw [Js k];unfold br at eq
   by_cases c2:q∈mm i
   ·rw [if_pos c2] at eq;rw [decide_eq_true c2];refine hN _ ⟨by omega,some (.d (c q)),?_⟩;rw [eq]
   ·rw [if_neg c2] at eq;rw [decide_eq_false c2];refine⟨by omega,hN _ ⟨by omega,some (.d (c q)),?_⟩⟩;rw [eq,List.map_append];rfl
  ·rintro env ⟨_,k5,rfl⟩
   simp_arith only [jT]
   refine⟨⟨br (br met (ha p)) (th p),at_ + 1,k5,rfl,by omega,rfl,m2,?_,λi q hi hq=>?_,?_⟩,by simp only [Bk,LO,LK];omega⟩
   ·have:=(La.mp (bA (q:=th p) (bA (q:=ha p) hp))).1;omega
   ·by_cases e:i=at_
    ·subst e;rw [bA (bA hp)] at hq;cases hq;exact⟨dF fV,fV⟩
    ·have hi':i < met.length:=by omega
     have o:met[i]?=some met[i]:=Lc hi';rw [bA (bA o)] at hq;cases hq;obtain⟨a1,a2⟩:=cl i _ (by omega) o;exact⟨dF (dF a1),dF (dF a2)⟩
   ·rw [<- hb,show all.length + 1 - at_=(all.length - at_) + 1 by omega,ji,hp];rw [show all.length + 1 - (at_ + 1)=all.length - at_ by omega]
 ·rw [if_neg (by omega)];have ea:at_=met.length:=by omega
  subst ea
  have eM:d9 ha th f all.length=met:=by
   rw [<- hb,show all.length + 1 - met.length=(all.length - met.length) + 1 by omega,ji,Lp (Lh _)]
  rw [eM] at h
  simp_arith only [mK,b9]
  refine yq k lx m (λp hp=>?_) (by omega) (yq k ly m (λp hp=>?_) (by omega) h)
  ·obtain⟨i,hi⟩:=LL hp;exact (cl i p (La.mp hi).1 hi).1
  ·obtain⟨i,hi⟩:=LL hp;exact (cl i p (La.mp hi).1 hi).2
section
variable {β:Type} [DecidableEq β] {ha th:β->β} {f:β} {P:β->Prop} {all:List β}
structure Full (ha th:β->β) (f:β) (P:β->Prop) (met:List β):Prop where
 me:Me P met
 cl:∀p∈met,ha p∈met/\th p∈met
 head:met[0]?=some f
 num:∀j q,0 < j->met[j]?=some q->∃i p,i < j/\met[i]?=some p/\(ha p=q\/th p=q)
structure Part (ha th:β->β) (f:β) (P:β->Prop) (met:List β) (at_:Nat):Prop where
 me:Me P met
 le:at_<=met.length
 cl:∀i p,i < at_->met[i]?=some p->ha p∈met/\th p∈met
 head:met[0]?=some f
 num:∀j q,0 < j->met[j]?=some q->∃i p,i < j/\i<=at_/\met[i]?=some p/\(ha p=q\/th p=q)
theorem Part.add {met:List β} {at_:Nat} (m:Part ha th f P met at_) {p q:β} (hp:met[at_]?=some p) (hq:P q) (e:ha p=q\/th p=q):Part ha th f P (br met q) at_:=by
 have hl:=(La.mp hp).1;refine⟨m.me.add hq,?_,λi x hi hx=>?_,bA m.head,λj x hj hx=>?_⟩
 ·have:=(La.mp (bA (q:=q) hp)).1;omega
 ·have o:met[i]?=some (met[i]'(by omega)):=Lc _;rw [bA o] at hx;cases hx;obtain⟨a,b⟩:=m.cl i _ hi o;exact⟨dF a,dF b⟩
 ·by_cases c:j < met.length
  ·have o:met[j]?=some met[j]:=Lc c;rw [bA o] at hx;cases hx;obtain⟨i,y,h1,h2,h3,h4⟩:=m.num j _ hj o;exact⟨i,y,h1,h2,bA h3,h4⟩
  ·have hx':=hx;unfold br at hx
   by_cases cq:q∈met
   ·rw [if_pos cq,Lp (by omega)] at hx;cases hx
   ·rw [if_neg cq,Ls (by omega)] at hx
    have hj0:j - met.length=0:=by
     have:=(La.mp hx).1
     simpa using this
    rw [hj0] at hx;have:q=x:=by simpa using hx
    subst this;exact⟨at_,p,by omega,Lh _,bA hp,e⟩
theorem vz (sy:Sy ha th f P all):∀n at_ met,Part ha th f P met at_->n + at_=all.length + 1->Full ha th f P (ji ha th n at_ met)
 | 0,at_,met,m,e=>by
  have:=m.me.len sy;have:=m.le
  omega
 | n + 1,at_,met,m,e=>by
  rw [ji]
  cases hp:met[at_]? with
  | none =>
   have:=m.le
   have ea:at_=met.length:=by
    have:=List.getElem?_eq_none_iff.mp hp;omega
   refine⟨m.me,λp hp=>?_,m.head,λj q hj hq=>?_⟩
   ·obtain⟨i,hi⟩:=LL hp;exact m.cl i p (by rw [ea];exact (La.mp hi).1) hi
   ·obtain⟨i,p,h1,_,h3,h4⟩:=m.num j q hj hq
    exact⟨i,p,h1,h3,h4⟩
  | some p =>
   have ip:=m.me.inn p (Lg hp);obtain⟨c1,c2⟩:=sy.cl p ip;have m1:=m.add hp c1 (.inl rfl);have hp1:=bA (q:=ha p) hp;have m2:=m1.add hp1 c2 (.inr rfl);have hp2:=bA (q:=th p) hp1;refine vz sy n (at_ + 1) _ ⟨m2.me,?_,λi x hi hx=>?_,m2.head,λj q hj hq=>?_⟩ (by omega)
   ·have:=(La.mp hp2).1;omega
   ·by_cases e:i=at_
    ·subst e;rw [hp2] at hx;cases hx;exact⟨dF fV,fV⟩
    ·exact m2.cl i x (by omega) hx
   ·obtain⟨i,y,h1,h2,h3,h4⟩:=m2.num j q hj hq;exact⟨i,y,h1,by omega,h3,h4⟩
theorem iw (sy:Sy ha th f P all):Full ha th f P (d9 ha th f all.length):=by
 refine vz sy (all.length + 1) 0 [f] ⟨⟨by simp,λp hp=>by rw [LA] at hp;rw [hp];exact sy.f0⟩,LZ _,λi p hi=>absurd hi (L7 _),rfl,λj q hj hq=>?_⟩ rfl;have:=(La.mp hq).1;simp at this;omega
end
structure c5 (a b:List Nat):Prop where
 ok:sd a b
 pos:0 < a.length
 num:∀j,0 < j->j < a.length->∃i,i < j/\(a[i]?=some j\/b[i]?=some j)
theorem gy {β:Type} [DecidableEq β] {met:List β} {g:β->β} {i:Nat} {p:β} (h:met[i]?=some p):(aP met g)[i]?=some (met.idxOf (g p)):=by
 unfold aP;rw [Lj,h];rfl
theorem bZ {β:Type} [DecidableEq β] {met:List β} (nd:met.Nodup) {i:Nat} {p:β} (h:met[i]?=some p):met.idxOf p=i:=by
 have h2:=cy (Lg h);exact (List.getElem?_inj (La.mp h2).1 nd).mp (h2.trans h.symm)
theorem Full.fU {β:Type} [DecidableEq β] {ha th:β->β} {f:β} {P:β->Prop} {met:List β} (m:Full ha th f P met) (hh:∀p,P p->ha (ha p)=p) (t3:∀p,P p->th (th (th p))=p):c5 (aP met ha) (aP met th):=by
 have l1:∀g:β->β,(aP met g).length=met.length:=λg=>by unfold aP;rw [Ll]
 have inv:∀(g:β->β) (i x:Nat),(aP met g)[i]?=some x->∃p,met[i]?=some p/\x=met.idxOf (g p):=λg i x h=>by
  unfold aP at h;rw [Lj] at h;obtain⟨p,hp,e⟩:=LY.mp h;exact⟨p,hp,e.symm⟩
 have nd:=m.me.nd;refine⟨⟨by rw [l1,l1],λi x h=>?_,λi x h=>?_,λi x h=>?_,λi x y h1 h2=>?_⟩,?_,λj hj hl=>?_⟩
 ·obtain⟨p,hp,rfl⟩:=inv _ _ _ h;rw [l1];exact List.idxOf_lt_length_iff.mpr (m.cl p (Lg hp)).1
 ·obtain⟨p,hp,rfl⟩:=inv _ _ _ h;rw [l1];exact List.idxOf_lt_length_iff.mpr (m.cl p (Lg hp)).2
 ·obtain⟨p,hp,rfl⟩:=inv _ _ _ h;have pm:=Lg hp;rw [gy (cy (m.cl p pm).1),hh p (m.me.inn p pm),bZ nd hp]
 ·obtain⟨p,hp,rfl⟩:=inv _ _ _ h1;have pm:=Lg hp;have q1:=(m.cl p pm).2;rw [gy (cy q1)] at h2;cases h2;rw [gy (cy (m.cl _ q1).2),t3 p (m.me.inn p pm),bZ nd hp]
 ·rw [l1];exact List.length_pos_of_mem (Lg m.head)
 ·rw [l1] at hl;obtain⟨i,p,h1,h2,h3⟩:=m.num j met[j] hj (Lc hl);refine⟨i,h1,?_⟩;have ij:met.idxOf met[j]=j:=bZ nd (Lc hl);rcases h3 with e|e
  ·left;rw [gy h2,e,ij]
  ·right;rw [gy h2,e,ij]
theorem uU {kvs:List (D×D)} {g:cf->Option cf} (e:gu kvs g) {P:cf->Prop} (t:∀p,P p->∃q,g p=some q):Look (.obj (qQ kvs)) (λp=>(g p).getD p) dP P:=λp hp Q q=>by
 obtain⟨r,hr⟩:=t p hp;have k:=bW p;have q:Q (dP ((g p).getD p)):=q;rw [hr] at q;exact .inl ⟨kvs,dP r,rfl,k.1,k.2,e.ok,by rw [e.get,hr];rfl,q⟩
theorem C2:Code dP:=⟨x4,λp=>(bW p).2⟩
theorem zY {l:List Nat} {i x:Nat} (h:l[i]?=some x) {Q:D->Prop}:bS (.tup (au l)) (.int (i:Int)) Q=Q (.int (x:Int)):=by
 have hi:i < l.length:=(La.mp h).1
 have e:j6 (au l) (i:Int)=some (.int (x:Int)):=by
  have e1:rZ l.length (i:Int)=some i:=by unfold rZ;rw [if_pos (by omega),if_pos (by omega)];simp
  unfold j6 au;rw [Ll,e1];simp [h]
 exact propext ⟨fun⟨v,ev,q⟩=>by rw [e] at ev;cases ev;exact q,λq=>⟨_,e,q⟩⟩
def aK (a:List Nat) (i:Nat):Nat:=a.getD i 0
theorem aL {a:List Nat} {i:Nat} (h:i < a.length):a[i]?=some (aK a i):=by unfold aK;rw [LD,Lc h];rfl
theorem vf {a:List Nat} {n:Nat} (h:a.length=n):Look (.tup (au a)) (aK a) (λi:Nat=>.int (i:Int)) (λi=>i < n):=λp hp Q q=>by
 refine .inr ?_;rw [zY (aL (by rw [h];exact hp))];exact q
theorem gI:Code (λi:Nat=>D.int (i:Int)):=⟨λp q=>by
 show aV (.int (p:Int)) (.int (q:Int))=_
 rw [Bool.eq_iff_iff,decide_eq_true_eq];simp [aV]
 omega,λp=>by simp [dep]⟩
theorem c5.sy {a b:List Nat} (t:c5 a b) (hl:a.length<=500) {k:Nat} (hk:k < a.length):Sy (aK a) (aK b) k (λi=>i < a.length) (List.range a.length):=by
 have e:=t.ok.len;refine⟨hk,λp hp=>⟨t.ok.al _ _ (aL hp),t.ok.bl _ _ (aL (by omega))⟩,λp hp=>LF.mpr hp,by simpa using hl⟩
theorem c5.hh {a b:List Nat} (t:c5 a b) (p:Nat) (hp:p < a.length):aK a (aK a p)=p:=by
 have h1:=aL hp;have h2:=t.ok.aa _ _ h1;rw [aL (t.ok.al _ _ h1)] at h2;exact Li h2
theorem c5.t3 {a b:List Nat} (t:c5 a b) (p:Nat) (hp:p < a.length):aK b (aK b (aK b p))=p:=by
 have e:=t.ok.len;have h1:=aL (a:=b) (i:=p) (by omega);have l1:=t.ok.bl _ _ h1;have h2:=aL (a:=b) (i:=aK b p) (by omega);have l2:=t.ok.bl _ _ h2;have h3:=t.ok.bbb _ _ _ h1 h2;rw [aL (a:=b) (by omega)] at h3;exact Li h3
def c8 (a b:List Nat) (k:Nat):List Nat:=aP (d9 (aK a) (aK b) k a.length) (aK a)
def d8 (a b:List Nat) (k:Nat):List Nat:=aP (d9 (aK a) (aK b) k a.length) (aK b)
theorem c5.anew {a b:List Nat} (t:c5 a b) (hl:a.length<=500) {k:Nat} (hk:k < a.length):c5 (c8 a b k) (d8 a b k)/\(c8 a b k).length<=a.length:=by
 have f:=iw (t.sy hl hk);rw [List.length_range] at f;refine⟨f.fU (λp hp=>t.hh p hp) (λp hp=>t.t3 p hp),?_⟩;unfold c8 aP;rw [Ll];have:=f.me.len (t.sy hl hk)
 rwa [List.length_range] at this
theorem Bh {a b:List Nat} (t:c5 a b) (hl:a.length<=500) {k:Nat} (hk:k < a.length) {Q:D->Prop} (h:Q (.tup [.tup (au (c8 a b k)),.tup (au (d8 a b k))])):E4 (.tup (au a)) (.tup (au b)) (.int (k:Int)) Q:=by
 refine⟨Nat,inferInstance,λi=>.int (i:Int),aK a,aK b,k,λi=>i < a.length,List.range a.length,gI,vf rfl,vf t.ok.len,rfl,t.sy hl hk,?_⟩;rw [List.length_range];exact h
theorem mr {β γ:Type} [DecidableEq β] [DecidableEq γ] {φ:β->γ} {P:β->Prop} (inj:∀p q,P p->P q->φ p=φ q->p=q) {met:List β} {q:β} (hm:∀p∈met,P p) (hq:P q):br (met.map φ) (φ q)=(br met q).map φ:=by
 unfold br
 by_cases c:q∈met
 ·rw [if_pos c,if_pos (LC.mpr ⟨q,c,rfl⟩)]
 ·rw [if_neg c,if_neg,List.map_append];rfl;intro z;obtain⟨p,hp,e⟩:=LC.mp z;exact c (inj p q (hm p hp) hq e▸hp)
theorem mx {β:Type} [DecidableEq β] {P:β->Prop} {met:List β} {q:β} (hm:∀p∈met,P p) (hq:P q):∀p∈br met q,P p:=by
 intro p hp;unfold br at hp
 by_cases c:q∈met
 ·rw [if_pos c] at hp;exact hm p hp
 ·rw [if_neg c] at hp;rcases LQ.mp hp with z|z
  ·exact hm p z
  ·rw [LA] at z;rw [z];exact hq
theorem yR {β γ:Type} [DecidableEq β] [DecidableEq γ] {ha th:β->β} {ha' th':γ->γ} {φ:β->γ} {P:β->Prop} (cl:∀p,P p->P (ha p)/\P (th p)) (e1:∀p,P p->ha' (φ p)=φ (ha p)) (e2:∀p,P p->th' (φ p)=φ (th p))
  (inj:∀p q,P p->P q->φ p=φ q->p=q):∀n at_ met,(∀p∈met,P p)->ji ha' th' n at_ (met.map φ)=(ji ha th n at_ met).map φ
 | 0,_,_,_=>rfl
 | n + 1,at_,met,hm=>by
  rw [ji,ji,Lj]
  cases hp:met[at_]? with
  | none=>rfl
  | some p =>
   have ip:=hm p (Lg hp);have i1:=mx hm (cl p ip).1;show ji ha' th' n (at_ + 1) (br (br (met.map φ) (ha' (φ p))) (th' (φ p)))=_
   rw [e1 p ip,e2 p ip,mr inj hm (cl p ip).1,mr inj i1 (cl p ip).2];exact yR cl e1 e2 inj n (at_ + 1) _ (mx i1 (cl p ip).2)
theorem v3 {β:Type} [DecidableEq β] {ha th:β->β}:∀n k at_ met,(ji ha th n at_ met).length < n + at_->ji ha th (n + k) at_ met=ji ha th n at_ met
 | 0,k,at_,met,h=>by
  have h':met.length < 0 + at_:=h
  cases k with
  | zero=>rfl
  | succ k =>
   show ji ha th (0 + (k + 1)) at_ met=met
   rw [Nat.zero_add,ji,Lp (by omega)]
 | n + 1,k,at_,met,h=>by
  rw [show n + 1 + k=(n + k) + 1 by omega,ji,ji];rw [ji] at h
  cases hp:met[at_]? with
  | none=>rfl
  | some p =>
   rw [hp] at h;exact v3 n k (at_ + 1) _ (by have:(ji ha th n (at_ + 1) (br (br met (ha p)) (th p))).length < n + 1 + at_:=h;omega)
def gp (a b:List Nat):Prop:=d9 (aK a) (aK b) 0 a.length=List.range a.length
theorem wb {β:Type} [DecidableEq β] {ha th:β->β} {f:β} {P:β->Prop} {all:List β} (sy:Sy ha th f P all) (tb:c5 (aP (d9 ha th f all.length) ha) (aP (d9 ha th f all.length) th)):gp (aP (d9 ha th f all.length) ha) (aP (d9 ha th f all.length) th):=by
 have F:=iw sy;have l1:=F.me.len sy;have few:=sy.few;unfold gp;generalize hm:d9 ha th f all.length=met at *;have la:(aP met ha).length=met.length:=by unfold aP;rw [Ll]
 have i0:met.idxOf f=0:=bZ F.me.nd F.head
 have nat:∀(g:β->β) (p:β),p∈met->aK (aP met g) (met.idxOf p)=met.idxOf (g p):=λg p hp=>by
  have h1:=gy (g:=g) (cy hp);rw [aL (La.mp h1).1] at h1;exact Li h1
 have e:=yR (ha:=ha) (th:=th) (ha':=aK (aP met ha)) (th':=aK (aP met th)) (φ:=met.idxOf) (P:=λp=>p∈met) (λp hp=>F.cl p hp) (nat ha) (nat th) (λp q hp hq z=>by
  have h1:=cy hp;rw [z,cy hq] at h1
  exact (Li h1).symm) (all.length + 1) 0 [f] (λp hp=>by rw [LA] at hp;rw [hp];exact Lg F.head)
 have hm':ji ha th (all.length + 1) 0 [f]=met:=hm;rw [hm',LM,List.map_nil,i0] at e
 have hr:met.map (λp=>met.idxOf p)=List.range met.length:=by
  apply List.ext_getElem?
  intro i;rw [Lj]
  by_cases c:i < met.length
  ·rw [LH c,Lc c];show some (met.idxOf met[i])=_
   rw [bZ F.me.nd (Lc c)]
  ·rw [Lp (by omega),Lp (by simp;omega)];rfl
 have e':ji (aK (aP met ha)) (aK (aP met th)) (all.length + 1) 0 [0]=List.range met.length:=by rw [e];exact hr
 have sy':=tb.sy (by rw [la];omega) tb.pos;have F':=iw sy';have l2:=F'.me.len sy';rw [List.length_range,la] at l2
 have m:=v3 (ha:=aK (aP met ha)) (th:=aK (aP met th)) (met.length + 1) (all.length - met.length) 0 [0] (by
  have l3:(ji (aK (aP met ha)) (aK (aP met th)) (met.length + 1) 0 [0]).length<=met.length:=l2
  omega)
 rw [show met.length + 1 + (all.length - met.length)=all.length + 1 by omega,e'] at m;rw [la];exact m.symm
theorem xR {row:List Z2} {ts:List fH} (t:fq row ts):ts.length + 2=row.length:=by
 induction t with
 | done h=>simpa using h.symm
 | cut h e _ ih =>
  have:=e.il;rw [List.length_eraseIdx_of_lt (by omega)] at ih;simp;omega
theorem Eb {fs:List Z2} {ms:List Mk} {ha th:cf->Option cf} {isP:cf->Prop} (hf:kS fs ms) (src:Bz fs ms ha th isP) {met:List cf} (nd:met.Nodup) (inn:∀p∈met,isP p):met.length + 6<=4 * fs.length:=by
 rcases src with ⟨hn,ts,_,tl,_,hp⟩|⟨c,_,hp⟩
 ·have:=dD met ((fy ts).map .edge ++ (List.range fs.length).map .gap) nd λp h=>by
   have q:=(hp p).mp (inn p h)
   cases p with
   | edge e=>exact LQ.mpr (.inl (LC.mpr ⟨e,q,rfl⟩))
   | gap i=>exact LQ.mpr (.inr (LC.mpr ⟨i,LF.mpr (dW hf.mar q),rfl⟩))
  rw [LI,Ll,Ll,ub,List.length_range] at this;have:=xR tl;omega
 ·have ml:=hf.mar.len
  have:=dD met [.gap 0,.gap 1] nd λp h=>by
   obtain⟨i,hi,rfl⟩:=(hp p).mp (inn p h);have:=(La.mp hi).1;have:i=0\/i=1:=by omega
   rcases this with rfl|rfl <;> simp
  simp at this;omega
def ED (x:D) (Q:D->Prop):Prop:=∃fs ms,x=qZ fs ms/\kS fs ms/\∀a b:List Nat,c5 a b->gp a b->a.length<=500->a.length + 6<=4 * fs.length->Q (.tup [.tup (au a),.tup (au b)])
def eV:Fw:=F1 ED
def jw:bI:=(aI (oW (aA eT (af (ag 0) aw)) (jo 3 (cQ (a9 1) (cQ (a9 2) (cQ (a9 3) jg))))) (cz (aA cW (af (ag 1) (af (ag 2) (af (ag 3) aw))))))
theorem rJ:∀ds Q,eV ds Q->ds.length=1:=qM
theorem uq:∀ds (Q:D->Prop),eV ds Q->jw { nx:=λ_=>Q .non,rt:=Q } (aF ["_law_fan_here","_law_halves","_law_thirds","_law_first"] ds):=by
 rintro ds Q ⟨x,rfl,fs,ms,rfl,hf,h⟩
 simp_arith only [jw,eT,cW,uZ,pv,AS]
 refine⟨fs,ms,rfl,hf,λhk tk ha th f e1 e2 hr=>?_⟩;obtain⟨isP,all,sys,src,cnt⟩:=Gb hf hr
 have sy:Sy (λp=>(ha p).getD p) (λp=>(th p).getD p) f isP all:=⟨sys.f0,λp hp=>by
  obtain⟨q,a1,i1⟩:=sys.h1 p hp;obtain⟨r,a2,i2⟩:=sys.t1 p hp;rw [a1,a2]
  exact⟨i1,i2⟩,sys.al,sys.few⟩
 have fm:=iw sy
 have tb:=fm.fU (λp hp=>by
  obtain⟨q,a1,i1⟩:=sys.h1 p hp
  rw [a1,Option.getD_some,sys.hh p q hp a1,Option.getD_some]) (λp hp=>by
  obtain⟨q,r,a1,a2,a3⟩:=sys.t3 p hp
  rw [a1,Option.getD_some,a2,Option.getD_some,a3,Option.getD_some])
 refine⟨cf,inferInstance,dP,_,_,f,isP,all,C2,uU e1 (λp hp=>let ⟨q,a,_⟩:=sys.h1 p hp;⟨q,a⟩),uU e2 (λp hp=>let ⟨q,a,_⟩:=sys.t1 p hp;⟨q,a⟩),rfl,sy,h _ _ tb (wb sy tb) ?_ ?_⟩
 ·unfold aP;rw [Ll];exact L6 (fm.me.len sy) sys.few
 ·unfold aP;rw [Ll];exact Eb hf src fm.me.nd fm.me.inn
abbrev cN:Nat->D:=λi=>.int (i:Int)
structure Kn (kvs:List (D×D)) (met:List Nat):Prop where
 ok:bD kvs
 le:kvs.length<=met.length + 1
 any:∀q:Nat,(kvs.any λkv=>aV kv.1 (cN q))=decide (q∈met)
theorem A8 (f:Nat):Kn [(cN f,.bl true),(.non,.bl true)] [f]:=by
 have e:[(cN f,D.bl true),(D.non,D.bl true)]=putN (putN [] (cN f) (.bl true)) .non (.bl true):=by
  simp [putN,aV]
 refine⟨?_,by simp,λq=>?_⟩
 ·rw [e];exact (bD.nil.put rfl (by simp [dep])).put rfl (by simp [dep])
 ·have h:=gI.eq f q;simp only [List.any_cons,List.any_nil,Bool.or_false];rw [show aV (cN f) (cN q)=decide (f=q) from h,show aV D.non (cN q)=false by simp [aV]];rw [Bool.or_false,Bool.eq_iff_iff,decide_eq_true_eq,decide_eq_true_eq,LA];exact⟨Eq.symm,Eq.symm⟩
theorem Kn.put {kvs:List (D×D)} {met:List Nat} (k:Kn kvs met) {q:Nat} (h:q∉met):Kn (putN kvs (cN q) (.bl true)) (met ++ [q]):=by
 have e:putN kvs (cN q) (.bl true)=kvs ++ [(cN q,.bl true)]:=by
  unfold putN;rw [if_neg (by rw [k.any,decide_eq_true_eq];exact h)]
 refine⟨k.ok.put rfl (by simp [dep]),by rw [e];have:=k.le;simp;omega,λr=>?_⟩;rw [e,List.any_append,k.any];simp only [List.any_cons,List.any_nil,Bool.or_false];rw [show aV (cN q) (cN r)=decide (q=r) from gI.eq q r,Bool.eq_iff_iff,Bool.or_eq_true,decide_eq_true_eq,decide_eq_true_eq,decide_eq_true_eq,LQ,LA];exact or_congr Iff.rfl ⟨Eq.symm,Eq.symm⟩
structure Rw (x:D) (a:List Nat):Prop where
 ix:∀{i v:Nat} {Q:D->Prop},a[i]?=some v->bS x (.int (i:Int)) Q=Q (.int (v:Int))
 ln:∀{Q:D->Prop},fB [x] Q=Q (.int ((a.length:Nat):Int))
theorem Rw.lst {a:List Nat}:Rw (.lst (au a)) a:=⟨λ{i v Q} h=>by
 have hi:i < a.length:=(La.mp h).1
 have e:j6 (au a) (i:Int)=some (.int (v:Int)):=by
  have e1:rZ a.length (i:Int)=some i:=by unfold rZ;rw [if_pos (by omega),if_pos (by omega)];simp
  unfold j6 au;rw [Ll,e1];simp [h]
 exact propext ⟨fun⟨v,ev,q⟩=>by rw [e] at ev;cases ev;exact q,λq=>⟨_,e,q⟩⟩,λ{Q}=>by rw [jD];simp [au]⟩
def J2 (x y z:D) (Q:D->Prop):Prop:=∃(a b:List Nat) (f:Nat),Rw x a/\Rw y b/\z=.int (f:Int)/\c5 a b/\a.length<=500/\f < a.length/\Q (.lst (au (d9 (aK a) (aK b) f a.length)))
def fK:Fw:=F3 J2
def jQ:bI:=(AK 5 (cC (.int 1)))
def mZ:bI:=(dq 3 (cz (ag 3)))
def kZ:bI:=(aI (cw 3 (mE (af (ag 2) aw))) (aI (tW 4 (ag 2) (cC (.bl true)) (cC (.bl true))) (aI (bJ 5 (cC (.int 0))) (aI (ic (aN (aG E9 (ag 5) (cH 3))) (aI (bJ 6 (cZ 3 (ag 5))) (aI (mI (bU (af (aG bS (ag 0) (ag 6)) (af (aG bS (ag 1) (ag 6)) aw))) (a9 7) (iI (qH true 4 (ag 7)) (aI (aU 4 (ag 7) (cC (.bl true))) (dS 3 (ag 7))) bQ)) jQ))) mZ))))
theorem uB:∀ds Q,fK ds Q->ds.length=3:=pT
theorem wt:∀ds (Q:D->Prop),fK ds Q->kZ { nx:=λ_=>Q .non,rt:=Q } (aF ["halves","thirds","first","met","known","at","here","behind"] ds):=by
 rintro ds Q ⟨x,y,z,rfl,a,b,f,rx,ry,rfl,tb,few,hf,h⟩;have sz:=Lu;have sy:=tb.sy few hf;have le:=tb.ok.len
 simp_arith only [kZ,tW,ic]
 refine⟨λe=>∃(met:List Nat) (kvs:List (D×D)) (at_:Nat) (k6 k7:Option Lo),e=[some (.d x),some (.d y),some (.d (cN f)),some (.own (met.map cN)),some (.dic kvs),some (.d (.int at_)),k6,k7]/\Me (λi=>i < a.length) met/\Kn kvs met/\at_<=met.length/\ji (aK a) (aK b) (a.length + 1 - at_) at_ met=d9 (aK a) (aK b) f a.length,
  λe=>a.length - Bk 5 e,⟨[f],_,0,none,none,rfl,⟨by simp,λp hp=>by rw [LA] at hp;rw [hp];exact hf⟩,A8 f,LZ _,rfl⟩,?_⟩
 rintro env ⟨met,kvs,at_,k6,k7,rfl,m,kn,mle,hb⟩;have ml:=m.len sy;rw [List.length_range] at ml
 simp_arith only [Ll]
 by_cases cc:at_ < met.length
 ·rw [if_pos (by omega)];obtain⟨p,hp⟩:∃p,met[at_]?=some p:=⟨met[at_],Lc cc⟩;have ip:=m.inn p (Lg hp);obtain⟨i1,i2⟩:=sy.cl p ip;have ai:j6 (met.map cN) (at_:Int)=some (cN p):=fO _ _ _ _ hp;refine⟨_,_,rfl,ai,?_⟩;show bS x (.int (p:Int)) _
  rw [rx.ix (aL ip)];show bS y (.int (p:Int)) _
  rw [ry.ix (aL (by omega))];have m1:=m.add i1;have m2:=m1.add i2
  have hmm:∀i,Me (λi=>i < a.length) (w4 met [aK a p,aK b p] i):=λi=>Me.fold _ _ m λq hq=>by
   rcases LB.mp (List.mem_of_mem_take hq) with rfl|hq
   ·exact i1
   ·rw [LA.mp hq];exact i2
  refine cm (λi e=>i<=2/\∃kvs k7,e=[some (.d x),some (.d y),some (.d (cN f)),some (.own ((w4 met [aK a p,aK b p] i).map cN)),some (.dic kvs),some (.d (.int at_)),some (.d (cN p)),k7]/\Kn kvs (w4 met [aK a p,aK b p] i)) ?_ ?_ ⟨by omega,kvs,k7,rfl,kn⟩
  ·rintro i x' env N hx ⟨hi2,kvs,k7,rfl,kn⟩ hN;obtain⟨q,hq,rfl⟩:∃q,[aK a p,aK b p][i]?=some q/\cN q=x':=LY.mp ((Lj (f:=cN) (l:=[aK a p,aK b p]) (i:=i)).symm.trans hx);have eq:w4 met [aK a p,aK b p] (i + 1)=br (w4 met [aK a p,aK b p] i) q:=si hq;have hi:i < 2:=by have:=(La.mp hx).1;simpa using this
   have ml':=(hmm i).len sy;rw [List.length_range] at ml';have kl:=kn.le
   simp_arith only [qH,aU,Lo.dic.injEq]
   refine⟨rfl,by simp [dep],kn.ok,?_⟩;rw [kn.any];unfold br at eq
   by_cases c2:q∈w4 met [aK a p,aK b p] i
   ·rw [if_pos c2] at eq;rw [decide_eq_true c2];refine hN _ ⟨by omega,kvs,some (.d (cN q)),?_,by rw [eq];exact kn⟩;rw [eq]
   ·rw [if_neg c2] at eq;rw [decide_eq_false c2];refine⟨rfl,by simp [dep],kn.ok,by omega,?_⟩;refine⟨by simp;omega,hN _ ⟨by omega,_,some (.d (cN q)),?_,by rw [eq];exact kn.put c2⟩⟩;rw [eq,List.map_append];rfl
  ·rintro env ⟨_,kvs,k7,rfl,kn⟩
   simp_arith only [jQ,AK]
   refine⟨⟨br (br met (aK a p)) (aK b p),kvs,at_ + 1,some (.d (cN p)),k7,rfl,rfl,by omega,rfl,rfl,m2,kn,?_,?_⟩,by simp only [Bk,LO,LK];omega⟩
   ·have:=(La.mp (bA (q:=aK b p) (bA (q:=aK a p) hp))).1;omega
   ·rw [<- hb,show a.length + 1 - at_=(a.length - at_) + 1 by omega,ji,hp];rw [show a.length + 1 - (at_ + 1)=a.length - at_ by omega]
 ·rw [if_neg (by omega)];have ea:at_=met.length:=by omega
  subst ea
  have eM:d9 (aK a) (aK b) f a.length=met:=by
   rw [<- hb,show a.length + 1 - met.length=(a.length - met.length) + 1 by omega,ji,Lp (Lh _)]
  rw [eM] at h
  simp_arith only [mZ]
  exact h
structure Nm (kvs:List (D×D)) (l:List Nat):Prop where
 ok:bD kvs
 le:kvs.length<=l.length
 get:∀q:Nat,dZ kvs (cN q)=if q∈l then some (cN (l.idxOf q)) else none
theorem GC:Nm [] []:=⟨bD.nil,Lh _,λq=>by simp [dZ]⟩
theorem Nm.put {kvs:List (D×D)} {l:List Nat} (n:Nm kvs l) {q:Nat} (h:q∉l):Nm (putN kvs (cN q) (cN l.length)) (l ++ [q]):=by
 refine⟨n.ok.put rfl (by simp [dep]),?_,λr=>?_⟩
 ·have:(putN kvs (cN q) (cN l.length)).length<=kvs.length + 1:=by
   unfold putN
   split <;> simp
  have:=n.le;simp;omega
 ·rw [iC n.ok rfl rfl,n.get,show aV (cN q) (cN r)=decide (q=r) from gI.eq q r]
  by_cases c:q=r
  ·subst c;rw [decide_eq_true rfl,if_pos rfl,if_pos (by simp),List.idxOf_append,if_neg h];simp
  ·rw [decide_eq_false c,if_neg (by simp)]
   by_cases m:r∈l
   ·rw [if_pos m,if_pos (by simp [m]),List.idxOf_append,if_pos m]
   ·rw [if_neg m,if_neg (by simp [m];exact λe=>c e.symm)]
theorem wC {Q:List (D×D)->Prop}:∀(rest done:List Nat) (kvs:List (D×D)),(done ++ rest).Nodup->(done ++ rest).length<=500->Nm kvs done->(∀kvs,Nm kvs (done ++ rest)->Q kvs) ->
  iT cg (ag 1) (ag 0) [none,none] Q (rest.mapIdx λi x=>D.tup [cN (done.length + i),cN x]) kvs
 | [],done,kvs,_,_,n,h=>by rw [L4] at h;exact h kvs n
 | x :: rest,done,kvs,nd,hl,n,h=>by
  have sz:=Lu;have e:done ++ x :: rest=(done ++ [x]) ++ rest:=by simp
  have hx:x∉done:=λc=>(Mj.mp nd).2.2 x c x (by simp) rfl;have ih:=wC (Q:=Q) rest (done ++ [x]) (putN kvs (cN x) (cN done.length)) (by rw [<- e];exact nd) (by rw [<- e];exact hl) (n.put hx) (by rw [<- e];exact h);rw [List.mapIdx_cons];have le:=n.le;simp only [LI,L0] at hl;refine⟨_,_,rfl,?_⟩
  simp_arith only [and_true]
  refine⟨rfl,by simp [dep],n.ok,by omega,?_⟩;rw [Nat.add_zero]
  have f:(λi x=>D.tup [cN (done.length + (i + 1)),cN x])=λi x=>D.tup [cN ((done ++ [x]).length + i),cN x]:=by
   funext i y;simp only [LI,List.length_singleton];rw [show done.length + (i + 1)=done.length + 1 + i by omega]
  first|(rw [f];exact ih)|(simp only [LI,List.length_singleton] at ih;simp only [Nat.add_assoc,Nat.add_comm 1] at ih ⊢;exact ih)
theorem wd {kvs:List (D×D)} {a met:List Nat} {x:D} (rx:Rw x a) (ok:bD kvs) (hg:∀q∈met,dZ kvs (cN q)=some (cN (met.idxOf q))) (few:met.length<=500) (cl:∀p∈met,p < a.length/\aK a p∈met) {Q:List D->Prop} (h:Q (au (aP met (aK a)))) :
  comps cg (aG IH (ag 2) (aG bS (ag 1) (ag 0))) [none,some (.d x),some (.d (.obj (qQ kvs)))] Q (au met) []:=by
 refine nH (λx y=>∀p,x=cN p->p∈met->y=cN (met.idxOf (aK a p))) _ _ (λx' hx N hN=>?_) (by simp [au,Lu];omega) (λys hy hR=>?_)
 ·obtain⟨p,hp,rfl⟩:=LC.mp hx;obtain⟨c1,c2⟩:=cl p hp
  simp_arith only [and_true]
  show bS x (.int (p:Int)) _
  rw [rx.ix (aL c1)];refine⟨kvs,_,rfl,rfl,by simp [dep],ok,hg _ c2,hN _ λp' ep _=>?_⟩;have e:=gI.eq p p';have ep':cN p=cN p':=ep;rw [show (D.int (p:Int))=D.int (p':Int) from ep',gI.eq] at e;have:p=p':=by simpa using e.symm
  rw [this]
 ·have:[] ++ ys=au (aP met (aK a)):=by
   rw [List.nil_append];unfold au aP;rw [List.map_map];apply List.ext_getElem?
   intro i;have hy':ys.length=met.length:=by simpa [au] using hy
   rw [Lj]
   by_cases cc:i < met.length
   ·have h1:ys[i]?=some (ys[i]'(by omega)):=Lc _;have h2:met[i]?=some met[i]:=Lc cc;rw [h1,h2];have:=hR i (cN met[i]) _ (by unfold au;rw [Lj,h2];rfl) h1 met[i] rfl (Md cc);rw [this];rfl
   ·rw [Lp (by omega),Lp (by omega)];rfl
  rw [this];exact h
def J0 (x y z:D) (Q:D->Prop):Prop:=∃a b met:List Nat,Rw x a/\Rw y b/\z=.lst (au met)/\met.Nodup/\met.length<=500/\(∀p∈met,p < a.length/\p < b.length/\aK a p∈met/\aK b p∈met)/\Q (.tup [.tup (au (aP met (aK a))),.tup (au (aP met (aK b)))])
def dR:Fw:=F3 J0
def jR:bI:=(aI (aU 3 (cC .non) (cC .non)) (dJ 3 (cz (bU (af (aA eJ (af (cX (ir [0,3] (ag 2) cg (aG IH (ag 2) (aG bS (ag 1) (ag 0))))) aw)) (af (aA eJ (af (cX (ir [1,3] (ag 2) cg (aG IH (ag 2) (aG bS (ag 1) (ag 0))))) aw)) aw))))))
def iK:bI:=(aI (nz 3 [] (af (ag 2) aw) cg (ag 1) (ag 0)) jR)
theorem qo:∀ds Q,dR ds Q->ds.length=3:=pT
theorem qV:∀ds (Q:D->Prop),dR ds Q->iK { nx:=λ_=>Q .non,rt:=Q } (aF ["halves","thirds","met","numbers"] ds):=by
 rintro ds Q ⟨x,y,z,rfl,a,b,met,rx,ry,rfl,nd,few,cl,h⟩;have sz:=Lu
 simp_arith only [iK,nz,b9]
 refine⟨_,_,rfl,rfl,?_⟩
 have e:jN (au met)=met.mapIdx λi x=>D.tup [cN (([]:List Nat).length + i),cN x]:=by
  apply List.ext_getElem?
  intro i;unfold jN au;rw [List.getElem?_mapIdx,List.getElem?_mapIdx,Lj]
  cases met[i]? with
  | none=>rfl
  | some p=>simp
 rw [e];refine wC met [] [] (by simpa using nd) (by simpa using few) GC λkvs nm=>?_;rw [List.nil_append] at nm;have le:=nm.le
 simp_arith only [jR,aU,dJ,Lo.dic.injEq]
 refine⟨rfl,by simp [dep],nm.ok,by omega,?_⟩;have ok:=nm.ok.put (k:=.non) (v:=.non) rfl (by simp [dep])
 have hg:∀q∈met,dZ (putN kvs .non .non) (cN q)=some (cN (met.idxOf q)):=λq hq=>by
  rw [iC nm.ok rfl rfl,show aV D.non (cN q)=false by simp [aV],if_neg (by simp),nm.get,if_pos hq]
 refine wd rx ok hg few (λp hp=>⟨(cl p hp).1,(cl p hp).2.2.1⟩) ?_;refine wd ry ok hg few (λp hp=>⟨(cl p hp).2.1,(cl p hp).2.2.2⟩) ?_;exact h
theorem c5.low {a b:List Nat} (t:c5 a b) {met:List Nat} (cl:∀p∈met,aK a p∈met/\aK b p∈met) (inn:∀p∈met,p < a.length):∀n q,q<=n->q∈met->0∈met
 | 0,q,h,m=>by rw [show q=0 by omega] at m;exact m
 | n + 1,q,h,m=>by
  by_cases c:q=0
  ·rw [c] at m;exact m
  ·have hq:=inn q m;have le:=t.ok.len;obtain⟨i,hi,e⟩:=t.num q (by omega) hq;refine c5.low t cl inn n i (by omega) ?_;rcases e with e|e
   ·have:=t.ok.aa _ _ e;rw [aL hq] at this;rw [<- Li this];exact (cl q m).1
   ·have h1:=aL (a:=b) (i:=q) (by omega);have h2:=t.ok.bbb _ _ _ e h1;have l1:=t.ok.bl _ _ h1;rw [aL (a:=b) (by omega)] at h2;rw [<- Li h2];exact (cl _ (cl q m).2).2
theorem c5.high {a b:List Nat} (t:c5 a b) {met:List Nat} (cl:∀p∈met,aK a p∈met/\aK b p∈met) (h0:0∈met):∀n j,j<=n->j < a.length->j∈met
 | 0,j,h,_=>by rw [show j=0 by omega];exact h0
 | n + 1,j,h,hj=>by
  by_cases c:j=0
  ·rw [c];exact h0
  ·have le:=t.ok.len;obtain⟨i,hi,e⟩:=t.num j (by omega) hj;have ih:=c5.high t cl h0 n i (by omega) (by omega);rcases e with e|e
   ·rw [aL (by omega)] at e;rw [<- Li e];exact (cl i ih).1
   ·rw [aL (by omega)] at e;rw [<- Li e];exact (cl i ih).2
theorem c5.xt {a b:List Nat} (t:c5 a b) (hl:a.length<=500) {k:Nat} (hk:k < a.length):Full (aK a) (aK b) k (λi=>i < a.length) (d9 (aK a) (aK b) k a.length)/\(d9 (aK a) (aK b) k a.length).length=a.length:=by
 have f:=iw (t.sy hl hk);have l1:=f.me.len (t.sy hl hk);rw [List.length_range] at f l1;have h0:=t.low f.cl f.me.inn k k (Lh _) (Lg f.head);have l2:=dD (List.range a.length) _ List.nodup_range λp hp=>t.high f.cl h0 p p (Lh _) (LF.mp hp);rw [List.length_range] at l2;exact⟨f,by omega⟩
def IG (x y:D) (Q:D->Prop):Prop:=∃a b:List Nat,Rw x a/\Rw y b/\c5 a b/\a.length<=500/\Q (.bl true)
def eO:Fw:=F2 IG
def kL:bI:=(cz (cC (.bl true)))
def jA:bI:=(aI (gq hU (af (aA fB (af (ag 0) aw)) aw) (a9 2) (iI (Am (aN (aG nO (aG bS (ag 0) (aG bS (ag 0) (ag 2))) (ag 2))) (aN (aG nO (aG bS (ag 1) (aG bS (ag 1) (aG bS (ag 1) (ag 2)))) (ag 2)))) (cz (cC (.bl false))) bQ)) kL)
theorem qY:∀ds Q,eO ds Q->ds.length=2:=kM
theorem sX:∀ds (Q:D->Prop),eO ds Q->jA { nx:=λ_=>Q .non,rt:=Q } (aF ["halves","thirds","place"] ds):=by
 rintro ds Q ⟨x,y,rfl,a,b,rx,ry,t,hl,h⟩;have sz:=Lu;have le:=t.ok.len
 simp_arith only [jA]
 rw [rx.ln]
 simp_arith only [and_true]
 refine⟨by omega,by omega,?_⟩;refine cm (λi e=>∃k2,e=[some (.d x),some (.d y),k2]) ?_ ?_ ⟨none,rfl⟩
 ·rintro i x' env N hx ⟨k2,rfl⟩ hN
  obtain⟨hi,rfl⟩:i < a.length/\x'=.int (i:Int):=by
   simp only [aW,Lj] at hx;obtain⟨j,hj,rfl⟩:=LY.mp hx;have hl':=(La.mp hj).1;rw [List.length_range] at hl';rw [LH hl'] at hj;cases hj;exact⟨by omega,by rw [Int.zero_add]⟩
  simp_arith only [and_true]
  rw [rx.ix (aL hi),rx.ix (aL (t.ok.al _ _ (aL hi))),t.hh i hi];have b1:=aL (a:=b) (i:=i) (by omega);have l1:=t.ok.bl _ _ b1;have b2:=aL (a:=b) (i:=aK b i) (by omega);have l2:=t.ok.bl _ _ b2;have b3:=aL (a:=b) (i:=aK b (aK b i)) (by omega);rw [jv];refine⟨_,rfl,?_⟩;rw [if_neg (by simp),ry.ix b1,ry.ix b2,ry.ix b3,t.t3 i hi,jv];refine⟨_,rfl,?_⟩;rw [if_neg (by simp)];exact hN _ ⟨_,rfl⟩
 ·rintro env ⟨k2,rfl⟩
  simp_arith only [kL]
  exact h
def pNum (x y z:D) (Q:D->Prop):Prop:=∃(a b:List Nat) (k:Nat),Rw x a/\Rw y b/\z=.int (k:Int)/\c5 a b/\a.length<=500/\k < a.length/\Q (.tup [.tup (au (c8 a b k)),.tup (au (d8 a b k))])
def fE:Fw:=F3 pNum
def lq:bI:=(aI (iI (nK (aN (aA eO (af (ag 0) (af (ag 1) aw))))) iP bQ) (aI (bJ 3 (aA fK (af (ag 0) (af (ag 1) (af (ag 2) aw))))) (aI (iI (aN (aG E9 (aA fB (af (ag 3) aw)) (aA fB (af (ag 0) aw)))) iP bQ) (cz (aA dR (af (ag 0) (af (ag 1) (af (ag 3) aw))))))))
theorem sQ:∀ds Q,fE ds Q->ds.length=3:=pT
theorem vJ:∀ds (Q:D->Prop),fE ds Q->lq { nx:=λ_=>Q .non,rt:=Q } (aF ["halves","thirds","first","met"] ds):=by
 rintro ds Q ⟨x,y,z,rfl,a,b,k,rx,ry,rfl,t,hl,hk,h⟩;obtain⟨f,fl⟩:=t.xt hl hk;have le:=t.ok.len
 simp_arith only [lq,eO,fK,dR,gM,pv]
 refine⟨a,b,rx,ry,t,hl,true,rfl,?_⟩;rw [if_neg (by simp)];refine⟨a,b,k,rx,ry,rfl,t,hl,hk,?_⟩;have lm:(au (d9 (aK a) (aK b) k a.length)).length=a.length:=by simp [au,fl]
 show fB [D.lst (au (d9 (aK a) (aK b) k a.length))] _
 rw [jD,lm,rx.ln]
 simp_arith only [and_true]
 rw [if_neg (by omega)];exact⟨a,b,_,rx,ry,rfl,f.me.nd,by omega,λp hp=>⟨f.me.inn p hp,by have:=f.me.inn p hp;omega,f.cl p hp⟩,h⟩
abbrev bh (a b:List Nat):D:=.tup [.tup (au a),.tup (au b)]
theorem iE:∀a b:List Nat,dB (au a) (au b)=decide (a=b)
 | [],[]=>by simp [au,dB]
 | [],_ :: _=>by simp [au,dB]
 | _ :: _,[]=>by simp [au,dB]
 | x :: a,y :: b=>by
  have e:dB (au (x :: a)) (au (y :: b))=(aV (cN x) (cN y) && dB (au a) (au b)):=by simp only [au,LM,dB]
  rw [e,iE a b,show aV (cN x) (cN y)=decide (x=y) from gI.eq x y,Bool.eq_iff_iff];simp
theorem fb:∀a:List Nat,bV (au a)<=8
 | []=>by simp [au,bV]
 | x :: a=>by
  have:=fb a;simp only [au,LM,bV,dep] at this ⊢;omega
theorem yx {a b c d:List Nat} {Q:D->Prop}:jm (bh a b) (bh c d) Q=Q (.bl (decide (a=c/\b=d))):=by
 have d1:=fb a;have d2:=fb b;have d3:=fb c;have d4:=fb d
 have e:aV (bh a b) (bh c d)=decide (a=c/\b=d):=by
  simp only [bh,aV,dB,iE,Mp];rw [Bool.eq_iff_iff];simp
 unfold jm;rw [e];refine propext ⟨λh=>h.2,λh=>⟨?_,h⟩⟩;simp only [gF,bh,dep,bV];omega
def fst (a b c d:List Nat):Option Nat:=(List.range a.length).find? λk=>decide (c8 a b k=c/\d8 a b k=d)
theorem Ed {α:Type} {l:List α} {p:α->Bool} {i:Nat} {x:α} (h:l[i]?=some x) (hp:p x=true) (hn:∀j y,j < i->l[j]?=some y->p y=false):l.find? p=some x:=by
 rw [List.find?_eq_some_iff_getElem];obtain⟨hi,e⟩:=La.mp h;exact⟨hp,i,hi,e,λj hj=>by have:=hn j (l[j]'(by omega)) hj (Lc _);simp [this]⟩
theorem yC {n i:Nat} {x:D} (hx:(aW 0 ((n:Nat):Int).toNat)[i]?=some x):i < n/\x=.int (i:Int):=by
 simp only [aW,Lj] at hx;obtain⟨j,hj,rfl⟩:=LY.mp hx;have hl':=(La.mp hj).1;rw [List.length_range] at hl';rw [LH hl'] at hj;cases hj;exact⟨by omega,by rw [Int.zero_add]⟩
theorem CK {a b c d:List Nat} {i:Nat} (hi:i < a.length) (h:c8 a b i=c/\d8 a b i=d) (no:∀j,j < i->¬ (c8 a b j=c/\d8 a b j=d)):fst a b c d=some i:=by
 refine Ed (i:=i) (by rw [LH hi]) (by simpa using h) λj y hj hy=>?_;rw [LH (by omega)] at hy;cases hy
 simpa using no j hj
end KR
namespace K55
open PySem L2 L2.L3
structure KU (n:Nat) (π:Nat->Nat):Prop where
 lt:∀i,i < n->π i < n
 inj:∀i j,i < n->j < n->π i=π j->i=j
def it (π:Nat->Nat):Nat->Nat->Nat
 | 0,x=>x
 | k + 1,x=>π (it π k x)
section
variable {n:Nat} {π:Nat->Nat} (h:KU n π)
include h
theorem wL {x:Nat} (hx:x < n):∀k,it π k x < n
 | 0=>hx
 | k + 1=>h.lt _ (wL hx k)
theorem CI {x y:Nat} (hx:x < n) (hy:y < n):∀k,it π k x=it π k y->x=y
 | 0,e=>e
 | k + 1,e=>CI hx hy k (h.inj _ _ (wL h hx k) (wL h hy k) e)
omit h in
theorem AA (x:Nat):∀j k,it π (j + k) x=it π j (it π k x)
 | 0,k=>by rw [Nat.zero_add];rfl
 | j + 1,k=>by rw [Nat.add_right_comm];show π (it π (j + k) x)=_;rw [AA x j k];rfl
theorem Eh {x:Nat} (hx:x < n) {i j:Nat} (hij:i < j) (e:it π i x=it π j x):it π (j - i) x=x:=by
 have:it π i (it π (j - i) x)=it π i x:=by rw [<- AA,show i + (j - i)=j by omega];exact e.symm
 exact CI h (wL h hx _) hx i this
theorem G6 {x:Nat} (hx:x < n):∃k,0 < k/\k<=n/\it π k x=x:=by
 apply Classical.byContradiction
 intro no;have ne:∀i j,i < j->j<=n->it π i x≠it π j x:=λi j hij hj e=>no ⟨j - i,by omega,by omega,Eh h hx hij e⟩
 have nd:((List.range (n + 1)).map λi=>it π i x).Nodup:=by
  rw [List.Nodup,List.pairwise_map];refine List.Pairwise.imp_of_mem ?_ (List.pairwise_lt_range (n:=n + 1));intro a b _ hb hab;exact ne a b hab (by have:=LF.mp hb;omega)
 have:=dD _ (List.range n) nd (λy hy=>by
  obtain⟨i,_,rfl⟩:=LC.mp hy
  exact LF.mpr (wL h hx i))
 simp at this;omega
end
open Classical in
theorem getD_at {l:List Nat} {i:Nat} (h:i < l.length):l[i]?=some (l.getD i 0):=by
 rw [LD,Lc h];rfl
def lp (a b:List Nat) (p c:Nat):Nat:=if c=115 then a.getD p 0 else if c=114 then b.getD p 0 else b.getD (b.getD p 0) 0
def lw (a b:List Nat) (cs:List Nat) (p:Nat):Nat:=cs.foldl (lp a b) p
theorem Bt (a b u v:List Nat) (p:Nat):lw a b (u ++ v) p=lw a b v (lw a b u p):=List.foldl_append
theorem o6 (a b u:List Nat) (c p:Nat):lw a b (u ++ [c]) p=lp a b (lw a b u p) c:=Bt a b u [c] p
section
variable {a b:List Nat} (t:sd a b)
include t
theorem Ey {p:Nat} (h:p < a.length):a.getD p 0 < a.length:=t.al _ _ (getD_at h)
theorem qm {p:Nat} (h:p < a.length):b.getD p 0 < a.length:=t.bl _ _ (getD_at (l:=b) (by rw [t.len];exact h))
theorem BZ {p:Nat} (h:p < a.length):a.getD (a.getD p 0) 0=p:=by
 have h2:=t.aa _ _ (getD_at h);rw [getD_at (Ey t h)] at h2;exact Li h2
theorem lQ {p:Nat} (h:p < a.length):b.getD (b.getD (b.getD p 0) 0) 0=p:=by
 have e:=t.len;have l1:=qm t h;have l2:=qm t l1;have h3:=t.bbb _ _ _ (getD_at (l:=b) (i:=p) (by omega)) (getD_at (l:=b) (by omega));rw [getD_at (l:=b) (by omega)] at h3;exact Li h3
theorem Av {p:Nat} (h:p < a.length) (c:Nat):lp a b p c < a.length:=by
 unfold lp;split
 ·exact Ey t h
 ·split
  ·exact qm t h
  ·exact qm t (qm t h)
theorem BO {p:Nat} (h:p < a.length) (cs:List Nat):lw a b cs p < a.length:=by
 refine snoc_ind (P:=λcs=>lw a b cs p < a.length) h (λr c ih=>?_) cs;rw [o6];exact Av t ih c
end
def jB (k:Nat) (w:List Nat):List Nat:=(List.replicate k w).flatten
end K55
namespace KR
open PySem L2 L2.L3 K55
section
variable {α β:Type} [DecidableEq α] [DecidableEq β] {φ:α->β}
theorem rM {met:List α} {q:α} (inj:∀p∈met,φ p=φ q->p=q):(br met q).map φ=br (met.map φ) (φ q):=by
 unfold br
 by_cases c:q∈met
 ·rw [if_pos c,if_pos (LC.mpr ⟨q,c,rfl⟩)]
 ·rw [if_neg c,if_neg (λh=>by
   obtain⟨p,hp,e⟩:=LC.mp h
   exact c (inj p hp e▸hp))]
  simp
theorem v9 {P:α->Prop} {h1 t1:α->α} {h2 t2:β->β} (inj:∀p q,P p->P q->φ p=φ q->p=q) (cl:∀p,P p->P (h1 p)/\P (t1 p)) (eh:∀p,P p->φ (h1 p)=h2 (φ p)) (et:∀p,P p->φ (t1 p)=t2 (φ p)) :
  ∀(n at_:Nat) (met:List α),(∀p∈met,P p)->(ji h1 t1 n at_ met).map φ=ji h2 t2 n at_ (met.map φ)/\∀p∈ji h1 t1 n at_ met,P p
 | 0,_,met,hm=>⟨rfl,hm⟩
 | n + 1,at_,met,hm=>by
  unfold ji;rw [Lj]
  cases e:met[at_]? with
  | none=>exact⟨rfl,hm⟩
  | some p =>
   have hp:=hm p (Lg e)
   have ad:∀(l:List α) (q:α),(∀x∈l,P x)->P q->∀x∈br l q,P x:=λl q hl hq x hx=>by
    unfold br at hx
    split at hx
    ·exact hl x hx
    ·rcases LQ.mp hx with hx|hx
     ·exact hl x hx
     ·rw [LA.mp hx];exact hq
   have m1:=ad met (h1 p) hm (cl p hp).1;have m2:=ad _ (t1 p) m1 (cl p hp).2;have ih:=v9 inj cl eh et n (at_ + 1) _ m2;refine⟨?_,ih.2⟩;show (ji h1 t1 n (at_ + 1) (br (br met (h1 p)) (t1 p))).map φ=ji h2 t2 n (at_ + 1) (br (br (met.map φ) (h2 (φ p))) (t2 (φ p)))
   rw [ih.1,rM (λx hx=>inj x _ (m1 x hx) (cl p hp).2),rM (λx hx=>inj x _ (hm x hx) (cl p hp).1),eh p hp,et p hp]
theorem Ah {met:List α} {x:α} (hx:x∈met) (inj:∀p∈met,∀q∈met,φ p=φ q->p=q):(met.map φ).idxOf (φ x)=met.idxOf x:=by
 induction met with
 | nil=>cases hx
 | cons y r ih =>
  rw [LM,List.idxOf_cons,List.idxOf_cons]
  by_cases c:y=x
  ·subst c;simp
  ·have c':¬ φ y=φ x:=λe=>c (inj y Lz x hx e);have hx':x∈r:=(LB.mp hx).resolve_left λe=>c e.symm;simp only [beq_eq_false_iff_ne.mpr c,beq_eq_false_iff_ne.mpr c',cond_false];rw [ih hx' λp hp q hq=>inj p (Ln _ hp) q (Ln _ hq)]
theorem vF {met:List α} {g1:α->α} {g2:β->β} (cl:∀p∈met,g1 p∈met) (inj:∀p∈met,∀q∈met,φ p=φ q->p=q) (e:∀p∈met,φ (g1 p)=g2 (φ p)):aP (met.map φ) g2=aP met g1:=by
 unfold aP;rw [List.map_map];refine List.map_congr_left λp hp=>?_;show (met.map φ).idxOf (g2 (φ p))=met.idxOf (g1 p)
 rw [<- e p hp,Ah (cl p hp) inj]
end
structure JE (a b c d:List Nat) (φ:Nat->Nat):Prop where
 len:c.length=a.length
 lt:∀i,i < a.length->φ i < c.length
 inj:∀i j,i < a.length->j < a.length->φ i=φ j->i=j
 h:∀i,i < a.length->φ (aK a i)=aK c (φ i)
 t:∀i,i < a.length->φ (aK b i)=aK d (φ i)
theorem JE.anew {a b c d:List Nat} {φ:Nat->Nat} (s:JE a b c d φ) (ta:c5 a b) (hl:a.length<=500) {k:Nat} (hk:k < a.length):c8 a b k=c8 c d (φ k)/\d8 a b k=d8 c d (φ k):=by
 have le:=ta.ok.len;have cl:∀p,p < a.length->aK a p < a.length/\aK b p < a.length:=λp hp=>⟨ta.ok.al _ _ (aL hp),ta.ok.bl _ _ (aL (by omega))⟩;have m:=v9 (P:=λi=>i < a.length) (φ:=φ) (h2:=aK c) (t2:=aK d) s.inj cl s.h s.t (a.length + 1) 0 [k] (λp hp=>by rw [LA.mp hp];exact hk);have f:=iw (ta.sy hl hk);rw [List.length_range] at f;have em:(d9 (aK a) (aK b) k a.length).map φ=d9 (aK c) (aK d) (φ k) c.length:=by rw [s.len];exact m.1
 unfold c8 d8;rw [<- em]
 exact⟨(vF (λp hp=>(f.cl p hp).1) (λp hp q hq=>s.inj p q (f.me.inn p hp) (f.me.inn q hq)) λp hp=>s.h p (f.me.inn p hp)).symm,
  (vF (λp hp=>(f.cl p hp).2) (λp hp q hq=>s.inj p q (f.me.inn p hp) (f.me.inn q hq)) λp hp=>s.t p (f.me.inn p hp)).symm⟩
theorem vp {a b:List Nat} (t:c5 a b) (hl:a.length<=500) {k:Nat} (hk:k < a.length):JE (c8 a b k) (d8 a b k) a b (λi=>(d9 (aK a) (aK b) k a.length).getD i 0)/\(d9 (aK a) (aK b) k a.length).getD 0 0=k/\(c8 a b k).length=a.length:=by
 obtain⟨f,fl⟩:=t.xt hl hk;have la:(c8 a b k).length=a.length:=by unfold c8 aP;rw [Ll];exact fl
 have lb:(d8 a b k).length=a.length:=by unfold d8 aP;rw [Ll];exact fl
 have hd:(d9 (aK a) (aK b) k a.length).getD 0 0=k:=by rw [LD,f.head];rfl
 generalize hm:d9 (aK a) (aK b) k a.length=met at *;have at_:∀i,i < a.length->met[i]?=some (met.getD i 0):=λi hi=>getD_at (by omega)
 have st:∀(g:Nat->Nat),(∀p∈met,g p∈met)->∀i,i < a.length->met.getD (aK (aP met g) i) 0=g (met.getD i 0):=λg hg i hi=>by
  have h1:=at_ i hi;have h2:=gy (g:=g) h1
  have h3:aK (aP met g) i=met.idxOf (g (met.getD i 0)):=by
   unfold aK;rw [LD,h2];rfl
  rw [h3,LD,cy (hg _ (Lg h1))];rfl
 refine⟨⟨la.symm,λi hi=>?_,λi j hi hj e=>?_,λi hi=>?_,λi hi=>?_⟩,hd,la⟩
 ·rw [la] at hi;exact f.me.inn _ (Lg (at_ i hi))
 ·rw [la] at hi hj;exact (List.getElem?_inj (by omega) f.me.nd).mp (by rw [at_ i hi,at_ j hj];exact congrArg some e)
 ·rw [la] at hi;have:=st (aK a) (λp hp=>(f.cl p hp).1) i hi;unfold c8;rw [hm];exact this
 ·rw [la] at hi;have:=st (aK b) (λp hp=>(f.cl p hp).2) i hi;unfold d8;rw [hm];exact this
theorem zJ {a b:List Nat} (t:c5 a b) (s:gp a b):fst a b a b=some 0:=by
 have le:=t.ok.len;have nw:∀l:List Nat,l.length=a.length->aP (List.range a.length) (aK l)=l->True:=λ_ _ _=>trivial
 have e:∀l:List Nat,l.length=a.length->(∀i x,l[i]?=some x->x < a.length)->aP (List.range a.length) (aK l)=l:=λl hl hx=>by
  apply List.ext_getElem?
  intro i;unfold aP;rw [Lj]
  by_cases c:i < a.length
  ·have h1:=aL (a:=l) (i:=i) (by omega);rw [LH c,h1];show some ((List.range a.length).idxOf (aK l i))=_
   rw [bZ List.nodup_range (LH (hx _ _ h1))]
  ·rw [Lp (by simp;omega),Lp (by omega)];rfl
 refine CK t.pos ⟨?_,?_⟩ λj hj=>absurd hj (L7 _)
 ·unfold c8;rw [show d9 (aK a) (aK b) 0 a.length=_ from s];exact e a rfl t.ok.al
 ·unfold d8;rw [show d9 (aK a) (aK b) 0 a.length=_ from s];exact e b le t.ok.bl
theorem gE {a b:List Nat} (t:c5 a b) (s:gp a b):c8 a b 0=a/\d8 a b 0=b:=by
 have:=zJ t s;unfold fst at this;have h:=List.find?_some this
 simpa using h
structure uT (a b c d:List Nat) (φ:Nat->Nat):Prop where
 z:φ 0=0
 lt:∀i,i < a.length->φ i < c.length
 h:∀i,i < a.length->φ (aK a i)=aK c (φ i)
 t:∀i,i < a.length->φ (aK b i)=aK d (φ i)
theorem uT.Jq {a b c d:List Nat} {φ:Nat->Nat} (s:uT a b c d φ) (ta:c5 a b) (tc:c5 c d):∀j,j < c.length->∃i,i < a.length/\φ i=j:=λj hj=>by
 have le:=ta.ok.len
 have:=tc.high (met:=(List.range a.length).map φ) (λp hp=>by
  obtain⟨i,hi,rfl⟩:=LC.mp hp;have hi':=LF.mp hi
  exact⟨LC.mpr ⟨aK a i,LF.mpr (ta.ok.al _ _ (aL hi')),s.h i hi'⟩,LC.mpr ⟨aK b i,LF.mpr (ta.ok.bl _ _ (aL (by omega))),s.t i hi'⟩⟩)
  (LC.mpr ⟨0,LF.mpr ta.pos,s.z⟩) j j (Lh _) hj
 obtain⟨i,hi,e⟩:=LC.mp this;exact⟨i,LF.mp hi,e⟩
theorem vc {n:Nat} {φ:Nat->Nat} (lt:∀i,i < n->φ i < n) (on:∀j,j < n->∃i,i < n/\φ i=j):∀i j,i < n->j < n->φ i=φ j->i=j:=λi j hi hj e=>by
 apply Classical.byContradiction
 intro ne
 have h:=dD (List.range n) (((List.range n).erase j).map φ) List.nodup_range (λx hx=>by
  obtain⟨k,hk,ek⟩:=on x (LF.mp hx)
  by_cases c:k=j
  ·exact LC.mpr ⟨i,(List.mem_erase_of_ne ne).mpr (LF.mpr hi),by rw [e,<- c];exact ek⟩
  ·exact LC.mpr ⟨k,(List.mem_erase_of_ne c).mpr (LF.mpr hk),ek⟩)
 rw [Ll,List.length_erase_of_mem (LF.mpr hj),List.length_range] at h;omega
theorem vh {a b c d:List Nat} {φ:Nat->Nat} (s:uT a b c d φ) (ta:c5 a b) (tc:c5 c d) (sa:gp a b) (sc:gp c d) (hl:a.length<=500) (e:c.length=a.length):a=c/\b=d:=by
 have iso:JE a b c d φ:=⟨e,s.lt,vc (λi hi=>by rw [<- e];exact s.lt i hi) (λj hj=>s.Jq ta tc j (by omega)),s.h,s.t⟩;have h:=iso.anew ta hl ta.pos;rw [s.z,(gE ta sa).1,(gE ta sa).2,(gE tc sc).1,(gE tc sc).2] at h;exact h
theorem zH {a b:List Nat} (t:c5 a b) (hl:a.length<=500) {k:Nat} (hk:k < a.length):gp (c8 a b k) (d8 a b k):=by
 have f:=t.anew hl hk;have sm:=wb (t.sy hl hk) (by rw [List.length_range];exact f.1);rw [List.length_range] at sm;exact sm
structure St (a b c d:List Nat) (p:Nat) (G:Nat->Option Nat):Prop where
 z:G 0=some 0
 lt:∀i j,G i=some j->i < a.length/\j < c.length
 snd:∀φ,uT a b c d φ->∀i j,G i=some j->φ i=j
 dn:∀i,i < p->∃j,G i=some j/\G (aK a i)=some (aK c j)/\G (aK b i)=some (aK d j)
def CW (G:Nat->Option Nat) (k v:Nat):Nat->Option Nat:=λi=>if i=k then some v else G i
structure G0 (kvs:List (D×D)) (G:Nat->Option Nat):Prop where
 ok:bD kvs
 get:∀i:Nat,dZ kvs (.int (i:Int))=(G i).map λ(j:Nat)=>.int (j:Int)
theorem G0.put {kvs:List (D×D)} {G:Nat->Option Nat} (m:G0 kvs G) (k v:Nat):G0 (putN kvs (.int (k:Int)) (.int (v:Int))) (CW G k v):=by
 refine⟨m.ok.put (by simp [aR]) (by simp [dep]),λi=>?_⟩;rw [iC m.ok (by simp [aR]) (by simp [aR]),m.get];unfold CW
 by_cases c:i=k
 ·subst c;rw [if_pos (by simp [aV]),if_pos rfl];rfl
 ·rw [if_neg (by simp [aV];omega),if_neg c]
theorem C9:G0 [(.int 0,.int 0)] (λi=>if i=0 then some 0 else none):=by
 refine⟨⟨λkv h=>?_,λi j x y hi hj e=>?_⟩,λi=>?_⟩
 ·rw [LA.mp h];simp [aR,dep]
 ·have h1:=(La.mp hi).1;have h2:=(La.mp hj).1;simp at h1 h2;omega
 ·unfold dZ
  by_cases c:i=0
  ·subst c;simp [aV]
  ·rw [if_neg c];have:¬ ((0:Int)=(i:Int)):=by omega
   simp [aV,this]
theorem St.up {a b c d:List Nat} {p:Nat} {G:Nat->Option Nat} (s:St a b c d p G) {k v:Nat} (hk:G k=none) (h1:k < a.length) (h2:v < c.length) (h3:∀φ,uT a b c d φ->φ k=v):St a b c d p (CW G k v):=by
 have ex:∀i j,G i=some j->CW G k v i=some j:=λi j h=>by
  unfold CW;rw [if_neg λe=>by rw [e,hk] at h;cases h];exact h
 refine⟨ex _ _ s.z,λi j h=>?_,λφ hφ i j h=>?_,λi hi=>?_⟩
 ·unfold CW at h
  by_cases e:i=k
  ·rw [if_pos e] at h;cases h;exact⟨e▸h1,h2⟩
  ·rw [if_neg e] at h;exact s.lt i j h
 ·unfold CW at h
  by_cases e:i=k
  ·rw [if_pos e] at h;cases h;rw [e];exact h3 φ hφ
  ·rw [if_neg e] at h;exact s.snd φ hφ i j h
 ·obtain⟨j,q1,q2,q3⟩:=s.dn i hi;exact⟨j,ex _ _ q1,ex _ _ q2,ex _ _ q3⟩
theorem DR {a b c d:List Nat} (ha:0 < a.length) (hc:0 < c.length):St a b c d 0 (λi=>if i=0 then some 0 else none):=by
 refine⟨rfl,λi j h=>?_,λφ hφ i j h=>?_,λi hi=>absurd hi (L7 _)⟩
 ·by_cases e:i=0
  ·simp only [e,if_true] at h;cases h;exact⟨e▸ha,hc⟩
  ·simp only [e,if_false] at h;cases h
 ·by_cases e:i=0
  ·simp only [e,if_true] at h;cases h;rw [e];exact hφ.z
  ·simp only [e,if_false] at h;cases h
theorem St.all {a b c d:List Nat} {G:Nat->Option Nat} (s:St a b c d a.length G):∃φ,uT a b c d φ:=by
 refine⟨λi=>(G i).getD 0,by simp [s.z],λi hi=>?_,λi hi=>?_,λi hi=>?_⟩
 ·obtain⟨j,q,_,_⟩:=s.dn i hi;simp only [q,Option.getD_some];exact (s.lt i j q).2
 ·obtain⟨j,q,q2,_⟩:=s.dn i hi;simp only [q,q2,Option.getD_some]
 ·obtain⟨j,q,_,q3⟩:=s.dn i hi;simp only [q,q3,Option.getD_some]
theorem St.here {a b c d:List Nat} {p:Nat} {G:Nat->Option Nat} (s:St a b c d p G) (t:c5 a b) (hp:p < a.length):∃g,G p=some g:=by
 by_cases c0:p=0
 ·exact⟨0,c0▸s.z⟩
 ·have le:=t.ok.len;obtain⟨i,hi,e⟩:=t.num p (by omega) hp;obtain⟨j,_,q2,q3⟩:=s.dn i hi;rcases e with e|e
  ·rw [aL (by omega)] at e;rw [Li e] at q2;exact⟨_,q2⟩
  ·rw [aL (by omega)] at e;rw [Li e] at q3;exact⟨_,q3⟩
open Classical in
noncomputable def HV (x y:D) (Q:D->Prop):Prop:=∃a b c d:List Nat,x=bh a b/\y=bh c d/\c5 a b/\c5 c d/\a.length<=500/\c.length<=500/\Q (.bl (decide (∃φ,uT a b c d φ)))
noncomputable def dC:Fw:=F2 HV
def e8:bI:=(aI (bJ 6 (aG bS (ag 5) (fM 2 (ag 3)))) (CF (Ca 2 (aG bS (ag 4) (ag 3)) (ag 6)) (IM (ag 6)) (cz (cC (.bl false))) bQ))
def ja:bI:=(CJ (af (ag 0) (af (ag 1) aw)) (jo 2 (cQ (a9 4) (cQ (a9 5) jg))) e8)
def jP:bI:=(aI (sV 2 (cC (.int 0)) (cC (.int 0))) (aI (gq hU (af (aA fB (af (aG bS (ag 0) (cC (.int 0))) aw)) aw) (a9 3) ja) (cz (cC (.bl true)))))
theorem qT:∀ds Q,dC ds Q->ds.length=2:=kM
theorem ux:∀ds (Q:D->Prop),dC ds Q->jP { nx:=λ_=>Q .non,rt:=Q } (aF ["one","other","images","place","leads","others","image"] ds):=by
 rintro ds Q ⟨x,y,rfl,a,b,c,d,rfl,rfl,ta,tc,la,lc,h⟩;have sz:=Lu;have lb:=ta.ok.len;have ld:=tc.ok.len;have na:(au a).length=a.length:=by simp [au]
 simp_arith only [jP,sV,m8,gN,na]
 refine⟨by omega,by omega,?_⟩;refine cm (λi e=>∃kvs G k3 k4 k5 k6,G0 kvs G/\kvs.length<=1 + 2 * i/\St a b c d i G/\e=[some (.d (bh a b)),some (.d (bh c d)),some (.dic kvs),k3,k4,k5,k6]) ?_ ?_ ⟨_,_,_,_,_,_,C9,by simp,DR ta.pos tc.pos,rfl⟩
 ·rintro i x env N hx ⟨kvs,G,k3,k4,k5,k6,m,hlen,s,rfl⟩ hN;obtain⟨hi,rfl⟩:=yC hx;obtain⟨g,hg⟩:=s.here ta hi;have hgl:=(s.lt i g hg).2
  have body:∀(Z:Ends3) (l o:List Nat) (kvs:List (D×D)) (G:Nat->Option Nat) (k6:Option Lo),Z.rt=Q->l.length=a.length->o.length=c.length->G0 kvs G->kvs.length<=2000->St a b c d i G->G i=some g->aK l i < a.length->aK o g < c.length ->
    (∀φ,uT a b c d φ->φ (aK l i)=aK o g) ->
    (∀kvs' G' k6',G0 kvs' G'->kvs'.length<=kvs.length + 1->St a b c d i G'->(∀i j,G i=some j->G' i=some j)->G' (aK l i)=some (aK o g)->Z.nx [some (.d (bh a b)),some (.d (bh c d)),some (.dic kvs'),some (.d (.int (i:Int))),some (.d (.tup (au l))),some (.d (.tup (au o))),k6']) ->
    e8 Z [some (.d (bh a b)),some (.d (bh c d)),some (.dic kvs),some (.d (.int (i:Int))),some (.d (.tup (au l))),some (.d (.tup (au o))),k6]:=by
   intro Z l o kvs G k6 hZ hl ho m hlen s hg h1 h2 hφ nx
   simp_arith only [e8,fM,CF,Ca,IM]
   have get:=m.get i;rw [hg] at get;refine⟨kvs,rfl,.int (g:Int),by simp [aR],by simp [dep],m.ok,get,?_⟩;rw [zY (aL (show g < o.length by omega))];refine⟨kvs,rfl,?_⟩;rw [zY (aL (show i < l.length by omega))];have get2:=m.get (aK l i);refine⟨by simp [aR],by simp [dep],m.ok,by omega,λy hy=>?_,λhy=>?_⟩
   ·cases hG:G (aK l i) with
    | none=>rw [hG] at get2;rw [get2] at hy;cases hy
    | some v =>
     rw [hG] at get2;rw [get2] at hy;cases hy;rw [jv];refine⟨_,rfl,?_⟩
     by_cases e:v=aK o g
     ·rw [if_neg (by simp [e])];exact nx kvs G _ m (by omega) s (λ_ _ z=>z) (e▸hG)
     ·rw [if_pos (by simp;omega),hZ];have none:¬ ∃φ,uT a b c d φ:=fun⟨φ,q⟩=>e ((s.snd φ q _ _ hG).symm.trans (hφ φ q));have e0:∀inst:Decidable (∃φ,uT a b c d φ),@decide _ inst=false:=λ_=>decide_eq_false none;rw [e0] at h;exact h
   ·cases hG:G (aK l i) with
    | some v=>rw [hG] at get2;rw [get2] at hy;cases hy
    | none =>
     rw [jv];refine⟨_,rfl,?_⟩;rw [if_neg (by simp)];refine nx _ _ _ (m.put _ _) (dH) (s.up hG h1 h2 hφ) (λx y z=>?_) (by unfold CW;rw [if_pos rfl]);unfold CW;rw [if_neg λe=>by rw [e,hG] at z;cases z];exact z
  simp_arith only [CJ,sW,ja]
  refine⟨_,_,rfl,rfl,by simp,?_⟩
  simp_arith only [List.zipWith_cons_cons,List.zipWith_nil_left,turns]
  refine body _ a c kvs G k6 rfl rfl rfl m (by omega) s hg (ta.ok.al _ _ (aL hi)) (tc.ok.al _ _ (aL hgl)) (λφ q=>by rw [q.h i hi,s.snd φ q i g hg]) λkvs1 G1 k61 m1 l1 s1 x1 e1=>?_
  simp_arith only [turns]
  refine body _ b d kvs1 G1 k61 rfl lb ld m1 (by omega) s1 (x1 _ _ hg) (ta.ok.bl _ _ (aL (by omega))) (tc.ok.bl _ _ (aL (by omega))) (λφ q=>by rw [q.t i hi,s.snd φ q i g hg]) λkvs2 G2 k62 m2 l2 s2 x2 e2=>?_;refine hN _ ⟨kvs2,G2,_,_,_,_,m2,by omega,⟨s2.z,s2.lt,s2.snd,λj hj=>?_⟩,rfl⟩
  by_cases e:j=i
  ·subst e;exact⟨g,x2 _ _ (x1 _ _ hg),x2 _ _ e1,e2⟩
  ·exact s2.dn j (by omega)
 ·rintro env ⟨kvs,G,k3,k4,k5,k6,m,hlen,s,rfl⟩
  simp_arith only [and_true]
  have e1:(aW 0 ((a.length:Nat):Int).toNat).length=a.length:=by simp [aW]
  rw [e1] at s;have e0:∀inst:Decidable (∃φ,uT a b c d φ),@decide _ inst=true:=λ_=>decide_eq_true s.all;rw [e0] at h;exact h
def CA (x:D) (Q:D->Prop):Prop:=x=.obj eu/\∀a b:List Nat,c5 a b->a.length<=500->Q (bh a b)
structure PP where
 fst:Nat
 snd:Nat
 deriving DecidableEq
def cP (p:PP):D:=.tup [.int (p.fst:Int),.int (p.snd:Int)]
theorem Ek:Code cP:=⟨λp q=>by
 rw [Bool.eq_iff_iff,decide_eq_true_eq];obtain⟨a,b⟩:=p;obtain⟨c,d⟩:=q;simp [cP,aV,dB]
 omega,λp=>by simp [cP,dep,bV]⟩
def ib (a c:List Nat) (p:PP):PP:=⟨aK a p.fst,aK c p.snd⟩
section
variable {a b c d:List Nat}
def An (a c:List Nat) (p:PP):Prop:=p.fst < a.length/\p.snd < c.length
end
theorem uc {a b:List Nat} (t:sd a b) {x:Nat} (h:x < a.length):a[x]?=some (a.getD x 0)/\b[x]?=some (b.getD x 0):=⟨getD_at h,getD_at (l:=b) (by rw [t.len];exact h)⟩
def KA (t w p:D) (Q:D->Prop):Prop:=∃(a b:List Nat) (z:Str) (x:Nat),t=bh a b/\w=.str z/\p=.int (x:Int)/\sd a b/\x < a.length/\LW z/\z.length<=100000/\Q (.int ((lw a b z.cps.toList x:Nat):Int))
def dg:Fw:=λds Q=>∃t w p,ds=[t,p,w]/\KA t w p Q
theorem iJ {t w p:D} {Q:D->Prop}:dg [t,p,w] Q=KA t w p Q:=by
 unfold dg;exact propext ⟨fun⟨_,_,_,e,h⟩=>by cases e;exact h,λh=>⟨_,_,_,rfl,h⟩⟩
def n5:bI:=(aI (mI (ag 2) (a9 3) (iI (aN (aG jm (ag 3) (cC (.str "s")))) (bJ 1 (aG bS (aG bS (ag 0) (cC (.int 0))) (ag 1))) (iI (aN (aG jm (ag 3) (cC (.str "r")))) (bJ 1 (aG bS (aG bS (ag 0) (cC (.int 1))) (ag 1))) (bJ 1 (aG bS (aG bS (ag 0) (cC (.int 1))) (aG bS (aG bS (ag 0) (cC (.int 1))) (ag 1))))))) (cz (ag 1)))
theorem uW:∀ds Q,dg ds Q->ds.length=3:=by rintro ds Q ⟨t,w,p,rfl,_⟩;rfl
theorem xw:∀ds (Q:D->Prop),dg ds Q->n5 { nx:=λ_=>Q .non,rt:=Q } (aF ["_law_table_here","_law_place","_law_word_here","_law_letter"] ds):=by
 rintro ds Q ⟨t,w,p,rfl,a,b,z,x,rfl,rfl,rfl,tab,hx,hz,hl,h⟩
 simp_arith only [n5,fw]
 refine cm (λi e=>∃k,e=[some (.d (bh a b)),some (.d (.int ((lw a b (z.cps.toList.take i) x:Nat):Int))),some (.d (.str z)),k]) ?_ ?_ ⟨_,rfl⟩
 ·rintro i x' env N hx' ⟨k,rfl⟩ hN;unfold iM at hx';rw [Lj] at hx'
  cases hc:z.cps.toList[i]? with
  | none=>rw [hc] at hx';cases hx'
  | some c =>
   rw [hc] at hx';cases hx';have hcl:=hz c (Lg hc);have hi:=BO tab hx (z.cps.toList.take i);have hb:=qm tab hi
   have fin:N [some (.d (bh a b)),some (.d (.int ((lp a b (lw a b (z.cps.toList.take i) x) c:Nat):Int))),some (.d (.str z)),some (.d (.str ⟨#[c]⟩))]:=by
    refine hN _ ⟨some (.d (.str ⟨#[c]⟩)),?_⟩;rw [Mm,hc];simp only [Option.toList];rw [o6]
   simp_arith only [bh,m8,vT]
   rcases hcl with w|w|w <;> subst w
   ·rw [if_pos (by rfl),zY (uc tab hi).1];exact fin
   ·rw [if_neg (by decide),if_pos (by rfl),zY (uc tab hi).2];exact fin
   ·rw [if_neg (by decide),if_neg (by decide),zY (uc tab hi).2,zY (uc tab hb).2];exact fin
 ·rintro env ⟨k,rfl⟩
  simp_arith only [and_true]
  rw [Mh (by simp [iM])];exact h
end KR
namespace L2.L3
open PySem
def G1 (P:D->(D->Prop)->(Str->Prop)->Prop):xC:=λds Q R=>∃x,ds=[x]/\P x Q R
theorem Jn {P}:∀ds (Q:D->Prop) (R:Str->Prop),G1 P ds Q R->ds.length=1:=by rintro ds Q R ⟨x,rfl,_⟩;rfl
theorem Ap {P} {x:D} {Q R}:G1 P [x] Q R=P x Q R:=by
 unfold G1;apply propext;constructor
 ·rintro⟨x',e,h⟩;cases e;exact h
 ·intro h;exact⟨_,rfl,h⟩
end L2.L3
namespace KR
open PySem L2 L2.L3 K55
section
variable {β:Type} [DecidableEq β] {ha th:β->β} {f:β} {P:β->Prop}
def aT (ha th:β->β) (f:β):Nat->List β
 | 0=>[f]
 | n + 1=>match (aT ha th f n)[n]? with
  | some p=>br (br (aT ha th f n) (ha p)) (th p)
  | none=>aT ha th f n
theorem nR {n:Nat} {p:β} (h:(aT ha th f n)[n]?=some p):aT ha th f (n + 1)=br (br (aT ha th f n) (ha p)) (th p):=by
 rw [aT,h]
structure Done (ha th:β->β) (f:β) (n:Nat):Prop where
 le:∀i,i<=n->(aT ha th f i).length<=60
 lt:∀i,i < n->i < (aT ha th f i).length
 fin:(aT ha th f n).length<=n
structure Over (ha th:β->β) (f:β) (n:Nat):Prop where
 le:∀i,i<=n->(aT ha th f i).length<=60
 lt:∀i,i<=n->i < (aT ha th f i).length
 gt:60 < (aT ha th f (n + 1)).length
theorem Done.over {n m:Nat} (a:Done ha th f n) (b:Over ha th f m):False:=by
 rcases Mf m n with h|h
 ·have:=a.le (m + 1) (by omega);have:=b.gt;omega
 ·have:=b.lt n h;have:=a.fin;omega
theorem Part.step {met:List β} {at_:Nat} (m:Part ha th f P met at_) {p:β} (hp:met[at_]?=some p) (c:P (ha p)/\P (th p)):Part ha th f P (br (br met (ha p)) (th p)) (at_ + 1):=by
 have m1:=m.add hp c.1 (.inl rfl);have hp1:=bA (q:=ha p) hp;have m2:=m1.add hp1 c.2 (.inr rfl);have hp2:=bA (q:=th p) hp1;refine⟨m2.me,?_,λi x hi hx=>?_,m2.head,λj q hj hq=>?_⟩
 ·have:=(La.mp hp2).1;omega
 ·by_cases e:i=at_
  ·subst e;rw [hp2] at hx;cases hx;exact⟨dF fV,fV⟩
  ·exact m2.cl i x (by omega) hx
 ·obtain⟨i,y,h1,h2,h3,h4⟩:=m2.num j q hj hq;exact⟨i,y,h1,by omega,h3,h4⟩
theorem dQ (hf:P f) (cl:∀p,P p->P (ha p)/\P (th p)):∀n,(∀i,i < n->i < (aT ha th f i).length)->Part ha th f P (aT ha th f n) n
 | 0,_=>⟨⟨by simp [aT],λq hq=>by simp [aT] at hq;rw [hq];exact hf⟩,by simp [aT],λi q hi=>absurd hi (L7 _),rfl,λj q hj hq=>by
  have:=(La.mp hq).1;simp [aT] at this
  omega⟩
 | n + 1,h=>by
  have m:=dQ hf cl n λi hi=>h i (by omega);have hl:=h n (by omega);have hp:(aT ha th f n)[n]?=some ((aT ha th f n)[n]):=Lc hl;rw [nR hp];exact m.step hp (cl _ (m.me.inn _ (Lg hp)))
theorem Part.full {met:List β} (m:Part ha th f P met met.length):Full ha th f P met:=⟨m.me,λq hq=>by
 obtain⟨i,hi⟩:=LL hq
 exact m.cl i q (La.mp hi).1 hi,m.head,λj q hj hq=>by
 obtain⟨i,y,h1,_,h3,h4⟩:=m.num j q hj hq
 exact⟨i,y,h1,h3,h4⟩⟩
def jj (met:List β) (g:β->β) (n:Nat):List Nat:=(met.take n).map λp=>met.idxOf (g p)
theorem BC {met:List β} {p q:β} (h:p∈met):(br met q).idxOf p=met.idxOf p:=by
 unfold br
 by_cases c:q∈met
 ·rw [if_pos c]
 ·rw [if_neg c,List.idxOf_append,if_pos h]
theorem va {met:List β} {q:β} {g:β->β} {n:Nat} (hn:n<=met.length) (h:∀i p,i < n->met[i]?=some p->g p∈met):jj (br met q) g n=jj met g n:=by
 unfold jj
 have e:(br met q).take n=met.take n:=by
  unfold br
  split
  ·rfl
  ·rw [List.take_append_of_le_length hn]
 rw [e];refine List.map_congr_left λp hp=>?_;obtain⟨i,hi⟩:=LL hp;have hin:i < n:=by have:=(La.mp hi).1;simp at this;omega
 rw [List.getElem?_take_of_lt hin] at hi;exact BC (h i p hin hi)
theorem zq {met:List β} {g:β->β} {n:Nat} {p:β} (h:met[n]?=some p):jj met g (n + 1)=jj met g n ++ [met.idxOf (g p)]:=by
 unfold jj;rw [Mm,h];simp
theorem zW {met:List β} {at_:Nat} (m:Part ha th f P met at_) {p:β} (hp:met[at_]?=some p):∀g:β->β,(g=ha\/g=th)->jj (br (br met (ha p)) (th p)) g (at_ + 1)=jj met g at_ ++ [(br (br met (ha p)) (th p)).idxOf (g p)]:=λg hg=>by
 have hp1:=bA (q:=ha p) hp;have hp2:=bA (q:=th p) hp1
 have hm:∀i q,i < at_->met[i]?=some q->g q∈met:=λi q hi hq=>by
  obtain⟨a,b⟩:=m.cl i q hi hq;rcases hg with rfl|rfl
  ·exact a
  ·exact b
 have le:=(La.mp hp).1;rw [zq hp2,va (by have:=(La.mp hp1).1;omega) (λi x hi hx=>?_),va (by omega) hm];have o:met[i]?=some (met[i]'(by omega)):=Lc _;rw [bA o] at hx;cases hx;exact dF (hm i _ hi o)
structure CU (cd:β->D) (kvs:List (D×D)) (l:List β):Prop where
 ok:bD kvs
 le:kvs.length<=l.length
 get:∀q:β,dZ kvs (cd q)=if q∈l then some (cN (l.idxOf q)) else none
theorem CU.one {cd:β->D} (code:Code cd) (key:∀p,aR (cd p)=true) (f:β):CU cd [(cd f,.int 0)] [f]:=by
 have e:[(cd f,D.int 0)]=putN [] (cd f) (.int 0):=by simp [putN]
 refine⟨?_,by simp,λq=>?_⟩
 ·rw [e];exact bD.nil.put (key f) (code.dp f)
 ·rw [e,iC bD.nil (key f) (key q),code.eq]
  by_cases c:f=q
  ·subst c;simp [cN]
  ·rw [decide_eq_false c,if_neg (by simp),if_neg (by simp;exact λz=>c z.symm)];simp [dZ]
theorem CU.put {cd:β->D} {kvs:List (D×D)} {l:List β} (code:Code cd) (key:∀p,aR (cd p)=true) (n:CU cd kvs l) {q:β} (h:q∉l):CU cd (putN kvs (cd q) (cN l.length)) (l ++ [q]):=by
 refine⟨n.ok.put (key q) (code.dp q),?_,λr=>?_⟩
 ·have:(putN kvs (cd q) (cN l.length)).length<=kvs.length + 1:=by
   unfold putN
   split <;> simp
  have:=n.le;simp;omega
 ·rw [iC n.ok (key q) (key r),n.get,code.eq]
  by_cases c:q=r
  ·subst c;rw [decide_eq_true rfl,if_pos rfl,if_pos (by simp),List.idxOf_append,if_neg h];simp
  ·rw [decide_eq_false c,if_neg (by simp)]
   by_cases m:r∈l
   ·rw [if_pos m,if_pos (by simp [m]),List.idxOf_append,if_pos m]
   ·rw [if_neg m,if_neg (by simp [m];exact λe=>c e.symm)]
theorem CU.any {cd:β->D} {kvs:List (D×D)} {l:List β} (n:CU cd kvs l) (q:β):(kvs.any λkv=>aV kv.1 (cd q))=decide (q∈l):=by
 rw [wU,n.get]
 by_cases c:q∈l
 ·rw [if_pos c,decide_eq_true c];rfl
 ·rw [if_neg c,decide_eq_false c];rfl
end
def cV (φ:Fw) (Pf:Le->Hp->Addr->Prop):xC:=λds Q R=>∃(β:Type) (_:DecidableEq β) (cd:β->D) (ha th:β->β) (f:β) (P:β->Prop),ds=[cd f,.obj Pf]/\Code cd/\(∀p,aR (cd p)=true)/\P f/\(∀p,P p->P (ha p)/\P (th p)) /\
 (∀p,P p->∀Q':D->Prop,Q' (.tup [cd (ha p),cd (th p)])->φ [cd p] Q')/\(∀n,Over ha th f n->R "TooMany")/\∀n,Done ha th f n->Q (bh (aP (aT ha th f n) ha) (aP (aT ha th f n) th))
theorem pY {φ:Fw} {Pf:Le->Hp->Addr->Prop}:∀ds (Q:D->Prop) (R:Str->Prop),cV φ Pf ds Q R->ds.length=2:=by
 rintro ds Q R ⟨_,_,_,_,_,_,_,rfl,_⟩;rfl
def iW (φ:Fw) (Pf:Le->Hp->Addr->Prop):uS:=(l6 (wZ (cw 2 (mE (af (ag 0) aw)))) (l6 (wZ (qF 3 (ag 0) (cC (.int 0)))) (l6 (wZ (cw 4 (mE aw))) (l6 (wZ (cw 5 (mE aw))) (l6 (xF (aN (aG E9 (cH 4) (cH 2))) (l6 (wZ (oW (xN 1 Pf φ (af (cZ 2 (cH 4)) aw)) (jo 2 (cQ (a9 6) (cQ (a9 7) jg))))) (l6 (wZ (mI (bU (af (ag 6) (af (ag 7) aw))) (a9 8) (iI (qH true 3 (ag 8)) (aI (aU 3 (ag 8) (cH 2)) (dS 2 (ag 8))) bQ))) (l6 (Hs (aN (aG IK (cH 2) (cC (.int 60)))) (lE "TooMany" (af (cC (.str "there are more than sixty places")) aw)) (wZ bQ)) (l6 (wZ (dS 4 (fM 3 (ag 6)))) (wZ (dS 5 (fM 3 (ag 7))))))))) (wZ (dq 4 (dq 5 (cz (bU (af (aA eJ (af (ag 4) aw)) (af (aA eJ (af (ag 5) aw)) aw))))))))))))
theorem rj {φ:Fw} {Pf:Le->Hp->Addr->Prop}:∀ds (Q:D->Prop) (R:Str->Prop),cV φ Pf ds Q R->iW φ Pf { nx:=λ_=>Q .non,rt:=Q,xc:=R } (aF ["first","behind","met","numbers","halves","thirds","half","third","thing"] ds):=by
 rintro ds Q R ⟨β,dec,cd,ha,th,f,P,rfl,code,key,pf,cl,run,hov,hdn⟩;have sz:=Lu
 simp_arith! only [iW,xF,qF]
 have pl:∀n,(∀i,i < n->i < (aT ha th f i).length)->Part ha th f P (aT ha th f n) n:=dQ pf cl
 have rl:∀n g,(∀i,i < n->i < (aT ha th f i).length)->(au (jj (aT ha th f n) g n)).length=n:=λn g h=>by
  have:=(pl n h).le;unfold au jj;simp;omega
 refine⟨key f,code.dp f,λe=>∃n kvs k6 k7 k8,(∀i,i<=n->(aT ha th f i).length<=60)/\(∀i,i < n->i < (aT ha th f i).length)/\CU cd kvs (aT ha th f n)/\e=[some (.d (cd f)),some (.d (.obj Pf)),some (.own ((aT ha th f n).map cd)),some (.dic kvs),some (.own (au (jj (aT ha th f n) ha n))),some (.own (au (jj (aT ha th f n) th n))),k6,k7,k8],
  λe=>61 - BL 4 e,⟨0,_,none,none,none,λi hi=>by rw [Nat.le_zero.mp hi];simp [aT],λi hi=>absurd hi (L7 _),CU.one code key f,rfl⟩,?_⟩
 rintro env ⟨n,kvs,k6,k7,k8,hle,hlt,nm,rfl⟩;have m:=pl n hlt;have ln:=hle n (Lh _);refine⟨_,rfl,_,rfl,?_⟩;simp only [rl n _ hlt,Ll]
 by_cases cc:n < (aT ha th f n).length
 ·rw [if_pos (by omega)];obtain⟨p,hp⟩:∃p,(aT ha th f n)[n]?=some p:=⟨_,Lc cc⟩;have ip:=m.me.inn p (Lg hp);have c:=cl p ip;have ai:j6 ((aT ha th f n).map cd) (n:Int)=some (cd p):=fO _ _ _ _ hp;have ms:=nR hp;have m2:=m.step hp c
  simp_arith! only [xN,rl n _ hlt]
  refine⟨_,_,rfl,ai,run p ip _ ⟨_,rfl,rfl,?_⟩⟩
  simp_arith! only [yw]
  refine cm (λi e=>i<=2/\∃kvs k8,e=[some (.d (cd f)),some (.d (.obj Pf)),some (.own ((w4 (aT ha th f n) [ha p,th p] i).map cd)),some (.dic kvs),some (.own (au (jj (aT ha th f n) ha n))),some (.own (au (jj (aT ha th f n) th n))),some (.d (cd (ha p))),some (.d (cd (th p))),k8]/\CU cd kvs (w4 (aT ha th f n) [ha p,th p] i)/\(w4 (aT ha th f n) [ha p,th p] i).length<=60 + i) ?_ ?_ ⟨by omega,kvs,k8,rfl,nm,ln⟩
  ·rintro i x' env N hx ⟨hi2,kvs,k8,rfl,nm,ml⟩ hN;obtain⟨q,hq,rfl⟩:∃q,[ha p,th p][i]?=some q/\cd q=x':=LY.mp ((Lj (f:=cd) (l:=[ha p,th p]) (i:=i)).symm.trans hx);have eq:w4 (aT ha th f n) [ha p,th p] (i + 1)=br (w4 (aT ha th f n) [ha p,th p] i) q:=si hq;have hi:i < 2:=by have:=(La.mp hx).1;simpa using this
   have kl:=nm.le
   simp_arith! only [qH,aU,Lo.dic.injEq]
   refine⟨key q,code.dp q,nm.ok,?_⟩;rw [nm.any];unfold br at eq
   by_cases c2:q∈w4 (aT ha th f n) [ha p,th p] i
   ·rw [if_pos c2] at eq;rw [decide_eq_true c2];refine hN _ ⟨by omega,kvs,some (.d (cd q)),?_,by rw [eq];exact nm,by rw [eq];omega⟩;rw [eq]
   ·rw [if_neg c2] at eq;rw [decide_eq_false c2];refine⟨key q,code.dp q,nm.ok,by omega,?_⟩;refine⟨by simp;omega,hN _ ⟨by omega,_,some (.d (cd q)),?_,by rw [eq];exact nm.put code key c2,by rw [eq];simp;omega⟩⟩;rw [eq,List.map_append];simp only [Ll];rfl
  ·rintro env ⟨_,kvs,k8,rfl,nm,_⟩;have e2:w4 (aT ha th f n) [ha p,th p] [cd (ha p),cd (th p)].length=aT ha th f (n + 1):=by rw [ms];rfl
   rw [e2] at nm ⊢;have hp2:=bA (q:=th p) (bA (q:=ha p) hp);rw [<- ms] at hp2;have lt2:=(La.mp hp2).1
   simp_arith! only [Ll,fM,Lo.dic.injEq]
   by_cases c6:(aT ha th f (n + 1)).length<=60
   ·rw [if_neg (by omega)];have ih:ha p∈aT ha th f (n + 1):=by rw [ms];exact dF fV
    have it:th p∈aT ha th f (n + 1):=by rw [ms];exact fV
    refine⟨by rw [rl n _ hlt];omega,_,key _,code.dp _,nm.ok,by rw [nm.get,if_pos ih],by rw [rl n _ hlt];omega,_,key _,code.dp _,nm.ok,by rw [nm.get,if_pos it],?_⟩
    have lt':∀i,i < n + 1->i < (aT ha th f i).length:=λi hi=>by
     rcases LS.mp hi with z|z
     ·exact hlt i z
     ·rw [z];exact cc
    have er:∀g,(g=ha\/g=th)->au (jj (aT ha th f n) g n) ++ [cN (List.idxOf (g p) (aT ha th f (n + 1)))]=au (jj (aT ha th f (n + 1)) g (n + 1)):=λg hg=>by
     rw [ms,zW m hp g hg];unfold au;rw [List.map_append];rfl
    refine⟨⟨n + 1,kvs,_,_,_,λi hi=>?_,lt',nm,rfl,rfl,er ha (.inl rfl),er th (.inr rfl),rfl,rfl,rfl⟩,?_⟩
    ·rcases Mf i (n + 1) with z|z
     ·exact hle i (by omega)
     ·rw [show i=n + 1 by omega];exact c6
    ·simp only [BL,LO,LK,LI,List.length_singleton,rl n _ hlt];omega
   ·rw [if_pos (by omega)]
    exact hov n ⟨hle,λi hi=>by
     rcases Mf i n with z|z
     ·exact hlt i z
     ·rw [show i=n by omega];exact cc,by omega⟩
 ·rw [if_neg (by omega)];have ea:n=(aT ha th f n).length:=by have:=m.le;omega
  have rn:∀g,jj (aT ha th f n) g n=aP (aT ha th f n) g:=λg=>by
   unfold jj aP;rw [Mh (by omega)]
  simp_arith! only [rn,fj]
  exact hdn n ⟨hle,hlt,by omega⟩
def K2 (x y:D) (Q:D->Prop):Prop:=∃m:Nat,x=.obj eu/\y=.int (m:Int)/\m<=1000/\∀z:Str,LW z->z.length<=m->Q (.str z)
def eN:Fw:=F2 K2
theorem wQ (a b:Str):(a ++ b).cps.toList=a.cps.toList ++ b.cps.toList:=by show (a.cps ++ b.cps).toList=_;simp
theorem Fn (z:Str):z.length=z.cps.toList.length:=by simp [Str.length]
theorem J9:LW (Str.ofString ""):=λc hc=>nomatch (show c∈([]:List Nat) from hc)
def lr:bI:=(aI (bJ 2 (cC (.str ""))) (aI (bJ 3 (aA aE (af (ag 0) (af (cC (.int 2)) aw)))) (aI (gq hU (af (aA aE (af (ag 0) (af (aG fe (ag 1) (cC (.int 1))) aw))) aw) (a9 4) (iI (aN (aG jm (aG pI (aG fe (ag 3) (ag 4)) (cC (.int 2))) (cC (.int 0)))) (bJ 2 (aG fe (ag 2) (cC (.str "s")))) (bJ 2 (aG fe (ag 2) (aG bS (cC (.str "rq")) (aA aE (af (ag 0) (af (cC (.int 2)) aw)))))))) (cz (ag 2)))))
theorem t6:∀ds Q,eN ds Q->ds.length=2:=kM
theorem we:∀ds (Q:D->Prop),eN ds Q->lr { nx:=λ_=>Q .non,rt:=Q } (aF ["_law_rest","_law_most","_law_word_here","_law_first","_law_k"] ds):=by
 rintro ds Q ⟨x,y,rfl,m,rfl,rfl,hm,h⟩
 simp_arith only [lr,aE,gM]
 refine⟨2,rfl,rfl,by decide,by decide,λd0 a0 b0=>?_⟩
 simp_arith only [and_true]
 refine⟨_,rfl,rfl,by omega,by omega,λd1 a1 b1=>?_⟩;obtain⟨n,rfl⟩:=Int.eq_ofNat_of_zero_le a1
 simp_arith only [and_true]
 refine⟨by omega,by omega,?_⟩;refine cm (λi e=>∃z k4,LW z/\z.length<=i/\e=[some (.d (.obj eu)),some (.d (.int (m:Int))),some (.d (.str z)),some (.d (.int d0)),k4]) ?_ ?_ ⟨Str.ofString "",_,J9,by decide,rfl⟩
 ·rintro i x env N hx ⟨z,k4,hz,hzl,rfl⟩ hN;obtain⟨hi,rfl⟩:=yC hx
  have add:∀w:Str,(∀c∈w.cps.toList,isLet c)->w.length=1->N [some (.d (.obj eu)),some (.d (.int (m:Int))),some (.d (.str (z ++ w))),some (.d (.int d0)),some (.d (.int (i:Int)))]:=λw hw hl=>by
   refine hN _ ⟨z ++ w,_,λc hc=>?_,?_,rfl⟩
   ·rw [wQ] at hc;exact (LQ.mp hc).elim (hz c) (hw c)
   ·rw [Fn,wQ,LI,<- Fn,<- Fn];omega
  simp_arith only [aE,gM]
  refine⟨by (first|exact HB _ (by decide)|exact Gj _ _ (by decide)|exact vC _ (by first|decide|omega)|exact qK (by decide) (by decide)|exact mJ (by decide) (by decide)|omega|decide),?_⟩
  split
  ·exact⟨by rw [show (Str.ofString "s").length=1 from rfl];omega,add _ (λc hc=>by have:c∈[115]:=hc;unfold isLet;simp at this;omega) rfl⟩
  ·refine⟨2,rfl,rfl,by decide,by decide,λd a' b'=>?_⟩;have hd:d=0\/d=1:=by omega
   rcases hd with rfl|rfl
   ·refine⟨by decide,114,rfl,?_⟩;show fe (D.str z) (D.str ⟨#[114]⟩) _
    rw [g8];exact⟨by rw [Lu,show (⟨#[114]⟩:Str).length=1 from rfl];omega,add _ (λc hc=>by have:c∈[114]:=hc;unfold isLet;simp at this;omega) rfl⟩
   ·refine⟨by decide,113,rfl,?_⟩;show fe (D.str z) (D.str ⟨#[113]⟩) _
    rw [g8];exact⟨by rw [Lu,show (⟨#[113]⟩:Str).length=1 from rfl];omega,add _ (λc hc=>by have:c∈[113]:=hc;unfold isLet;simp at this;omega) rfl⟩
 ·rintro env ⟨z,k4,hz,hzl,rfl⟩
  simp_arith only [and_true]
  refine h z hz ?_;simp [aW] at hzl;omega
theorem DC {a b c d:List Nat} {Q:D->Prop}:nO (bh a b) (bh c d) Q=Q (.bl (!decide (a=c/\b=d))):=by
 have h:=yx (a:=a) (b:=b) (c:=c) (d:=d) (Q:=λx=>∃k,x=.bl k/\Q (.bl (!k)));unfold jm at h;unfold nO
 have e:aV (bh a b) (bh c d)=decide (a=c/\b=d):=by
  simp only [bh,aV,dB,iE,Mp];rw [Bool.eq_iff_iff];simp
 rw [e]
 have dk:gF (bh a b) (bh c d):=by
  have d1:=fb a;have d2:=fb b;have d3:=fb c;have d4:=fb d;simp only [gF,bh,dep,bV];omega
 exact propext ⟨λh=>h.2,λh=>⟨dk,h⟩⟩
section
variable {β γ:Type} [DecidableEq β] [DecidableEq γ] {ha th:β->β} {ha' th':γ->γ} {φ:β->γ} {P:β->Prop} {f:β}
theorem yL (hf:P f) (cl:∀p,P p->P (ha p)/\P (th p)):∀n,∀p∈aT ha th f n,P p
 | 0,p,hp=>by rw [aT,LA] at hp;rw [hp];exact hf
 | n + 1,p,hp=>by
  have ih:=yL hf cl n;rw [aT] at hp
  cases e:(aT ha th f n)[n]? with
  | none=>rw [e] at hp;exact ih p hp
  | some q =>
   rw [e] at hp;have iq:=ih q (Lg e);exact mx (mx ih (cl q iq).1) (cl q iq).2 p hp
theorem pL (hf:P f) (cl:∀p,P p->P (ha p)/\P (th p)) (e1:∀p,P p->ha' (φ p)=φ (ha p)) (e2:∀p,P p->th' (φ p)=φ (th p)) (inj:∀p q,P p->P q->φ p=φ q->p=q):∀n,aT ha' th' (φ f) n=(aT ha th f n).map φ
 | 0=>rfl
 | n + 1=>by
  have ih:=pL hf cl e1 e2 inj n;have hm:=yL hf cl n;rw [aT,aT,ih,Lj]
  cases e:(aT ha th f n)[n]? with
  | none=>rfl
  | some p =>
   have ip:=hm p (Lg e);show br (br ((aT ha th f n).map φ) (ha' (φ p))) (th' (φ p))=_
   rw [e1 p ip,e2 p ip,mr inj hm (cl p ip).1,mr inj (mx hm (cl p ip).1) (cl p ip).2]
end
section
variable {β γ:Type} [DecidableEq β] [DecidableEq γ] {ha th:β->β} {ha' th':γ->γ} {f:β} {f':γ}
theorem Done.carry (e:∀n,(aT ha' th' f' n).length=(aT ha th f n).length) {n:Nat} (h:Done ha' th' f' n):Done ha th f n:=⟨λi hi=>by rw [<- e];exact h.le i hi,λi hi=>by rw [<- e];exact h.lt i hi,by rw [<- e];exact h.fin⟩
end
abbrev Kx (a b c d:List Nat) (n:Nat):Prop:=Over (ib a c) (ib b d) ⟨0,0⟩ n
abbrev AU (a b c d:List Nat) (n:Nat):Prop:=Done (ib a c) (ib b d) ⟨0,0⟩ n
abbrev qO (a b c d:List Nat) (n:Nat):List PP:=aT (ib a c) (ib b d) ⟨0,0⟩ n
theorem tV {a b c d:List Nat} (ta:c5 a b) (tc:c5 c d):∀p,An a c p->An a c (ib a c p)/\An a c (ib b d p):=λp ip=>by
 have lb:=ta.ok.len;have ld:=tc.ok.len;have ip2:An b d p:=⟨by have:=ip.1;omega,by have:=ip.2;omega⟩;exact⟨⟨ta.ok.al _ _ (aL ip.1),tc.ok.al _ _ (aL ip.2)⟩,⟨ta.ok.bl _ _ (aL ip2.1),tc.ok.bl _ _ (aL ip2.2)⟩⟩
structure Mt (a b c d E F:List Nat) (met:List PP):Prop where
 full:Full (ib a c) (ib b d) ⟨0,0⟩ (An a c) met
 eE:E=aP met (ib a c)
 eF:F=aP met (ib b d)
 le:met.length<=60
theorem AU.mt {a b c d:List Nat} {n:Nat} (ta:c5 a b) (tc:c5 c d) (h:AU a b c d n):Mt a b c d (aP (qO a b c d n) (ib a c)) (aP (qO a b c d n) (ib b d)) (qO a b c d n):=by
 have m:=dQ (P:=An a c) (f:=⟨0,0⟩) ⟨ta.pos,tc.pos⟩ (tV ta tc) n h.lt;have e:n=(qO a b c d n).length:=Nat.le_antisymm m.le h.fin;have m':Part (ib a c) (ib b d) ⟨0,0⟩ (An a c) (qO a b c d n) (qO a b c d n).length:=by rw [<- e];exact m
 exact⟨m'.full,rfl,rfl,h.le n (Lh _)⟩
section
variable {a b c d E F:List Nat} {met:List PP}
theorem Mt.wN (m:Mt a b c d E F met):E.length=met.length:=by rw [m.eE];unfold aP;rw [Ll]
theorem Mt.fU (ta:c5 a b) (tc:c5 c d) (m:Mt a b c d E F met):c5 E F:=by
 rw [m.eE,m.eF];exact m.full.fU (λq hq=>by unfold ib;simp only [ta.hh _ hq.1,tc.hh _ hq.2]) (λq hq=>by unfold ib;simp only [ta.t3 _ hq.1,tc.t3 _ hq.2])
theorem Mt.z (m:Mt a b c d E F met):met.idxOf (⟨0,0⟩:PP)=0:=bZ m.full.me.nd m.full.head
theorem Mt.x6 (m:Mt a b c d E F met):(⟨0,0⟩:PP)∈met:=Lg m.full.head
theorem vS {met:List PP} {g:PP->PP} {p:PP} (hp:p∈met):aK (aP met g) (met.idxOf p)=met.idxOf (g p):=by
 have h:=gy (g:=g) (cy hp);unfold aK;rw [LD,h];rfl
theorem Mt.sE (m:Mt a b c d E F met) {p:PP} (hp:p∈met):aK E (met.idxOf p)=met.idxOf (ib a c p):=by rw [m.eE];exact vS hp
theorem Mt.sF (m:Mt a b c d E F met) {p:PP} (hp:p∈met):aK F (met.idxOf p)=met.idxOf (ib b d p):=by rw [m.eF];exact vS hp
theorem Mt.inj (m:Mt a b c d E F met) {p q:PP} (hp:p∈met) (hq:q∈met) (e:met.idxOf p=met.idxOf q):p=q:=by
 have h1:=cy hp;have h2:=cy hq;rw [e,h2] at h1;exact (Li h1).symm
theorem pZ (l:List Nat) (i:Nat):l.getD i 0=aK l i:=rfl
theorem Mt.at_ (m:Mt a b c d E F met) {i:Nat} (hi:i < E.length):∃p,p∈met/\met.idxOf p=i/\met.getD i ⟨0,0⟩=p:=by
 rw [m.wN] at hi;have h:met[i]?=some met[i]:=Lc hi;refine⟨met[i],Lg h,bZ m.full.me.nd h,?_⟩;rw [LD,h];rfl
theorem Mt.getD (m:Mt a b c d E F met) {p:PP} (hp:p∈met):met.getD (met.idxOf p) ⟨0,0⟩=p:=by
 rw [LD,cy hp];rfl
theorem Mt.JN (m:Mt a b c d E F met):uT E F a b λi=>(met.getD i ⟨0,0⟩).fst:=by
 refine⟨?_,λi hi=>?_,λi hi=>?_,λi hi=>?_⟩
 ·have:=m.getD m.x6;rw [m.z] at this;simp only [this]
 ·obtain⟨p,hp,e,g⟩:=m.at_ hi;simp only [g];exact (m.full.me.inn p hp).1
 ·obtain⟨p,hp,e,g⟩:=m.at_ hi;simp only [g];rw [<- e,m.sE hp,m.getD (m.full.cl p hp).1];rfl
 ·obtain⟨p,hp,e,g⟩:=m.at_ hi;simp only [g];rw [<- e,m.sF hp,m.getD (m.full.cl p hp).2];rfl
end
structure TT where
 x:Nat
 y:Nat
 z:Nat
 deriving DecidableEq
def FU (x y z:D) (Q:D->Prop):Prop:=∃(a b c d:List Nat) (p:PP),x=bh a b/\y=bh c d/\z=cP p/\An a c p/\a.length=b.length/\c.length=d.length/\Q (.tup [cP (ib a c p),cP (ib b d p)])
def de:Fw:=F3 FU
def hV:bI:=(aI (oW (ag 2) (jo 2 (cQ (a9 3) (cQ (a9 4) jg)))) (cz (bU (af (bU (af (aG bS (aG bS (ag 0) (cC (.int 0))) (ag 3)) (af (aG bS (aG bS (ag 1) (cC (.int 0))) (ag 4)) aw))) (af (bU (af (aG bS (aG bS (ag 0) (cC (.int 1))) (ag 3)) (af (aG bS (aG bS (ag 1) (cC (.int 1))) (ag 4)) aw))) aw)))))
theorem oO:∀ds Q,de ds Q->ds.length=3:=pT
theorem p8:∀ds (Q:D->Prop),de ds Q->hV { nx:=λ_=>Q .non,rt:=Q } (aF ["one","other","pair","here","there"] ds):=by
 rintro ds Q ⟨x,y,z,rfl,a,b,c,d,p,rfl,rfl,rfl,ip,lb,ld,h⟩;have sz:=Lu
 simp_arith only [hV,cP,m8,vT,bh]
 rw [zY (aL ip.1),zY (aL ip.2)];rw [zY (aL (by have:=ip.1;omega)),zY (aL (by have:=ip.2;omega))];exact h
theorem GH (p:PP):aR (cP p)=true:=rfl
def FV (x y:D) (Q:D->Prop) (R:Str->Prop):Prop:=∃a b c d:List Nat,x=bh a b/\y=bh c d/\c5 a b/\c5 c d/\(∀n,Kx a b c d n->R "TooMany")/\∀n,AU a b c d n->Q (bh (aP (qO a b c d n) (ib a c)) (aP (qO a b c d n) (ib b d)))
def jY:xC:=G2 FV
def uC:uS:=(xy (mz cV (bU (af (cC (.int 0)) (af (cC (.int 0)) aw))) [1,0] 1 ["pair","other","one"] (aA de (af (ag 2) (af (ag 1) (af (ag 0) aw))))))
theorem zS:∀ds (Q:D->Prop) (R:Str->Prop),jY ds Q R->ds.length=2:=IV
theorem Be:∀ds (Q:D->Prop) (R:Str->Prop),jY ds Q R->uC { nx:=λ_=>Q .non,rt:=Q,xc:=R } (aF ["one","other"] ds):=by
 rintro ds Q R ⟨x,y,rfl,a,b,c,d,rfl,rfl,ta,tc,ho,hd⟩;have sz:=Lu
 simp_arith! only [uC,mz]
 refine⟨_,rfl,λPf=>⟨PP,inferInstance,cP,ib a c,ib b d,⟨0,0⟩,An a c,rfl,Ek,GH,⟨ta.pos,tc.pos⟩,tV ta tc,λp ip Q' hq=>⟨rfl,?_⟩,ho,hd⟩⟩
 simp_arith! only [de,pv]
 exact⟨a,b,c,d,p,rfl,rfl,rfl,ip,ta.ok.len.symm,tc.ok.len.symm,hq⟩
theorem DO {a b:Bool} {Q:D->Prop}:nO (.bl a) (.bl b) Q=Q (.bl (!(a == b))):=by
 unfold nO gF;simp only [dep,aV,LZ,and_self,true_and]
structure iN (a b c d:List Nat) (k l:Nat) (φ:Nat->Nat):Prop where
 z:φ k=l
 lt:∀i,i < a.length->φ i < c.length
 h:∀i,i < a.length->φ (aK a i)=aK c (φ i)
 t:∀i,i < a.length->φ (aK b i)=aK d (φ i)
section
variable {a b c d e f:List Nat} {k l m:Nat} {φ ψ:Nat->Nat}
theorem uT.p (s:uT a b c d φ):iN a b c d 0 0 φ:=⟨s.z,s.lt,s.h,s.t⟩
theorem iN.o (s:iN a b c d 0 0 φ):uT a b c d φ:=⟨s.z,s.lt,s.h,s.t⟩
theorem iN.comp (s:iN a b c d k l φ) (u:iN c d e f l m ψ):iN a b e f k m λi=>ψ (φ i) :=
 ⟨by rw [s.z,u.z],λi hi=>u.lt _ (s.lt i hi),λi hi=>by rw [s.h i hi,u.h _ (s.lt i hi)],λi hi=>by rw [s.t i hi,u.t _ (s.lt i hi)]⟩
theorem iN.lw (s:iN a b c d k l φ) (ta:c5 a b) {x:Nat} (hx:x < a.length) (w:List Nat):φ (lw a b w x)=lw c d w (φ x):=by
 refine snoc_ind (P:=λw=>φ (K55.lw a b w x)=K55.lw c d w (φ x)) rfl (λr y ih=>?_) w;rw [o6,o6,<- ih];have hl:=BO ta.ok hx r;generalize K55.lw a b r x=p at hl;unfold lp
 split
 ·exact s.h p hl
 ·split
  ·exact s.t p hl
  ·show φ (aK b (aK b p))=aK d (aK d (φ p))
   rw [s.t (aK b p) (qm ta.ok hl),s.t p hl]
theorem De (t:sd a b) {p q x:Nat} (hp:p < a.length) (hq:q < a.length) (hx:isLet x) (e:lp a b p x=lp a b q x):p=q:=by
 unfold lp at e;rcases hx with rfl|rfl|rfl
 ·rw [if_pos rfl,if_pos rfl] at e;rw [<- BZ t hp,<- BZ t hq,e]
 ·rw [if_neg (by decide),if_pos rfl,if_neg (by decide),if_pos rfl] at e;rw [<- lQ t hp,<- lQ t hq,e]
 ·rw [if_neg (by decide),if_neg (by decide),if_neg (by decide),if_neg (by decide)] at e;rw [<- lQ t hp,<- lQ t hq,e]
theorem yE (t:sd a b):∀(cs:List Nat) (p q:Nat),(∀c∈cs,isLet c)->p < a.length->q < a.length->lw a b cs p=lw a b cs q->p=q
 | [],p,q,_,_,_,e=>e
 | x :: cs,p,q,hl,hp,hq,e=>De t hp hq (hl x Lz) (yE t cs _ _ (λy hy=>hl y (Ln _ hy)) (Av t hp x) (Av t hq x) e)
theorem yY (t:c5 a b) (hl:a.length<=500) (hk:k < a.length):iN (c8 a b k) (d8 a b k) a b 0 k λi=>(d9 (aK a) (aK b) k a.length).getD i 0:=by
 obtain⟨s,z,_⟩:=vp t hl hk;exact⟨z,s.lt,s.h,s.t⟩
theorem mf {β:Type} [DecidableEq β] {met:List β} {g:β->β} {p:β} (hp:p∈met):aK (aP met g) (met.idxOf p)=met.idxOf (g p):=by
 have h:=gy (g:=g) (cy hp);unfold aK;rw [LD,h];rfl
theorem vt (t:c5 a b) (hl:a.length<=500) (hk:k < a.length):iN a b (c8 a b k) (d8 a b k) k 0 λj=>(d9 (aK a) (aK b) k a.length).idxOf j:=by
 obtain⟨f,fl⟩:=t.xt hl hk;have h0:=t.low f.cl f.me.inn k k (Lh _) (Lg f.head);have mem:∀p,p < a.length->p∈d9 (aK a) (aK b) k a.length:=λp hp=>t.high f.cl h0 p p (Lh _) hp;refine⟨bZ f.me.nd f.head,λi hi=>?_,λi hi=>(mf (mem i hi)).symm,λi hi=>(mf (mem i hi)).symm⟩;unfold c8 aP;rw [Ll];exact List.idxOf_lt_length_iff.mpr (mem i hi)
theorem AV (ta:c5 a b) (tc:c5 c d) (la:a.length<=500) (lc:c.length<=500) (hk:k < a.length) (hl:l < c.length):(∃φ,iN a b c d k l φ)↔∃φ,uT (c8 a b k) (d8 a b k) (c8 c d l) (d8 c d l) φ :=
 ⟨fun⟨_,s⟩=>⟨_,(((yY ta la hk).comp s).comp (vt tc lc hl)).o⟩,fun⟨_,s⟩=>⟨_,((vt ta la hk).comp s.p).comp (yY tc lc hl)⟩⟩
theorem Fq (s:uT a b c d φ) (ta:c5 a b) (tc:c5 c d):c.length<=a.length:=by
 have:=dD (List.range c.length) ((List.range a.length).map φ) List.nodup_range λj hj=>by
  obtain⟨i,hi,e⟩:=s.Jq ta tc j (LF.mp hj);exact LC.mpr ⟨i,LF.mpr hi,e⟩
 simpa using this
theorem lF {α β:Type} {f:α->β}:∀l:List α,l.Nodup->(∀x∈l,∀y∈l,f x=f y->x=y)->(l.map f).Nodup
 | [],_,_=>List.nodup_nil
 | x :: l,nd,inj=>by
  rw [LM,L5];have h:=L5.mp nd;refine⟨λhm=>?_,lF l h.2 λy hy z hz=>inj y (Ln _ hy) z (Ln _ hz)⟩;obtain⟨y,hy,e⟩:=LC.mp hm;exact h.1 (inj y (Ln _ hy) x Lz e▸hy)
end
section
variable {β:Type} [DecidableEq β] {ha th:β->β} {f:β}
theorem vP {n:Nat} (h:Done ha th f n):∀k i,i<=n->n<=k + i->ji ha th k i (aT ha th f i)=aT ha th f n
  | 0,i,h1,h2=>by
    have:i=n:=by omega
    subst this;rfl
  | k + 1,i,h1,h2=>by
    by_cases c:i=n
    · subst c
      rw [ji,Lp h.fin]
    · have hi:=h.lt i (by omega)
      have e:=Lc hi;rw [ji,e];show ji ha th k (i + 1) _=_
      rw [<- nR e];exact vP h k (i + 1) (by omega) (by omega)
theorem vm {n N:Nat} (h:Done ha th f n) (hn:n<=N + 1):d9 ha th f N=aT ha th f n:=vP h (N + 1) 0 (LZ _) (by omega)
end
theorem AU.len {a b c d:List Nat} {n:Nat} (ta:c5 a b) (tc:c5 c d) (h:AU a b c d n):(qO a b c d n).length=n:=by
 have p:=dQ (P:=An a c) (f:=(⟨0,0⟩:PP)) ⟨ta.pos,tc.pos⟩ (tV ta tc) n h.lt;have:=p.le;have:=h.fin;show (aT (ib a c) (ib b d) ⟨0,0⟩ n).length=n
 omega
theorem AU.BN {a b c d:List Nat} {n:Nat} (ta:c5 a b) (tc:c5 c d) (h:AU a b c d n):gp (aP (qO a b c d n) (ib a c)) (aP (qO a b c d n) (ib b d)):=by
 have m:=AU.mt ta tc h;have ln:=AU.len ta tc h;have em:=pL (P:=λp=>p∈qO a b c d n) (φ:=λp=>(qO a b c d n).idxOf p) (ha:=ib a c) (th:=ib b d) (ha':=aK (aP (qO a b c d n) (ib a c))) (th':=aK (aP (qO a b c d n) (ib b d))) (f:=⟨0,0⟩) m.x6 m.full.cl (λp hp=>m.sE hp) (λp hp=>m.sF hp) (λp q hp hq e=>m.inj hp hq e)
 have dn:Done (aK (aP (qO a b c d n) (ib a c))) (aK (aP (qO a b c d n) (ib b d))) 0 n:=by
  refine Done.carry (λk=>?_) h;have:=em k;rw [m.z] at this;rw [this,Ll]
 unfold gp;have e1:(aP (qO a b c d n) (ib a c)).length=n:=by unfold aP;rw [Ll];exact ln
 rw [e1,vm dn (by omega)];have:=em n;rw [m.z] at this;rw [this];apply List.ext_getElem?
 intro i;rw [Lj]
 by_cases hi:i < n
 ·have hi':i < (qO a b c d n).length:=by omega
  rw [LH hi,Lc hi'];show some ((qO a b c d n).idxOf _)=_
  rw [bZ m.full.me.nd (Lc hi')]
 ·have ln':(aT (ib a c) (ib b d) (⟨0,0⟩:PP) n).length=n:=ln;rw [Lp (by omega),Lp (by simp;omega)];rfl
theorem IX (z:Str):z.length=z.cps.toList.length:=by simp [Str.length]
theorem su (a:Array Nat):∀(k:Nat) (acc:Array Nat),((List.replicate k a).foldl (· ++ ·) acc).toList=acc.toList ++ (List.replicate k a.toList).flatten
 | 0,acc=>by simp
 | k + 1,acc=>by
  rw [List.replicate_succ,List.foldl_cons,su a k,List.replicate_succ,List.flatten_cons];simp
theorem BQ (n:Int) (x:Str):(wK n x).cps.toList=jB n.toNat x.cps.toList:=by
 unfold wK jB
 split
 ·rename_i h;rw [show n.toNat=0 by omega];rfl
 ·split
  ·rename_i h1 h2;rw [Bool.or_eq_true] at h2;rcases h2 with z|z
   ·have:n=1:=beq_iff_eq.mp z;subst this;simp
   ·have z':x.length=0:=beq_iff_eq.mp z;have:x.cps.toList=[]:=List.eq_nil_of_length_eq_zero (by simpa [Str.length] using z');rw [this];simp
  ·show ((List.replicate n.toNat x.cps).foldl (· ++ ·) #[]).toList=_
   rw [su];simp
structure SP where
 l:List Nat
 deriving DecidableEq
def cS (p:SP):D:=.tup (au p.l)
theorem Cs:∀a:List Nat,bV (au a)=0
 | []=>by simp [au,bV]
 | x :: a=>by
  have:=Cs a;simp only [au,LM,bV,dep] at this ⊢;omega
theorem Gx:Code cS:=⟨λp q=>by
 obtain⟨p⟩:=p;obtain⟨q⟩:=q;show aV (.tup (au p)) (.tup (au q))=_
 rw [aV,iE,Bool.eq_iff_iff,decide_eq_true_eq,decide_eq_true_eq]
 exact⟨λh=>by rw [h],λh=>SP.mk.inj h⟩,λp=>by
 have:=Cs p.l;simp only [cS,dep]
 omega⟩
theorem Jj (p:SP):aR (cS p)=true:=by
 obtain⟨l⟩:=p;show g9 (au l)=true
 induction l with
 | nil=>rfl
 | cons x l ih=>show (true && g9 (au l))=true;rw [ih];rfl
theorem iO {te:TD} {di:En} {Q:List D->Prop} (g:Nat->Nat):∀(l:List Nat) (acc:List D),(∀i∈l,∀N:D->Prop,N (.int ((g i:Nat):Int))->te (di.set 0 (some (.d (.int (i:Int))))) N)->acc.length + l.length<=sizeLine->Q (acc ++ au (l.map g))->comps cg te di Q (au l) acc
 | [],acc,_,_,q=>by simpa [comps,au] using q
 | x :: l,acc,h,hl,q=>by
  show comps cg te di Q (.int (x:Int) :: au l) acc
  simp only [comps,cg,if_true];refine h x Lz _ ⟨by simp at hl;omega,iO g l _ (λy hy=>h y (Ln _ hy)) (by simp at hl ⊢;omega) ?_⟩;rw [List.append_assoc];exact q
def jk (a:List Nat) (p:SP):SP:=⟨p.l.map (aK a)⟩
def C5 (a:List Nat) (p:SP):Prop:=(∀x∈p.l,x < a.length)/\p.l.length=a.length
theorem uK {a b:List Nat} (t:c5 a b):∀l,C5 a l->C5 a (jk a l)/\C5 a (jk b l):=λl h=>by
 have lb:=t.ok.len;refine⟨⟨λx hx=>?_,by simp only [jk,Ll];exact h.2⟩,⟨λx hx=>?_,by simp only [jk,Ll];exact h.2⟩⟩
 ·obtain⟨y,hy,rfl⟩:=LC.mp hx;exact t.ok.al _ _ (aL (h.1 y hy))
 ·obtain⟨y,hy,rfl⟩:=LC.mp hx;exact t.ok.bl _ _ (aL (by have:=h.1 y hy;omega))
theorem AR (a:List Nat):C5 a ⟨List.range a.length⟩:=⟨λx hx=>LF.mp hx,List.length_range⟩
theorem iV (n:Nat):aW 0 n=au (List.range n):=by
 unfold aW au
 congr 1
 funext i;simp
def DE (x y:D) (Q:D->Prop):Prop:=∃(a b:List Nat) (l:SP),x=bh a b/\y=cS l/\C5 a l/\a.length=b.length/\a.length<=500/\Q (.tup [cS (jk a l),cS (jk b l)])
def cF:Fw:=F2 DE
def gd:bI:=(aI (oW (ag 0) (jo 2 (cQ (a9 2) (cQ (a9 3) jg)))) (cz (bU (af (aA eJ (af (cX (ir [2] (ag 1) cg (aG bS (ag 1) (ag 0)))) aw)) (af (aA eJ (af (cX (ir [3] (ag 1) cg (aG bS (ag 1) (ag 0)))) aw)) aw)))))
theorem mQ:∀ds Q,cF ds Q->ds.length=2:=kM
theorem m9:∀ds (Q:D->Prop),cF ds Q->gd { nx:=λ_=>Q .non,rt:=Q } (aF ["table","spread","halves","thirds"] ds):=by
 rintro ds Q ⟨x,y,rfl,a,b,l,rfl,rfl,h0,lb,la,h⟩;have sz:=Lu;have ll:=h0.2
 simp_arith only [gd,bh,cS]
 refine iO (aK a) _ _ (λi hi N hN=>?_) (by simp;omega) ?_
 ·simp_arith only [b9]
  rw [zY (aL (h0.1 i hi))];exact hN
 simp only [List.nil_append,fj];refine iO (aK b) _ _ (λi hi N hN=>?_) (by simp;omega) ?_
 ·simp_arith only [b9]
  rw [zY (aL (by have:=h0.1 i hi;omega))];exact hN
 simp only [List.nil_append,fj];exact h
abbrev Ki (a b:List Nat) (n:Nat):Prop:=Over (jk a) (jk b) ⟨List.range a.length⟩ n
abbrev oK (a b:List Nat) (n:Nat):Prop:=Done (jk a) (jk b) ⟨List.range a.length⟩ n
abbrev vZ (a b:List Nat) (n:Nat):List SP:=aT (jk a) (jk b) ⟨List.range a.length⟩ n
def GJ (x:D) (Q:D->Prop) (R:Str->Prop):Prop:=∃a b:List Nat,x=bh a b/\c5 a b/\a.length<=500/\(∀n,Ki a b n->R "TooMany")/\∀n,oK a b n->Q (bh (aP (vZ a b n) (jk a)) (aP (vZ a b n) (jk b)))
def fg:xC:=G1 GJ
def sU:uS:=(xy (mz cV (CH (af (aA fB (af (aG bS (ag 0) (cC (.int 0))) aw)) aw)) [0] 1 ["spread","table"] (aA cF (af (ag 1) (af (ag 0) aw)))))
theorem y6:∀ds (Q:D->Prop) (R:Str->Prop),fg ds Q R->ds.length=1:=Jn
theorem Cc:∀ds (Q:D->Prop) (R:Str->Prop),fg ds Q R->sU { nx:=λ_=>Q .non,rt:=Q,xc:=R } (aF ["table"] ds):=by
 rintro ds Q R ⟨x,rfl,a,b,rfl,ta,la,ho,hd⟩;have sz:=Lu;have na:(au a).length=a.length:=by simp [au]
 simp_arith! only [sU,mz,CH,bh,m8,gN,na]
 refine⟨by omega,by omega,_,rfl,λPf=>⟨SP,inferInstance,cS,jk a,jk b,⟨List.range a.length⟩,C5 a,?_,Gx,Jj,AR a,uK ta,λp ip Q' hq=>⟨rfl,?_⟩,ho,hd⟩⟩
 ·simp only [Int.toNat_natCast,iV,cS]
 simp_arith! only [cF,gM]
 exact⟨a,b,p,rfl,rfl,ip,ta.ok.len.symm,la,hq⟩
structure Gm {β:Type} [DecidableEq β] (ha th:β->β) (f:β) (P:β->Prop) (E F:List Nat) (met:List β):Prop where
 full:Full ha th f P met
 eE:E=aP met ha
 eF:F=aP met th
section
variable {β:Type} [DecidableEq β] {ha th:β->β} {f:β} {P:β->Prop} {E F c d:List Nat} {met:List β} {n:Nat}
theorem Gm.of (hf:P f) (cl:∀p,P p->P (ha p)/\P (th p)) (h:Done ha th f n):Gm ha th f P (aP (aT ha th f n) ha) (aP (aT ha th f n) th) (aT ha th f n):=by
 have m:=dQ hf cl n h.lt;have e:n=(aT ha th f n).length:=Nat.le_antisymm m.le h.fin;have m':Part ha th f P (aT ha th f n) (aT ha th f n).length:=by rw [<- e];exact m
 exact⟨m'.full,rfl,rfl⟩
theorem Gm.wN (m:Gm ha th f P E F met):E.length=met.length:=by rw [m.eE];unfold aP;rw [Ll]
theorem Gm.z (m:Gm ha th f P E F met):met.idxOf f=0:=bZ m.full.me.nd m.full.head
theorem Gm.x6 (m:Gm ha th f P E F met):f∈met:=Lg m.full.head
theorem Gm.sE (m:Gm ha th f P E F met) {p:β} (hp:p∈met):aK E (met.idxOf p)=met.idxOf (ha p):=by rw [m.eE];exact mf hp
theorem Gm.sF (m:Gm ha th f P E F met) {p:β} (hp:p∈met):aK F (met.idxOf p)=met.idxOf (th p):=by rw [m.eF];exact mf hp
theorem Gm.inj (m:Gm ha th f P E F met) {p q:β} (hp:p∈met) (hq:q∈met) (e:met.idxOf p=met.idxOf q):p=q:=by
 have h1:=cy hp;have h2:=cy hq;rw [e,h2] at h1;exact (Li h1).symm
theorem Gm.at_ (m:Gm ha th f P E F met) {i:Nat} (hi:i < E.length):∃p,p∈met/\met.idxOf p=i/\met[i]?=some p:=by
 rw [m.wN] at hi;have h:=Lc hi;exact⟨met[i],Md hi,bZ m.full.me.nd h,h⟩
theorem Gm.all (m:Gm ha th f P E F met) {S:β->Prop} (h0:S f) (cl:∀p∈met,S p->S (ha p)/\S (th p)):∀p∈met,S p:=by
 have h:∀(n j:Nat) (p:β),j<=n->met[j]?=some p->S p:=by
  intro n
  induction n with
  | zero =>
   intro j p hj e;rw [Nat.le_zero.mp hj,m.full.head] at e
   rw [<- Li e];exact h0
  | succ n ih =>
   intro j p hj e;rcases Nat.eq_zero_or_pos j with rfl|hp
   ·rw [m.full.head] at e;rw [<- Li e];exact h0
   ·obtain⟨i,q,hi,eq,z⟩:=m.full.num j p hp e;have sq:=ih i q (by omega) eq;have c:=cl q (Lg eq) sq;rcases z with z|z
    ·rw [<- z];exact c.1
    ·rw [<- z];exact c.2
 intro p hp;obtain⟨j,hj⟩:=LL hp;exact h j j p (Lh _) hj
theorem Gm.Ih (m:Gm ha th f P E F met) {ψ:β->Nat} (lt:∀p∈met,ψ p < c.length) (h1:∀p∈met,ψ (ha p)=aK c (ψ p)) (h2:∀p∈met,ψ (th p)=aK d (ψ p)):iN E F c d 0 (ψ f) λi=>(met[i]?.map ψ).getD 0:=by
 have at_:∀p∈met,(met[met.idxOf p]?.map ψ).getD 0=ψ p:=λp hp=>by rw [cy hp];rfl
 refine⟨?_,λi hi=>?_,λi hi=>?_,λi hi=>?_⟩
 ·show (met[0]?.map ψ).getD 0=_
  rw [m.full.head];rfl
 ·obtain⟨p,hp,e,_⟩:=m.at_ hi;show (met[i]?.map ψ).getD 0 < _
  rw [<- e,at_ p hp];exact lt p hp
 ·obtain⟨p,hp,e,_⟩:=m.at_ hi;show (met[aK E i]?.map ψ).getD 0=aK c ((met[i]?.map ψ).getD 0)
  rw [<- e,m.sE hp,at_ _ (m.full.cl p hp).1,at_ p hp,h1 p hp]
 ·obtain⟨p,hp,e,_⟩:=m.at_ hi;show (met[aK F i]?.map ψ).getD 0=aK d ((met[i]?.map ψ).getD 0)
  rw [<- e,m.sF hp,at_ _ (m.full.cl p hp).2,at_ p hp,h2 p hp]
theorem Gm.BN (m:Gm ha th f P E F met) (h:Done ha th f n) (em:met=aT ha th f n) (cl:∀p,P p->P (ha p)/\P (th p)):gp E F:=by
 have ln:met.length=n:=by
  have pt:=dQ (m.full.me.inn f m.x6) cl n h.lt;have:=pt.le;have:=h.fin;rw [em];omega
 have mm:=pL (P:=λp=>p∈met) (φ:=λp=>met.idxOf p) (ha:=ha) (th:=th) (ha':=aK E) (th':=aK F) (f:=f) m.x6 m.full.cl (λp hp=>m.sE hp) (λp hp=>m.sF hp) (λp q hp hq e=>m.inj hp hq e)
 have dn:Done (aK E) (aK F) 0 n:=by
  refine Done.carry (λk=>?_) h;have:=mm k;rw [m.z] at this;rw [this,Ll]
 unfold gp;have e1:E.length=n:=by rw [m.wN];exact ln
 rw [e1,vm dn (by omega)];have:=mm n;rw [m.z] at this;rw [this,<- em];apply List.ext_getElem?
 intro i;rw [Lj]
 by_cases hi:i < n
 ·have hi':i < met.length:=by omega
  rw [LH hi,Lc hi'];show some (met.idxOf _)=_
  rw [bZ m.full.me.nd (Lc hi')]
 ·rw [Lp (by omega),Lp (by simp;omega)];rfl
end
def yI (E F:List Nat):Prop:=∀k,k < E.length->∃φ,iN E F E F 0 k φ
section
variable {β:Type} [DecidableEq β] {ha th:β->β} {f:β} {P:β->Prop} {E F:List Nat} {met:List β}
theorem Gm.zL (m:Gm ha th f P E F met) (h:∀s∈met,∃Φ:β->β,Φ f=s/\(∀p∈met,Φ (ha p)=ha (Φ p))/\∀p∈met,Φ (th p)=th (Φ p)):yI E F:=λk hk=>by
 obtain⟨s,hs,e,_⟩:=m.at_ hk;obtain⟨Φ,z,c1,c2⟩:=h s hs;have inn:=m.all (S:=λp=>Φ p∈met) (by rw [z];exact hs) λp hp sp=>⟨by rw [c1 p hp];exact (m.full.cl _ sp).1,by rw [c2 p hp];exact (m.full.cl _ sp).2⟩;have hm:=m.Ih (c:=E) (d:=F) (ψ:=λp=>met.idxOf (Φ p)) (λp hp=>by rw [m.wN];exact List.idxOf_lt_length_iff.mpr (inn p hp)) (λp hp=>by show met.idxOf (Φ (ha p))=_;rw [c1 p hp,m.sE (inn p hp)]) (λp hp=>by show met.idxOf (Φ (th p))=_;rw [c2 p hp,m.sF (inn p hp)])
 rw [z,e] at hm;exact⟨_,hm⟩
end
section
variable {E F:List Nat}
theorem yI.anew (r:yI E F) (t:c5 E F) (s:gp E F) (hl:E.length<=500) {k:Nat} (hk:k < E.length):c8 E F k=E/\d8 E F k=F:=by
 obtain⟨φ,hm⟩:=(AV t t hl hl t.pos hk).mp (r k hk);rw [(gE t s).1,(gE t s).2] at hm;have h:=vh hm t (t.anew hl hk).1 s (zH t hl hk) hl (vp t hl hk).2.2;exact⟨h.1.symm,h.2.symm⟩
end
section
variable {a b E F:List Nat} {met:List SP} {n:Nat}
abbrev Cr (a b E F:List Nat) (met:List SP):Prop:=Gm (jk a) (jk b) ⟨List.range a.length⟩ (C5 a) E F met
theorem Cr.fU (ta:c5 a b) (m:Cr a b E F met):c5 E F:=by
 have lb:=ta.ok.len;rw [m.eE,m.eF];refine m.full.fU (λq hq=>?_) (λq hq=>?_)
 ·obtain⟨l⟩:=q;show (⟨(l.map (aK a)).map (aK a)⟩:SP)=⟨l⟩
  congr 1
  rw [List.map_map]
  (conv=>rhs;rw [<- List.map_id l]);exact List.map_congr_left λx hx=>ta.hh x (hq.1 x hx)
 ·obtain⟨l⟩:=q;show (⟨((l.map (aK b)).map (aK b)).map (aK b)⟩:SP)=⟨l⟩
  congr 1
  rw [List.map_map,List.map_map]
  (conv=>rhs;rw [<- List.map_id l]);exact List.map_congr_left λx hx=>ta.t3 x (hq.1 x hx)
theorem get_map {l:List Nat} {g:Nat->Nat} {x:Nat} (h:x < l.length):(l.map g).getD x 0=g (l.getD x 0):=by
 rw [LD,LD,Lj,Lc h];rfl
theorem Cr.zL (m:Cr a b E F met):yI E F:=by
 refine Gm.zL m λs hs=>⟨λt=>⟨s.l.map λx=>t.l.getD x 0⟩,?_,λp hp=>?_,λp hp=>?_⟩
 ·obtain⟨l⟩:=s;have hl:=m.full.me.inn _ hs;show (⟨l.map λx=>(List.range a.length).getD x 0⟩:SP)=⟨l⟩
  congr 1
  (conv=>rhs;rw [<- List.map_id l]);refine List.map_congr_left λx hx=>?_;rw [LD,LH (hl.1 x hx)];rfl
 ·have hl:=m.full.me.inn _ hs;have hp':=m.full.me.inn _ hp;show (⟨s.l.map λx=>(p.l.map (aK a)).getD x 0⟩:SP)=⟨(s.l.map λx=>p.l.getD x 0).map (aK a)⟩
  congr 1
  rw [List.map_map];exact List.map_congr_left λx hx=>get_map (by rw [hp'.2];exact hl.1 x hx)
 ·have hl:=m.full.me.inn _ hs;have hp':=m.full.me.inn _ hp;show (⟨s.l.map λx=>(p.l.map (aK b)).getD x 0⟩:SP)=⟨(s.l.map λx=>p.l.getD x 0).map (aK b)⟩
  congr 1
  rw [List.map_map];exact List.map_congr_left λx hx=>get_map (by rw [hp'.2];exact hl.1 x hx)
theorem Cr.K6 (m:Cr a b E F met) {p:SP} (hp:p∈met) (x:Nat):(⟨p.l.map λi=>lp a b i x⟩:SP)∈met/\lp E F (met.idxOf p) x=met.idxOf ⟨p.l.map λi=>lp a b i x⟩:=by
 obtain⟨c1,c2⟩:=m.full.cl p hp;obtain⟨_,c3⟩:=m.full.cl _ c2;unfold lp
 by_cases h1:x=115
 ·simp only [if_pos h1,pZ];exact⟨c1,m.sE hp⟩
 ·simp only [if_neg h1]
  by_cases h2:x=114
  ·simp only [if_pos h2,pZ];exact⟨c2,m.sF hp⟩
  ·simp only [if_neg h2,pZ]
   have e:(⟨p.l.map λi=>aK b (aK b i)⟩:SP)=jk b (jk b p):=by
    show (⟨_⟩:SP)=⟨(p.l.map (aK b)).map (aK b)⟩
    rw [List.map_map];rfl
   rw [e];exact⟨c3,by rw [m.sF hp,m.sF c2]⟩
theorem Cr.KC (m:Cr a b E F met):∀(w:List Nat) (p:SP),p∈met->(⟨p.l.map (lw a b w)⟩:SP)∈met/\lw E F w (met.idxOf p)=met.idxOf ⟨p.l.map (lw a b w)⟩
 | [],p,hp=>by
  have e:(⟨p.l.map (lw a b [])⟩:SP)=p:=by
   obtain⟨l⟩:=p;show (⟨l.map λi=>i⟩:SP)=⟨l⟩
   rw [List.map_id']
  rw [e];exact⟨hp,rfl⟩
 | x :: w,p,hp=>by
  obtain⟨h1,h2⟩:=Cr.K6 m hp x;have ih:=Cr.KC m w _ h1
  have e:(⟨p.l.map (lw a b (x :: w))⟩:SP)=⟨(p.l.map λi=>lp a b i x).map (lw a b w)⟩:=by
   rw [List.map_map];rfl
  rw [e];refine⟨ih.1,?_⟩;show lw E F w (lp E F (met.idxOf p) x)=_
  rw [h2];exact ih.2
theorem Cr.Kp (m:Cr a b E F met) (w:List Nat):lw E F w 0=0↔(List.range a.length).map (lw a b w)=List.range a.length:=by
 obtain⟨h1,h2⟩:=Cr.KC m w _ m.x6;rw [m.z] at h2;rw [h2]
 constructor
 ·intro h;exact congrArg SP.l (m.inj h1 m.x6 (h.trans m.z.symm))
 ·intro h;have:(⟨(List.range a.length).map (lw a b w)⟩:SP)=⟨List.range a.length⟩:=by rw [h]
  show met.idxOf (⟨(List.range a.length).map (lw a b w)⟩:SP)=0
  rw [this,m.z]
theorem qt {s:SP} (h:C5 a s) (pos:0 < a.length):s.l.getD 0 0 < a.length:=by
 have hl:0 < s.l.length:=by rw [h.2];exact pos
 rw [LD,Lc hl];exact h.1 _ (Md hl)
theorem og {n i:Nat} (h:i < n):(List.range n).getD i 0=i:=by rw [LD,LH h];rfl
theorem Cr.Ih (ta:c5 a b) (m:Cr a b E F met):∃φ,uT E F a b φ:=by
 have hm:=Gm.Ih m (c:=a) (d:=b) (ψ:=λs=>s.l.getD 0 0) (λp hp=>qt (m.full.me.inn p hp) ta.pos)
  (λp hp=>get_map (by rw [(m.full.me.inn p hp).2];exact ta.pos)) (λp hp=>get_map (by rw [(m.full.me.inn p hp).2];exact ta.pos))
 have z:((⟨List.range a.length⟩:SP).l).getD 0 0=0:=og ta.pos;rw [z] at hm;exact⟨_,hm.o⟩
structure PR (E:List Nat) (φ:Nat->Nat->Nat) (s:SP):Prop where
 i:C5 E s
 d:∀i,i < E.length->s.l.getD i 0=φ i (s.l.getD 0 0)
theorem PR.cl {φ:Nat->Nat->Nat} (t:c5 E F) (hφ:∀k,k < E.length->iN E F E F 0 k (φ k)):∀s,PR E φ s->PR E φ (jk E s)/\PR E φ (jk F s):=λs h=>by
 have c:=uK t s h.i;have h0:=qt h.i t.pos;have g:∀(r:List Nat) (i:Nat),i < E.length->(s.l.map (aK r)).getD i 0=aK r (s.l.getD i 0):=λr i hi=>get_map (by rw [h.i.2];exact hi)
 exact⟨⟨c.1,λi hi=>by show (s.l.map (aK E)).getD i 0=φ i ((s.l.map (aK E)).getD 0 0);rw [g E i hi,g E 0 t.pos,h.d i hi,(hφ i hi).h _ h0]⟩,
  ⟨c.2,λi hi=>by show (s.l.map (aK F)).getD i 0=φ i ((s.l.map (aK F)).getD 0 0);rw [g F i hi,g F 0 t.pos,h.d i hi,(hφ i hi).t _ h0]⟩⟩
theorem PR.zero {φ:Nat->Nat->Nat} (t:c5 E F) (hφ:∀k,k < E.length->iN E F E F 0 k (φ k)):PR E φ ⟨List.range E.length⟩:=⟨AR E,λi hi=>by
 show (List.range E.length).getD i 0=φ i ((List.range E.length).getD 0 0)
 rw [og hi,og t.pos,(hφ i hi).z]⟩
theorem PR.le {φ:Nat->Nat->Nat} (t:c5 E F) {l:List SP} (nd:l.Nodup) (h:∀s∈l,PR E φ s):l.length<=E.length:=by
 have:=dD (l.map λs=>s.l.getD 0 0) (List.range E.length) (lF l nd λx hx y hy e=>by
  have px:=h x hx;have py:=h y hy;have e':x.l.getD 0 0=y.l.getD 0 0:=e;obtain⟨lx⟩:=x;obtain⟨ly⟩:=y
  congr 1
  apply List.ext_getElem?
  intro i;have l1:lx.length=E.length:=px.i.2;have l2:ly.length=E.length:=py.i.2
  by_cases hi:i < E.length
  ·have d1:lx.getD i 0=_:=px.d i hi;have d2:ly.getD i 0=_:=py.d i hi;have a1:=aL (a:=lx) (i:=i) (by omega);have a2:=aL (a:=ly) (i:=i) (by omega);unfold aK at a1 a2;rw [a1,a2,d1,d2];exact congrArg some (congrArg (φ i) e')
  ·rw [Lp (by omega),Lp (by omega)]) λx hx=>by
   obtain⟨s,hs,rfl⟩:=LC.mp hx;exact LF.mpr (qt (h s hs).i t.pos)
 simpa using this
theorem yI.pick (r:yI E F):∃φ:Nat->Nat->Nat,∀k,k < E.length->iN E F E F 0 k (φ k):=by
 have r':∀k,k < E.length->∃φ,iN E F E F 0 k φ:=r;refine⟨λk=>if h:k < E.length then Classical.choose (r' k h) else id,λk h=>?_⟩;show iN E F E F 0 k (if h:k < E.length then Classical.choose (r' k h) else id)
 rw [dif_pos h];exact Classical.choose_spec (r' k h)
theorem yI.over (r:yI E F) (t:c5 E F) (hl:E.length<=60) (h:Ki E F n):False:=by
 obtain⟨φ,hφ⟩:=r.pick;have p:=dQ (PR.zero t hφ) (PR.cl t hφ) (n + 1) λi hi=>h.lt i (by omega);have l:=PR.le t p.me.nd p.me.inn;have:=h.gt;omega
theorem oK.cr (t:c5 a b) (h:oK a b n):Cr a b (aP (vZ a b n) (jk a)) (aP (vZ a b n) (jk b)) (vZ a b n):=Gm.of (AR a) (uK t) h
theorem oK.self (t:c5 a b) (h:oK a b n):gp (aP (vZ a b n) (jk a)) (aP (vZ a b n) (jk b)):=Gm.BN (oK.cr t h) h rfl (uK t)
theorem oK.len (t:c5 a b) (h:oK a b n):(aP (vZ a b n) (jk a)).length<=60:=by
 rw [(oK.cr t h).wN];exact h.le n (Lh _)
theorem yI.core (r:yI E F) (t:c5 E F) (s:gp E F) (hl:E.length<=60) (h:oK E F n):aP (vZ E F n) (jk E)=E/\aP (vZ E F n) (jk F)=F:=by
 obtain⟨φ,hφ⟩:=r.pick;have p:=dQ (PR.zero t hφ) (PR.cl t hφ) n h.lt;have l:=PR.le t p.me.nd p.me.inn;have m:=oK.cr t h;obtain⟨ψ,hm⟩:=Cr.Ih t m;have tE:=Cr.fU t m;have ge:=Fq hm tE t;have le:=m.wN;refine vh hm tE t (oK.self t h) s (by have:=oK.len t h;omega) ?_;have:(vZ E F n).length=(aT (jk E) (jk F) (⟨List.range E.length⟩:SP) n).length:=rfl;omega
end
section
variable {a b c d E F:List Nat} {met:List PP} {n:Nat}
theorem Mt.gm (m:Mt a b c d E F met):Gm (ib a c) (ib b d) ⟨0,0⟩ (An a c) E F met:=⟨m.full,m.eE,m.eF⟩
theorem Mt.zL (m:Mt a b c d E F met) (ra:yI a b) (rc:yI c d):yI E F:=by
 refine Gm.zL m.gm λs hs=>?_;have is:=m.full.me.inn s hs;obtain⟨φ,hφ⟩:=ra _ is.1;obtain⟨ψ,hψ⟩:=rc _ is.2;refine⟨λx=>⟨φ x.fst,ψ x.snd⟩,by show (⟨φ 0,ψ 0⟩:PP)=s;rw [hφ.z,hψ.z],λp hp=>?_,λp hp=>?_⟩
 ·have ip:=m.full.me.inn p hp;show (⟨φ (aK a p.fst),ψ (aK c p.snd)⟩:PP)=⟨aK a (φ p.fst),aK c (ψ p.snd)⟩
  rw [hφ.h _ ip.1,hψ.h _ ip.2]
 ·have ip:=m.full.me.inn p hp;show (⟨φ (aK b p.fst),ψ (aK d p.snd)⟩:PP)=⟨aK b (φ p.fst),aK d (ψ p.snd)⟩
  rw [hφ.t _ ip.1,hψ.t _ ip.2]
theorem zo (ta:c5 a b) (tc:c5 c d) (hl:a.length * c.length<=60) (h:Kx a b c d n):False:=by
 have p:=dQ (P:=An a c) (f:=(⟨0,0⟩:PP)) ⟨ta.pos,tc.pos⟩ (tV ta tc) (n + 1) λi hi=>h.lt i (by omega);have pc:=tc.pos
 have:=dD (List.map (λx:PP=>x.snd + x.fst * c.length) _) (List.range (a.length * c.length)) (lF _ p.me.nd λx hx y hy e=>by
  have ix:=p.me.inn x hx;have iy:=p.me.inn y hy;have e':x.snd + x.fst * c.length=y.snd + y.fst * c.length:=e;have e1:=congrArg (· % c.length) e';have e2:=congrArg (· / c.length) e';simp only [Nat.add_mul_mod_self_right,Nat.mod_eq_of_lt ix.2,Nat.mod_eq_of_lt iy.2] at e1;simp only [Nat.add_mul_div_right _ _ pc,Nat.div_eq_of_lt ix.2,Nat.div_eq_of_lt iy.2,Nat.zero_add] at e2
  cases x;cases y;simp at e1 e2;rw [e1,e2]) λz hz=>by
   obtain⟨x,hx,rfl⟩:=LC.mp hz;have ix:=p.me.inn x hx;have i1:=ix.1;have i2:=ix.2;have:(x.fst + 1) * c.length<=a.length * c.length:=Nat.mul_le_mul_right _ i1;rw [Nat.succ_mul] at this;exact LF.mpr (by omega)
 rw [Ll,List.length_range] at this;have:=h.gt;omega
end
def cT:Fw:=F1 CA
def jO:bI:=(aI (bJ 1 (aA eV (af (aA gC (af (ag 0) (af (cC (.int 5)) (af (cC (.int 10)) aw)))) aw))) (cz (aA cW (af (aG bS (ag 1) (cC (.int 0))) (af (aG bS (ag 1) (cC (.int 1))) (af (aA aE (af (ag 0) (af (aA fB (af (aG bS (ag 1) (cC (.int 0))) aw)) aw))) aw))))))
theorem qX:∀ds Q,cT ds Q->ds.length=1:=qM
theorem uh:∀ds (Q:D->Prop),cT ds Q->jO { nx:=λ_=>Q .non,rt:=Q } (aF ["_law_rest","_law_table_here"] ds):=by
 rintro ds Q ⟨x,rfl,rfl,h⟩
 simp_arith only [jO,gC,eV,uZ,pv,EK,ED]
 refine⟨5,10,rfl,rfl,by omega,by omega,by omega,by omega,λfs ms hf _=>⟨fs,ms,rfl,hf,λa b t sm la _=>?_⟩⟩;have na:(au a).length=a.length:=by simp [au]
 simp_arith only [m8,vT,gN,aE,cW,gM,pv,na]
 refine⟨_,rfl,rfl,by have:=t.pos;omega,by omega,λd d0 dm=>?_⟩;obtain⟨k,rfl⟩:∃k:Nat,d=(k:Int):=⟨d.toNat,by omega⟩;have hk:k < a.length:=by omega
 refine Bh t la hk ?_;exact h _ _ (t.anew la hk).1 (L6 (t.anew la hk).2 la)
def Hh (x:D) (Q:D->Prop):Prop:=∃a b:List Nat,x=bh a b/\c5 a b/\a.length<=500/\(∀n,Ki a b n->Q .non)/\∀n,oK a b n->Q (bh (aP (vZ a b n) (jk a)) (aP (vZ a b n) (jk b)))
def cU:Fw:=F1 Hh
def jC:bI:=(B9 "TooMany" (oa fg (af (ag 0) aw)) (cz (cC .non)))
theorem rm:∀ds Q,cU ds Q->ds.length=1:=qM
theorem uD:∀ds (Q:D->Prop),cU ds Q->jC { nx:=λ_=>Q .non,rt:=Q } (aF ["_law_table_here"] ds):=by
 rintro ds Q ⟨x,rfl,a,b,rfl,ta,la,ho,hd⟩
 simp_arith only [jC,B9,fg,Ap]
 exact⟨a,b,rfl,ta,la,λn hn=>⟨rfl,ho n hn⟩,hd⟩
def m6:Fw:=λds Q=>fg ds Q λ_=>False
def xn:Fw:=λds Q=>jY ds Q λ_=>False
structure Rg (E F:List Nat):Prop where
 fU:c5 E F
 self:gp E F
 zL:yI E F
 le:E.length<=60
theorem Rg.ER {E F:List Nat} (r:Rg E F) {Q:D->Prop} (q:Q (bh E F)):m6 [bh E F] Q:=by
 show fg [bh E F] Q _
 simp only [fg,Ap];refine⟨E,F,rfl,r.fU,by have:=r.le;omega,λn hn=>r.zL.over r.fU r.le hn,λn hn=>?_⟩;have h:=r.zL.core r.fU r.self r.le hn;rw [h.1,h.2];exact q
theorem oK.rg {a b:List Nat} {n:Nat} (t:c5 a b) (h:oK a b n):Rg (aP (vZ a b n) (jk a)) (aP (vZ a b n) (jk b)):=⟨Cr.fU t (oK.cr t h),oK.self t h,Cr.zL (oK.cr t h),oK.len t h⟩
theorem vN {α:Type} {te:TD} {di:En} {Q:List D->Prop} (c g:α->D):∀(l:List α) (acc:List D),(∀i∈l,∀N:D->Prop,N (g i)->te (di.set 0 (some (.d (c i)))) N)->acc.length + l.length<=sizeLine->Q (acc ++ l.map g)->comps cg te di Q (l.map c) acc
 | [],acc,_,_,q=>by simpa [comps] using q
 | x :: l,acc,h,hl,q=>by
  show comps cg te di Q (c x :: l.map c) acc
  simp only [comps,cg,if_true];refine h x Lz _ ⟨by simp at hl;omega,vN c g l _ (λy hy=>h y (Ln _ hy)) (by simp at hl ⊢;omega) ?_⟩;rw [List.append_assoc];exact q
def Hi (x:D) (Q:D->Prop):Prop:=∃E F:List Nat,x=bh E F/\Rg E F/\Q (.bl true)
def bB:Fw:=F1 Hi
def ft:bI:=(cz (aA C6 (af (cX (fv hU [0] (af (aA fB (af (aG bS (ag 0) (cC (.int 0))) aw)) aw) cg (aG jm (aA fE (af (aA pS (af (aG bS (ag 1) (cC (.int 0))) aw)) (af (aA pS (af (aG bS (ag 1) (cC (.int 1))) aw)) (af (ag 0) aw)))) (ag 1)))) aw)))
theorem kE:∀ds Q,bB ds Q->ds.length=1:=qM
theorem lA:∀ds (Q:D->Prop),bB ds Q->ft { nx:=λ_=>Q .non,rt:=Q } (aF ["_law_table_here"] ds):=by
 rintro ds Q ⟨x,rfl,E,F,rfl,r,h⟩;have sz:=Lu;have le:=r.le;have nE:(au E).length=E.length:=by simp [au]
 simp_arith only [ft,bh,m8,vT,nE]
 refine⟨by omega,by omega,?_⟩;rw [show (E.length:Int).toNat=E.length by omega,iV];refine vN (λi:Nat=>D.int (i:Int)) (λ_=>D.bl true) (List.range E.length) [] (λi hi N hN=>?_) (by simp;omega) ?_
 ·have hi':=LF.mp hi
  simp_arith only [b9,m8,vT,fE,pv]
  refine⟨E,F,i,.lst,.lst,rfl,r.fU,by omega,hi',?_⟩;have e:=r.zL.anew r.fU r.self (by omega) hi';rw [e.1,e.2];show jm (bh E F) (bh E F) N
  rw [yx]
  simpa using hN
 ·rw [List.nil_append,show (List.range E.length).map (λ_=>D.bl true)=((List.range E.length).map λ_=>true).map D.bl by rw [List.map_map];rfl];refine⟨_,wu _,?_⟩;rw [show (((List.range E.length).map λ_=>true).all id)=true by simp];exact h
theorem y2 (a b w:List Nat) (x:Nat):∀k,lw a b (jB k w) x=it (lw a b w) k x
 | 0=>rfl
 | k + 1=>by
  have e:jB (k + 1) w=jB k w ++ w:=by unfold jB;rw [List.replicate_succ',List.flatten_append];simp
  rw [e,Bt,y2 a b w x k];rfl
theorem Rg.back {E F:List Nat} (r:Rg E F) {w:List Nat} (hw:∀c∈w,isLet c):∃N,0 < N/\N<=60/\∀i,i < E.length->lw E F (jB N w) i=i:=by
 obtain⟨k,k0,kn,e⟩:=G6 (n:=E.length) (π:=lw E F w) ⟨λi hi=>BO r.fU.ok hi w,λi j hi hj=>yE r.fU.ok w i j hw hi hj⟩ r.fU.pos;refine⟨k,k0,L6 kn r.le,λi hi=>?_⟩;obtain⟨φ,hφ⟩:=r.zL i hi;have h:=hφ.lw r.fU r.fU.pos (jB k w);rw [y2,e,hφ.z] at h;exact h.symm
theorem DP {l:List Nat} {Q:D->Prop}:nO (.lst (au l)) (.lst []) Q=Q (.bl (decide (l≠[]))):=by
 have d:=Cs l;unfold nO
 have e:(!aV (.lst (au l)) (.lst []))=decide (l≠[]):=by
  cases l with
  | nil=>simp [au,aV,dB]
  | cons x l=>simp [au,aV,dB]
 rw [e];refine propext ⟨λh=>h.2,λh=>⟨?_,h⟩⟩;simp only [gF,dep,bV,d];omega
theorem Fh {l k:List Nat} {Q:D->Prop}:jm (.lst (au l)) (.lst (au k)) Q=Q (.bl (decide (l=k))):=by
 have d:=Cs l;have d':=Cs k;unfold jm;rw [show aV (.lst (au l)) (.lst (au k))=decide (l=k) by simp only [aV,iE]];refine propext ⟨λh=>h.2,λh=>⟨?_,h⟩⟩;simp only [gF,dep,bV,d,d'];omega
theorem Az {z:Str} {m:Nat} {Q:D->Prop} (h1:z.length<=6) (h2:m<=60) (hq:∀z':Str,z'.cps.toList=jB m z.cps.toList->z'.length<=360->Q (.str z')):zj (.str z) (.int (m:Int)) Q:=by
 have e:=BQ (m:Int) z;rw [show ((m:Int).toNat)=m by omega] at e
 have l:(wK (m:Int) z).length=m * z.length:=by
  rw [IX,e,IX];unfold jB;simp
 have b:m * z.length<=60 * 6:=Nat.mul_le_mul h2 h1;refine⟨⟨by omega,by omega⟩,?_,by rw [l,Lu];omega,hq _ e (by rw [l];omega)⟩;rw [show ((m:Int).toNat)=m by omega,Nat.mul_comm];omega
theorem sx {w:List Nat} {m:Nat} (h:∀c∈w,isLet c):∀c∈jB m w,isLet c:=λc hc=>by
 unfold jB at hc;obtain⟨l,hl,h2⟩:=List.mem_flatten.mp hc;rw [(List.mem_replicate.mp hl).2] at h2;exact h c h2
def GP (x y:D) (Q:D->Prop):Prop:=∃(E F:List Nat) (z:Str),x=bh E F/\y=.str z/\Rg E F/\LW z/\z.length<=6/\∀z':Str,LW z'->z'.length<=360->Q (.str z')
def cE:Fw:=F2 GP
def gk:bI:=(aI (bJ 2 (cC (.int 1))) (aI (ic (aN (aG nO (cX (fv hU [0,1,2] (af (aA fB (af (aG bS (ag 0) (cC (.int 0))) aw)) aw) (aN (aG nO (aA dg (af (ag 1) (af (ag 0) (af (aG zj (ag 2) (ag 3)) aw)))) (ag 0))) (ag 0))) (jx aw))) (bJ 2 (aG fe (ag 2) (cC (.int 1))))) (cz (aG zj (ag 1) (ag 2)))))
theorem lS:∀ds Q,cE ds Q->ds.length=2:=kM
theorem nW:∀ds (Q:D->Prop),cE ds Q->gk { nx:=λ_=>Q .non,rt:=Q } (aF ["_law_table_here","_law_word_here","_law_often"] ds):=by
 rintro ds Q ⟨x,y,rfl,E,F,z,rfl,rfl,r,hz,lz,h⟩;have sz:=Lu;have le:=r.le;have nE:(au E).length=E.length:=by simp [au]
 obtain⟨N0,n0,n1,nb⟩:=r.back hz
 simp_arith only [gk]
 refine⟨λe=>∃m:Nat,1<=m/\m<=N0/\e=[some (.d (bh E F)),some (.d (.str z)),some (.d (.int (m:Int)))],λe=>61 - Bk 2 e,⟨1,by omega,by omega,rfl⟩,?_⟩
 rintro env ⟨m,m1,m2,rfl⟩
 simp_arith only [bh,m8,nE]
 refine⟨by omega,by omega,?_⟩;rw [show (E.length:Int).toNat=E.length by omega,iV];refine iR (λx=>match x with|.int i=>decide (lw E F (jB m z.cps.toList) i.toNat≠i.toNat)|_=>false) id _ _ ?_ ?_ (by simp [au];omega) ?_
 ·intro x hx N hN;unfold au at hx;obtain⟨i,hi,rfl⟩:=LC.mp hx;have hi':=LF.mp hi
  simp_arith only [b9,iJ]
  refine Az lz (by omega) λz' ez lz'=>?_;refine⟨E,F,z',i,rfl,rfl,rfl,r.fU.ok,hi',λc hc=>sx hz c (by rw [<- ez];exact hc),by omega,?_⟩
  simp_arith only [jv]
  rw [ez,show (!decide (((lw E F (jB m z.cps.toList) i:Nat):Int)=(i:Int)))=decide (lw E F (jB m z.cps.toList) i≠i) by simp;omega];exact hN
 ·intro x hx ht N hN
  simp_arith only [b9]
  exact hN
 ·have ef:List.map id (List.filter (λx=>match x with|D.int i=>decide (lw E F (jB m z.cps.toList) i.toNat≠i.toNat)|_=>false) (au (List.range E.length)))=au ((List.range E.length).filter λi=>decide (lw E F (jB m z.cps.toList) i≠i)):=by
   unfold au;rw [List.map_id,List.filter_map];rfl
  rw [List.nil_append,ef,DP];refine⟨_,rfl,?_⟩
  split
  ·rename_i hne;have hne':=of_decide_eq_true hne
   have hm:m≠N0:=λz0=>hne' (List.filter_eq_nil_iff.mpr λi hi=>by
    rw [z0,nb i (LF.mp hi)];simp)
   refine⟨⟨m + 1,by omega,by omega,by omega⟩,?_⟩;show 61 - ((m:Int) + 1).toNat < 61 - ((m:Int)).toNat
   omega
  ·exact Az lz (by omega) λz' ez lz'=>h z' (λc hc=>sx hz c (by rw [<- ez];exact hc)) lz'
def JP (x y z:D) (Q:D->Prop):Prop:=∃(a b E F:List Nat) (met:List SP),x=bh a b/\y=bh E F/\z=.obj eu/\c5 a b/\a.length<=500/\Cr a b E F met/\Rg E F/\Q (.bl true)
def cR:Fw:=F3 JP
def eL:bI:=(aI (bJ 5 (cX (fv hU [0,4] (af (aA fB (af (aG bS (ag 0) (cC (.int 0))) aw)) aw) cg (aA dg (af (ag 1) (af (ag 0) (af (ag 2) aw))))))) (iI (aN (aG nO (aG jm (aA dg (af (ag 1) (af (cC (.int 0)) (af (ag 4) aw)))) (cC (.int 0))) (aG jm (ag 5) (cX (p9 (af (aA fB (af (aG bS (ag 0) (cC (.int 0))) aw)) aw)))))) (cz (cC (.bl false))) bQ))
def gK:bI:=(aI (gq hU (af (cC (.int 4)) aw) (a9 3) (aI (bJ 4 (aA eN (af (ag 2) (af (cC (.int 30)) aw)))) (aI (iI (aN (aG IK (ag 3) (cC (.int 1)))) (bJ 4 (aA cE (af (ag 1) (af (aA eN (af (ag 2) (af (cC (.int 6)) aw))) aw)))) bQ) eL))) (cz (cC (.bl true))))
theorem nI:∀ds Q,cR ds Q->ds.length=3:=pT
theorem oP:∀ds (Q:D->Prop),cR ds Q->gK { nx:=λ_=>Q .non,rt:=Q } (aF ["_law_table_here","_law_inner","_law_rest","_law_turn","_law_word_here","_law_leads"] ds):=by
 rintro ds Q ⟨x,y,z,rfl,a,b,E,F,met,rfl,rfl,rfl,ta,la,m,r,h⟩;have sz:=Lu;have le:=r.le;have nA:(au a).length=a.length:=by simp [au]
 have tail:∀(Z:Ends3) (k3 k5:Option Lo) (w:Str) (N:List (Option Lo)->Prop),Z.nx=N->LW w->w.length<=360->(∀k5,N [some (.d (bh a b)),some (.d (bh E F)),some (.d (.obj eu)),k3,some (.d (.str w)),k5])->eL Z [some (.d (bh a b)),some (.d (bh E F)),some (.d (.obj eu)),k3,some (.d (.str w)),k5]:=by
  intro Z k3 k5 w N hZ hw lw' hN
  simp_arith only [eL,bh,m8,nA]
  refine⟨by omega,by omega,?_⟩;rw [show (a.length:Int).toNat=a.length by omega,iV];refine iO (lw a b w.cps.toList) _ _ (λi hi N hN=>?_) (by simp;omega) ?_
  ·have hi':=LF.mp hi
   simp_arith only [b9,iJ]
   exact⟨a,b,w,i,rfl,rfl,rfl,ta.ok,hi',hw,by omega,hN⟩
  ·simp_arith only [iJ]
   refine⟨E,F,w,0,rfl,rfl,rfl,r.fU.ok,r.fU.pos,hw,by omega,?_⟩
   simp_arith only [tU]
   refine⟨by omega,by omega,?_⟩;rw [Fh,DO];have hh:=Cr.Kp m w.cps.toList
   have e:decide (((lw E F w.cps.toList 0:Nat):Int)=0)=decide ((List.range a.length).map (lw a b w.cps.toList)=List.range a.length):=by
    rw [decide_eq_decide,<- hh];omega
   rw [e];refine⟨false,by simp,?_⟩;rw [if_neg (by simp),hZ];exact hN _
 simp_arith only [gK,eN,cE,gM]
 refine cm (λ_ e=>∃k3 k4 k5,e=[some (.d (bh a b)),some (.d (bh E F)),some (.d (.obj eu)),k3,k4,k5]) ?_ ?_ ⟨_,_,_,rfl⟩
 ·rintro i x env N hx ⟨k3,k4,k5,rfl⟩ hN;have hi:=(La.mp hx).1
  have hxe:x=.int (0 + (i:Int)):=by
   unfold aW at hx;rw [Lj] at hx;simp [aW] at hi;rw [LH (by omega)] at hx;cases hx;rfl
  subst hxe
  simp_arith only [gM]
  refine⟨30,rfl,rfl,by decide,λw hw lw'=>?_⟩;show (if _ then _ else _)
  split
  ·refine⟨6,rfl,rfl,by decide,λz hz lz=>⟨E,F,z,rfl,rfl,r,hz,lz,λz' hz' lz'=>?_⟩⟩;exact tail _ _ _ z' N rfl hz' lz' λ_=>hN _ ⟨_,_,_,rfl⟩
  ·exact tail _ _ _ w N rfl hw (by omega) λ_=>hN _ ⟨_,_,_,rfl⟩
 ·rintro env ⟨k3,k4,k5,rfl⟩
  simp_arith only [and_true]
  exact h
theorem Dv:c5 [0,1,2] [1,2,0]:=by
 refine⟨⟨rfl,λi x h=>?_,λi x h=>?_,λi x h=>?_,λi x y h1 h2=>?_⟩,by simp,λj h1 h2=>?_⟩
 ·match i,h with
  | 0,h=>cases h;decide
  | 1,h=>cases h;decide
  | 2,h=>cases h;decide
 ·match i,h with
  | 0,h=>cases h;decide
  | 1,h=>cases h;decide
  | 2,h=>cases h;decide
 ·match i,h with
  | 0,h=>cases h;rfl
  | 1,h=>cases h;rfl
  | 2,h=>cases h;rfl
 ·match i,h1 with
  | 0,h1=>cases h1;cases h2;rfl
  | 1,h1=>cases h1;cases h2;rfl
  | 2,h1=>cases h1;cases h2;rfl
 ·have:j=1\/j=2:=by simp at h2;omega
  rcases this with rfl|rfl
  ·exact⟨0,by omega,.inr rfl⟩
  ·exact⟨1,by omega,.inr rfl⟩
theorem IQ:oK [0,1,2] [1,2,0] 3:=by
 refine⟨?_,?_,by decide⟩
 ·intro i hi;rcases i with _|_|_|_|i <;> first|decide|omega
 ·intro i hi;rcases i with _|_|_|i <;> first|decide|omega
theorem DG:∀ds Q,Aj 63 ds Q->ds.length=1:=by rintro ds Q ⟨ns,rfl,_⟩;rfl
def nL:bI:=(aI (iI (Am (nK (aN (aA bB (af (ag 4) aw)))) (Am (nK (aN (aA dC (af (ag 4) (af (ag 3) aw))))) (aN (aG nO (aA m6 (af (ag 4) aw)) (ag 4))))) (cz (cC (.bl false))) bQ) (aI (iI (nK (aN (aA cR (af (ag 3) (af (ag 4) (af (ag 2) aw)))))) (cz (cC (.bl false))) bQ) (aI (bJ 5 (aA cU (af (aA cT (af (ag 2) aw)) aw))) (iI (qI (aN (aG (kj true) (ag 5) (cC .non))) (aN (aG Ky (aG x8 (aA fB (af (aG bS (ag 5) (cC (.int 0))) aw)) (aA fB (af (aG bS (ag 4) (cC (.int 0))) aw))) (cC (.int 60))))) (aI (bJ 6 (aA xn (af (ag 4) (af (ag 5) aw)))) (iI (Am (nK (aN (aA bB (af (ag 6) aw)))) (Am (nK (aN (aA dC (af (ag 6) (af (ag 4) aw))))) (aN (aG nO (aA m6 (af (ag 6) aw)) (ag 6))))) (cz (cC (.bl false))) bQ)) bQ))))
def AL:bI:=(aI (gq hU (af (aA BR (af (cC (.int 1)) (af (aA BM (af (cC (.int 4)) (af (aA fB (af (ag 0) aw)) aw))) aw))) aw) (a9 1) (aI (pX 2 (aA gB (af (ag 0) (af (ag 1) aw)))) (aI (bJ 3 (aA cT (af (ag 2) aw))) (aI (bJ 4 (aA cU (af (ag 3) aw))) (aI (iI (aN (aG (kj false) (ag 4) (cC .non))) (aI (bJ 3 (bU (af (bU (af (cC (.int 0)) (af (cC (.int 1)) (af (cC (.int 2)) aw)))) (af (bU (af (cC (.int 1)) (af (cC (.int 2)) (af (cC (.int 0)) aw)))) aw)))) (bJ 4 (aA m6 (af (ag 3) aw)))) bQ) nL))))) (cz (cC (.bl true))))
theorem FZ:∀ds (Q:D->Prop),Aj 63 ds Q->AL { nx:=λ_=>Q .non,rt:=Q } (aF ["_law_script","_law_k","_law_rest","_law_table_here","_law_inner","_law_other","_law_near"] ds):=by
 rintro ds Q ⟨ns,rfl,hl,h⟩;have sz:=Lu
 simp_arith only [AL,Ll]
 refine⟨by omega,by omega,?_⟩;refine cm (λ_ e=>∃k1 k2 k3 k4 k5 k6,e=[some (.d (.lst (ns.map D.int))),k1,k2,k3,k4,k5,k6]) ?_ ?_ ⟨_,_,_,_,_,_,rfl⟩
 ·rintro i x env N hx ⟨k1,k2,k3,k4,k5,k6,rfl⟩ hN;have hi:=(La.mp hx).1
  have hxe:x=.int (0 + (i:Int)):=by
   unfold aW at hx;rw [Lj] at hx;simp [aW] at hi;rw [LH (by omega)] at hx;cases hx;rfl
  subst hxe;have hi2:i < 4:=by simp [aW] at hi;omega
  have ne:∀{E F:List Nat} {R:D->Prop},R (.bl false)->nO (bh E F) (bh E F) R:=λ{E F R} q=>by rw [DC];simpa using q
  have tail:∀(Z:Ends3) (k1 k5 k6:Option Lo) (a b E F:List Nat) (met:List SP),Z.nx=N->c5 a b->a.length<=500->Cr a b E F met->Rg E F->nL Z [some (.d (.lst (ns.map D.int))),k1,some (.d (.obj eu)),some (.d (bh a b)),some (.d (bh E F)),k5,k6]:=by
   intro Z k1 k5 k6 a b E F met hZ ta la m r;have nE:(au E).length=E.length:=by simp [au]
   simp_arith only [nL,bB,dC,cR,cU,cT,uZ,gM,pv,CA]
   refine⟨E,F,rfl,r,true,rfl,?_⟩;rw [if_neg (by simp)];refine⟨E,F,a,b,rfl,rfl,r.fU,ta,by have:=r.le;omega,la,true,by classical exact congrArg D.bl (decide_eq_true (Cr.Ih ta m)),?_⟩;rw [if_neg (by simp)];refine r.ER (ne ⟨false,rfl,?_⟩);rw [if_neg (by simp)];refine⟨a,b,E,F,met,rfl,rfl,rfl,ta,la,m,r,true,rfl,?_⟩;rw [if_neg (by simp)];intro a1 b1 t1 l1;refine⟨a1,b1,rfl,t1,l1,λn hn=>⟨rfl,false,rfl,?_⟩,λn hn=>⟨rfl,true,rfl,?_⟩⟩
   ·rw [if_neg (by simp),hZ];exact hN _ ⟨_,_,_,_,_,_,rfl⟩
   ·rw [if_pos rfl];have r2:=oK.rg t1 hn;generalize aP (vZ a1 b1 n) (jk a1)=E1 at r2 ⊢;generalize aP (vZ a1 b1 n) (jk b1)=F1 at r2 ⊢;have nE1:(au E1).length=E1.length:=by simp [au]
    have e0:∀(X Y:List Nat) (R:D->Prop),bS (bh X Y) (.int 0) R=R (.tup (au X)):=λX Y R=>m8;rw [e0];simp only [gN,nE1];rw [e0]
    simp_arith only [gN,nE,oi]
    have q1:=r.le;have q2:=r2.le;refine⟨by first|exact qK (by omega) (by omega)|exact mJ (by omega) (by omega),?_⟩
    split
    ·rename_i h60
     have h60':E.length * E1.length<=60:=by
      rw [Nat.mul_comm]
      exact_mod_cast h60
     show jY [bh E F,bh E1 F1] _ _
     simp only [jY,HH];refine⟨E,F,E1,F1,rfl,rfl,r.fU,r2.fU,λn hn=>zo r.fU r2.fU h60' hn,λn hn=>?_⟩;have M:=AU.mt r.fU r2.fU hn;have r3:Rg (aP (qO E F E1 F1 n) (ib E E1)) (aP (qO E F E1 F1 n) (ib F F1)):=⟨M.fU r.fU r2.fU,AU.BN r.fU r2.fU hn,M.zL r.zL r2.zL,by rw [M.wN];exact M.le⟩;refine⟨_,_,rfl,r3,true,rfl,?_⟩;rw [if_neg (by simp)];refine⟨_,_,E,F,rfl,rfl,r3.fU,r.fU,by have:=r3.le;omega,by omega,true,by classical exact congrArg D.bl (decide_eq_true ⟨_,M.JN⟩),?_⟩
     rw [if_neg (by simp)];refine r3.ER (ne ⟨false,rfl,?_⟩);rw [if_neg (by simp),hZ];exact hN _ ⟨_,_,_,_,_,_,rfl⟩
    ·rw [hZ];exact hN _ ⟨_,_,_,_,_,_,rfl⟩
  simp_arith only [pX,gB,cT,cU,uZ,gM,Ib,CA]
  refine⟨ns,_,rfl,rfl,by omega,by omega,λr a b t1 l1=>?_⟩;refine⟨a,b,rfl,t1,l1,λn hn=>⟨rfl,true,rfl,?_⟩,λn hn=>⟨rfl,false,rfl,?_⟩⟩
  ·rw [if_pos rfl];show fg [bh [0,1,2] [1,2,0]] _ _
   simp only [fg,Ap];refine⟨[0,1,2],[1,2,0],rfl,Dv,by decide,λn hn=>(IQ.over hn).elim,λn hn=>?_⟩;exact tail _ _ _ _ [0,1,2] [1,2,0] _ _ _ rfl Dv (by decide) (oK.cr Dv hn) (oK.rg Dv hn)
  ·rw [if_neg (by simp)];exact tail _ _ _ _ _ _ _ _ _ rfl t1 l1 (oK.cr t1 hn) (oK.rg t1 hn)
 ·rintro env ⟨k1,k2,k3,k4,k5,k6,rfl⟩
  simp_arith only [and_true]
  exact h
open PySem L2 L2.L3
open K55
def top (i:Nat):Stmt:=PySem.Challenge.pw_fanglue_k47_whole_cores.main.body.getD i (.Pass ⟨0,0,0,0⟩)
structure Jy where
 c_TooMany:Addr
 t_MOST_PLACES:Tok
structure Tc (K:Le) (w:World) (n:Jy):Prop where
 g_MOST_PLACES:PySem.W.nsIn K mainGlobals "MOST_PLACES" = some (some (.int 60 n.t_MOST_PLACES))
 n_TooMany:PySem.W.nsIn K mainGlobals "TooMany" = some (some (.ref n.c_TooMany))
 e_TooMany:PySem.W.excIn K n.c_TooMany [.type "ValueError",.type "Exception",.type "BaseException",.type "object"] "ValueError.__new__" = true
 o1_TooMany:PySem.W.findIn K (.ref n.c_TooMany) "__getattribute__" = some (some (.builtin "BaseException.__getattribute__"))
 o2_TooMany:PySem.W.findIn K (.ref n.c_TooMany) "__getattr__" = some none
 o3_TooMany:PySem.W.hasDictIn K n.c_TooMany=true
 o4_TooMany:PySem.W.findIn K (.ref n.c_TooMany) "__class__" = some (some (.builtin "object.__class__"))
 o5_TooMany:PySem.W.specialIn K (.builtin "object.__class__") "__get__" = some (some (.builtin "getset_descriptor.__get__"))
 o6_TooMany:PySem.W.takesIn K (.builtin "object.__class__")=some true
 o7_TooMany:PySem.W.mroIn K n.c_TooMany (.type "object")=some true
 o8_TooMany:PySem.W.subIn K (.ref n.c_TooMany) (.type "BaseException")=some true
 u1_TooMany_TooMany:PySem.W.typeIn K (.ref n.c_TooMany)=some (.type "type")
 u2_TooMany_TooMany:PySem.W.hasDictIn K n.c_TooMany=true
 u3_TooMany_TooMany:PySem.W.subIn K (.ref n.c_TooMany) (.type "BaseException")=some true
 u4_TooMany_TooMany:PySem.W.subIn K (.ref n.c_TooMany) (.ref n.c_TooMany)=some true
theorem Tc.l8 {K:Le} {w:World} {n:Jy} (TC:Tc K w n):BD K n.c_TooMany n.c_TooMany:=⟨TC.u1_TooMany_TooMany,TC.u2_TooMany_TooMany,TC.u3_TooMany_TooMany,TC.u4_TooMany_TooMany⟩
abbrev iU:Stmt:=top 6
abbrev cY:Stmt:=top 7
abbrev gW:Stmt:=top 8
abbrev iY:Stmt:=top 9
abbrev gT:Stmt:=top 10
abbrev fR:Stmt:=top 12
abbrev pP:Stmt:=top 13
abbrev gX:Stmt:=top 14
abbrev cB:Stmt:=top 15
abbrev qG:Stmt:=top 16
abbrev fQ:Stmt:=top 18
abbrev j9:Stmt:=top 19
abbrev gZ:Stmt:=top 20
abbrev eI:Stmt:=top 21
abbrev fT:Stmt:=top 22
abbrev jX:Stmt:=top 23
abbrev gV:Stmt:=top 24
abbrev gQ:Stmt:=top 25
abbrev hJ:Stmt:=top 26
abbrev fL:Stmt:=top 27
abbrev gU:Stmt:=top 28
abbrev jW:Stmt:=top 29
abbrev gY:Stmt:=top 30
abbrev iX:Stmt:=top 31
abbrev gR:Stmt:=top 32
abbrev c7:Stmt:=top 33
abbrev cG:Stmt:=top 34
abbrev dM:Stmt:=top 35
abbrev CQ:Stmt:=top 36
structure Txt (mg:Str->Option Value):Prop where
 abs:mg "abs" = none
 all:mg "all" = none
 enumerate:mg "enumerate" = none
 int:mg "int" = none
 len:mg "len" = none
 list:mg "list" = none
 max:mg "max" = none
 min:mg "min" = none
 range:mg "range" = none
 tuple:mg "tuple" = none
 zip:mg "zip" = none
theorem oF:aM ["halves","thirds","first","met","known","at","here","behind"] ["halves","thirds","first"] (aq iU):=mL
theorem kK:aM ["halves","thirds","met","numbers"] ["halves","thirds","met"] (aq cY):=mL
theorem lY:aM ["halves","thirds","place"] ["halves","thirds"] (aq gW):=mL
theorem oM:aM ["halves","thirds","first","met"] ["halves","thirds","first"] (aq iY):=mL
theorem m3:aM ["first","behind","met","numbers","halves","thirds","half","third","thing"] ["first","behind"] (aq gT):=mL
theorem js:aM ["one","other","pair","here","there"] ["one","other","pair"] (aq fR):=mL
theorem yi:aM ["one","other"] ["one","other"] (aq pP):=mL
theorem mW:aM ["one","other","images","place","leads","others","image"] ["one","other"] (aq gX):=mL
theorem iz:aM ["table","spread","halves","thirds"] ["table","spread"] (aq cB):=mL
theorem yd:aM ["table"] ["table"] (aq qG):=mL
theorem jH:aM ["_law_script","_law_k"] ["_law_script","_law_k"] (aq fQ):=mL
theorem qE:aM ["_law_script","_law_at","_law_by","_law_prime","_law_cell","_law_big_here","_law_k","_law_one"] ["_law_script","_law_at"] (aq j9):=mL
theorem ma:aM ["_law_rest","_law_many","_law_digit_here"] ["_law_rest","_law_many"] (aq gZ):=mL
theorem iB:aM ["_law_rest","_law_many","_law_row","_law_k","_law_at"] ["_law_rest","_law_many"] (aq eI):=mL
theorem mC:aM ["_law_rest","_law_many","_law_marks_here","_law_left","_law_gap","_law_way","_law_other"] ["_law_rest","_law_many"] (aq fT):=mL
theorem pQ:aM ["_law_rest","_law_most","_law_great","_law_many"] ["_law_rest","_law_most","_law_great"] (aq jX):=mL
theorem mn:aM ["_law_fractions_here","_law_row","_law_tiles_here","_law_i","_law_near","_law_far"] ["_law_fractions_here"] (aq gV):=mL
theorem oy:aM ["_law_fractions_here"] ["_law_fractions_here"] (aq gQ):=mL
theorem l7:aM ["_law_fan_here","_law_fractions_here","_law_marks_here","_law_gaps_here","_law_thirds","_law_one","_law_mid","_law_other","_law_halves","_law_i","_law_mark","_law_first"] ["_law_fan_here"] (aq hJ):=mL
theorem oB:aM ["_law_halves","_law_thirds","_law_first","_law_met","_law_at","_law_behind"] ["_law_halves","_law_thirds","_law_first"] (aq fL):=mL
theorem mU:aM ["_law_fan_here","_law_halves","_law_thirds","_law_first"] ["_law_fan_here"] (aq gU):=mL
theorem qC:aM ["_law_table_here","_law_place","_law_word_here","_law_letter"] ["_law_table_here","_law_place","_law_word_here"] (aq jW):=mL
theorem lW:aM ["_law_rest","_law_table_here"] ["_law_rest"] (aq gY):=mL
theorem oo:aM ["_law_rest","_law_most","_law_word_here","_law_first","_law_k"] ["_law_rest","_law_most"] (aq iX):=mL
theorem lZ:aM ["_law_table_here"] ["_law_table_here"] (aq gR):=mL
theorem iD:aM ["_law_table_here","_law_word_here","_law_often"] ["_law_table_here","_law_word_here"] (aq c7):=mL
theorem gL:aM ["_law_table_here"] ["_law_table_here"] (aq cG):=mL
theorem jc:aM ["_law_table_here","_law_inner","_law_rest","_law_turn","_law_word_here","_law_leads"] ["_law_table_here","_law_inner","_law_rest"] (aq dM):=mL
theorem Bf:aM ["_law_script","_law_k","_law_rest","_law_table_here","_law_inner","_law_other","_law_near"] ["_law_script"] (aq CQ):=mL
section
variable {P:Program} {w:World} {K:Le} {mg:Str->Option Value} {base:Heap}
theorem wc (F:Df K mg "met_from" iU ["halves","thirds","first"]) (T:Txt mg):Known P w K mg base 1 "met_from" fK :=
 have nd:=oF.nd;F.known oF uB λfa cdv A outer s H E hr=>⟨kZ,(aj (dN 3 nd (lJ (ae (qv 2) ah))) (aj (zd 4 nd (qv 2) Ae Ae) (aj (aS 5 nd aB) (aj (jy LN (Cv (qv 5) (c9 3 T.len)) (aj (aS 6 nd (eB 3 (qv 5) (λ_ _=>rfl))) (aj (n9 LN rfl (a7 (ae (bf (qv 0) (qv 6) (λ_ _=>rfl)) (ae (bf (qv 1) (qv 6) (λ_ _=>rfl)) ah))) (aQ 7 nd) (ar (cL (vX 4 hr.units (qv 7)) (aj (bY 4 hr.units (qv 7) Ae) (ar (gA 3 (qv 7)))) bt))) (ar (Dt 5 nd aB))))) (ar (fI 3 (a8 (qv 3)))))))),wt⟩
theorem rC (F:Df K mg "renumbered" cY ["halves","thirds","met"]) (T:Txt mg):Known P w K mg base 1 "renumbered" dR :=
 have nd:=kK.nd;F.known kK qo λfa cdv A outer s H E hr=>⟨iK,(aj (wm (N':=["number","place"]) (ix:=[]) 3 nd hr.units rfl (bK.of (aq cY) rfl rfl (by decide +kernel) (by decide +kernel) (by decide +kernel) (λj i h=>by simp at h) rfl) (by decide) rfl rfl rfl rfl rfl T.enumerate (ae (qv 2) ah) (λC s H fp pins=>dE) (λC s H fp pins=>(qv 1)) (λC s H fp pins=>(qv 0))) (aj (bY 3 hr.units Cm Cm) (ar (lK 3 (a8 (a7 (ae (df T.tuple (ae (QF.e (j5 (N':=["place","halves","numbers"]) (ix:=[0,3]) rfl (bK.of (aq cY) rfl rfl (by decide +kernel) (by decide +kernel) (by decide +kernel) (λj i h=>match j,h with | 0,h=>by cases h;exact⟨_,rfl,rfl,by decide,rfl⟩ | 1,h=>by cases h;exact⟨_,rfl,rfl,by decide,rfl⟩ | _ + 2,h=>by simp at h) rfl) (by decide) rfl rfl (qv 2) (λC s H fp pins=>dE) (λC s H fp pins=>(By hr.units (qv 2) (bf (qv 1) (qv 0) (λ_ _=>rfl)) (λ_ _=>rfl))))) ah)) (ae (df T.tuple (ae (QF.e (j5 (N':=["place","thirds","numbers"]) (ix:=[1,3]) rfl (bK.of (aq cY) rfl rfl (by decide +kernel) (by decide +kernel) (by decide +kernel) (λj i h=>match j,h with | 0,h=>by cases h;exact⟨_,rfl,rfl,by decide,rfl⟩ | 1,h=>by cases h;exact⟨_,rfl,rfl,by decide,rfl⟩ | _ + 2,h=>by simp at h) rfl) (by decide) rfl rfl (qv 2) (λC s H fp pins=>dE) (λC s H fp pins=>(By hr.units (qv 2) (bf (qv 1) (qv 0) (λ_ _=>rfl)) (λ_ _=>rfl))))) ah)) ah)))))))),qV⟩
theorem tS (F:Df K mg "lead_back" gW ["halves","thirds"]) (T:Txt mg):Known P w K mg base 1 "lead_back" eO :=
 have nd:=lY.nd;F.known lY qY λfa cdv A outer s H E hr=>⟨jA,(aj (gO LN rfl rfl T.range (ae (fC T.len (ae (qv 0) ah)) ah) (aQ 2 nd) (ar (cL (QW.t (wj (vA hr.units (bf (qv 0) (bf (qv 0) (qv 2) (λ_ _=>rfl)) (λ_ _=>rfl)) (qv 2)) (xK (vA hr.units (bf (qv 1) (bf (qv 1) (bf (qv 1) (qv 2) (λ_ _=>rfl)) (λ_ _=>rfl)) (λ_ _=>rfl)) (qv 2))))) (ar (a8 Ae)) bt))) (ar (a8 Ae))),sX⟩
theorem uV (F:Df K mg "numbered" iY ["halves","thirds","first"]) (T:Txt mg) (k_lead_back:Known P w K mg base 1 "lead_back" eO) (k_met_from:Known P w K mg base 1 "met_from" fK) (k_renumbered:Known P w K mg base 1 "renumbered" dR):Known P w K mg base 2 "numbered" fE :=
 have nd:=oM.nd;F.known oM sQ λfa cdv A outer s H E hr=>⟨lq,(aj (cL (nZ (nT (aO k_lead_back hr.md (ae (qv 0) (ae (qv 1) ah))))) (ar vQ) bt) (aj (aS 3 nd (aO k_met_from hr.md (ae (qv 0) (ae (qv 1) (ae (qv 2) ah))))) (aj (cL (Cv (fC T.len (ae (qv 3) ah)) (fC T.len (ae (qv 0) ah))) (ar vQ) bt) (ar (a8 (aO k_renumbered hr.md (ae (qv 0) (ae (qv 1) (ae (qv 3) ah))))))))),vJ⟩
theorem rE (F:Df K mg "table_led" gT ["first","behind"]) (T:Txt mg) {n:Jy} (TC:Tc K w n) {Pf:Le->Hp->Addr->Prop} {φ:Fw} (hF:kT P w K mg base 2 Pf φ):fG P w K mg base 3 "table_led" (cV φ Pf) :=
 have nd:=m3.nd;F.xI m3 pY λfa cdv A outer s H E hr=>⟨iW φ Pf,(fu (kJ (mY (dN 2 nd (lJ (ae (qv 0) ah))))) (fu (kJ (mY (xD 3 nd hr.units (qv 0) aB))) (fu (kJ (mY (dN 4 nd (lJ ah)))) (fu (kJ (mY (dN 5 nd (lJ ah)))) (fu (Cf (Cv (c9 4 T.len) (c9 2 T.len)) (fu (kJ (mY (qj (DX 1 hF hr.md (ae (eB 2 (c9 4 T.len) (λ_ _=>rfl)) ah)) (ig rfl (bj (aQ 6 nd) (bj (aQ 7 nd) fN)))))) (fu (kJ (mY (n9 LN rfl (a7 (ae (qv 6) (ae (qv 7) ah))) (aQ 8 nd) (ar (cL (vX 3 hr.units (qv 8)) (aj (bY 3 hr.units (qv 8) (c9 2 T.len)) (ar (gA 2 (qv 8)))) bt))))) (fu (kJ (HZ (Ej (c9 2 T.len) (K5 TC.g_MOST_PLACES)) (tQ (zE TC.n_TooMany TC.e_TooMany (ae kF ah))) (Hm bt))) (fu (kJ (mY (gA 4 (mP 3 hr.units (qv 6) (λ_ _=>rfl))))) (yf (kJ (mY (gA 5 (mP 3 hr.units (qv 7) (λ_ _=>rfl))))))))))) (yf (kJ (mY (fI 4 (fI 5 (a8 (a7 (ae (df T.tuple (ae (qv 4) ah)) (ae (df T.tuple (ae (qv 5) ah)) ah)))))))))))))),rj⟩
theorem jU (F:Df K mg "pair_behind" fR ["one","other","pair"]):Known P w K mg base 1 "pair_behind" de :=
 have nd:=js.nd;F.known js oO λfa cdv A outer s H E hr=>⟨hV,(aj (qj (qv 2) (ig rfl (bj (aQ 3 nd) (bj (aQ 4 nd) fN)))) (ar (a8 (a7 (ae (a7 (ae (bf (bf (qv 0) aB (λ_ _=>rfl)) (qv 3) (λ_ _=>rfl)) (ae (bf (bf (qv 1) aB (λ_ _=>rfl)) (qv 4) (λ_ _=>rfl)) ah))) (ae (a7 (ae (bf (bf (qv 0) aB (λ_ _=>rfl)) (qv 3) (λ_ _=>rfl)) (ae (bf (bf (qv 1) aB (λ_ _=>rfl)) (qv 4) (λ_ _=>rfl)) ah))) ah)))))),p8⟩
theorem Ax (F:Fs K mg "meet" pP ["one","other"] "meet.<locals>.<lambda>") (kxA_table_led:∀(base:Heap) (Pf:Le->Hp->Addr->Prop) (φ:Fw),kT P w K mg base 2 Pf φ->fG P w K mg base 3 "table_led" (cV φ Pf)) (at_table_led:∃fa,mg "table_led" = some (.ref fa)/\PySem.W.keepIn K (.ref fa)=true) (kA_pair_behind:∀base:Heap,Known P w K mg base 1 "pair_behind" de):fG P w K mg base 4 "meet" jY :=
 have nd:=yi.nd;F.CN yi zS λfa cdv A outer s H E ck hr=>⟨uC,(tQ (Br (vn (ps:=["pair"]) [1,0] ["other","one"] kxA_table_led at_table_led hr.md (a7 (ae aB (ae aB ah))) ck KL (λ_ _ _ _=>A6 λ_=>rfl) (λbase cA f c A outer s H hr=>(aO (kA_pair_behind base) hr.md (ae (qv 2) (ae (qv 1) (ae (qv 0) ah))))) (hcell:=(show ∀x∈(["other","one"]:List Str),((aq pP)).names.lookup x=some .cell by decide +kernel))))),Be⟩
theorem t9 (F:Df K mg "is_within" gX ["one","other"]) (T:Txt mg):Known P w K mg base 1 "is_within" dC :=
 have nd:=mW.nd;F.known mW qT λfa cdv A outer s H E hr=>⟨jP,(aj (zD 2 nd aB aB) (aj (gO LN rfl rfl T.range (ae (fC T.len (ae (bf (qv 0) aB (λ_ _=>rfl)) ah)) ah) (aQ 3 nd) (ar (Ei LN rfl rfl T.zip (ae (qv 0) (ae (qv 1) ah)) (ig rfl (bj (aQ 4 nd) (bj (aQ 5 nd) fN))) (aj (aS 6 nd (bf (qv 5) (mP 2 hr.units (qv 3) (λ_ _=>rfl)) (λ_ _=>rfl))) (ar (Dr hr.units (Er 2 hr.units (bf (qv 4) (qv 3) (λ_ _=>rfl)) (qv 6)) (Hy.up (qv 6)) (ar (a8 Ae)) bt)))))) (ar (a8 Ae)))),ux⟩
theorem iF (F:Df K mg "spread_behind" cB ["table","spread"]) (T:Txt mg):Known P w K mg base 1 "spread_behind" cF :=
 have nd:=iz.nd;F.known iz mQ λfa cdv A outer s H E hr=>⟨gd,(aj (qj (qv 0) (ig rfl (bj (aQ 2 nd) (bj (aQ 3 nd) fN)))) (ar (a8 (a7 (ae (df T.tuple (ae (QF.e (j5 (N':=["place","halves"]) (ix:=[2]) rfl (bK.of (aq cB) rfl rfl (by decide +kernel) (by decide +kernel) (by decide +kernel) (λj i h=>match j,h with | 0,h=>by cases h;exact⟨_,rfl,rfl,by decide,rfl⟩ | _ + 1,h=>by simp at h) rfl) (by decide) rfl rfl (qv 1) (λC s H fp pins=>dE) (λC s H fp pins=>(bf (qv 1) (qv 0) (λ_ _=>rfl))))) ah)) (ae (df T.tuple (ae (QF.e (j5 (N':=["place","thirds"]) (ix:=[3]) rfl (bK.of (aq cB) rfl rfl (by decide +kernel) (by decide +kernel) (by decide +kernel) (λj i h=>match j,h with | 0,h=>by cases h;exact⟨_,rfl,rfl,by decide,rfl⟩ | _ + 1,h=>by simp at h) rfl) (by decide) rfl rfl (qv 1) (λC s H fp pins=>dE) (λC s H fp pins=>(bf (qv 1) (qv 0) (λ_ _=>rfl))))) ah)) ah)))))),m9⟩
theorem Cq (F:Fs K mg "core" qG ["table"] "core.<locals>.<lambda>") (T:Txt mg) (kxA_table_led:∀(base:Heap) (Pf:Le->Hp->Addr->Prop) (φ:Fw),kT P w K mg base 2 Pf φ->fG P w K mg base 3 "table_led" (cV φ Pf)) (at_table_led:∃fa,mg "table_led" = some (.ref fa)/\PySem.W.keepIn K (.ref fa)=true) (kA_spread_behind:∀base:Heap,Known P w K mg base 1 "spread_behind" cF):fG P w K mg base 4 "core" fg :=
 have nd:=yd.nd;F.CN yd y6 λfa cdv A outer s H E ck hr=>⟨sU,(tQ (Br (vn (ps:=["spread"]) [0] ["table"] kxA_table_led at_table_led hr.md (GS T.tuple T.range (ae (fC T.len (ae (bf (qv 0) aB (λ_ _=>rfl)) ah)) ah)) ck KL (λ_ _ _ _=>A6 λ_=>rfl) (λbase cA f c A outer s H hr=>(aO (kA_spread_behind base) hr.md (ae (qv 1) (ae (qv 0) ah)))) (hcell:=(show ∀x∈(["table"]:List Str),((aq qG)).names.lookup x=some .cell by decide +kernel))))),Cc⟩
theorem qp (F:Df K mg "_law_cell_at" fQ ["_law_script","_law_k"]) (T:Txt mg):Known P w K mg base 1 "_law_cell_at" bX :=
 have nd:=jH.nd;F.known jH oS λfa cdv A outer s H E hr=>⟨kR,(aj (cL (Cv (qv 1) (fC T.len (ae (qv 0) ah))) (ar (a8 (bf (qv 0) (qv 1) (λ_ _=>rfl)))) bt) (ar (a8 aB))),qq⟩
theorem xk (F:Df K mg "_law_big" j9 ["_law_script","_law_at"]) (T:Txt mg) (k_law_cell_at:Known P w K mg base 1 "_law_cell_at" bX):Known P w K mg base 2 "_law_big" gB :=
 have nd:=qE.nd;F.known qE u4 λfa cdv A outer s H E hr=>⟨oh,(aj (aS 2 nd (a7 (ae aB (ae aB (ae aB (ae aB (ae aB (ae aB (ae aB (ae aB ah)))))))))) (aj (aS 3 nd (a7 (ae aB (ae aB (ae aB (ae aB (ae aB (ae aB (ae aB (ae aB ah)))))))))) (aj (aS 4 nd (aO k_law_cell_at hr.md (ae (qv 0) (ae (qv 1) ah)))) (aj (cL (JL (qv 4) (EF aB aB)) (ar (a8 (qv 4))) bt) (aj (aS 5 nd aB) (aj (gO LN rfl rfl T.range (ae aB ah) (aQ 6 nd) (aj (aS 7 nd (eU (eU (kO (aO k_law_cell_at hr.md (ae (qv 0) (ae (eU (qv 1) (kO (qv 6) aB)) ah))) (EF aB aB)) aB) (sv (qv 6) (qv 6)))) (ar (aS 5 nd (eU (sv (qv 5) aB) (kO (kO (sv (qv 7) (bf (qv 2) (kO (qv 6) aB) (λ_ _=>rfl))) (bf (qv 3) (kO (qv 6) aB) (λ_ _=>rfl))) aB)))))) (ar (a8 (qv 5))))))))),xu⟩
theorem sP (F:Df K mg "_law_digit" gZ ["_law_rest","_law_many"]):Known P w K mg base 1 "_law_digit" aE :=
 have nd:=ma.nd;F.known ma qU λfa cdv A outer s H E hr=>⟨jK,(aj (aS 2 nd (kO (Bl (qv 0)) (qv 1))) (aj (xb (qv 0) (Hd (Bl (qv 0)) (qv 1))) (ar (a8 (qv 2))))),sY⟩
theorem nN (F:Df K mg "_law_fractions" eI ["_law_rest","_law_many"]) (T:Txt mg) (k_law_digit:Known P w K mg base 1 "_law_digit" aE):Known P w K mg base 2 "_law_fractions" cD :=
 have nd:=iB.nd;F.known iB lO λfa cdv A outer s H E hr=>⟨gj,(aj (dN 2 nd (lJ (ae (a7 (ae (EV aB) (ae aB ah))) (ae (a7 (ae aB (ae aB ah))) (ae (a7 (ae aB (ae aB ah))) ah))))) (aj (gO LN rfl rfl T.range (ae (mM (qv 1) aB) ah) (aQ 3 nd) (aj (aS 4 nd (aO k_law_digit hr.md (ae (qv 0) (ae (mM (c9 2 T.len) aB) ah)))) (ar (Ad 2 (eU (qv 4) aB) (a7 (ae (eU (bf (eB 2 (qv 4) (λ_ _=>rfl)) aB (λ_ _=>rfl)) (bf (eB 2 (eU (qv 4) aB) (λ_ _=>rfl)) aB (λ_ _=>rfl))) (ae (eU (bf (eB 2 (qv 4) (λ_ _=>rfl)) aB (λ_ _=>rfl)) (bf (eB 2 (eU (qv 4) aB) (λ_ _=>rfl)) aB (λ_ _=>rfl))) ah))))))) (ar (fI 2 (a8 (df T.tuple (ae (eU (lh (ae (a7 (ae aB (ae aB ah))) ah)) (JS (qv 2) (yo aB) (yo (mM (fC T.len (ae (qv 2) ah)) aB)))) ah))))))),nr⟩
theorem uA (F:Df K mg "_law_marks" fT ["_law_rest","_law_many"]) (T:Txt mg) (k_law_digit:Known P w K mg base 1 "_law_digit" aE):Known P w K mg base 2 "_law_marks" eS :=
 have nd:=mC.nd;F.known mC rb λfa cdv A outer s H E hr=>⟨jV,(aj (oU 2 nd (N':=["_law_gap"]) (ix:=[]) rfl (bK.of (aq fT) rfl rfl (by decide +kernel) (by decide +kernel) (by decide +kernel) (λj i h=>by simp at h) rfl) (by decide) rfl rfl rfl T.range (ae (qv 1) ah) (λC s H fp pins=>dE) (λC s H fp pins=>kF)) (aj (dN 3 nd (wa T.list T.range (ae (qv 1) ah))) (aj (jy LN (yB 3 hr.units) (aj (sD 4 3 nd aB) (aj (aS 5 nd (aO k_law_digit hr.md (ae (qv 0) (ae aB ah)))) (aj (cL (qr hr.units (qv 5) aB) (ar (x9 2 (qv 4) kF)) bt) (ar (cL (QW.t (tO (Ej (qv 5) aB) (o8 (yB 3 hr.units)))) (aj (sD 6 3 nd (aO k_law_digit hr.md (ae (qv 0) (ae (c9 3 T.len) ah)))) (aj (x9 2 (qv 4) (qv 6)) (ar (x9 2 (qv 6) (qv 4))))) bt)))))) (aj (fI 2 (cL (QW.t (tO (qr hr.units (qv 1) aB) (o8 (Fm hr.units kF (qv 2))))) (ar (aS 2 nd (lh (ae kF (ae kF ah))))) bt)) (ar (a8 (df T.tuple (ae (qv 2) ah)))))))),uO⟩
theorem xm (F:Df K mg "_law_fan" jX ["_law_rest","_law_most","_law_great"]) (k_law_digit:Known P w K mg base 1 "_law_digit" aE) (k_law_fractions:Known P w K mg base 2 "_law_fractions" cD) (k_law_marks:Known P w K mg base 2 "_law_marks" eS):Known P w K mg base 3 "_law_fan" gC :=
 have nd:=pQ.nd;F.known pQ wV λfa cdv A outer s H E hr=>⟨nq,(aj (aS 3 nd (eU aB (aO k_law_digit hr.md (ae (qv 0) (ae (mM (qv 1) aB) ah))))) (aj (cL (qr hr.units (aO k_law_digit hr.md (ae (qv 0) (ae aB ah))) aB) (ar (aS 3 nd (eU aB (aO k_law_digit hr.md (ae (qv 0) (ae (mM (qv 2) aB) ah)))))) bt) (ar (a8 (a7 (ae (aO k_law_fractions hr.md (ae (qv 0) (ae (qv 3) ah))) (ae (aO k_law_marks hr.md (ae (qv 0) (ae (qv 3) ah))) ah))))))),w8⟩
theorem tX (F:Df K mg "_law_tiles" gV ["_law_fractions_here"]) (T:Txt mg):Known P w K mg base 1 "_law_tiles" eQ :=
 have nd:=mn.nd;F.known mn rA λfa cdv A outer s H E hr=>⟨jL,(aj (dN 1 nd (zl T.list (ae (qv 0) ah))) (aj (dN 2 nd (lJ ah)) (aj (jy LN (Ej (c9 1 T.len) aB) (ar (Ct LN rfl rfl T.range (ae aB (ae (c9 1 T.len) ah)) (aQ 3 nd) (aj (aS 4 nd (eB 1 (mM (qv 3) aB) (λ_ _=>rfl))) (aj (aS 5 nd (eB 1 (kO (eU (qv 3) aB) (c9 1 T.len)) (λ_ _=>rfl))) (ar (cL (QW.t (tO (vA hr.units (eB 1 (qv 3) (λ_ _=>rfl)) (a7 (ae aB (ae aB ah)))) (o8 (qr hr.units (Jd T.abs (ae (mM (sv (bf (qv 4) aB (λ_ _=>rfl)) (bf (qv 5) aB (λ_ _=>rfl))) (sv (bf (qv 4) aB (λ_ _=>rfl)) (bf (qv 5) aB (λ_ _=>rfl)))) ah)) aB)))) (aj (gA 2 (a7 (ae (qv 4) (ae (eB 1 (qv 3) (λ_ _=>rfl)) (ae (qv 5) ah))))) (aj (DI 1 (qv 3)) (ar Bj))) bt))))))) (ar (fI 2 (a8 (qv 2))))))),ud⟩
theorem wH (F:Df K mg "_law_gaps" gQ ["_law_fractions_here"]) (T:Txt mg):Known P w K mg base 1 "_law_gaps" fF :=
 have nd:=oy.nd;F.known oy uf λfa cdv A outer s H E hr=>⟨kW,(ar (a8 (QF.e (nS (N':=["_law_i","_law_fractions_here"]) (ix:=[0]) rfl (bK.of (aq gQ) rfl rfl (by decide +kernel) (by decide +kernel) (by decide +kernel) (λj i h=>match j,h with | 0,h=>by cases h;exact⟨_,rfl,rfl,by decide,rfl⟩ | _ + 1,h=>by simp at h) rfl) (by decide) rfl rfl rfl T.range (ae (fC T.len (ae (qv 0) ah)) ah) (λC s H fp pins=>dE) (λC s H fp pins=>(a7 (ae (bf (qv 1) (qv 0) (λ_ _=>rfl)) (ae (bf (qv 1) (kO (eU (qv 0) aB) (fC T.len (ae (qv 1) ah))) (λ_ _=>rfl)) ah)))))))),v8⟩
theorem ug (F:Df K mg "_law_links" hJ ["_law_fan_here"]) (T:Txt mg) (k_law_gaps:Known P w K mg base 1 "_law_gaps" fF) (k_law_tiles:Known P w K mg base 1 "_law_tiles" eQ):Known P w K mg base 2 "_law_links" eT :=
 have nd:=l7.nd;F.known l7 qP λfa cdv A outer s H E hr=>⟨jr,(aj (qj (qv 0) (ig rfl (bj (aQ 1 nd) (bj (aQ 2 nd) fN)))) (aj (aS 3 nd (aO k_law_gaps hr.md (ae (qv 1) ah))) (aj (rV 4 nd) (aj (n9 LN rfl (aO k_law_tiles hr.md (ae (qv 1) ah)) (ig rfl (bj (aQ 5 nd) (bj (aQ 6 nd) (bj (aQ 7 nd) fN)))) (aj (bY 4 hr.units (a7 (ae (qv 5) (ae (qv 6) ah))) (a7 (ae (qv 6) (ae (qv 7) ah)))) (aj (bY 4 hr.units (a7 (ae (qv 6) (ae (qv 7) ah))) (a7 (ae (qv 7) (ae (qv 5) ah)))) (ar (bY 4 hr.units (a7 (ae (qv 7) (ae (qv 5) ah))) (a7 (ae (qv 5) (ae (qv 6) ah)))))))) (aj (rV 8 nd) (aj (y9 4 LN rfl (ig rfl (bj (aQ 5 nd) (bj (aQ 7 nd) fN))) (ar (bY 8 hr.units (a7 (ae (qv 5) (ae (qv 7) ah))) (a7 (ae (qv 7) (ae (qv 5) ah)))))) (aj (DK LN rfl rfl T.enumerate (ae (qv 2) ah) (ig rfl (bj (aQ 9 nd) (bj (aQ 10 nd) fN))) (ar (cL (qr hr.units (qv 10) kF) (aj (bY 4 hr.units (qv 9) (qv 9)) (aj (bY 8 hr.units (qv 9) (bf (qv 3) (qv 9) (λ_ _=>rfl))) (ar (bY 8 hr.units (bf (qv 3) (qv 9) (λ_ _=>rfl)) (qv 9))))) (ar (cL (qr hr.units (qv 10) kF) (ar (bY 8 hr.units (bf (qv 3) (qv 9) (λ_ _=>rfl)) (bf (qv 3) (qv 9) (λ_ _=>rfl)))) (ar (bY 8 hr.units (bf (qv 3) (qv 9) (λ_ _=>rfl)) (bf (qv 3) (qv 10) (λ_ _=>rfl))))))))) (aj (aS 11 nd (a7 (ae (a7 (ae aB (ae aB ah))) (ae (a7 (ae aB (ae aB ah))) ah)))) (aj (lK 4 (cL (qr hr.units (fC T.len (ae (qv 1) ah)) aB) (aj (aS 11 nd (bf (lh (ae aB (ae aB ah))) (yZ T.int (ae (J1 hr.units (bf (qv 2) aB (λ_ _=>rfl)) kF) ah)) (λ_ _=>rfl))) (ar (n9 LN rfl (lh (ae aB (ae aB ah))) (aQ 9 nd) (ar (cL (qr hr.units (bf (qv 2) (qv 9) (λ_ _=>rfl)) kF) (ar (bY 8 hr.units (qv 9) (bf (lh (ae (qv 9) (ae (mM aB (qv 9)) ah))) (yZ T.int (ae (C0 hr.units (bf (qv 2) (mM aB (qv 9)) (λ_ _=>rfl)) kF) ah)) (λ_ _=>rfl)))) bt))))) (ar (cL (Gq hr.units (qv 11) (qv 4)) (ar (aS 11 nd (mP 8 hr.units (bf (qv 3) (EV aB) (λ_ _=>rfl)) (λ_ _=>rfl)))) bt)))) (ar (lK 8 (a8 (a7 (ae (qv 8) (ae (qv 4) (ae (qv 11) ah)))))))))))))))),tH⟩
theorem vd (F:Df K mg "_law_anew" fL ["_law_halves","_law_thirds","_law_first"]) (T:Txt mg):Known P w K mg base 1 "_law_anew" cW :=
 have nd:=oB.nd;F.known oB tK λfa cdv A outer s H E hr=>⟨lB,(aj (dN 3 nd (lJ (ae (qv 2) ah))) (aj (aS 4 nd aB) (aj (jy LN (Cv (qv 4) (c9 3 T.len)) (aj (n9 LN rfl (lh (ae (uL hr.units (qv 0) (eB 3 (qv 4) (λ_ _=>rfl)) (λ_ _=>rfl)) (ae (uL hr.units (qv 1) (eB 3 (qv 4) (λ_ _=>rfl)) (λ_ _=>rfl)) ah))) (aQ 5 nd) (ar (cL (BS 3 hr.units (qv 5)) (ar (gA 3 (qv 5))) bt))) (ar (aS 4 nd (eU (qv 4) aB))))) (ar (fI 3 (a8 (a7 (ae (df T.tuple (ae (QF.e (j5 (N':=["_law_one","_law_halves","_law_met"]) (ix:=[0,3]) rfl (bK.of (aq fL) rfl rfl (by decide +kernel) (by decide +kernel) (by decide +kernel) (λj i h=>match j,h with | 0,h=>by cases h;exact⟨_,rfl,rfl,by decide,rfl⟩ | 1,h=>by cases h;exact⟨_,rfl,rfl,by decide,rfl⟩ | _ + 2,h=>by simp at h) rfl) (by decide) rfl rfl (qv 3) (λC s H fp pins=>dE) (λC s H fp pins=>(yQ hr.units (qv 2) (uL hr.units (qv 1) (qv 0) (λ_ _=>rfl)))))) ah)) (ae (df T.tuple (ae (QF.e (j5 (N':=["_law_one","_law_thirds","_law_met"]) (ix:=[1,3]) rfl (bK.of (aq fL) rfl rfl (by decide +kernel) (by decide +kernel) (by decide +kernel) (λj i h=>match j,h with | 0,h=>by cases h;exact⟨_,rfl,rfl,by decide,rfl⟩ | 1,h=>by cases h;exact⟨_,rfl,rfl,by decide,rfl⟩ | _ + 2,h=>by simp at h) rfl) (by decide) rfl rfl (qv 3) (λC s H fp pins=>dE) (λC s H fp pins=>(yQ hr.units (qv 2) (uL hr.units (qv 1) (qv 0) (λ_ _=>rfl)))))) ah)) ah))))))))),wk⟩
theorem tP (F:Df K mg "_law_table" gU ["_law_fan_here"]) (k_law_anew:Known P w K mg base 1 "_law_anew" cW) (k_law_links:Known P w K mg base 2 "_law_links" eT):Known P w K mg base 3 "_law_table" eV :=
 have nd:=mU.nd;F.known mU rJ λfa cdv A outer s H E hr=>⟨jw,(aj (qj (aO k_law_links hr.md (ae (qv 0) ah)) (ig rfl (bj (aQ 1 nd) (bj (aQ 2 nd) (bj (aQ 3 nd) fN))))) (ar (a8 (aO k_law_anew hr.md (ae (qv 1) (ae (qv 2) (ae (qv 3) ah))))))),uq⟩
theorem xB (F:Df K mg "_law_led" jW ["_law_table_here","_law_place","_law_word_here"]):Known P w K mg base 1 "_law_led" dg :=
 have nd:=qC.nd;F.known qC uW λfa cdv A outer s H E hr=>⟨n5,(aj (n9 LN rfl (qv 2) (aQ 3 nd) (ar (cL (qr hr.units (qv 3) kF) (ar (aS 1 nd (bf (bf (qv 0) aB (λ_ _=>rfl)) (qv 1) (λ_ _=>rfl)))) (ar (cL (qr hr.units (qv 3) kF) (ar (aS 1 nd (bf (bf (qv 0) aB (λ_ _=>rfl)) (qv 1) (λ_ _=>rfl)))) (ar (aS 1 nd (bf (bf (qv 0) aB (λ_ _=>rfl)) (bf (bf (qv 0) aB (λ_ _=>rfl)) (qv 1) (λ_ _=>rfl)) (λ_ _=>rfl))))))))) (ar (a8 (qv 1)))),xw⟩
theorem ui (F:Df K mg "_law_drawn" gY ["_law_rest"]) (T:Txt mg) (k_law_anew:Known P w K mg base 1 "_law_anew" cW) (k_law_digit:Known P w K mg base 1 "_law_digit" aE) (k_law_fan:Known P w K mg base 3 "_law_fan" gC) (k_law_table:Known P w K mg base 3 "_law_table" eV):Known P w K mg base 4 "_law_drawn" cT :=
 have nd:=lW.nd;F.known lW qX λfa cdv A outer s H E hr=>⟨jO,(aj (aS 1 nd (aO k_law_table hr.md (ae (aO k_law_fan hr.md (ae (qv 0) (ae aB (ae aB ah)))) ah))) (ar (a8 (aO k_law_anew hr.md (ae (bf (qv 1) aB (λ_ _=>rfl)) (ae (bf (qv 1) aB (λ_ _=>rfl)) (ae (aO k_law_digit hr.md (ae (qv 0) (ae (fC T.len (ae (bf (qv 1) aB (λ_ _=>rfl)) ah)) ah))) ah))))))),uh⟩
theorem vG (F:Df K mg "_law_word" iX ["_law_rest","_law_most"]) (T:Txt mg) (k_law_digit:Known P w K mg base 1 "_law_digit" aE):Known P w K mg base 2 "_law_word" eN :=
 have nd:=oo.nd;F.known oo t6 λfa cdv A outer s H E hr=>⟨lr,(aj (aS 2 nd kF) (aj (aS 3 nd (aO k_law_digit hr.md (ae (qv 0) (ae aB ah)))) (aj (gO LN rfl rfl T.range (ae (aO k_law_digit hr.md (ae (qv 0) (ae (eU (qv 1) aB) ah))) ah) (aQ 4 nd) (ar (cL (qr hr.units (kO (eU (qv 3) (qv 4)) aB) aB) (ar (aS 2 nd (eU (qv 2) kF))) (ar (aS 2 nd (eU (qv 2) (bf kF (aO k_law_digit hr.md (ae (qv 0) (ae aB ah))) (λ_ _=>rfl)))))))) (ar (a8 (qv 2)))))),we⟩
theorem tZ (F:Df K mg "_law_told" gR ["_law_table_here"]) {n:Jy} (TC:Tc K w n) (kx_core:fG P w K mg base 4 "core" fg):Known P w K mg base 5 "_law_told" cU :=
 have nd:=lZ.nd;F.known lZ rm λfa cdv A outer s H E hr=>⟨jC,(ar (Dp rfl rfl TC.n_TooMany TC.n_TooMany TC.l8 (C4 kx_core hr.md (ae (qv 0) ah)) (λ_=>(ar (a8 Cm))))),uD⟩
theorem nJ (F:Df K mg "_law_back_word" c7 ["_law_table_here","_law_word_here"]) (T:Txt mg) (k_law_led:Known P w K mg base 1 "_law_led" dg):Known P w K mg base 2 "_law_back_word" cE :=
 have nd:=iD.nd;F.known iD lS λfa cdv A outer s H E hr=>⟨gk,(aj (aS 2 nd aB) (aj (jy LN (vA hr.units (QF.e (nS (N':=["_law_place","_law_table_here","_law_word_here","_law_often"]) (ix:=[0,1,2]) rfl (bK.of (aq c7) rfl rfl (by decide +kernel) (by decide +kernel) (by decide +kernel) (λj i h=>match j,h with | 0,h=>by cases h;exact⟨_,rfl,rfl,by decide,rfl⟩ | 1,h=>by cases h;exact⟨_,rfl,rfl,by decide,rfl⟩ | 2,h=>by cases h;exact⟨_,rfl,rfl,by decide,rfl⟩ | _ + 3,h=>by simp at h) rfl) (by decide) rfl rfl rfl T.range (ae (fC T.len (ae (bf (qv 0) aB (λ_ _=>rfl)) ah)) ah) (λC s H fp pins=>(A3 rfl (vA hr.units (aO k_law_led hr.md (ae (qv 1) (ae (qv 0) (ae (EA (qv 2) (qv 3)) ah)))) (qv 0)))) (λC s H fp pins=>(qv 0)))) (lh ah)) (ar (aS 2 nd (eU (qv 2) aB)))) (ar (a8 (EA (qv 1) (qv 2)))))),nW⟩
theorem kU (F:Df K mg "_law_same_turned" cG ["_law_table_here"]) (T:Txt mg) (k_numbered:Known P w K mg base 2 "numbered" fE):Known P w K mg base 3 "_law_same_turned" bB :=
 have nd:=gL.nd;F.known gL kE λfa cdv A outer s H E hr=>⟨ft,(ar (a8 (Ji T.all (ae (QF.e (nS (N':=["_law_place","_law_table_here"]) (ix:=[0]) rfl (bK.of (aq cG) rfl rfl (by decide +kernel) (by decide +kernel) (by decide +kernel) (λj i h=>match j,h with | 0,h=>by cases h;exact⟨_,rfl,rfl,by decide,rfl⟩ | _ + 1,h=>by simp at h) rfl) (by decide) rfl rfl rfl T.range (ae (fC T.len (ae (bf (qv 0) aB (λ_ _=>rfl)) ah)) ah) (λC s H fp pins=>dE) (λC s H fp pins=>(C0 hr.units (aO k_numbered hr.md (ae (vi T.list (ae (bf (qv 1) aB (λ_ _=>rfl)) ah)) (ae (vi T.list (ae (bf (qv 1) aB (λ_ _=>rfl)) ah)) (ae (qv 0) ah)))) (qv 1))))) ah)))),lA⟩
theorem oN (F:Df K mg "_law_by_words" dM ["_law_table_here","_law_inner","_law_rest"]) (T:Txt mg) (k_law_back_word:Known P w K mg base 2 "_law_back_word" cE) (k_law_led:Known P w K mg base 1 "_law_led" dg) (k_law_word:Known P w K mg base 2 "_law_word" eN):Known P w K mg base 3 "_law_by_words" cR :=
 have nd:=jc.nd;F.known jc nI λfa cdv A outer s H E hr=>⟨gK,(aj (gO LN rfl rfl T.range (ae aB ah) (aQ 3 nd) (aj (aS 4 nd (aO k_law_word hr.md (ae (qv 2) (ae aB ah)))) (aj (cL (Ej (qv 3) aB) (ar (aS 4 nd (aO k_law_back_word hr.md (ae (qv 1) (ae (aO k_law_word hr.md (ae (qv 2) (ae aB ah))) ah))))) bt) (aj (uG 5 nd (N':=["_law_place","_law_table_here","_law_word_here"]) (ix:=[0,4]) rfl (bK.of (aq dM) rfl rfl (by decide +kernel) (by decide +kernel) (by decide +kernel) (λj i h=>match j,h with | 0,h=>by cases h;exact⟨_,rfl,rfl,by decide,rfl⟩ | 1,h=>by cases h;exact⟨_,rfl,rfl,by decide,rfl⟩ | _ + 2,h=>by simp at h) rfl) (by decide) rfl rfl rfl T.range (ae (fC T.len (ae (bf (qv 0) aB (λ_ _=>rfl)) ah)) ah) (λC s H fp pins=>dE) (λC s H fp pins=>(aO k_law_led hr.md (ae (qv 1) (ae (qv 0) (ae (qv 2) ah)))))) (ar (cL (vA hr.units (C0 hr.units (aO k_law_led hr.md (ae (qv 1) (ae aB (ae (qv 4) ah)))) aB) (C0 hr.units (qv 5) (QF.e (wa T.list T.range (ae (fC T.len (ae (bf (qv 0) aB (λ_ _=>rfl)) ah)) ah))))) (ar (a8 Ae)) bt)))))) (ar (a8 Ae))),oP⟩
theorem GL {fa:Addr} {fd:FuncData} (F:uH K "law" "law" CQ fa fd) (T:Txt mg) (k_law_big:Known P w K mg base 2 "_law_big" gB) (k_law_by_words:Known P w K mg base 3 "_law_by_words" cR) (k_law_drawK:Known P w K mg base 4 "_law_drawn" cT) (k_law_same_turned:Known P w K mg base 3 "_law_same_turned" bB) (k_law_toldK:Known P w K mg base 5 "_law_told" cU) (k_core:Known P w K mg base 4 "core" m6) (k_is_within:Known P w K mg base 1 "is_within" dC) (k_meet:Known P w K mg base 4 "meet" xn):pU P w K mg base Al 6 fa fd ["_law_script"] (Hv K (Aj 63)) :=
 have nd:=Bf.nd;uH.Ja F Bf DG λcdv A outer s H E hr=>⟨AL,(aj (gO LN rfl rfl T.range (ae (Jp T.max (ae aB (ae (ID T.min (ae aB (ae (fC T.len (ae (qv 0) ah)) ah))) ah))) ah) (aQ 1 nd) (aj (xH 2 nd (aO k_law_big hr.md (ae (qv 0) (ae (qv 1) ah)))) (aj (aS 3 nd (aO k_law_drawK hr.md (ae (qv 2) ah))) (aj (aS 4 nd (aO k_law_toldK hr.md (ae (qv 3) ah))) (aj (cL (Jc (qv 4) Cm) (aj (aS 3 nd (a7 (ae (a7 (ae aB (ae aB (ae aB ah)))) (ae (a7 (ae aB (ae aB (ae aB ah)))) ah)))) (ar (aS 4 nd (aO k_core hr.md (ae (qv 3) ah))))) bt) (aj (cL (QW.t (wj (nZ (nT (aO k_law_same_turned hr.md (ae (qv 4) ah)))) (wj (nZ (nT (aO k_is_within hr.md (ae (qv 4) (ae (qv 3) ah))))) (xK (vA hr.units (aO k_core hr.md (ae (qv 4) ah)) (qv 4)))))) (ar (a8 Ae)) bt) (aj (cL (nZ (nT (aO k_law_by_words hr.md (ae (qv 3) (ae (qv 4) (ae (qv 2) ah)))))) (ar (a8 Ae)) bt) (aj (aS 5 nd (aO k_law_toldK hr.md (ae (aO k_law_drawK hr.md (ae (qv 2) ah)) ah))) (ar (cL (QW.t (tO (GB (qv 5) Cm) (o8 (Kb (sv (fC T.len (ae (bf (qv 5) aB (λ_ _=>rfl)) ah)) (fC T.len (ae (bf (qv 4) aB (λ_ _=>rfl)) ah))) aB)))) (aj (aS 6 nd (aO k_meet hr.md (ae (qv 4) (ae (qv 5) ah)))) (ar (cL (QW.t (wj (nZ (nT (aO k_law_same_turned hr.md (ae (qv 6) ah)))) (wj (nZ (nT (aO k_is_within hr.md (ae (qv 6) (ae (qv 4) ah))))) (xK (vA hr.units (aO k_core hr.md (ae (qv 6) ah)) (qv 6)))))) (ar (a8 Ae)) bt))) bt)))))))))) (ar (a8 Ae))),FZ⟩
end
theorem all_mk {l:PySem.W.OpenLaw} {w:World} {K:Le} {h:Heap} {mg:Str->Option Value} {fa:Addr} {c_TooMany:Addr} {t_MOST_PLACES:Tok} (X:K.In h) (G:h.Ns mainGlobals mg) (hfa:mg "law" = some (.ref fa))
  (D1:cj K "met_from" iU)
  (D2:cj K "renumbered" cY)
  (D3:cj K "lead_back" gW)
  (D4:cj K "numbered" iY)
  (D5:cj K "table_led" gT)
  (D6:cj K "pair_behind" fR)
  (D8:cj K "is_within" gX)
  (D9:cj K "spread_behind" cB)
  (D11:cj K "_law_cell_at" fQ)
  (D12:cj K "_law_big" j9)
  (D13:cj K "_law_digit" gZ)
  (D14:cj K "_law_fractions" eI)
  (D15:cj K "_law_marks" fT)
  (D16:cj K "_law_fan" jX)
  (D17:cj K "_law_tiles" gV)
  (D18:cj K "_law_gaps" gQ)
  (D19:cj K "_law_links" hJ)
  (D20:cj K "_law_anew" fL)
  (D21:cj K "_law_table" gU)
  (D22:cj K "_law_led" jW)
  (D23:cj K "_law_drawn" gY)
  (D24:cj K "_law_word" iX)
  (D25:cj K "_law_told" gR)
  (D26:cj K "_law_back_word" c7)
  (D27:cj K "_law_same_turned" cG)
  (D28:cj K "_law_by_words" dM)
  (D29:cj K "law" CQ)
  (D7:uj K "meet" pP "meet.<locals>.<lambda>")
  (D10:uj K "core" qG "core.<locals>.<lambda>")
  (z0:PySem.W.nsIn K mainGlobals "abs" = some none)
  (z1:PySem.W.nsIn K mainGlobals "all" = some none)
  (z2:PySem.W.nsIn K mainGlobals "enumerate" = some none)
  (z3:PySem.W.nsIn K mainGlobals "int" = some none)
  (z4:PySem.W.nsIn K mainGlobals "len" = some none)
  (z5:PySem.W.nsIn K mainGlobals "list" = some none)
  (z6:PySem.W.nsIn K mainGlobals "max" = some none)
  (z7:PySem.W.nsIn K mainGlobals "min" = some none)
  (z8:PySem.W.nsIn K mainGlobals "range" = some none)
  (z9:PySem.W.nsIn K mainGlobals "tuple" = some none)
  (z10:PySem.W.nsIn K mainGlobals "zip" = some none)
  (g_MOST_PLACES:PySem.W.nsIn K mainGlobals "MOST_PLACES" = some (some (.int 60 t_MOST_PLACES)))
  (n_TooMany:PySem.W.nsIn K mainGlobals "TooMany" = some (some (.ref c_TooMany)))
  (e_TooMany:PySem.W.excIn K c_TooMany [.type "ValueError",.type "Exception",.type "BaseException",.type "object"] "ValueError.__new__" = true)
  (o1_TooMany:PySem.W.findIn K (.ref c_TooMany) "__getattribute__" = some (some (.builtin "BaseException.__getattribute__")))
  (o2_TooMany:PySem.W.findIn K (.ref c_TooMany) "__getattr__" = some none)
  (o3_TooMany:PySem.W.hasDictIn K c_TooMany=true)
  (o4_TooMany:PySem.W.findIn K (.ref c_TooMany) "__class__" = some (some (.builtin "object.__class__")))
  (o5_TooMany:PySem.W.specialIn K (.builtin "object.__class__") "__get__" = some (some (.builtin "getset_descriptor.__get__")))
  (o6_TooMany:PySem.W.takesIn K (.builtin "object.__class__")=some true)
  (o7_TooMany:PySem.W.mroIn K c_TooMany (.type "object")=some true)
  (o8_TooMany:PySem.W.subIn K (.ref c_TooMany) (.type "BaseException")=some true)
  (u1_TooMany_TooMany:PySem.W.typeIn K (.ref c_TooMany)=some (.type "type"))
  (u2_TooMany_TooMany:PySem.W.hasDictIn K c_TooMany=true)
  (u3_TooMany_TooMany:PySem.W.subIn K (.ref c_TooMany) (.type "BaseException")=some true)
  (u4_TooMany_TooMany:PySem.W.subIn K (.ref c_TooMany) (.ref c_TooMany)=some true)
  : ∃fd:FuncData,(∀(s:Shared) (v:Value),BindsTo s fd ⟨[v],[]⟩ [("_law_script",v)])/\∀base:Heap,K.In base->base.Ns mainGlobals mg->pU l.prog w K mg base Al 6 fa fd ["_law_script"] (Hv K (Aj 63)):=by
 have T:Txt mg:=⟨PySem.W.mg_none_of X G z0,PySem.W.mg_none_of X G z1,PySem.W.mg_none_of X G z2,PySem.W.mg_none_of X G z3,PySem.W.mg_none_of X G z4,PySem.W.mg_none_of X G z5,PySem.W.mg_none_of X G z6,PySem.W.mg_none_of X G z7,PySem.W.mg_none_of X G z8,PySem.W.mg_none_of X G z9,PySem.W.mg_none_of X G z10⟩;have TC:Tc K w ⟨c_TooMany,t_MOST_PLACES⟩:=⟨g_MOST_PLACES,n_TooMany,e_TooMany,o1_TooMany,o2_TooMany,o3_TooMany,o4_TooMany,o5_TooMany,o6_TooMany,o7_TooMany,o8_TooMany,u1_TooMany_TooMany,u2_TooMany_TooMany,u3_TooMany_TooMany,u4_TooMany_TooMany⟩
 obtain⟨dl,FL,bl⟩:=D29.K1 X G hfa λ_ _ _ _ _ _ _=>rfl;refine⟨dl,bl,λbase _ _=>?_⟩;have F1:Df K mg _ iU ["halves","thirds","first"]:=⟨D1.get X G λ_ _ _ _ _ _=>EZ λ_ _ _=>rfl⟩
 have k_met_from:=wc (P:=l.prog) (w:=w) (mg:=mg) (base:=base) F1 T;have F2:Df K mg _ cY ["halves","thirds","met"]:=⟨D2.get X G λ_ _ _ _ _ _=>EZ λ_ _ _=>rfl⟩
 have k_renumbered:=rC (P:=l.prog) (w:=w) (mg:=mg) (base:=base) F2 T;have F3:Df K mg _ gW ["halves","thirds"]:=⟨D3.get X G λ_ _ _ _ _ _=>zK λ_ _=>rfl⟩
 have k_lead_back:=tS (P:=l.prog) (w:=w) (mg:=mg) (base:=base) F3 T;have F6:Df K mg _ fR ["one","other","pair"]:=⟨D6.get X G λ_ _ _ _ _ _=>EZ λ_ _ _=>rfl⟩
 have kA_pair_behind:=λbase:Heap=>jU (P:=l.prog) (w:=w) (mg:=mg) (base:=base) F6;have k_pair_behind:=jU (P:=l.prog) (w:=w) (mg:=mg) (base:=base) F6;have F8:Df K mg _ gX ["one","other"]:=⟨D8.get X G λ_ _ _ _ _ _=>zK λ_ _=>rfl⟩
 have k_is_within:=t9 (P:=l.prog) (w:=w) (mg:=mg) (base:=base) F8 T;have F9:Df K mg _ cB ["table","spread"]:=⟨D9.get X G λ_ _ _ _ _ _=>zK λ_ _=>rfl⟩
 have kA_spread_behind:=λbase:Heap=>iF (P:=l.prog) (w:=w) (mg:=mg) (base:=base) F9 T;have k_spread_behind:=iF (P:=l.prog) (w:=w) (mg:=mg) (base:=base) F9 T;have F11:Df K mg _ fQ ["_law_script","_law_k"]:=⟨D11.get X G λ_ _ _ _ _ _=>zK λ_ _=>rfl⟩
 have k_law_cell_at:=qp (P:=l.prog) (w:=w) (mg:=mg) (base:=base) F11 T;have F13:Df K mg _ gZ ["_law_rest","_law_many"]:=⟨D13.get X G λ_ _ _ _ _ _=>zK λ_ _=>rfl⟩
 have k_law_digit:=sP (P:=l.prog) (w:=w) (mg:=mg) (base:=base) F13;have F17:Df K mg _ gV ["_law_fractions_here"]:=⟨D17.get X G λ_ _ _ _ _ _=>A6 λ_=>rfl⟩
 have k_law_tiles:=tX (P:=l.prog) (w:=w) (mg:=mg) (base:=base) F17 T;have F18:Df K mg _ gQ ["_law_fractions_here"]:=⟨D18.get X G λ_ _ _ _ _ _=>A6 λ_=>rfl⟩
 have k_law_gaps:=wH (P:=l.prog) (w:=w) (mg:=mg) (base:=base) F18 T;have F20:Df K mg _ fL ["_law_halves","_law_thirds","_law_first"]:=⟨D20.get X G λ_ _ _ _ _ _=>EZ λ_ _ _=>rfl⟩
 have k_law_anew:=vd (P:=l.prog) (w:=w) (mg:=mg) (base:=base) F20 T;have F22:Df K mg _ jW ["_law_table_here","_law_place","_law_word_here"]:=⟨D22.get X G λ_ _ _ _ _ _=>EZ λ_ _ _=>rfl⟩
 have k_law_led:=xB (P:=l.prog) (w:=w) (mg:=mg) (base:=base) F22;have F4:Df K mg _ iY ["halves","thirds","first"]:=⟨D4.get X G λ_ _ _ _ _ _=>EZ λ_ _ _=>rfl⟩
 have k_numbered:=uV (P:=l.prog) (w:=w) (mg:=mg) (base:=base) F4 T k_lead_back k_met_from k_renumbered;have F12:Df K mg _ j9 ["_law_script","_law_at"]:=⟨D12.get X G λ_ _ _ _ _ _=>zK λ_ _=>rfl⟩
 have k_law_big:=xk (P:=l.prog) (w:=w) (mg:=mg) (base:=base) F12 T k_law_cell_at;have F14:Df K mg _ eI ["_law_rest","_law_many"]:=⟨D14.get X G λ_ _ _ _ _ _=>zK λ_ _=>rfl⟩
 have k_law_fractions:=nN (P:=l.prog) (w:=w) (mg:=mg) (base:=base) F14 T k_law_digit;have F15:Df K mg _ fT ["_law_rest","_law_many"]:=⟨D15.get X G λ_ _ _ _ _ _=>zK λ_ _=>rfl⟩
 have k_law_marks:=uA (P:=l.prog) (w:=w) (mg:=mg) (base:=base) F15 T k_law_digit;have F19:Df K mg _ hJ ["_law_fan_here"]:=⟨D19.get X G λ_ _ _ _ _ _=>A6 λ_=>rfl⟩
 have k_law_links:=ug (P:=l.prog) (w:=w) (mg:=mg) (base:=base) F19 T k_law_gaps k_law_tiles;have F24:Df K mg _ iX ["_law_rest","_law_most"]:=⟨D24.get X G λ_ _ _ _ _ _=>zK λ_ _=>rfl⟩
 have k_law_word:=vG (P:=l.prog) (w:=w) (mg:=mg) (base:=base) F24 T k_law_digit;have F26:Df K mg _ c7 ["_law_table_here","_law_word_here"]:=⟨D26.get X G λ_ _ _ _ _ _=>zK λ_ _=>rfl⟩
 have k_law_back_word:=nJ (P:=l.prog) (w:=w) (mg:=mg) (base:=base) F26 T k_law_led;have F5:Df K mg _ gT ["first","behind"]:=⟨D5.get X G λ_ _ _ _ _ _=>zK λ_ _=>rfl⟩
 have at_table_led:=F5.at_;have kxA_table_led:=λ(base:Heap) (Pf:Le->Hp->Addr->Prop) (φ:Fw) (hF:kT l.prog w K mg base 2 Pf φ)=>rE (P:=l.prog) (w:=w) (mg:=mg) (base:=base) F5 T TC hF;have F16:Df K mg _ jX ["_law_rest","_law_most","_law_great"]:=⟨D16.get X G λ_ _ _ _ _ _=>EZ λ_ _ _=>rfl⟩
 have k_law_fan:=xm (P:=l.prog) (w:=w) (mg:=mg) (base:=base) F16 k_law_digit k_law_fractions k_law_marks;have F21:Df K mg _ gU ["_law_fan_here"]:=⟨D21.get X G λ_ _ _ _ _ _=>A6 λ_=>rfl⟩
 have k_law_table:=tP (P:=l.prog) (w:=w) (mg:=mg) (base:=base) F21 k_law_anew k_law_links;have F27:Df K mg _ cG ["_law_table_here"]:=⟨D27.get X G λ_ _ _ _ _ _=>A6 λ_=>rfl⟩
 have k_law_same_turned:=kU (P:=l.prog) (w:=w) (mg:=mg) (base:=base) F27 T k_numbered;have F28:Df K mg _ dM ["_law_table_here","_law_inner","_law_rest"]:=⟨D28.get X G λ_ _ _ _ _ _=>EZ λ_ _ _=>rfl⟩
 have k_law_by_words:=oN (P:=l.prog) (w:=w) (mg:=mg) (base:=base) F28 T k_law_back_word k_law_led k_law_word;have F7:Fs K mg _ pP ["one","other"] _:=D7.get X G λ_ _ _ _ _ _=>zK λ_ _=>rfl
 have kx_meet:=Ax (P:=l.prog) (w:=w) (mg:=mg) (base:=base) F7 kxA_table_led at_table_led kA_pair_behind;have k_meet:Known l.prog w K mg base 4 "meet" xn:=kx_meet.plain
 have F10:Fs K mg _ qG ["table"] _:=D10.get X G λ_ _ _ _ _ _=>A6 λ_=>rfl
 have kx_core:=Cq (P:=l.prog) (w:=w) (mg:=mg) (base:=base) F10 T kxA_table_led at_table_led kA_spread_behind;have k_core:Known l.prog w K mg base 4 "core" m6:=kx_core.plain
 have F23:Df K mg _ gY ["_law_rest"]:=⟨D23.get X G λ_ _ _ _ _ _=>A6 λ_=>rfl⟩
 have k_law_drawK:=ui (P:=l.prog) (w:=w) (mg:=mg) (base:=base) F23 T k_law_anew k_law_digit k_law_fan k_law_table;have F25:Df K mg _ gR ["_law_table_here"]:=⟨D25.get X G λ_ _ _ _ _ _=>A6 λ_=>rfl⟩
 have k_law_toldK:=tZ (P:=l.prog) (w:=w) (mg:=mg) (base:=base) F25 TC kx_core;exact GL FL T k_law_big k_law_by_words k_law_drawK k_law_same_turned k_law_toldK k_core k_is_within k_meet
end KR
namespace PySem.W.Fast
theorem tw4204681814165990533:True:=trivial
theorem tw4996646416603648843:True:=trivial
theorem tw10338533600965739673:True:=trivial
theorem tw5345901677062222798:True:=trivial
theorem tw10496132514037844998:True:=trivial
theorem tw10469184213636425569:True:=trivial
theorem tw5881671495997842166:True:=trivial
theorem tw3255045742174161948:True:=trivial
theorem tw10224482094591244496:True:=trivial
theorem tw16858752666483073337:True:=trivial
theorem tw13471282809019758631:True:=trivial
theorem tw8675754311565884527:True:=trivial
theorem tw9368936317985884654:True:=trivial
theorem tw15305366346787619563:True:=trivial
theorem tw8716292740149845416:True:=trivial
theorem tw3916527925419519694:True:=trivial
theorem tw1362890077656631892:True:=trivial
theorem tw16912798599526106471:True:=trivial
theorem tw10588580948711881122:True:=trivial
theorem tw16317988483222541581:True:=trivial
theorem tw13516587815966259521:True:=trivial
theorem tw18089772521848019286:True:=trivial
theorem tw1433824887058531518:True:=trivial
theorem tw7228350150138064764:True:=trivial
theorem tw2412278018186104944:True:=trivial
theorem tw13283967247320597416:True:=trivial
theorem tw3166276578429025125:True:=trivial
theorem tw4323969326424125374:True:=trivial
theorem tw3192351307910919202:True:=trivial
theorem tw905164978536735859:True:=trivial
theorem tw4991774763785347688:True:=trivial
theorem tw17503850775001648072:True:=trivial
theorem tw14098861508690374035:True:=trivial
theorem tw15710915121095795776:True:=trivial
theorem tw13451901078317528130:True:=trivial
theorem tw17751520665557419584:True:=trivial
theorem tw13731696541428782766:True:=trivial
theorem tw4570055766272260440:True:=trivial
theorem tw12526958685060207447:True:=trivial
theorem tw8433711375336381218:True:=trivial
theorem tw17160297989510831604:True:=trivial
theorem tw3710407012226934358:True:=trivial
theorem tw17875581642571692037:True:=trivial
theorem tw7012612317519645965:True:=trivial
theorem tw7498463120205720630:True:=trivial
theorem tw681991666127715809:True:=trivial
theorem tw5620578205145411350:True:=trivial
theorem tw17288633593886869305:True:=trivial
theorem tw1313796033224091088:True:=trivial
theorem tw15736668254054669335:True:=trivial
theorem tw12126530845263739795:True:=trivial
theorem tw12571273261048275845:True:=trivial
theorem tw13809837147645412611:True:=trivial
theorem tw687858190907591823:True:=trivial
theorem tw7316605095298228406:True:=trivial
theorem tw3254512293774282543:True:=trivial
theorem tw17319802712343379752:True:=trivial
theorem tw1554133702076058655:True:=trivial
theorem tw778204621005683660:True:=trivial
theorem tw1262558674514452905:True:=trivial
theorem tw3344838054588043934:True:=trivial
theorem tw17054720335236517159:True:=trivial
theorem tw9011567849771952027:True:=trivial
theorem tw17568167117683948932:True:=trivial
theorem tw10975189759853944646:True:=trivial
theorem tw8514747823726546469:True:=trivial
theorem tw13430217263473875875:True:=trivial
theorem tw12368509253733297683:True:=trivial
theorem tw2515980504996424290:True:=trivial
theorem tw12347763101806851269:True:=trivial
theorem tw12713597667092610049:True:=trivial
theorem tw14138882149626255579:True:=trivial
end PySem.W.Fast
open PySem PySem.W PyProof.Rows
set_option maxRecDepth 100000 in
set_option maxHeartbeats 0 in
theorem PySem.Challenge.cw_fanglue_k47_whole_cores_holds : PySem.Challenge.rw_fanglue_k47_whole_cores.Holds := by
 w_on;o_law;k_head;(case hw=>w_witness2)
 k_fill
 refine L2.Dd (l:=PySem.Challenge.rw_fanglue_k47_whole_cores) (n:=63) (k:=6) (x:="_law_script") (CX:=λ_=>L2.Al) (sp:=λw=>L2.L3.Hv _ (L2.L3.Aj 63)) rfl (by decide) rfl ⟨rfl,by decide,by decide⟩ (λw=>by kernel_rfl) (λw=>by kernel_rfl) (λw h Y=>PySem.W.km_in_of Y) ?F (λ_ _ a ns hl hS=>L2.L3.GQ hl hS) (λ_ _ _ _ _ z=>z)
 case F =>
  intro w mg fa h KX G hmg
  refine' KR.all_mk KX G hmg ?_ ?_ ?_ ?_ ?_ ?_ ?_ ?_ ?_ ?_ ?_ ?_ ?_ ?_ ?_ ?_ ?_ ?_ ?_ ?_ ?_ ?_ ?_ ?_ ?_ ?_ ?_ ?_ ?_ ?_ ?_ ?_ ?_ ?_ ?_ ?_ ?_ ?_ ?_ ?_ ?_ ?_ ?_ ?_ ?_ ?_ ?_ ?_ ?_ ?_ ?_ ?_ ?_ ?_ ?_
  rotate_left 2
  iterate 27 exact⟨⟨_,_,_,_,_,_,_,_,_,_,by k_is,by k_is,by k_is,by k_is⟩⟩
  iterate 2 exact⟨⟨_,_,_,_,_,_,_,_,_,_,by k_is,by k_is,by k_is,by k_is,L2.L3.IE (by rfl) (by k_is) (by rfl) (by rfl) (by rfl) (by rfl) (by rfl) (by rfl) (by rfl) (by rfl) (by decide) (by kernel_rfl)⟩⟩
  iterate 11 k_is
  iterate 2 (k_is)
  k_exc
  iterate 12 (k_is)
