import PyProof.Rows.All
import Wide.All
import OpenK.AllK
import Wide.FinOn
import Lean
import PyProof.EqAt
import PyProof.EqKinds
import PyProof.TupleCall
import PyProof.NeKinds
import PyProof.CompFree
import KE.KIsAll
import OpenK.KOwn
import PyProof.RulesAs
import KE.RegKIsAll
import PyProof.ExcAttrAll.ValueError
import KE.KUnpack
import PyProof.Rows.StrWeight2
import PyProof.StrBlockI
import OpenK.KTop
import PyProof.ListStr
import PyProof.EnumMake
import PyProof.TupleIter
import PyProof.ListRange
import PyProof.PassesOwn
import PyProof.ExcInit
import PyProof.InstStoreFacts
import PyProof.DictFindH
import PyProof.DictIter
import PyProof.DictWalks
import PyProof.DictCompW
import PyProof.DictUpdate
import PyProof.SumWalk
import PyProof.ZipIter
import PyProof.TupleOfStr
import PySem.Challenge.RW_fanglue_k42_whole_meets_by_words
set_option Elab.async false
set_option linter.all false
set_option maxRecDepth 100000
open PySem renaming wpAny_bind->Iw,wpAny_pure->ID,sizeLine_eq->IX,wpAny_mono->Jh,wpAny_callSpecial?_slot->Jq,foldedSetIterable->Jt
open List renaming getElem?_eq_some_iff->Iy,getElem?_set_ne->IA,getElem?_eq_getElem->IE,mem_of_getElem?->IG,getElem?_set_self->IH,getElem?_map->IJ,length_map->IK,getElem?_append_right->IQ,mem_cons_of_mem->IT,size_toArray->IV,getElem?_append_left->IW,mem_singleton->IY,mem_cons->IZ,getElem?_eq_none->Ja,mem_cons_self->Jb,mem_append->Jc,length_append->Jd,getElem?_cons_succ->Je,getElem?_cons_zero->Jf,not_mem_nil->Jg,map_cons->Ji,getElem?_of_mem->Jl,mem_map->Jn,length_cons->Jo,getElem?_replicate->Jp,mem_append_right->Jr,getElem?_range->Jv,append_nil->Jw,nodup_cons->Jx,getD_eq_getElem?_getD->Jy,mem_range->JB,mem_append_left->JD,drop_eq_nil_of_le->JE,length_nil->JF,nodup_append->JJ,getElem_mem->JK,take_of_length_le->JL,take_succ->JP,getElem?_drop->JT
open PySem.W renaming Frag->IB,mg_of->JM
open PySem.Heap renaming get?_push_of_some->IC,get?_push_size->IS,lt_size->IU
open Bool renaming false_eq_true->IF,and_true->JR
open Nat renaming le_refl->II,lt_of_lt_of_le->IP,ne_of_lt->Jj,lt_succ_iff_lt_or_eq->Jm,zero_le->Ju,le_trans->Jz,not_lt_zero->JA,lt_or_ge->JG,lt_of_le_of_lt->JQ,le_of_lt->JS
open Option.some renaming inj->IL
open PySem.PassesOwn renaming never->Jk
open Option renaming map_eq_some_iff->Js
open Array renaming getElem?_eq_some_iff->JC,getElem?_toList->JI
open Prod renaming ext->JH
open Int renaming toNat_of_nonneg->JN
open PySem.Calls renaming spliced_cons->JO
namespace L2
open PySem PySem.Spec PyProof.Rows
abbrev Key:=Sum Int Str
def pD:Key->Value->Bool
 | .inl k,v=>Value.isInt k v
 | .inr x,v=>Value.isStrOf x v
def Hb (w:World):Key->Int
 | .inl k=>hashInt k
 | .inr x=>hashStr w x
theorem bZ:∀{k:Key} {v:Value},pD k v=true->(∃i t,k=Sum.inl i/\v=Value.int i t)\/(∃x t,k=Sum.inr x/\v=Value.str x t)
 | .inl i,v,h=>by
  obtain⟨t,e⟩:=Value.isInt_shape (k:=i) (v:=v) h
  exact .inl ⟨i,t,rfl,e⟩
 | .inr x,v,h=>by
  obtain⟨t,e⟩:=Value.isStrOf_shape (x:=x) (v:=v) h;exact .inr ⟨x,t,rfl,e⟩
theorem p7 (i:Int) (t:Tok):pD (.inl i) (.int i t)=true:=by simp [pD,Value.isInt]
theorem xS (x:Str) (t:Tok):pD (.inr x) (.str x t)=true:=by simp [pD,Value.isStrOf]
theorem Dh (a b:Int):decide ((Sum.inl a:Key)=Sum.inl b)=(a == b):=by
 by_cases e:a=b
 ·subst e;simp
 ·have h:¬ (Sum.inl a:Key)=Sum.inl b:=λq=>e (Sum.inl.inj q);rw [decide_eq_false h];exact (beq_eq_false_iff_ne.mpr e).symm
theorem DP (a b:Str):decide ((Sum.inr a:Key)=Sum.inr b)=decide (a=b):=by
 by_cases e:a=b
 ·subst e;simp
 ·have h:¬ (Sum.inr a:Key)=Sum.inr b:=λq=>e (Sum.inr.inj q);rw [decide_eq_false h,decide_eq_false e]
theorem C4 (a:Int) (b:Str):decide ((Sum.inl a:Key)=Sum.inr b)=false:=decide_eq_false (λq=>nomatch q)
theorem Dt (a:Str) (b:Int):decide ((Sum.inr a:Key)=Sum.inl b)=false:=decide_eq_false (λq=>nomatch q)
def bX (prog:Program) (w:World):PySem.KeyKind prog w Key where
 is:=pD
 hash:=Hb w
 inj:=λv a b ha hb=>by
  rcases bZ ha with ⟨i,t,rfl,rfl⟩|⟨x,t,rfl,rfl⟩
  ·rcases bZ hb with ⟨j,u,rfl,e⟩|⟨y,u,rfl,e⟩
   ·injection e with e1 _;rw [e1]
   ·exact nomatch e
  ·rcases bZ hb with ⟨j,u,rfl,e⟩|⟨y,u,rfl,e⟩
   ·exact nomatch e
   ·injection e with e1 _;rw [e1]
 byValue:=λk v h=>by
  rcases bZ h with ⟨i,t,rfl,rfl⟩|⟨x,t,rfl,rfl⟩ <;> rfl
 pyHash:=λhv h=>by
  rcases bZ hv with ⟨i,t,rfl,rfl⟩|⟨x,t,rfl,rfl⟩
  ·exact wpAny_pyHash_int h
  ·exact wpAny_pyHash_str h
 eqBool:=λhu hv h=>by
  rcases bZ hu with ⟨i,t,rfl,rfl⟩|⟨x,t,rfl,rfl⟩
  ·rcases bZ hv with ⟨j,u,rfl,rfl⟩|⟨y,u,rfl,rfl⟩
   ·rw [Dh] at h;exact wpAny_eqBool_int h
   ·rw [C4] at h;exact SeqAt.EqAt.int_str i t y u _ _ _ _ h
  ·rcases bZ hv with ⟨j,u,rfl,rfl⟩|⟨y,u,rfl,rfl⟩
   ·rw [Dt] at h;exact SeqAt.EqAt.str_int x t j u _ _ _ _ h
   ·rw [DP] at h;exact wpAny_eqBool_str h
 «strs»:=λk x t v h=>by
  rcases bZ h with ⟨i,u,rfl,e⟩|⟨y,u,rfl,e⟩
  ·exact nomatch e
  ·injection e with e1 _
   subst e1;cases v <;> rfl
theorem tN (prog:Program) (w:World) (i:Int) (t:Tok):(bX prog w).is (.inl i) (.int i t)=true:=p7 i t
theorem ur (prog:Program) (w:World) (x:Str) (t:Tok):(bX prog w).is (.inr x) (.str x t)=true:=xS x t
inductive V where
 | non|bl (b:Bool)|int (i:Int)|str (x:Str)|byt (b:Array UInt8)|flt (b:UInt64)|ref (a:Addr)|ty (n:String)
 deriving DecidableEq
def RelV:V->Value->Prop
 | .non,u=>u=Value.none
 | .bl b,u=>u=Value.bool b
 | .int i,u=>∃t,u=Value.int i t
 | .str x,u=>∃t,u=Value.str x t
 | .byt b,u=>∃t,u=Value.bytes b t
 | .flt b,u=>∃t,u=Value.float b t
 | .ref a,u=>u=Value.ref a
 | .ty n,u=>u=Value.type n
abbrev Vals:List V->List Value->Prop:=Paired RelV
theorem Vals.length {xs:List V} {us:List Value} (r:Vals xs us):xs.length=us.length:=Paired.length r
theorem Vals.get:∀{xs:List V} {us:List Value} {i:Nat} {x:V},Vals xs us->xs[i]?=some x->∃u,us[i]?=some u/\RelV x u
 | _,_,_,_,.nil,e=>by simp at e
 | _,_,0,_,.cons r _,e=>by simp at e;subst e;exact⟨_,rfl,r⟩
 | _,_,i + 1,x,.cons _ t,e=>by
  obtain⟨u,h1,h2⟩:=Vals.get (i:=i) (x:=x) t (by simpa using e);exact⟨u,by simpa using h1,h2⟩
theorem Vals.set {x:V} {u:Value} (r:RelV x u):∀{xs:List V} {us:List Value} (i:Nat),Vals xs us->Vals (xs.set i x) (us.set i u)
 | _,_,_,.nil=>.nil
 | _,_,0,.cons _ t=>.cons r t
 | _,_,i + 1,.cons q t=>.cons q (Vals.set r i t)
theorem Vals.append:∀{xs ys:List V} {us ws:List Value},Vals xs us->Vals ys ws->Vals (xs ++ ys) (us ++ ws)
 | _,_,_,_,.nil,s=>s
 | _,_,_,_,.cons r t,s=>.cons r (Vals.append t s)
theorem Vals.take:∀{xs:List V} {us:List Value} (n:Nat),Vals xs us->Vals (xs.take n) (us.take n)
 | _,_,0,_=>.nil
 | _,_,_ + 1,.nil=>.nil
 | _,_,n + 1,.cons r t=>.cons r (Vals.take n t)
theorem Vals.drop:∀{xs:List V} {us:List Value} (n:Nat),Vals xs us->Vals (xs.drop n) (us.drop n)
 | _,_,0,r=>r
 | _,_,_ + 1,.nil=>.nil
 | _,_,n + 1,.cons _ t=>Vals.drop n t
def tF:Option V->Option Value->Prop
 | some v,some u=>RelV v u
 | none,none=>True
 | _,_=>False
def KV {κ:Type}:List (κ×V)->List (κ×Value)->Prop:=Paired λ(p:κ×V) (q:κ×Value)=>p.1=q.1/\RelV p.2 q.2
def kV:Key->V
 | .inl i=>.int i
 | .inr x=>.str x
inductive HO where
 | lst (xs:List V)
 | tup (xs:List V)
 | dK (kvs:List (Key×V))|dT (kvs:List (List Key×V))
 | set (S:Int->Bool) (n:Nat)
 | ins (C dx:Addr) (fs:List (Str×V))
 | own (x:Addr)
 | xd (fs:List (Str×V))
 | met (f x:Addr)
 | rng (lo hi:Int)
 | frz (o:Obj) (u:HO)
 | m8 (q:Str)
 | cdr (c:Addr) (q:Str)
 | ext (φ:Heap->Prop)
abbrev Hp:=Addr->Option HO
def upd (H:Hp) (a:Addr) (o:HO):Hp:=λb=>if b=a then some o else H b
theorem au {H:Hp} {a:Addr} {o:HO}:upd H a o a=some o:=by unfold upd;rw [if_pos rfl]
theorem av {H:Hp} {a b:Addr} {o:HO} (h:b≠a):upd H a o b=H b:=by unfold upd;rw [if_neg h]
theorem bz {H:Hp} {a b:Addr} {o:HO} (h:H a=some o) (h':H b=none):a≠b:=by
 intro e;subst e;rw [h] at h';cases h'
def pz (h:Heap) (a:Addr) (its:Array Value):Prop:=∃o,h.get? a=some o/\o.cls=.type "tuple"/\(∃n,o.data=.seq its n)/\o.dict=none
theorem pz.tup {h:Heap} {a:Addr} {its:Array Value} (x:pz h a its):IsTup h a its:=let ⟨o,e,c,d,_⟩:=x;⟨o,e,c,d⟩
theorem pz.new (h:Heap) (its:Array Value):pz (h.push { cls:=.type "tuple",data:=.seq its }) h.objs.size its:=⟨_,IS _ rfl,rfl,⟨_,rfl⟩,rfl⟩
section
variable (P:Program) (w:World)
def bC (H:Hp) (h:Heap) (a:Addr):HO->Prop
 | .lst xs=>xs.length<=sizeLine/\∃(its:List Value) (n:Nat),Vals xs its/\h.get? a=some { cls:=.type "list",data:=.seq its.toArray n }
 | .tup xs=>xs.length<=sizeLine/\∃its:List Value,Vals xs its/\pz h a its.toArray
 | .dK kvs=>kvs.length<=sizeLine/\(a == sysModules)=false/\∃vs,KV kvs vs/\h.DictOf (bX P w) a vs
 | .dT kvs=>kvs.length<=sizeLine/\(a == sysModules)=false/\∃xs:List (List Key×Addr×Value),
   Paired (λ(p:List Key×V) (q:List Key×Addr×Value)=>p.1=q.1/\H q.2.1=some (.tup (p.1.map kV))/\RelV p.2 q.2.2) kvs xs /\
   ∃o es ep,h.get? a=some o/\o.ExactDict/\o.data=.dict es ep/\es.toList=xs.map (entryOfKey (tupleKind (bX P w)))/\(xs.map (·.1)).Nodup
 | .set S n=>h.SetOf (intKind P w) a S n
 | .ins C dx fs=>H dx=some (.own a)/\fs.length<=1000/\dx≠a/\h.get? a=some (PySem.W.instObj C dx) /\
   ∃mA,h.Ns1 dx mA/\(∀f,tF (fs.lookup f) (mA f))/\PySem.Within mA (fs.map (·.1))
 | .own _=>∃o,h.get? a=some o
 | .xd fs=>∃mA,h.Ns1 a mA/\∀f,tF (fs.lookup f) (mA f)
 | .rng lo hi=>∃t u v,h.get? a=some { cls:=.type "range",data:=.fields #[.int lo t,.int hi u,.int 1 v] }
 | .frz o u=>h.get? a=some o/\bC H h a u
 | .m8 q=>∃ps:Array Value,h.get? a=some { cls:=.none,data:=.fields ps }/\TriplesOk ps.toList/\∀pos cv,codeAmong pos ps.toList=some cv->∃c oc vs t,cv=.ref c/\H c=some (.frz oc (.own c))/\oc.data=.fields vs/\vs[1]?=some (.str q t)
 | .cdr c q=>(∃o,h.get? a=some o)/\∃oc vs t,H c=some (.frz oc (.own c))/\oc.data=.fields vs/\vs[1]?=some (.str q t)
 | .met f x=>h.get? a=some (PySem.W.methodObj (.ref f) (.ref x))
 | .ext φ=>φ h/\(∃o,h.get? a=some o)/\∀h1 h2:Heap,φ h1->(∀o,h1.get? a=some o->h2.get? a=some o)->φ h2
def jk (H:Hp) (h:Heap):Prop:=∀a o,H a=some o->bC P w H h a o
end
section
variable {P:Program} {w:World} {H H':Hp} {h h':Heap} {a:Addr} {o:HO}
theorem bC.lt (x:bC P w H h a o):a < h.objs.size:=by
 cases o with
 | lst xs=>obtain⟨_,_,_,_,e⟩:=x;exact IU e
 | tup xs=>obtain⟨_,_,_,p⟩:=x;exact p.tup.lt
 | dK kvs=>obtain⟨_,_,_,_,o,_,_,e,_⟩:=x;exact IU e
 | dT kvs=>obtain⟨_,_,_,_,o,_,_,e,_⟩:=x;exact IU e
 | set S n=>obtain⟨o,_,_,_,e,_⟩:=x;exact IU e
 | ins C dx fs=>obtain⟨_,_,_,e,_⟩:=x;exact IU e
 | own y=>obtain⟨_,e⟩:=x;exact IU e
 | xd fs=>obtain⟨_,⟨_,_,_,e,_⟩,_⟩:=x;exact IU e
 | rng lo hi=>obtain⟨_,_,_,e⟩:=x;exact IU e
 | frz ob u=>obtain⟨e,_⟩:=x;exact IU e
 | m8 q=>obtain⟨_,e,_⟩:=x;exact IU e
 | cdr c q=>obtain⟨⟨_,e⟩,_⟩:=x;exact IU e
 | met f y=>exact IU (show h.get? a=some _ from x)
 | ext φ=>obtain⟨_,⟨_,e⟩,_⟩:=x;exact IU e
theorem Paired.ET {α β:Type} {F G:α->β->Prop}:∀{l₁:List α} {l₂:List β},Paired F l₁ l₂->(∀a b,F a b->G a b)->Paired G l₁ l₂
 | _,_,.nil,_=>.nil
 | _,_,.cons r t,f=>.cons (f _ _ r) (Paired.ET t f)
theorem bC.nG (x:bC P w H h a o) (k:∀b u,(b=a\/H b=some (.own a))->h.get? b=some u->h'.get? b=some u)
  (ho:∀b,H b=some (.own a)->H' b=some (.own a)) (ht:∀b xs,H b=some (.tup xs)->H' b=some (.tup xs)) (hz:∀b o u,H b=some (.frz o u)->H' b=some (.frz o u)):bC P w H' h' a o:=by
 induction o with
 | lst xs=>obtain⟨z,its,n,r,e⟩:=x;exact⟨z,its,n,r,k _ _ (.inl rfl) e⟩
 | tup xs=>obtain⟨z,its,r,ob,e,c⟩:=x;exact⟨z,its,r,ob,k _ _ (.inl rfl) e,c⟩
 | dK kvs=>obtain⟨z,y,vs,r,ob,es,ep,e,c⟩:=x;exact⟨z,y,vs,r,ob,es,ep,k _ _ (.inl rfl) e,c⟩
 | dT kvs =>
  obtain⟨z,y,xs,r,ob,es,ep,e,c⟩:=x
  exact⟨z,y,xs,Paired.ET r λp q z=>⟨z.1,ht _ _ z.2.1,z.2.2⟩,ob,es,ep,k _ _ (.inl rfl) e,c⟩
 | set S n=>obtain⟨ob,es,ep,t,e,c⟩:=x;exact⟨ob,es,ep,t,k _ _ (.inl rfl) e,c⟩
 | ins C dx fs =>
  obtain⟨d,z,ne,e,mA,⟨od,es,ep,e2,c⟩,r⟩:=x
  exact⟨ho _ d,z,ne,k _ _ (.inl rfl) e,mA,⟨od,es,ep,k _ _ (.inr d) e2,c⟩,r⟩
 | own y=>obtain⟨ob,e⟩:=x;exact⟨ob,k _ _ (.inl rfl) e⟩
 | xd fs=>obtain⟨mA,⟨od,es,ep,e,c⟩,r⟩:=x;exact⟨mA,⟨od,es,ep,k _ _ (.inl rfl) e,c⟩,r⟩
 | rng lo hi=>obtain⟨t,u,v,e⟩:=x;exact⟨t,u,v,k _ _ (.inl rfl) e⟩
 | frz ob u ih=>obtain⟨e,q⟩:=x;exact⟨k _ _ (.inl rfl) e,ih q⟩
 | m8 q =>
  obtain⟨ps,e,t,r⟩:=x;refine⟨ps,k _ _ (.inl rfl) e,t,λpos cv hc=>?_⟩;obtain⟨c,oc,vs,tt,e1,e2,e3⟩:=r pos cv hc
  exact⟨c,oc,vs,tt,e1,hz _ _ _ e2,e3⟩
 | cdr c q =>
  obtain⟨⟨o,e⟩,oc,vs,t,r1,r2⟩:=x
  exact⟨⟨o,k _ _ (.inl rfl) e⟩,oc,vs,t,hz _ _ _ r1,r2⟩
 | met f y =>
  have e:h.get? a=some (PySem.W.methodObj (.ref f) (.ref y)):=x;show h'.get? a=some (PySem.W.methodObj (.ref f) (.ref y))
  exact k a _ (.inl rfl) e
 | ext φ=>obtain⟨p,⟨o,e⟩,st⟩:=x;exact⟨st _ _ p λo q=>k _ _ (.inl rfl) q,⟨o,k _ _ (.inl rfl) e⟩,st⟩
theorem jk.lt (x:jk P w H h) (e:H a=some o):a < h.objs.size:=(x a o e).lt
theorem jk.fresh (x:jk P w H h) (e:h.objs.size<=a):H a=none:=by
 cases q:H a with
 | none=>rfl
 | some u=>exact absurd (IP (x.lt q) e) (Nat.lt_irrefl _)
theorem jk.kept (x:jk P w H h) (k:∀b u,h.get? b=some u->h'.get? b=some u):jk P w H h':=λa o e =>
 (x a o e).nG (λb u _ q=>k b u q) (λ_ q=>q) (λ_ _ q=>q) λ_ _ _ q=>q
theorem jk.laid (x:jk P w H h) (k:∀b u,h.get? b=some u->h'.get? b=some u) (hp:h.objs.size<=a) (new:bC P w (upd H a o) h' a o):jk P w (upd H a o) h':=λb u e=>by
 have hn:=x.fresh hp
 by_cases hb:b=a
 ·subst hb;rw [au] at e;cases e;exact new
 ·rw [av hb] at e;exact (x b u e).nG (λc v _ q=>k c v q) (λc q=>by rw [av (bz q hn)];exact q) (λc xs q=>by rw [av (bz q hn)];exact q) λc o xs q=>by rw [av (bz q hn)];exact q
end
def Rd (H:Hp) (a:Addr) (u:HO):Prop:=H a=some u\/∃o,H a=some (.frz o u)
theorem Rd.ok {P:Program} {w:World} {H:Hp} {h:Heap} {a:Addr} {u:HO} (r:Rd H a u) (x:jk P w H h):bC P w H h a u:=by
 rcases r with r|⟨o,r⟩
 ·exact x a u r
 ·obtain⟨_,q⟩:=x a _ r;exact q
def Fe:Option HO->Prop
 | some (.lst _)=>True
 | some (.dK _)=>True
 | some (.dT _)=>True
 | some (.set _ _)=>True
 | some (.ins _ _ _)=>True
 | some (.ext _)=>True
 | _=>False
section
variable {P:Program} {w:World} {H:Hp} {h h':Heap} {x e:Addr} {o':HO}
theorem jk.write (ok:jk P w H h) (mu:Fe (H x)) (he:e=x\/H e=some (.own x)) (k:∀b u,b≠e->h.get? b=some u->h'.get? b=some u) (heo:∃u,h'.get? e=some u)
  (new:bC P w (upd H x o') h' x o'):jk P w (upd H x o') h':=λb u q=>by
 have nown:∀c y,H c=some (.own y)->c≠x:=λc y r z=>by subst z;rw [r] at mu;exact mu
 have ntup:∀c xs,H c=some (.tup xs)->c≠x:=λc xs r z=>by subst z;rw [r] at mu;exact mu
 have nfrz:∀c o xs,H c=some (.frz o xs)->c≠x:=λc o xs r z=>by subst z;rw [r] at mu;exact mu
 by_cases hb:b=x
 ·subst hb;rw [au] at q;cases q;exact new
 ·rw [av hb] at q
  by_cases hbe:b=e
  ·have q':H b=some (.own x):=by
    rcases he with z|z
    ·exact absurd (hbe.trans z) hb
    ·rw [hbe];exact z
   rw [q] at q';cases q';obtain⟨v,hv⟩:=heo;exact⟨v,by rw [hbe];exact hv⟩
  ·refine (ok b u q).nG (λc v hc r=>k c v ?_ r) (λc r=>by rw [av (nown c b r)];exact r) (λc xs r=>by rw [av (ntup c xs r)];exact r) λc o xs r=>by rw [av (nfrz c o xs r)];exact r
   rcases hc with rfl|hc
   ·exact hbe
   ·rintro rfl;rcases he with z|z
    ·exact nown c b hc z
    ·rw [hc] at z;cases z;exact hb rfl
end
structure Un (fs ex:List Addr) (H H':Hp) (h h':Heap):Prop where
 keep:∀b o,h.get? b=some o->H b=none->b∉fs->b∉ex->h'.get? b=some o
 slot:∀b o,h.get? b=some o->H b=none->b∈fs->b∉ex->∃sl,h'.get? b=some { o with slots:=sl }
 free:∀b o,h.get? b=some o->H b=none->b∉ex->H' b=none
 there:∀b o,h.get? b=some o->b∉ex->∃o',h'.get? b=some o'
 tups:∀b xs,H b=some (.tup xs)->H' b=some (.tup xs)
 frzs:∀b o u,H b=some (.frz o u)->H' b=some (.frz o u)
 tbls:∀b q,H b=some (.m8 q)->H' b=some (.m8 q)
section
variable {fs fs' ex ex':List Addr} {H H1 H2:Hp} {h h1 h2 h':Heap} {a x e:Addr} {o:HO}
theorem Un.any (u:Un fs ex H H1 h h1) {b:Addr} {ob:Obj} (q:h.get? b=some ob) (n:H b=none) (hx:b∉ex):∃sl,h1.get? b=some { ob with slots:=sl }:=by
 by_cases hb:b∈fs
 ·exact u.slot b ob q n hb hx
 ·exact⟨ob.slots,u.keep b ob q n hb hx⟩
theorem Un.kept (k:∀b u,h.get? b=some u->h'.get? b=some u):Un fs ex H H h h' :=
 ⟨λb ob q _ _ _=>k b ob q,λb ob q _ _ _=>⟨ob.slots,k b ob q⟩,λ_ _ _ n _=>n,λb ob q _=>⟨ob,k b ob q⟩,λ_ _ q=>q,λ_ _ _ q=>q,λ_ _ q=>q⟩
theorem Un.refl:Un fs ex H H h h:=Un.kept λ_ _ q=>q
theorem Un.laid (k:∀b u,h.get? b=some u->h'.get? b=some u) (hp:h.objs.size<=a) (hn:H a=none):Un fs ex H (upd H a o) h h' where
 keep:=λb u q _ _ _=>k b u q
 slot:=λb u q _ _ _=>⟨u.slots,k b u q⟩
 free:=λb u q n _=>by rw [av (Jj (IP (IU q) hp))];exact n
 there:=λb u q _=>⟨u,k b u q⟩
 tups:=λb xs q=>by rw [av (bz q hn)];exact q
 frzs:=λb u xs q=>by rw [av (bz q hn)];exact q
 tbls:=λb ps q=>by rw [av (bz q hn)];exact q
theorem Un.write (mu:Fe (H x)) (he:e=x\/H e=some (.own x)) (k:∀b u,b≠e->h.get? b=some u->h'.get? b=some u) (heo:∃u,h'.get? e=some u):Un fs ex H (upd H x o) h h':=by
 have hx:∀b,H b=none->b≠x:=λb n z=>by subst z;rw [n] at mu;exact mu
 have hb:∀b,H b=none->b≠e:=λb n z=>by
  subst z;rcases he with r|r
  ·exact hx b n r
  ·rw [n] at r;cases r
 have hm:∀b u,H b=some u->¬ Fe (some u)->b≠x:=λb u q nm z=>by subst z;rw [q] at mu;exact nm mu
 refine⟨λb u q n _ _=>k b u (hb b n) q,λb u q n _ _=>⟨u.slots,k b u (hb b n) q⟩,λb u q n _=>by rw [av (hx b n)];exact n,λb u q _=>?_,
  λb xs q=>by rw [av (hm b _ q λz=>z)];exact q,λb u xs q=>by rw [av (hm b _ q λz=>z)];exact q,λb ps q=>by rw [av (hm b _ q λz=>z)];exact q⟩
 by_cases hbe:b=e
 ·subst hbe;exact heo
 ·exact⟨u,k b u hbe q⟩
end
def C9 (h:Heap) (H:Hp):List Addr:=(List.range h.objs.size).filter λa=>(H a).isSome
def qK (h:Heap) (H:Hp):Heap:=PySem.W.hideAll h (C9 h H)
theorem xx (h:Heap) (H:Hp):(qK h H).objs.size=h.objs.size:=PySem.W.hideAll_size _ _
theorem zB {h:Heap} {H:Hp} {b:Addr} {o:Obj} (e:h.get? b=some o) (n:H b=none):(qK h H).get? b=some o :=
 PySem.W.hideAll_get _ e λhm=>by
  have q:(H b).isSome=true:=(List.mem_filter.mp hm).2;rw [n] at q;simp at q
theorem BF {h:Heap} {H:Hp} {b:Addr} {o:Obj} (e:(qK h H).get? b=some o):h.get? b=some o/\H b=none:=by
 have e':h.get? b=some o:=PySem.W.of_hideAll (C9 h H) e;refine⟨e',?_⟩
 cases q:H b with
 | none=>rfl
 | some x =>
  have hm:b∈C9 h H:=List.mem_filter.mpr ⟨JB.mpr (IU e'),by simp [q]⟩;have z:(qK h H).get? b=none:=PySem.W.hideAll_none (C9 h H) hm;rw [z] at e;cases e
structure Mod (K:IB) (mg:Str->Option Value) (base:Heap):Prop where
 kin:K.In base
 glob:base.Ns mainGlobals mg
 blt:∃mb,base.Ns builtinsNs mb/\∀x:Str,x≠"__name__"->mb x=bootBuiltins x
 nolimit:base.NoLimit
 bm:∃bm ob,mg "__builtins__" = some (.ref bm)/\bm≠builtinsNs/\base.get? bm=some ob/\ob.cls=.type "module"/\ob.dict=some builtinsNs/\ob.data=.plain
structure Cx where
 prog:Program
 w:World
 K:IB
 mg:Str->Option Value
 base:Heap
 A:Around
 N:List Str
 s₀:Shared
 H₀:Hp
 env:Env
 outer:List Env
 stack:List Env
 ex:List Addr
 fn:Str->Bool
 calm:Bool
 pn:List (Addr×Obj)
 xe:Value->Shared->Prop
def jP (l:List Env):List Addr:=l.filterMap (·.frame)
abbrev Cx.fs (X:Cx):List Addr:=jP X.outer
def j6:List (Str×Str):=[("meet","meet.<locals>.<lambda>"),("core","core.<locals>.<lambda>"),("by_rests","by_rests.<locals>.behind")]
def tq (K:IB) (b:Addr):Option Str:=(j6.find? λp=>match PySem.W.tabIn K p.1 with|some (_,P)=>P == b|none=>false).map (·.2)
def BC (K:IB) (H:Hp):Prop:=∀b q,tq K b=some q->H b=some (.m8 q)
def rY (sc:Scope) (x:Str):Prop:=sc.names.lookup x=some .local\/sc.names.lookup x=some .cell\/sc.names.lookup x=some .free
def Loc (sc:Scope) (x:Str):Prop:=sc.names.lookup x=some .local\/sc.names.lookup x=some .cell
def Look (env:Env) (h:Heap) (m:Str->Option Value) (x:Str) (u:Value):Prop :=
 (env.kindOf x=some .local/\m x=some u)\/((env.kindOf x=some .cell\/env.kindOf x=some .free)/\∃c,env.cells.lookup x=some c/\h.IsCell c (some u))
structure Cx.Ok (X:Cx):Prop where
 mod:Mod X.K X.mg X.base
 kind:X.env.scope.kind=.function
 glob:X.env.globals=mainGlobals
 blt:X.env.builtins=builtinsNs
 above:X.s₀.heap.objs.size<=X.env.locals
 inj:∀x y c,X.env.cells.lookup x=some c->X.env.cells.lookup y=some c->x=y
 has:∀x,(X.env.kindOf x=some .cell\/X.env.kindOf x=some .free)->∃c,X.env.cells.lookup x=some c
 cab:∀x c,X.fn x=true->X.env.cells.lookup x=some c->X.s₀.heap.objs.size<=c
 hd:X.calm=true->X.A.handled=none
 frames:X.A.frames=some X.stack
 stk:X.stack=X.outer\/(X.stack=X.env :: X.outer/\X.env.frame=some X.env.locals)
 exf:∀b∈X.ex,b≠X.env.locals/\∀x c,X.env.cells.lookup x=some c->c≠b
 bs:∀b o,X.base.get? b=some o->X.s₀.heap.get? b=some o/\X.H₀ b=none
 bsz:X.base.objs.size<=X.s₀.heap.objs.size
 noex:∀b o,X.base.get? b=some o->b∉X.ex
 exfs:∀b∈X.ex,b∉X.fs
 kP:X.s₀.heap.FunFrames X.base X.outer
 frf:(∀b∈X.fs,X.H₀ b=none)/\BC X.K X.H₀
structure Inv (X:Cx) (pins:List (Addr×Obj)) (σ:List (Option V)) (H:Hp) (s:Shared):Prop where
 ok:X.Ok
 os:s.os=X.s₀.os
 bare:AllBare s.gens
 base:Un X.fs X.ex X.H₀ H X.s₀.heap s.heap
 loc:∃m,s.heap.Ns X.env.locals m/\∀(i:Nat) (x:Str) (v:V),X.N[i]?=some x->σ[i]?=some (some v)->rY X.env.scope x->∃u,RelV v u/\Look X.env s.heap m x u
 cell:∀x c,X.env.cells.lookup x=some c->∃v,s.heap.IsCell c v
 free:H X.env.locals=none
 freeC:∀x c,X.env.cells.lookup x=some c->H c=none
 pin:∀p∈X.pn ++ pins,s.heap.get? p.1=some p.2/\H p.1=none/\p.1≠X.env.locals/\p.1∉X.fs/\∀v,p.2.data≠.cell v
 hok:jk X.prog X.w H s.heap
 len:σ.length=X.N.length
section
variable {X:Cx} {pins:List (Addr×Obj)} {σ:List (Option V)} {H H':Hp} {s:Shared} {h':Heap}
theorem Cx.Ok.HH (ok:X.Ok) {b:Addr} {o:Obj} (e:X.base.get? b=some o):b∉X.fs:=λhb=>by
 have:=(ok.kP.mem hb).1;rw [e] at this;cases this
theorem Inv.bs (I:Inv X pins σ H s):∀b o,X.base.get? b=some o->s.heap.get? b=some o/\H b=none:=λb o e =>
 ⟨I.base.keep b o (I.ok.bs b o e).1 (I.ok.bs b o e).2 (I.ok.HH e) (I.ok.noex b o e),I.base.free b o (I.ok.bs b o e).1 (I.ok.bs b o e).2 (I.ok.noex b o e)⟩
theorem Inv.bk (I:Inv X pins σ H s):∀b o,X.base.get? b=some o->s.heap.get? b=some o:=λb o e=>(I.bs b o e).1
theorem Inv.mod (I:Inv X pins σ H s):Mod X.K X.mg X.base:=I.ok.mod
theorem Inv.zH (I:Inv X pins σ H s):X.K.In s.heap:=I.ok.mod.kin.keeps I.bk
theorem Inv.lt (I:Inv X pins σ H s):X.env.locals < s.heap.objs.size:=let ⟨_,hn,_⟩:=I.loc;hn.lt
theorem Inv.sz (I:Inv X pins σ H s):X.s₀.heap.objs.size<=s.heap.objs.size:=Jz I.ok.above (JS I.lt)
theorem Inv.G3 (I:Inv X pins σ H s) {a:Addr} (h:s.heap.objs.size<=a):a∉X.fs:=λhb=>by
 obtain⟨_,o,ho,_⟩:=I.ok.kP.mem hb;exact absurd (IP (IU ho) (Jz I.sz h)) (Nat.lt_irrefl _)
theorem Inv.Ct (I:Inv X pins σ H s):∀x c,X.env.cells.lookup x=some c->c≠X.env.locals:=λx c e z=>by
 obtain⟨v,o,ho,hd⟩:=I.cell x c e;obtain⟨m,⟨o',es,ep,ho',hd',_⟩,_⟩:=I.loc;rw [z,ho'] at ho;cases ho;rw [hd'] at hd;cases hd
theorem Inv.kP (I:Inv X pins σ H s):s.heap.FunFrames X.base X.outer:=by
 have all:∀(l:List Env),(∀b∈jP l,b∈X.fs)->X.s₀.heap.FunFrames X.base l->s.heap.FunFrames X.base l:=by
  intro l
  induction l with
  | nil=>intro _ _;trivial
  | cons env r ih =>
   intro hs hl;obtain⟨hk,⟨L,o,hf,hn,ho,hd⟩,hr⟩:=hl;have hL:L∈X.fs:=hs L (by unfold jP;rw [List.filterMap_cons,hf];exact Jb);obtain⟨sl,e⟩:=I.base.slot L o ho (I.ok.frf.1 L hL) hL λz=>I.ok.exfs L z hL;exact⟨hk,⟨L,_,hf,hn,e,hd⟩,ih (λb hb=>hs b (by unfold jP;rw [List.filterMap_cons,hf];exact IT _ hb)) hr⟩
 exact all X.outer (λ_ hb=>hb) I.ok.kP
theorem Inv.stack (I:Inv X pins σ H s):s.heap.FunFrames X.base X.stack:=by
 rcases I.ok.stk with e|⟨e,hf⟩
 ·rw [e];exact I.kP
 ·rw [e];obtain⟨m,hn,_⟩:=I.loc;refine .cons (by rw [I.ok.kind];decide) hf hn ?_ I.kP;exact Heap.get?_none_of_le (Jz I.ok.bsz I.ok.above)
theorem Inv.lS (I:Inv X pins σ H s):∀b∈jP X.stack,b∈X.env.locals :: X.fs:=λb hb=>by
 rcases I.ok.stk with e|⟨e,hf⟩
 ·rw [e] at hb;exact IT _ hb
 ·rw [e] at hb;unfold jP at hb;rw [List.filterMap_cons,hf] at hb;exact hb
theorem Inv.m9 (I:Inv X pins σ H s):∀b∈jP X.stack,H b=none:=λb hb=>by
 rcases IZ.mp (I.lS b hb) with e|hb
 ·rw [e];exact I.free
 ·obtain⟨_,o,ho,_⟩:=I.ok.kP.mem hb;exact I.base.free b o ho (I.ok.frf.1 b hb) λz=>I.ok.exfs b z hb
theorem Inv.tb (I:Inv X pins σ H s):BC X.K H:=λb q e=>I.base.tbls b q (I.ok.frf.2 b q e)
theorem Inv.step {g':Array GenState} {t':Nat} {d':Drawn} {ch:List Addr} (I:Inv X pins σ H s)
  (hch:∀b∈ch,(b∈X.ex\/X.s₀.heap.objs.size<=b)/\b≠X.env.locals/\(∀x c,X.env.cells.lookup x=some c->c≠b)/\∀p∈X.pn ++ pins,p.1≠b)
  (keep:∀b o,b≠X.env.locals->b∉X.fs->b∉ch->s.heap.get? b=some o->H b=none->h'.get? b=some o)
  (slot:∀b o,b≠X.env.locals->b∈X.fs->b∉ch->s.heap.get? b=some o->H b=none->∃sl,h'.get? b=some { o with slots:=sl }) (free:∀b o,b∉ch->s.heap.get? b=some o->H b=none->H' b=none)
  (there:∀b o,b∉ch->s.heap.get? b=some o->∃o',h'.get? b=some o')
  (tups:∀b xs,H b=some (.tup xs)->H' b=some (.tup xs)) (frzs:∀b o u,H b=some (.frz o u)->H' b=some (.frz o u)) (tbls:∀b q,H b=some (.m8 q)->H' b=some (.m8 q))
  (ns:∀m,s.heap.Ns X.env.locals m->h'.Ns X.env.locals m) (hok:jk X.prog X.w H' h') (hg:AllBare g') :
  Inv X pins σ H' { s with heap:=h',gens:=g',drawn:=d',toks:=t' }:=by
 have neL:∀b o,X.s₀.heap.get? b=some o->b≠X.env.locals:=λb o e=>Jj (IP (IU e) I.ok.above)
 have neC:∀b o,X.s₀.heap.get? b=some o->b∉X.ex->b∉ch:=λb o e hx hb=>by
  rcases (hch b hb).1 with z|z
  ·exact hx z
  ·exact absurd (IP (IU e) z) (Nat.lt_irrefl _)
 have cellK:∀x c,X.env.cells.lookup x=some c->∀v,s.heap.IsCell c v->h'.IsCell c v:=λx c e v ⟨o,ho,hd⟩=>by
  have nch:c∉ch:=λz=>(hch c z).2.2.1 x c e rfl
  by_cases hc:c∈X.fs
  ·obtain⟨sl,q⟩:=slot c o (I.Ct x c e) hc nch ho (I.freeC x c e);exact⟨_,q,hd⟩
  ·exact⟨o,keep c o (I.Ct x c e) hc nch ho (I.freeC x c e),hd⟩
 refine⟨I.ok,I.os,hg,⟨λb o e n hb hx=>?_,λb o e n hb hx=>?_,λb o e n hx=>?_,λb o e hx=>?_,λb xs e=>tups b xs (I.base.tups b xs e),λb o xs e=>frzs b o xs (I.base.frzs b o xs e),λb q e=>tbls b q (I.base.tbls b q e)⟩,?_,λx c e=>?_,?_,λx c e=>?_,λp hp=>?_,hok,I.len⟩
 ·exact keep b o (neL b o e) hb (neC b o e hx) (I.base.keep b o e n hb hx) (I.base.free b o e n hx)
 ·obtain⟨sl,e1⟩:=I.base.slot b o e n hb hx;obtain⟨sl',e2⟩:=slot b _ (neL b o e) hb (neC b o e hx) e1 (I.base.free b o e n hx);exact⟨sl',e2⟩
 ·obtain⟨o',e1⟩:=I.base.there b o e hx;exact free b o' (neC b o e hx) e1 (I.base.free b o e n hx)
 ·obtain⟨o',e1⟩:=I.base.there b o e hx;exact there b o' (neC b o e hx) e1
 ·obtain⟨m,hn,hl⟩:=I.loc;refine⟨m,ns m hn,λi x v e1 e2 e3=>?_⟩;obtain⟨u,r,l⟩:=hl i x v e1 e2 e3;refine⟨u,r,?_⟩;rcases l with l|⟨k,c,e,z⟩
  ·exact .inl l
  ·exact .inr ⟨k,c,e,cellK x c e _ z⟩
 ·obtain⟨v,z⟩:=I.cell x c e;exact⟨v,cellK x c e v z⟩
 ·obtain⟨m,⟨o,_,_,ho,_⟩,_⟩:=I.loc;exact free _ o (λz=>(hch _ z).2.1 rfl) ho I.free
 ·obtain⟨v,o,ho,hd⟩:=I.cell x c e;exact free c o (λz=>(hch c z).2.2.1 x c e rfl) ho (I.freeC x c e)
 ·obtain⟨e,n,ne,nf,d⟩:=I.pin p hp;have nch:p.1∉ch:=λz=>(hch p.1 z).2.2.2 p hp rfl;exact⟨keep p.1 p.2 ne nf nch e n,free p.1 p.2 nch e n,ne,nf,d⟩
theorem Inv.un {t':Nat} (I:Inv X pins σ H s) (u:Un X.fs [] H H' s.heap h') (hok:jk X.prog X.w H' h'):Inv X pins σ H' { s with heap:=h',toks:=t' }:=by
 obtain⟨m,⟨o,es,ep,ho,r⟩,_⟩:=id I.loc;obtain⟨sl,hL⟩:=u.any ho I.free (by simp)
 exact I.step (g':=s.gens) (d':=s.drawn) (ch:=[]) (λ_ z=>nomatch z) (λb o _ hb _ e n=>u.keep b o e n hb (by simp)) (λb o _ hb _ e n=>u.slot b o e n hb (by simp)) (λb o _ e n=>u.free b o e n (by simp)) (λb o _ e=>u.there b o e (by simp)) u.tups u.frzs u.tbls (λm' hm=>by
  obtain⟨o',es',ep',ho',r'⟩:=hm;rw [ho] at ho';cases ho'
  exact⟨_,es',ep',hL,r'⟩) hok I.bare
theorem Inv.call {g':Array GenState} {t':Nat} {d':Drawn} {ch:List Addr} (I:Inv X pins σ H s) (u:Un (jP X.stack) ch H H' s.heap h') (hok:jk X.prog X.w H' h') (hg:AllBare g')
  (hch:∀b∈ch,(b∈X.ex\/X.s₀.heap.objs.size<=b)/\b≠X.env.locals/\(∀x c,X.env.cells.lookup x=some c->c≠b)/\∀p∈X.pn ++ pins,p.1≠b) :
  Inv X pins σ H' { s with heap:=h',gens:=g',drawn:=d',toks:=t' }:=by
 obtain⟨m,⟨o,es,ep,ho,r⟩,_⟩:=id I.loc;obtain⟨sl,hL⟩:=u.any ho I.free λz=>(hch _ z).2.1 rfl
 exact I.step (ch:=ch) hch (λb o hL hb hc e n=>u.keep b o e n (λz=>(IZ.mp (I.lS b z)).elim hL hb) hc) (λb o _ _ hc e n=>u.any e n hc) (λb o hc e n=>u.free b o e n hc) (λb o hc e=>u.there b o e hc) u.tups u.frzs u.tbls (λm' hm=>by
  obtain⟨o',es',ep',ho',r'⟩:=hm;rw [ho] at ho';cases ho'
  exact⟨_,es',ep',hL,r'⟩) hok hg
theorem Inv.turned {t':Nat} {it:Addr} (I:Inv X pins σ H s) (k:∀b o,b≠it->s.heap.get? b=some o->h'.get? b=some o) (hn:H it=none) (hL:it≠X.env.locals)
  (h1:it∈X.ex\/X.s₀.heap.objs.size<=it) (h2:∀x c,X.env.cells.lookup x=some c->c≠it) (h3:∀p∈X.pn ++ pins,p.1≠it):Inv X pins σ H { s with heap:=h',toks:=t' }:=by
 have nit:∀b u,H b=some u->b≠it:=λb u e z=>by rw [z,hn] at e;cases e
 refine I.step (g':=s.gens) (d':=s.drawn) (ch:=[it]) (λb hb=>?_) (λb o _ _ hc e _=>k b o (λz=>hc (by simp [z])) e) (λb o _ _ hc e _=>⟨o.slots,k b o (λz=>hc (by simp [z])) e⟩) (λ_ _ _ _ n=>n)
  (λb o hc e=>⟨o,k b o (λz=>hc (by simp [z])) e⟩) (λ_ _ e=>e) (λ_ _ _ e=>e) (λ_ _ e=>e) (λm hm=>?_) (λb u e=>?_) I.bare
 ·have e:b=it:=by simpa using hb
  subst e;exact⟨h1,hL,h2,h3⟩
 ·obtain⟨o,es,ep,ho,r⟩:=hm;exact⟨o,es,ep,k _ o (Ne.symm hL) ho,r⟩
 ·refine (I.hok b u e).nG (λc v hc q=>k c v ?_ q) (λ_ q=>q) (λ_ _ q=>q) λ_ _ _ q=>q;rcases hc with z|z
  ·rw [z];exact nit b u e
  ·exact nit c _ z
theorem Inv.tok (I:Inv X pins σ H s) (t:Nat):Inv X pins σ H { s with toks:=t }:=I.un (h':=s.heap) (t':=t) Un.refl I.hok
theorem Inv.kept {t':Nat} (I:Inv X pins σ H s) (k:∀b u,s.heap.get? b=some u->h'.get? b=some u):Inv X pins σ H { s with heap:=h',toks:=t' }:=I.un (Un.kept k) (I.hok.kept k)
theorem Inv.laid {a:Addr} {o:HO} {t':Nat} (I:Inv X pins σ H s) (k:∀b u,s.heap.get? b=some u->h'.get? b=some u) (hp:s.heap.objs.size<=a) (new:bC X.prog X.w (upd H a o) h' a o) :
  Inv X pins σ (upd H a o) { s with heap:=h',toks:=t' }:=I.un (Un.laid k hp (I.hok.fresh hp)) (I.hok.laid k hp new)
theorem Inv.write {x e:Addr} {o:HO} {t':Nat} (I:Inv X pins σ H s) (mu:Fe (H x)) (he:e=x\/H e=some (.own x)) (k:∀b u,b≠e->s.heap.get? b=some u->h'.get? b=some u) (heo:∃u,h'.get? e=some u)
  (new:bC X.prog X.w (upd H x o) h' x o):Inv X pins σ (upd H x o) { s with heap:=h',toks:=t' }:=I.un (Un.write mu he k heo) (I.hok.write mu he k heo new)
theorem Inv.wc {pins':List (Addr×Obj)} (I:Inv X pins σ H s) (h:∀p∈pins',s.heap.get? p.1=some p.2/\H p.1=none/\p.1≠X.env.locals/\p.1∉X.fs/\∀v,p.2.data≠.cell v):Inv X pins' σ H s :=
 ⟨I.ok,I.os,I.bare,I.base,I.loc,I.cell,I.free,I.freeC,λp hp=>(Jc.mp hp).elim (λz=>I.pin p (JD _ z)) (h p),I.hok,I.len⟩
theorem sT {N:List Str} (hN:N.Nodup) {i j:Nat} {x:Str} (a:N[i]?=some x) (b:N[j]?=some x):i=j:=by
 obtain⟨h1,e1⟩:=Iy.mp a;obtain⟨h2,e2⟩:=Iy.mp b;exact (List.getElem_inj hN).mp (e1.trans e2.symm)
theorem qa {M:Model} {A:Around} {E:Value->Shared->Prop} {i:Nat} {x:Str} {v:V} {u:Value} {Q:Unit->Shared->Prop} (I:Inv X pins σ H s) (hN:X.N.Nodup) (hi:X.N[i]?=some x) (hx:Loc X.env.scope x) (r:RelV v u)
  (h:∀s',Inv X pins (σ.set i (some v)) H s'->(∃a,Heap.SameBut a s.heap s'.heap/\(a=X.env.locals\/X.env.cells.lookup x=some a))->Q () s') (hf:X.fn x=true\/X.env.scope.names.lookup x=some .local:=by first|exact .inl rfl|exact .inr rfl|assumption):wpAny M A (storeName X.env x u) Q E s:=by
 obtain⟨m,hn,hl⟩:=id I.loc;have hcls:(X.env.scope.kind == .class || (X.env.scope.kind == .module && X.env.locals != X.env.globals))=false:=by rw [I.ok.kind];rfl
 have hiσ:i < σ.length:=by rw [I.len];exact (Iy.mp hi).1
 have Ct:=I.Ct
 have tracked:∀{a:Addr} {h':Heap},(∃o,s.heap.get? a=some o/\H a=none)->Heap.SameBut a s.heap h'->jk X.prog X.w H h':=λ{a h'} ha hs b ob e=>by
  obtain⟨_,_,hfree⟩:=ha;refine (I.hok b ob e).nG (λc w' hc q=>(hs.2 c ?_).trans q) (λ_ q=>q) (λ_ _ q=>q) λ_ _ _ q=>q
  rintro rfl;rcases hc with rfl|hc
  ·rw [hfree] at e;cases e
  ·rw [hfree] at hc;cases hc
 rcases hx with hk|hk
 ·refine wpAny_storeName_local hk hn (λh' hn' hs=>?_) hcls;obtain⟨oL,_,_,hoL,_⟩:=id hn;refine h _ ⟨I.ok,I.os,I.bare,⟨λb o e n hb hx=>?_,λb o e n hb hx=>?_,I.base.free,λb o e hx=>?_,I.base.tups,I.base.frzs,I.base.tbls⟩,⟨_,hn',λj y v' e1 e2 e3=>?_⟩,λy c e=>?_,I.free,I.freeC,λp hp=>?_,tracked ⟨oL,hoL,I.free⟩ hs,by simpa using I.len⟩ ⟨_,hs,.inl rfl⟩
  ·exact (hs.2 b (Jj (IP (IU e) I.ok.above))).trans (I.base.keep b o e n hb hx)
  ·obtain⟨sl,e1⟩:=I.base.slot b o e n hb hx;exact⟨sl,(hs.2 b (Jj (IP (IU e) I.ok.above))).trans e1⟩
  ·obtain⟨o',e1⟩:=I.base.there b o e hx;exact⟨o',(hs.2 b (Jj (IP (IU e) I.ok.above))).trans e1⟩
  ·by_cases hj:j=i
   ·subst hj;rw [hi] at e1;cases e1;rw [IH hiσ] at e2;cases e2;exact⟨u,r,.inl ⟨hk,by simp⟩⟩
   ·rw [IA (Ne.symm hj)] at e2;obtain⟨u',r',q⟩:=hl j y v' e1 e2 e3;refine⟨u',r',?_⟩;rcases q with ⟨k,e⟩|⟨k,c,e,z⟩
    ·refine .inl ⟨k,?_⟩;have:y≠x:=λe=>hj (sT hN e1 (e▸hi));simp [this,e]
    ·exact .inr ⟨k,c,e,z.sameBut hs (Ct y c e)⟩
  ·obtain⟨w',z⟩:=I.cell y c e;exact⟨w',z.sameBut hs (Ct y c e)⟩
  ·obtain⟨e,n,ne,nf,d⟩:=I.pin p hp;exact⟨(hs.2 p.1 ne).trans e,n,ne,nf,d⟩
 ·have hfn:X.fn x=true:=by
   rcases hf with z|z
   ·exact z
   ·rw [z] at hk;cases hk
  obtain⟨c,hc⟩:=I.ok.has x (.inl hk);obtain⟨w',z⟩:=I.cell x c hc;refine wpAny_storeName_cell I.ok.kind hk hc z (λh' hc' hs=>?_);obtain⟨oc,hoc,hocd⟩:=id z;refine h { s with heap:=h' } ⟨I.ok,I.os,I.bare,⟨λb o e n hb hx=>?_,λb o e n hb hx=>?_,I.base.free,λb o e hx=>?_,I.base.tups,I.base.frzs,I.base.tbls⟩,⟨m,hn.sameBut hs (Ne.symm (Ct x c hc)),λj y v' e1 e2 e3=>?_⟩,λy c' e=>?_,I.free,I.freeC,λp hp=>?_,tracked ⟨oc,hoc,I.freeC x c hc⟩ hs,by simpa using I.len⟩ ⟨c,hs,.inr hc⟩
  ·exact (hs.2 b (Jj (IP (IU e) (I.ok.cab x c hfn hc)))).trans (I.base.keep b o e n hb hx)
  ·obtain⟨sl,e1⟩:=I.base.slot b o e n hb hx;exact⟨sl,(hs.2 b (Jj (IP (IU e) (I.ok.cab x c hfn hc)))).trans e1⟩
  ·obtain⟨o',e1⟩:=I.base.there b o e hx;exact⟨o',(hs.2 b (Jj (IP (IU e) (I.ok.cab x c hfn hc)))).trans e1⟩
  ·by_cases hj:j=i
   ·subst hj;rw [hi] at e1;cases e1;rw [IH hiσ] at e2;cases e2;exact⟨u,r,.inr ⟨.inl hk,c,hc,hc'⟩⟩
   ·rw [IA (Ne.symm hj)] at e2;obtain⟨u',r',q⟩:=hl j y v' e1 e2 e3;refine⟨u',r',?_⟩;rcases q with q|⟨k,c',e,z'⟩
    ·exact .inl q
    ·refine .inr ⟨k,c',e,z'.sameBut hs ?_⟩
     rintro rfl;exact hj (sT hN e1 (I.ok.inj _ _ _ e hc▸hi))
  ·by_cases hcc:c'=c
   ·subst hcc;exact⟨_,hc'⟩
   ·obtain⟨w2,z2⟩:=I.cell y c' e;exact⟨w2,z2.sameBut hs hcc⟩
  ·obtain⟨e,n,ne,nf,d⟩:=I.pin p hp;refine⟨(hs.2 p.1 ?_).trans e,n,ne,nf,d⟩;intro q;rw [q,hoc] at e;have q':oc=p.2:=IL e;exact d w' (by rw [<- q'];exact hocd)
theorem og {M:Model} {A:Around} {E:Value->Shared->Prop} {i:Nat} {x:Str} {v:V} {u:Value} {Q:Unit->Shared->Prop} (I:Inv X pins σ H s) (hN:X.N.Nodup) (hi:X.N[i]?=some x) (hx:Loc X.env.scope x) (r:RelV v u)
  (h:∀s',Inv X pins (σ.set i (some v)) H s'->Q () s') (hf:X.fn x=true\/X.env.scope.names.lookup x=some .local:=by first|exact .inl rfl|exact .inr rfl|assumption):wpAny M A (storeName X.env x u) Q E s :=
 qa I hN hi hx r (λs' I' _=>h s' I') hf
theorem Inv.yB {s':Shared} {ch:List Addr} (I:Inv X pins σ H s) (ho:s'.os=s.os) (u:Un (jP X.stack) ch H H' s.heap s'.heap) (hok:jk X.prog X.w H' s'.heap) (hg:AllBare s'.gens)
  (hch:∀b∈ch,(b∈X.ex\/X.s₀.heap.objs.size<=b)/\b≠X.env.locals/\(∀x c,X.env.cells.lookup x=some c->c≠b)/\∀p∈X.pn ++ pins,p.1≠b):Inv X pins σ H' s':=by
 obtain⟨h',g',d',t',o'⟩:=s';have e:o'=s.os:=ho;subst e;exact I.call (g':=g') (t':=t') (d':=d') u hok hg hch
end
abbrev XK:=Value->Option Addr->Hp->Prop
abbrev St:=List (Option V)
abbrev VK:=V->Hp->Prop
abbrev TE:=St->Hp->VK->Prop
abbrev TT:=St->Hp->(Bool->Hp->Prop)->Prop
abbrev TA:=St->Hp->(List V->Hp->Prop)->Prop
structure Ends where
 nx:St->Hp->Prop
 rt:VK
 bk:St->Hp->Prop:=λ_ _=>False
 ct:St->Hp->Prop:=λ_ _=>False
abbrev TS:=Ends->St->Hp->Prop
def EP (X:Cx) (pins:List (Addr×Obj)) (σ:St) (Q:VK) (u:Value) (s':Shared):Prop:=∃v H',Inv X pins σ H' s'/\RelV v u/\Q v H'
def TP (X:Cx) (pins:List (Addr×Obj)) (σ:St) (Q:Bool->Hp->Prop) (b:Bool) (s':Shared):Prop:=∃H',Inv X pins σ H' s'/\Q b H'
def AP (X:Cx) (pins:List (Addr×Obj)) (σ:St) (Q:List V->Hp->Prop) (us:List Value) (s':Shared):Prop:=∃vs H',Inv X pins σ H' s'/\Vals vs us/\Q vs H'
def SP (X:Cx) (pins:List (Addr×Obj)) (D:Ends) (f:Flow) (s':Shared):Prop :=
 match f with
 | .next=>∃σ' H',Inv X pins σ' H' s'/\D.nx σ' H'
 | .brk=>∃σ' H',Inv X pins σ' H' s'/\D.bk σ' H'
 | .cont=>∃σ' H',Inv X pins σ' H' s'/\D.ct σ' H'
 | .ret u=>∃v σ' H',Inv X pins σ' H' s'/\RelV v u/\D.rt v H'
def PE (X:Cx) (e:Expr) (t:TE):Prop :=
 ∀(pins:List (Addr×Obj)) (s:Shared) (σ:St) (H:Hp) (Q:VK),Inv X pins σ H s->t σ H Q->wpAny (model X.prog X.w) X.A (eval e X.env) (EP X pins σ Q) X.xe s
def PT (X:Cx) (e:Expr) (t:TT):Prop :=
 ∀(pins:List (Addr×Obj)) (s:Shared) (σ:St) (H:Hp) (Q:Bool->Hp->Prop),Inv X pins σ H s->t σ H Q->wpAny (model X.prog X.w) X.A (isTrue e X.env (eval e X.env)) (TP X pins σ Q) X.xe s
def PW (X:Cx) (e:Expr) (t:TT):Prop :=
 ∀(whole:Sem Value) (pins:List (Addr×Obj)) (s:Shared) (σ:St) (H:Hp) (Q:Bool->Hp->Prop),Inv X pins σ H s->t σ H Q->wpAny (model X.prog X.w) X.A (isTrue e X.env whole) (TP X pins σ Q) X.xe s
def PA (X:Cx) (es:List Expr) (t:TA):Prop :=
 ∀(pos:Pos) (pins:List (Addr×Obj)) (s:Shared) (σ:St) (H:Hp) (Q:List V->Hp->Prop),Inv X pins σ H s->t σ H Q->wpAny (model X.prog X.w) X.A (spliced (backTo pos (starEach es X.env))) (AP X pins σ Q) X.xe s
def PS (X:Cx) (st:Stmt) (t:TS):Prop :=
 ∀(pins:List (Addr×Obj)) (s:Shared) (σ:St) (H:Hp) (D:Ends),Inv X pins σ H s->t D σ H->wpAny (model X.prog X.w) X.A (exec st X.env) (SP X pins D) X.xe s
def vt (X:Cx) (st:List Stmt) (t:TS):Prop :=
 ∀(pins:List (Addr×Obj)) (s:Shared) (σ:St) (H:Hp) (D:Ends),Inv X pins σ H s->t D σ H->wpAny (model X.prog X.w) X.A (execs st X.env) (SP X pins D) X.xe s
theorem bQ {α:Type} {t:Sem α} {Q Q':α->Shared->Prop} {M:Model} {A:Around} {E:Value->Shared->Prop} {s:Shared} (h:wpAny M A t Q E s) (hQ:∀a s,Q a s->Q' a s):wpAny M A t Q' E s:=Jh h hQ λ_ _ x=>x
section
variable {X:Cx}
def HF (i:Nat):TE:=λσ H Q=>∃v,σ[i]?=some (some v)/\Q v H
def tC (v:V):TE:=λ_ H Q=>Q v H
theorem c4 {i:Nat} {x:Str} {pos:Pos} (hN:X.N[i]?=some x) (hv:rY X.env.scope x) (hd:(x == ("__debug__" : Str))=false:=by decide) (hcd:(x == ("__classdict__" : Str))=false:=by decide):PE X (.Name x pos) (HF i):=by
 intro pins s σ H Q I h;obtain⟨v,e,h⟩:=h;obtain⟨m,hn,hl⟩:=I.loc;obtain⟨u,r,l⟩:=hl i x v hN e hv;have fin:EP X pins σ Q u s:=⟨v,H,I,r,h⟩;rcases l with ⟨hk,hm⟩|⟨hk,c,hc,hcell⟩
 ·exact wpAny_Name (wpAny_loadName_local I.ok.kind hk hn hm fin) hd
 ·rcases hk with hk|hk
  ·exact wpAny_Name (wpAny_loadName_cell I.ok.kind hk hc hcell fin) hd
  ·exact wpAny_Name (wpAny_loadName_free I.ok.kind hk hc hcell fin hcd) hd
theorem u6 {i j pos}:PE X (.Constant (.int i) j pos) (tC (.int i)):=λ_ _ _ H _ I h=>wpAny_Constant_int ⟨.int i,H,I.tok _,⟨_,rfl⟩,h⟩
theorem Fu {b j pos}:PE X (.Constant (.bool b) j pos) (tC (.bl b)):=λ_ _ _ H _ I h=>Constant_bool ⟨.bl b,H,I,rfl,h⟩
theorem C5 {j pos}:PE X (.Constant .none j pos) (tC .non):=λ_ _ _ H _ I h=>Constant_none ⟨.non,H,I,rfl,h⟩
theorem yM {x j pos}:PE X (.Constant (.str x) j pos) (tC (.str x)):=λ_ _ _ H _ I h=>Calls.Constant_str ⟨.str x,H,I.tok _,⟨_,rfl⟩,h⟩
def Gl (X:Cx) (x:Str):Prop:=X.env.kindOf x=some .globalImplicit
theorem iU {E:Value->Shared->Prop} {pins:List (Addr×Obj)} {s:Shared} {σ:St} {H:Hp} {x:Str} {u:Value} {pos:Pos} {Q:Value->Shared->Prop} (I:Inv X pins σ H s) (hg:Gl X x) (hm:X.mg x=some u) (h:Q u s)
  (hd:(x == ("__debug__" : Str))=false:=by decide):wpAny (model X.prog X.w) X.A (eval (.Name x pos) X.env) Q E s :=
 Calls.Name_function_global I.ok.kind hg (Calls.loadGlobal_global (by rw [I.ok.glob];exact I.mod.glob.keeps I.bk) hm h) hd
theorem jB {E:Value->Shared->Prop} {pins:List (Addr×Obj)} {s:Shared} {σ:St} {H:Hp} {x:Str} {u:Value} {pos:Pos} {Q:Value->Shared->Prop} (I:Inv X pins σ H s) (hg:Gl X x) (hm:X.mg x=none) (hv:bootBuiltins x=some u) (h:Q u s)
  (hn:x≠"__name__":=by decide) (hd:(x == ("__debug__" : Str))=false:=by decide):wpAny (model X.prog X.w) X.A (eval (.Name x pos) X.env) Q E s:=by
 obtain⟨mb,h1,h2⟩:=I.mod.blt;exact Calls.Name_function_global I.ok.kind hg (Calls.loadGlobal_builtin (by rw [I.ok.glob];exact I.mod.glob.keeps I.bk) hm (by rw [I.ok.blt];exact h1.keeps I.bk) ((h2 x hn).trans hv) h) hd
variable {a b:Expr} {ta tb:TE} {pos:Pos}
def tB (t:TE):TT:=λσ H Q=>t σ H λx H1=>∃c,x=.bl c/\Q c H1
theorem CO {e:Expr} {t:TE} (h:PE X e t) (he:∀whole,isTrue e X.env whole=(do let v <- whole;standAt e.pos;holding [v] (truthy v)):=by intro _;rfl):PT X e (tB t):=by
 intro pins s σ H Q I hw;refine isTrue_plain (bQ (h pins s σ H _ I hw) λv s1 ⟨x,H1,I1,r1,q1⟩=>?_) (he _);obtain⟨d,rfl,q⟩:=q1;cases r1;exact wpAny_truthy_bool ⟨H1,I1,q⟩
variable {tA tB':TT} {rest:List Expr}
def G6 (t u:TT):TT:=λσ H Q=>t σ H λc H1=>if c=true then u σ H1 Q else Q false H1
def Iu (t u:TT):TT:=λσ H Q=>t σ H λc H1=>if c=true then Q true H1 else u σ H1 Q
def Hv (t:TT):TT:=λσ H Q=>t σ H λc H1=>Q (!c) H1
theorem Bg (ha:PT X a tA):PW X (.BoolOp .And [a] pos) tA:=by
 intro wh pins s σ H Q I h;refine isTrue_and (bQ (ha pins s σ H Q I h) λc s1 e=>?_)
 cases c with
 | true=>exact isTrue_and_nil e
 | false=>exact e
theorem C2 (ha:PT X a tA):PW X (.BoolOp .Or [a] pos) tA:=by
 intro wh pins s σ H Q I h;refine isTrue_or (bQ (ha pins s σ H Q I h) λc s1 e=>?_)
 cases c with
 | false=>exact isTrue_or_nil e
 | true=>exact e
theorem Dv (ha:PT X a tA) (hb:PW X (.BoolOp .And (b :: rest) pos) tB'):PW X (.BoolOp .And (a :: b :: rest) pos) (G6 tA tB'):=by
 intro wh pins s σ H Q I h;refine isTrue_and (bQ (ha pins s σ H _ I h) λc s1 ⟨H1,I1,q1⟩=>?_)
 cases c with
 | true=>exact hb wh pins s1 σ H1 Q I1 q1
 | false=>exact⟨H1,I1,q1⟩
theorem Gp (ha:PT X a tA) (hb:PW X (.BoolOp .Or (b :: rest) pos) tB'):PW X (.BoolOp .Or (a :: b :: rest) pos) (Iu tA tB'):=by
 intro wh pins s σ H Q I h;refine isTrue_or (bQ (ha pins s σ H _ I h) λc s1 ⟨H1,I1,q1⟩=>?_)
 cases c with
 | true=>exact⟨H1,I1,q1⟩
 | false=>exact hb wh pins s1 σ H1 Q I1 q1
theorem DB (ha:PT X a tA):PT X (.UnaryOp .Not a pos) (Hv tA):=by
 intro pins s σ H Q I h;exact isTrue_not (ha pins s σ H (λc H1=>Q (!c) H1) I h)
def GF (ta tb:TE):TE:=λσ H Q=>ta σ H λx H1=>∃c,x=.bl c/\if c=true then tb σ H1 Q else Q (.bl false) H1
theorem Dx {op} {t:TE} (h:PE X a t):PE X (.BoolOp op [a] pos) t:=λpins s σ H Q I hw=>BoolOp_one (h pins s σ H Q I hw)
theorem CS (ha:PE X a ta) (hb:PE X (.BoolOp .And (b :: rest) pos) tb):PE X (.BoolOp .And (a :: b :: rest) pos) (GF ta tb):=by
 intro pins s σ H Q I h;refine BoolOp_and (bQ (ha pins s σ H _ I h) λv s1 hq0=>?_);obtain⟨x,H1,I1,r1,q1⟩:=hq0;obtain⟨c,rfl,q1⟩:=q1;cases r1;refine wpAny_truthy_bool ?_
 cases c with
 | true=>exact hb pins s1 σ H1 Q I1 q1
 | false=>exact⟨.bl false,H1,I1,rfl,q1⟩
end
def fw (K:IB) (H:Hp) (a:Addr) (xs:List V):Prop :=
 Rd H a (.lst xs) \/
  ∃(o:Obj) (its:Array Value) (n:Nat),K.lookup a=some o/\o.cls=.type "list"/\o.dict=none/\o.data=.seq its n/\its.size<=sizeLine/\Vals xs its.toList
def fB (K:IB) (H:Hp) (a:Addr) (xs:List V):Prop :=
 Rd H a (.tup xs) \/
  ∃(o:Obj) (its:Array Value) (n:Nat),K.lookup a=some o/\o.cls=.type "tuple"/\o.data=.seq its n/\its.size<=sizeLine/\Vals xs its.toList/\o.dict=none
def HD:Value->Option V
 | .none=>some .non
 | .bool b=>some (.bl b)
 | .int i _=>some (.int i)
 | .str x _=>some (.str x)
 | .bytes b _=>some (.byt b)
 | .float b _=>some (.flt b)
 | .ref a=>some (.ref a)
 | .type n=>some (.ty n)
 | _=>none
theorem RelV.abs {x:V} {u:Value} (r:RelV x u):HD u=some x:=by
 cases x with
 | non=>cases r;rfl
 | bl _=>cases r;rfl
 | int _=>obtain⟨t,rfl⟩:=r;rfl
 | str _=>obtain⟨t,rfl⟩:=r;rfl
 | byt _=>obtain⟨t,rfl⟩:=r;rfl
 | flt _=>obtain⟨t,rfl⟩:=r;rfl
 | ref _=>cases r;rfl
 | ty _=>cases r;rfl
theorem RelV.inj {x y:V} {u:Value} (r:RelV x u) (q:RelV y u):x=y:=IL (r.abs.symm.trans q.abs)
theorem Vals.inj:∀{xs ys:List V} {us:List Value},Vals xs us->Vals ys us->xs=ys
 | _,_,_,.nil,.nil=>rfl
 | _,_,_,.cons r t,.cons r' t'=>by rw [r.inj r',Vals.inj t t']
section
variable {X:Cx} {pins:List (Addr×Obj)} {σ:St} {H:Hp} {s:Shared} {a:Addr} {xs ys:List V}
theorem fw.of {K:IB} (h:H a=some (.lst xs)):fw K H a xs:=.inl (.inl h)
theorem fB.of {K:IB} (h:H a=some (.tup xs)):fB K H a xs:=.inl (.inl h)
theorem Inv.list (I:Inv X pins σ H s) (h:fw X.K H a xs):∃its:List Value,Vals xs its/\PlainL s.heap a its.toArray/\xs.length<=sizeLine:=by
 rcases h with h|⟨o,its,n,hk,hc,hd,hs,hz,r⟩
 ·obtain⟨z,its,n,r,e⟩:=h.ok I.hok;exact⟨its,r,⟨_,n,e,rfl,rfl,rfl⟩,z⟩
 ·refine⟨its.toList,r,⟨o,n,I.zH a o hk,hc,hd,by simpa using hs⟩,?_⟩;have e:=r.length;simp only [Array.length_toList] at e;omega
theorem Inv.tuple (I:Inv X pins σ H s) (h:fB X.K H a xs):∃its:List Value,Vals xs its/\IsTup s.heap a its.toArray/\xs.length<=sizeLine:=by
 rcases h with h|⟨o,its,n,hk,hc,hs,hz,r,_⟩
 ·obtain⟨z,its,r,p⟩:=h.ok I.hok;exact⟨its,r,p.tup,z⟩
 ·refine⟨its.toList,r,⟨o,I.zH a o hk,hc,n,by simpa using hs⟩,?_⟩;have e:=r.length;simp only [Array.length_toList] at e;omega
theorem Inv.oO (I:Inv X pins σ H s) (h:fw X.K H a xs) (h':fw X.K H a ys):xs=ys:=by
 obtain⟨its,r,⟨o,n,e,_,_,d⟩,_⟩:=I.list h;obtain⟨its',r',⟨o',n',e',_,_,d'⟩,_⟩:=I.list h';rw [e] at e';cases e';rw [d] at d';injection d' with d1 _
 have:its=its':=by simpa using congrArg Array.toList d1
 subst this;exact r.inj r'
theorem Inv.gd (I:Inv X pins σ H s) (h:fB X.K H a xs) (h':fB X.K H a ys):xs=ys:=by
 obtain⟨its,r,⟨o,e,_,n,d⟩,_⟩:=I.tuple h;obtain⟨its',r',⟨o',e',_,n',d'⟩,_⟩:=I.tuple h';rw [e] at e';cases e';rw [d] at d';injection d' with d1 _
 have:its=its':=by simpa using congrArg Array.toList d1
 subst this;exact r.inj r'
end
abbrev Cx.cm (X:Cx) (E:Value->Shared->Prop):Cx:={ X with xe:=E }
abbrev Cx.pE (X:Cx):Cx:=X.cm λ_ _=>False
theorem Cx.Ok.cm {X:Cx} (ok:X.Ok) (E:Value->Shared->Prop):(X.cm E).Ok :=
 ⟨ok.mod,ok.kind,ok.glob,ok.blt,ok.above,ok.inj,ok.has,ok.cab,ok.hd,ok.frames,ok.stk,ok.exf,ok.bs,ok.bsz,ok.noex,ok.exfs,ok.kP,ok.frf⟩
theorem Cx.Ok.bo {X:Cx} {E:Value->Shared->Prop} (ok:(X.cm E).Ok):X.Ok :=
 ⟨ok.mod,ok.kind,ok.glob,ok.blt,ok.above,ok.inj,ok.has,ok.cab,ok.hd,ok.frames,ok.stk,ok.exf,ok.bs,ok.bsz,ok.noex,ok.exfs,ok.kP,ok.frf⟩
section
variable {X:Cx} {pins:List (Addr×Obj)} {σ:St} {H:Hp} {s:Shared} {E:Value->Shared->Prop}
theorem Inv.cm (I:Inv X pins σ H s) (E:Value->Shared->Prop):Inv (X.cm E) pins σ H s:=⟨I.ok.cm E,I.os,I.bare,I.base,I.loc,I.cell,I.free,I.freeC,I.pin,I.hok,I.len⟩
theorem Inv.bo (I:Inv (X.cm E) pins σ H s):Inv X pins σ H s:=⟨I.ok.bo,I.os,I.bare,I.base,I.loc,I.cell,I.free,I.freeC,I.pin,I.hok,I.len⟩
theorem SP.bo {D:Ends} {f:Flow} {s':Shared} (h:SP (X.cm E) pins D f s'):SP X pins D f s':=by
 cases f with
 | next=>obtain⟨σ',H',I,q⟩:=h;exact⟨σ',H',I.bo,q⟩
 | brk=>obtain⟨σ',H',I,q⟩:=h;exact⟨σ',H',I.bo,q⟩
 | cont=>obtain⟨σ',H',I,q⟩:=h;exact⟨σ',H',I.bo,q⟩
 | ret u=>obtain⟨v,σ',H',I,r,q⟩:=h;exact⟨v,σ',H',I.bo,r,q⟩
theorem vt.pE {st:List Stmt} {t:TS} (h:vt X.pE st t):vt X st t:=λpins s σ H D I hw =>
 Jh (h pins s σ H D (I.cm _) hw) (λ_ _ q=>q.bo) λ_ _ z=>False.elim z
end
section
variable {X:Cx} {st:Stmt} {rest:List Stmt} {t u:TS} {e:Expr} {te:TE} {pos:Pos}
def Fd:TS:=λD σ H=>D.nx σ H
def He (t u:TS):TS:=λD σ H=>t { D with nx:=u D } σ H
theorem AY:vt X [] Fd:=λ_ _ σ H _ I h=>wpAny_execs_nil ⟨σ,H,I,h⟩
theorem sk (h1:PS X st t) (h2:vt X rest u):vt X (st :: rest) (He t u):=by
 intro pins s σ H D I h;refine wpAny_execs_cons (bQ (h1 pins s σ H { D with nx:=u D } I h) λf s1 q=>?_)
 cases f with
 | next =>
  obtain⟨σ',H',I',q⟩:=q
  exact h2 pins s1 σ' H' D I' q
 | ret v=>exact q
 | brk=>exact q
 | cont=>exact q
theorem qW (h1:PS X st t):vt X [st] t:=by
 intro pins s σ H D I h;refine wpAny_execs_cons (bQ (h1 pins s σ H D I h) λf s1 q=>?_)
 cases f with
 | next=>exact wpAny_execs_nil q
 | ret v=>exact q
 | brk=>exact q
 | cont=>exact q
def Eb:TS:=λD σ H=>D.bk σ H
theorem zu:PS X (.Break pos) Eb:=λ_ _ σ H _ I h=>wpAny_Break ⟨σ,H,I,h⟩
theorem Inv.quiet {pins:List (Addr×Obj)} {σ:St} {H:Hp} {s:Shared} (I:Inv X pins σ H s):interactive X.env=false:=by simp [interactive,I.ok.kind]
def Gv (te:TE):TS:=λD σ H=>te σ H λ_ H1=>D.nx σ H1
theorem rM (he:PE X e te) (hs:swapsWith e none pos.line X.env=pure false:=by rfl):PS X (.Expr e pos) (Gv te):=by
 intro pins s σ H D I h;exact wpAny_Expr_any (bQ (he pins s σ H _ I h) λv s1 ⟨x,H1,I1,r1,q1⟩=>⟨σ,H1,I1,q1⟩) I.quiet hs
def HC (te:TE):TS:=λD σ H=>te σ H D.rt
theorem Ai (he:PE X e te):PS X (.Return (some e) pos) (HC te):=by
 intro pins s σ H D I h;exact wpAny_Return_some (bQ (he pins s σ H _ I h) λv s1 ⟨x,H1,I1,r1,q1⟩=>⟨x,σ,H1,I1,r1,q1⟩)
def HI (c:TT) (t u:TS):TS:=λD σ H=>c σ H λb H1=>if b=true then t D σ H1 else u D σ H1
theorem zz {c:Expr} {a b:List Stmt} {tc:TT} (hc:PT X c tc) (ha:vt X a t) (hb:vt X b u):PS X (.If c a b pos) (HI tc t u):=by
 intro pins s σ H D I h;refine wpAny_If (bQ (hc pins s σ H _ I h) λd s1 ⟨H1,I1,q1⟩=>?_)
 cases d with
 | true=>exact ha pins s1 σ H1 D I1 q1
 | false=>exact hb pins s1 σ H1 D I1 q1
end
abbrev TG:=V->St->Hp->(St->Hp->Prop)->Prop
abbrev AM:=List V->St->Hp->(St->Hp->Prop)->Prop
def PG (X:Cx) (target:Expr) (t:TG):Prop :=
 ∀(pins:List (Addr×Obj)) (s:Shared) (σ:St) (H:Hp) (v:V) (u:Value) (Q:St->Hp->Prop),Inv X pins σ H s->RelV v u->t v σ H Q ->
  wpAny (model X.prog X.w) X.A (assign target X.env u) (λ_ s'=>∃σ' H',Inv X pins σ' H' s'/\Q σ' H') X.xe s
def EM (X:Cx) (ts:List Expr) (t:AM):Prop :=
 ∀(pins:List (Addr×Obj)) (s:Shared) (σ:St) (H:Hp) (vs:List V) (us:List Value) (Q:St->Hp->Prop),Inv X pins σ H s->Vals vs us->t vs σ H Q ->
  wpAny (model X.prog X.w) X.A (assignInOrder ((assignEach ts X.env).map (·.2)) us) (λ_ s'=>∃σ' H',Inv X pins σ' H' s'/\Q σ' H') X.xe s
abbrev El:=V->V->V->Hp->(Hp->Prop)->Prop
def C1 (X:Cx) (t:El):Prop :=
 ∀(pins:List (Addr×Obj)) (s:Shared) (σ:St) (H:Hp) (o i v:V) (ov iv u:Value) (Q:Hp->Prop),Inv X pins σ H s->RelV o ov->RelV i iv->RelV v u->t o i v H Q ->
  wpAny (model X.prog X.w) X.A (setItem ov iv u) (λ_ s'=>∃H',Inv X pins σ H' s'/\Q H') X.xe s
section
variable {X:Cx} {pos:Pos}
def Ci (i:Nat):TG:=λv σ H Q=>Q (σ.set i (some v)) H
theorem AK {i:Nat} {x:Str} (hN:X.N.Nodup) (hi:X.N[i]?=some x) (hx:Loc X.env.scope x) (hf:X.fn x=true\/X.env.scope.names.lookup x=some .local:=by first|exact .inl rfl|exact .inr rfl|assumption):PG X (.Name x pos) (Ci i):=by
 intro pins s σ H v u Q I r h;exact wpAny_assign_Name (og I hN hi hx r (λs' I'=>⟨_,H,I',h⟩) hf)
def Ho:AM:=λvs σ H Q=>vs=[]/\Q σ H
def Gy (t:TG) (u:AM):AM:=λvs σ H Q=>∃v r,vs=v :: r/\t v σ H λσ' H'=>u r σ' H' Q
theorem BB:EM X [] Ho:=by
 intro pins s σ H vs us Q I r h;obtain⟨e,h⟩:=h;subst e;cases r;exact assignInOrder_nil ⟨σ,H,I,h⟩
theorem Ak {e:Expr} {es:List Expr} {t:TG} {u:AM} (h1:PG X e t) (h2:EM X es u)
  (hs:(assignEach (e :: es) X.env).map (·.2)=assign e X.env :: (assignEach es X.env).map (·.2):=by rfl):EM X (e :: es) (Gy t u):=by
 intro pins s σ H vs us Q I r h;obtain⟨v,vr,e1,h⟩:=h;subst e1
 cases r with
 | cons r rr =>
  rw [hs];refine assignInOrder_cons (bQ (h1 pins s σ H _ _ _ I r h) λ_ s1 ⟨σ1,H1,I1,q1⟩=>?_);exact h2 pins s1 σ1 H1 _ _ Q I1 rr q1
def HG (K:IB) (n:Nat) (t:AM):TG:=λv σ H Q=>∃a xs,v=.ref a/\fB K H a xs/\xs.length=n/\t xs σ H Q
theorem Du {es:List Expr} {k:Nat} {t:AM} {n:Nat} (hc:X.calm=true) (h:EM X es t)
  (hn:(assignEach es X.env).length=n:=by rfl) (hst:(assignEach es X.env).findIdx? (·.1)=none:=by rfl):PG X (.Tuple es k pos) (HG X.K n t):=by
 intro pins s σ H v u Q I r hw;obtain⟨a,xs,e1,hq,hl,hw⟩:=hw;subst e1;cases r;obtain⟨its,rv,ht,hz⟩:=I.tuple hq;refine assign_Tuple_tuple (I.ok.hd hc) ht (by simp [hn,<- hl,rv.length]) hst λh' hx=>?_;have I1:Inv X pins σ H { s with heap:=h' }:=I.kept (t':=s.toks) λb o e=>hx b o (Jj (IU e)) e;exact h pins _ σ H xs _ Q I1 (by simpa using rv) hw
def Hi (to ti:TE) (t:El):TG:=λv σ H Q=>to σ H λo H1=>ti σ H1 λi H2=>t o i v H2 λH3=>Q σ H3
theorem Ah {o i:Expr} {to ti:TE} {t:El} (ho:PE X o to) (hi:PE X i ti) (hs:C1 X t)
  (ha:∀v,assign (.Subscript o i pos) X.env v=(do
   let ov <- holding [v] (eval o X.env)
   let iv <- holding [v,ov] (eval i X.env)
   standAt pos
   holding [v,ov,iv] (setItem ov iv v)
   release [v,ov,iv] []):=by intro _;rfl):PG X (.Subscript o i pos) (Hi to ti t):=by
 intro pins s σ H v u Q I r h;rw [ha];refine Iw (wpAny_holding (bQ (ho pins s σ H _ I h) λov s1 hq0=>?_));obtain⟨x,H1,I1,r1,q1⟩:=hq0;refine Iw (wpAny_holding (bQ (hi pins s1 σ H1 _ I1 q1) λiv s2 hq0=>?_));obtain⟨y,H2,I2,r2,q2⟩:=hq0;refine Iw (wpAny_standAt (Iw (wpAny_holding (bQ (hs pins s2 σ H2 x y v ov iv u _ I2 r1 r2 r q2) λ_ s3 ⟨H3,I3,q3⟩=>?_))));exact wpAny_release ⟨σ,H3,I3,q3⟩
def Fo (te:TE) (g:TG):TS:=λD σ H=>te σ H λx H1=>g x σ H1 D.nx
theorem vE {tg e:Expr} {te:TE} {g:TG} (he:PE X e te) (hg:PG X tg g) (hs:swapsWithSole [tg] e pos.line X.env=pure false:=by rfl) (hw:swappedStores [tg] e X.env=pure none:=by rfl)
  (h1:(assignEach [tg] X.env).map (·.2)=[assign tg X.env]:=by rfl):PS X (.Assign [tg] e pos) (Fo te g):=by
 intro pins s σ H D I h;refine wpAny_Assign_stores (bQ (he pins s σ H _ I h) λv s1 hq0=>?_) hs hw;obtain⟨x,H1,I1,r1,q1⟩:=hq0;rw [h1];exact bQ (hg pins s1 σ H1 x v _ I1 r1 q1) λ_ s2 q=>q
theorem lF {i:Nat} {x:Str} {e:Expr} {te:TE} {pos':Pos} (hN:X.N.Nodup) (hi:X.N[i]?=some x) (hx:Loc X.env.scope x) (he:PE X e te) (hs:swapsWith e (some (.Name x pos')) pos.line X.env=pure false:=by rfl) (hf:X.fn x=true\/X.env.scope.names.lookup x=some .local:=by first|exact .inl rfl|exact .inr rfl|assumption) :
  PS X (.Assign [.Name x pos'] e pos) (Fo te (Ci i)):=by
 intro pins s σ H D I h;refine wpAny_Assign_Name (bQ (he pins s σ H _ I h) λv s1 hq0=>?_) hs;obtain⟨y,H1,I1,r1,q1⟩:=hq0;exact og I1 hN hi hx r1 (λs2 I2=>⟨_,H1,I2,q1⟩) hf
end
section
variable {X:Cx} {pos:Pos}
def Ew (c:TT) (tb:TS):TS:=λD σ H=>∃W:Nat->St->Hp->Prop,(∃m,W m σ H)/\∀m σ H,W m σ H ->
 c σ H λb H1=>if b=true then ∃N:St->Hp->Prop,(∀σ' H',N σ' H'->∃m',m' < m/\W m' σ' H')/\tb { D with nx:=N,ct:=N,bk:=D.nx } σ H1 else D.nx σ H1
theorem t9 {c:Expr} {body:List Stmt} {tc:TT} {tb:TS} (hp:PassesOwn (model X.prog X.w) X.A X.env X.xe) (hc:PT X c tc) (hb:vt X body tb):PS X (.While c body [] pos) (Ew tc tb):=by
 intro pins s σ H D I h;obtain⟨W,⟨m0,w0⟩,turn⟩:=h;refine wpAny_While (codeAny_whileLoop (λn s'=>∃σ' H',Inv X pins σ' H' s'/\W n σ' H') ?_ m0 ⟨σ,H,I,w0⟩)
 rintro n s1 ⟨σ1,H1,I1,w1⟩;refine wpAny_passesOwn hp (bQ (hc pins s1 σ1 H1 _ I1 (turn n σ1 H1 w1)) λb s2 ⟨H2,I2,q2⟩=>?_)
 cases b with
 | true =>
  obtain⟨N,hN,q2⟩:=q2;rw [if_pos rfl];refine wpAny_passesOwn hp (bQ (hb pins s2 σ1 H2 _ I2 q2) λf s3 q3=>?_)
  cases f with
  | next =>
   obtain⟨σ3,H3,I3,n3⟩:=q3;obtain⟨m',hm,w3⟩:=hN σ3 H3 n3
   exact⟨m',hm,σ3,H3,I3,w3⟩
  | cont =>
   obtain⟨σ3,H3,I3,n3⟩:=q3;obtain⟨m',hm,w3⟩:=hN σ3 H3 n3
   exact⟨m',hm,σ3,H3,I3,w3⟩
  | brk=>exact q3
  | ret v=>exact q3
 | false =>
  rw [if_neg Bool.false_ne_true];exact wpAny_execs_nil ⟨σ1,H2,I2,q2⟩
end
structure It where
 go:Nat->Hp->Prop
 yld:Nat->Hp->V->Hp->Prop
 stop:Nat->Hp->Prop
def lN (X:Cx) (pins:List (Addr×Obj)) (H:Hp) (b:Addr):Prop :=
 H b=none/\b≠X.env.locals/\b∉X.fs/\(b∈X.ex\/X.s₀.heap.objs.size<=b)/\(∀x c,X.env.cells.lookup x=some c->c≠b)/\∀p∈X.pn ++ pins,p.1≠b
theorem Inv.vy {X:Cx} {pins:List (Addr×Obj)} {σ:St} {H H':Hp} {s:Shared} {b:Addr} (I:Inv X pins σ H s) (hb:s.heap.objs.size<=b) (hn:H' b=none):lN X pins H' b:=by
 refine⟨hn,Nat.ne_of_gt (IP I.lt hb),I.G3 hb,.inr (Jz I.sz hb),λx c e z=>?_,λp hp z=>?_⟩
 ·obtain⟨v,q⟩:=I.cell x c e;exact absurd (IP q.lt (by rw [z];exact hb)) (Nat.lt_irrefl _)
 ·exact absurd (IP (IU (I.pin p hp).1) (by rw [z];exact hb)) (Nat.lt_irrefl _)
structure Turn (P:Program) (w:World) (K:IB) (tg:Expr) (J:It) (fp:List Addr) (it:Addr) (tn:Nat->Heap->Prop):Prop where
 mem:it∈fp
 obj:∀i h,tn i h->∀b∈fp,∃o,h.get? b=some o/\∀v,o.data≠.cell v
 keep:∀i h h',tn i h->(∀b∈fp,∀o,h.get? b=some o->h'.get? b=some o)->tn i h'
 item:∀(X:Cx),X.prog=P->X.w=w->X.K=K->X.calm=true->∀(i:Nat) (pins:List (Addr×Obj)) (s:Shared) (σ:St) (H:Hp) (E:Value->Shared->Prop),Inv X pins σ H s->(∀b∈fp,lN X pins H b)->tn i s.heap->J.go i H ->
  wpAny (model P w) X.A (pyNext (.ref it)) (λr s1=>∃u,r=some u /\
   wpAny (model P w) X.A (letOwnedTupleGo tg (.ref it) u) (λ_ s2=>∃x H',Inv X pins σ H' s2/\RelV x u/\J.yld i H x H'/\tn (i + 1) s2.heap/\∀b∈fp,H' b=none) E s1) E s
 done:∀(X:Cx),X.prog=P->X.w=w->X.K=K->X.calm=true->∀(i:Nat) (pins:List (Addr×Obj)) (s:Shared) (σ:St) (H:Hp) (E:Value->Shared->Prop),Inv X pins σ H s->(∀b∈fp,lN X pins H b)->tn i s.heap->J.stop i H ->
  wpAny (model P w) X.A (pyNext (.ref it)) (λr s1=>r=none/\Inv X pins σ H s1) E s
 self:∀(A:Around) (i:Nat) (s:Shared) (Q:Value->Shared->Prop) (E:Value->Shared->Prop),tn i s.heap->Q (.ref it) s->wpAny (model P w) A (pyIter (.ref it)) Q E s
abbrev TI:=St->Hp->(It->Hp->Prop)->Prop
def GI (X:Cx) (pins:List (Addr×Obj)) (σ:St) (tg:Expr) (R:It->Hp->Prop) (itv:Value) (s2:Shared):Prop :=
 ∃(it:Addr) (fp:List Addr) (tn:Nat->Heap->Prop) (J:It) (H':Hp),itv=.ref it/\Inv X pins σ H' s2/\Turn X.prog X.w X.K tg J fp it tn/\tn 0 s2.heap/\(∀b∈fp,lN X pins H' b)/\R J H'
def PI (X:Cx) (tg iter:Expr) (wi:TI):Prop :=
 ∀(pins:List (Addr×Obj)) (s:Shared) (σ:St) (H:Hp) (R:It->Hp->Prop),Inv X pins σ H s->wi σ H R ->
  wpAny (model X.prog X.w) X.A (eval iter X.env) (λv s1=>wpAny (model X.prog X.w) X.A (pyIter v) (GI X pins σ tg R) X.xe s1) X.xe s
theorem ug {M:Model} {A:Around} {E:Value->Shared->Prop} {s:Shared} {tg:Expr} {it:Addr} {u:Value} {o:Obj} {n:String} {vs:Array Value} {Q:Unit->Shared->Prop} (ho:s.heap.get? it=some o) (hc:o.cls=.type n) (hd:o.data=.fields vs)
    (hn:["enumerate","zip","dict_itemiterator","dict_reverseitemiterator","odict_iterator","itertools.zip_longest","itertools.pairwise"].contains n=false) (hQ:Q () s):wpAny M A (letOwnedTupleGo tg (.ref it) u) Q E s:=by
  unfold letOwnedTupleGo
  cases tg <;> first
    | exact ID hQ
    | (cases u <;> first
        | exact ID hQ
        | (refine Iw (wpAny_load ho ?_)
           rw [hc,hd];show wpAny M A (if (["enumerate","zip","dict_itemiterator","dict_reverseitemiterator","odict_iterator","itertools.zip_longest","itertools.pairwise"].contains n && vs[0]? == some (rawInt _))=true then _ else _) Q E s
           rw [if_neg (by intro h;rw [hn,Bool.false_and] at h;cases h)]
           exact ID hQ))
def GN (K:IB) (a:Addr):It :=
 ⟨λi H=>∃xs x,fw K H a xs/\xs[i]?=some x,λi H x H'=>H'=H/\∀xs,fw K H a xs->xs[i]?=some x,λi H=>∃xs,fw K H a xs/\xs.length<=i⟩
def GL (K:IB) (a:Addr):It :=
 ⟨λi H=>∃xs x,fB K H a xs/\xs[i]?=some x,λi H x H'=>H'=H/\∀xs,fB K H a xs->xs[i]?=some x,λi H=>∃xs,fB K H a xs/\xs.length<=i⟩
def B4 (lo:Int) (n:Nat):It:=⟨λi _=>i < n,λi H x H'=>H'=H/\x=.int (lo + i),λi _=>n<=i⟩
theorem xg {P:Program} {w:World} {K:IB} {tg:Expr} (a it:Addr):Turn P w K tg (GN K a) [it] it (λi h=>h.IsListIter it a i) where
 mem:=by simp
 obj:=λi h st b hb=>by
  have e:b=it:=by simpa using hb
  subst e;obtain⟨o,e,c,d⟩:=st;exact⟨o,e,λv z=>by rw [d] at z;cases z⟩
 keep:=λi h h' st k=>st.at λo e=>k it (by simp) o e
 item:=by
  intro X hP hw hK hc i pins s σ H E I hf st hg;subst hP hw hK;obtain⟨xs,x,hq,hx⟩:=hg;obtain⟨its,rv,p,hz⟩:=I.list hq;obtain⟨u,hu,ru⟩:=rv.get hx;obtain⟨f0,f1,f2,f3,f4,f5⟩:=hf it (by simp);refine wpAny_pyNext_list_item st p.isList (x:=u) (by simpa using hu) λh' st' sb=>?_;have I1:Inv X pins σ H { s with heap:=h' }:=I.turned (t':=s.toks) (λb o hb e=>(sb.2 b hb).trans e) f0 f1 f3 f4 f5;obtain⟨o,e,c,d⟩:=id st'
  exact⟨u,rfl,ug (s:={ s with heap:=h' }) e c d (by decide) ⟨x,H,I1,ru,⟨rfl,λys hy=>by rw [I.oO hy hq];exact hx⟩,st',λb hb=>(hf b hb).1⟩⟩
 done:=by
  intro X hP hw hK hc i pins s σ H E I hf st hg;subst hP hw hK;obtain⟨xs,hq,hx⟩:=hg;obtain⟨its,rv,p,hz⟩:=I.list hq;obtain⟨f0,f1,f2,f3,f4,f5⟩:=hf it (by simp);have hl:=rv.length;exact wpAny_pyNext_list_end (I.ok.hd hc) st p.isList (by simp;omega) λh' eb=>⟨rfl,I.turned (t':=s.toks) (λb o hb e=>eb b o hb e) f0 f1 f3 f4 f5⟩
 self:=λ_ _ _ _ _ st h=>wpAny_pyIter_listiter st h
theorem vx {P:Program} {w:World} {K:IB} {tg:Expr} (a it:Addr):Turn P w K tg (GL K a) [it] it (λi h=>h.IsTupleIter it a i) where
 mem:=by simp
 obj:=λi h st b hb=>by
  have e:b=it:=by simpa using hb
  subst e;obtain⟨o,e,c,d⟩:=st;exact⟨o,e,λv z=>by rw [d] at z;cases z⟩
 keep:=λi h h' st k=>st.at λo e=>k it (by simp) o e
 item:=by
  intro X hP hw hK hc i pins s σ H E I hf st hg;subst hP hw hK;obtain⟨xs,x,hq,hx⟩:=hg;obtain⟨its,rv,p,hz⟩:=I.tuple hq;obtain⟨u,hu,ru⟩:=rv.get hx;obtain⟨f0,f1,f2,f3,f4,f5⟩:=hf it (by simp);refine wpAny_pyNext_tuple_item st (show s.heap.IsTuple a its.toArray from p) (x:=u) (by simpa using hu) λh' st' sb=>?_;have I1:Inv X pins σ H { s with heap:=h' }:=I.turned (t':=s.toks) (λb o hb e=>(sb.2 b hb).trans e) f0 f1 f3 f4 f5
  obtain⟨o,e,c,d⟩:=id st';exact⟨u,rfl,ug (s:={ s with heap:=h' }) e c d (by decide) ⟨x,H,I1,ru,⟨rfl,λys hy=>by rw [I.gd hy hq];exact hx⟩,st',λb hb=>(hf b hb).1⟩⟩
 done:=by
  intro X hP hw hK hc i pins s σ H E I hf st hg;subst hP hw hK;obtain⟨xs,hq,hx⟩:=hg;obtain⟨its,rv,p,hz⟩:=I.tuple hq;obtain⟨f0,f1,f2,f3,f4,f5⟩:=hf it (by simp);have hl:=rv.length;exact wpAny_pyNext_tuple_end (I.ok.hd hc) st (show s.heap.IsTuple a its.toArray from p) (by simp;omega) λh' eb=>⟨rfl,I.turned (t':=s.toks) (λb o hb e=>eb b o hb e) f0 f1 f3 f4 f5⟩
 self:=λ_ _ _ _ _ st h=>wpAny_pyIter_tupleiter st h
theorem u9 {P:Program} {w:World} {K:IB} {tg:Expr} (it:Addr) (lo:Int) (n:Nat):Turn P w K tg (B4 lo n) [it] it (λi h=>IsRangeIter h it (lo + (i:Nat) * 1) ((n:Int) - (i:Nat)) 1) where
 mem:=by simp
 obj:=λi h st b hb=>by
  have e:b=it:=by simpa using hb
  subst e
  exact⟨_,st,λv z=>by
   have z':Data.fields _=Data.cell v:=z
   cases z'⟩
 keep:=λi h h' st k=>k it (by simp) _ st
 item:=by
  intro X hP hw hK hc i pins s σ H E I hf st hg;subst hP hw hK;obtain⟨f0,f1,f2,f3,f4,f5⟩:=hf it (by simp);have W:=Walks.range (prog:=X.prog) (w:=X.w) (I.ok.hd hc) it lo 1 n;refine W.item i s _ _ hg st λv h' tk hv st' kk=>?_;obtain⟨t,rfl⟩:=hv;have I1:Inv X pins σ H { s with heap:=h',toks:=tk }:=I.turned (λb o hb e=>kk b o (by simpa using hb) e) f0 f1 f3 f4 f5;refine⟨_,rfl,ug (s:={ s with heap:=h',toks:=tk }) (n:="range_iterator") st' rfl rfl (by decide) ⟨.int (lo + i),H,I1,⟨t,?_⟩,⟨rfl,rfl⟩,st',λb hb=>(hf b hb).1⟩⟩
  rw [Int.mul_one]
 done:=by
  intro X hP hw hK hc i pins s σ H E I hf st hg;subst hP hw hK;obtain⟨f0,f1,f2,f3,f4,f5⟩:=hf it (by simp);exact wpAny_pyNext_range_end (I.ok.hd hc) st (by have:n<=i:=hg;omega) λh' eb=>⟨rfl,I.turned (t':=s.toks) (λb o hb e=>eb b o hb e) f0 f1 f3 f4 f5⟩
 self:=λ_ _ _ _ _ st h=>wpAny_pyIter_rangeiter st h
section
variable {X:Cx} {tg:Expr}
theorem tX {pins:List (Addr×Obj)} {σ:St} {H:Hp} {s:Shared} {R:It->Hp->Prop} {E:Value->Shared->Prop} {lo hi:Int} {t u v:Tok} {tk:Nat} (I:Inv X pins σ H s) (h1:-(2 ^ 62)<=lo) (h2:lo < 2 ^ 62) (h3:-(2 ^ 62)<=hi) (h4:hi < 2 ^ 62)
  (q:R (B4 lo (hi - lo).toNat) H):wpAny (model X.prog X.w) X.A (pyIter (.ref s.heap.objs.size)) (GI X pins σ tg R) E { s with heap:=s.heap.push { cls:=.type "range",data:=.fields #[.int lo t,.int hi u,.int 1 v] },toks:=tk }:=by
 refine wpAny_pyIter_range (IsRange.new ..) (small_one h1 h2 h3 h4) ?_;have I1:Inv X pins σ H { s with heap:=s.heap.push { cls:=.type "range",data:=.fields #[.int lo t,.int hi u,.int 1 v] },toks:=tk }:=I.kept λb o e=>IC _ e
 refine⟨(s.heap.push { cls:=.type "range",data:=.fields #[.int lo t,.int hi u,.int 1 v] }).objs.size,[(s.heap.push { cls:=.type "range",data:=.fields #[.int lo t,.int hi u,.int 1 v] }).objs.size],_,_,H,rfl,
  I1.kept (t':=tk) λb o e=>IC _ e,u9 _ lo (hi - lo).toNat,?_,λb hb=>?_,q⟩
 ·have e1:lo + ((0:Nat):Int) * 1=lo:=by simp
  have e2:(((hi - lo).toNat:Nat):Int) - ((0:Nat):Int)=Builtin.Range.rangeSize lo hi 1:=by rw [rangeSize_one];split <;> omega
  show IsRangeIter _ _ (lo + ((0:Nat):Int) * 1) ((((hi - lo).toNat:Nat):Int) - ((0:Nat):Int)) 1
  rw [e1,e2];exact IS _ rfl
 ·have e:b=(s.heap.push { cls:=.type "range",data:=.fields #[.int lo t,.int hi u,.int 1 v] }).objs.size:=by simpa using hb
  subst e;exact I1.vy (II _) (I1.hok.fresh (II _))
def Gx (ta:TA):TI:=λσ H R=>ta σ H λvs H1=>∃j:Int,vs=[.int j]/\-(2 ^ 62)<=j/\j < 2 ^ 62/\R (B4 0 j.toNat) H1
def Fi (ta:TA):TI:=λσ H R=>ta σ H λvs H1=>∃i j:Int,vs=[.int i,.int j]/\(-(2 ^ 62)<=i/\i < 2 ^ 62/\-(2 ^ 62)<=j/\j < 2 ^ 62)/\R (B4 i (j - i).toNat) H1
theorem kT {a:Expr} {ta:TA} {p pos:Pos} (hg:Gl X "range") (hm:X.mg "range" = none) (ha:PA X [a] ta) (hs:starEach [a] X.env=[(false,eval a X.env)]:=by rfl):PI X tg (.Call (.Name "range" p) [a] [] pos) (Gx ta):=by
 intro pins s σ H R I h;refine Call_ (jB I hg hm boot_range (PyProof.Rows.callWith_type1 (bQ (ha pos pins s σ H _ I h) λus s1 ⟨vs,H1,I1,r1,q1⟩=>?_) hs rfl));obtain⟨j,e,q1,q2,q⟩:=q1;subst e
 cases r1 with
 | cons r rr =>
  cases rr;obtain⟨t,rfl⟩:=r;exact call_range_1 (tX I1 (by omega) (by omega) q1 q2 (by simpa using q))
theorem xk {a b:Expr} {ta:TA} {p pos:Pos} (hg:Gl X "range") (hm:X.mg "range" = none) (ha:PA X [a,b] ta) (hs:starEach [a,b] X.env=[(false,eval a X.env),(false,eval b X.env)]:=by rfl) (hs2:starEach [b] X.env=[(false,eval b X.env)]:=by rfl) :
  PI X tg (.Call (.Name "range" p) [a,b] [] pos) (Fi ta):=by
 intro pins s σ H R I h;refine Call_ (jB I hg hm boot_range (PyProof.Rows.callWith_type1 (bQ (ha pos pins s σ H _ I h) λus s1 ⟨vs,H1,I1,r1,q1⟩=>?_) (by rw [hs,hs2]) (by rw [hs2];rfl)));obtain⟨i,j,e,⟨q1,q2,q3,q4⟩,q⟩:=q1;subst e
 cases r1 with
 | cons r rr =>
  cases rr with
  | cons r' rr =>
   cases rr;obtain⟨t,rfl⟩:=r;obtain⟨t',rfl⟩:=r';exact call_range_2 (tX I1 q1 q2 q3 q4 q)
def Hq (wi:TI) (g:TG) (tb:TS):TS:=λD σ H=>wi σ H λJ H1=>∃W:Nat->Nat->St->Hp->Prop,(∃m,W 0 m σ H1)/\∀i m σ H,W i m σ H ->
 (J.stop i H/\D.nx σ H)\/(J.go i H/\∃N:St->Hp->Prop,(∀σ' H',N σ' H'->∃m',m' < m/\W (i + 1) m' σ' H')/\∀x H',J.yld i H x H'->g x σ H' λσ2 H2=>tb { D with nx:=N,ct:=N,bk:=D.nx } σ2 H2)
def oh (fp:List Addr) (h:Heap):List (Addr×Obj):=fp.filterMap λb=>(h.get? b).map λo=>(b,o)
theorem gK {fp:List Addr} {h:Heap} {b:Addr} {o:Obj} (hb:b∈fp) (e:h.get? b=some o):(b,o)∈oh fp h:=List.mem_filterMap.mpr ⟨b,hb,by rw [e];rfl⟩
theorem xw {fp:List Addr} {h:Heap} {p:Addr×Obj} (hp:p∈oh fp h):p.1∈fp/\h.get? p.1=some p.2:=by
 obtain⟨b,hb,e⟩:=List.mem_filterMap.mp hp
 cases q:h.get? b with
 | none=>rw [q] at e;cases e
 | some o =>
  rw [q] at e;have e':(b,o)=p:=IL e;subst e';exact⟨hb,q⟩
theorem Inv.pinned {pins:List (Addr×Obj)} {σ:St} {H:Hp} {s:Shared} {fp:List Addr} (I:Inv X pins σ H s) (hf:∀b∈fp,lN X pins H b) (ho:∀b∈fp,∃o,s.heap.get? b=some o/\∀v,o.data≠.cell v):Inv X (pins ++ oh fp s.heap) σ H s :=
 I.wc λp hp=>(Jc.mp hp).elim (λz=>I.pin p (Jr _ z)) λz=>by
  obtain⟨hb,e⟩:=xw z;obtain⟨f0,f1,f2,_⟩:=hf p.1 hb;obtain⟨o,e',d⟩:=ho p.1 hb;rw [e] at e';cases e';exact⟨e,f0,f1,f2,d⟩
theorem Inv.kI {pins pl:List (Addr×Obj)} {σ:St} {H:Hp} {s:Shared} (I:Inv X (pins ++ pl) σ H s):Inv X pins σ H s:=I.wc λp hp=>I.pin p (Jr _ (JD _ hp))
theorem lM {iter:Expr} {body:List Stmt} {wi:TI} {g:TG} {tb:TS} {pos:Pos} (hp:PassesOwn (model X.prog X.w) X.A X.env X.xe) (hc:X.calm=true) (hi:PI X tg iter wi) (hg:PG X tg g) (hb:vt X body tb)
  (hs:∀x,Jt iter X.env x=pure x:=by intro _;rfl):PS X (.For tg iter body [] pos) (Hq wi g tb):=by
 intro pins s σ H D I h;refine wpAny_For (bQ (hi pins s σ H _ I h) λv s1 h1=>bQ h1 λitv s2 h2=>?_) hs;obtain⟨it,fp,tn,J,H2,e,I2,T,st2,f2,W,⟨m0,w0⟩,turn⟩:=h2;subst e;have stat:∀{H':Hp},(∀b∈fp,H' b=none)->∀b∈fp,lN X pins H' b:=λhn b hb=>⟨hn b hb,(f2 b hb).2⟩;refine codeAny_forLoop_any (λn s'=>∃i σ' H',Inv X pins σ' H' s'/\tn i s'.heap/\(∀b∈fp,H' b=none)/\W i n σ' H') ?_ m0 ⟨0,σ,H2,I2,st2,λb hb=>(f2 b hb).1,w0⟩
 rintro n s3 ⟨i,σ3,H3,I3,st3,fr3,w3⟩;rcases turn i n σ3 H3 w3 with ⟨stop,qn⟩|⟨go,N,hN,step⟩
 ·refine wpAny_passesOwn hp (bQ (T.done X rfl rfl rfl hc i pins s3 σ3 H3 X.xe I3 (stat fr3) st3 stop) λr s4 ⟨hr,I4⟩=>?_);subst hr;exact wpAny_execs_nil ⟨σ3,H3,I4,qn⟩
 ·refine wpAny_passesOwn hp (bQ (T.item X rfl rfl rfl hc i pins s3 σ3 H3 X.xe I3 (stat fr3) st3 go) λr s4 ⟨u,hr,h4⟩=>?_);subst hr;refine wpAny_passesOwn hp (bQ h4 λ_ s5 hq0=>?_);obtain⟨x,H5,I5,r5,y5,st5,fr5⟩:=hq0;have I5':=I5.pinned (stat fr5) (T.obj _ _ st5);refine wpAny_passesOwn hp (bQ (hg _ s5 σ3 H5 x u _ I5' r5 (step x H5 y5)) λ_ s6 ⟨σ6,H6,I6,q6⟩=>?_);refine wpAny_passesOwn hp (bQ (hb _ s6 σ6 H6 _ I6 q6) λf s7 q7=>?_)
  have again:∀{σ7:St} {H7:Hp},Inv X (pins ++ oh fp s5.heap) σ7 H7 s7->N σ7 H7->∃m,m < n/\∃i σ' H',Inv X pins σ' H' s7/\tn i s7.heap/\(∀b∈fp,H' b=none)/\W i m σ' H':=λ{σ7 H7} I7 n7=>by
   obtain⟨m',hm,w7⟩:=hN σ7 H7 n7;refine⟨m',hm,i + 1,σ7,H7,I7.kI,T.keep _ _ _ st5 λb hb o e=>(I7.pin (b,o) (Jr _ (Jr _ (gK hb e)))).1,λb hb=>?_,w7⟩;obtain⟨o,e,d⟩:=T.obj _ _ st5 b hb;exact (I7.pin (b,o) (Jr _ (Jr _ (gK hb e)))).2.1
  cases f with
  | next=>obtain⟨σ7,H7,I7,n7⟩:=q7;exact again I7 n7
  | cont=>obtain⟨σ7,H7,I7,n7⟩:=q7;exact again I7 n7
  | brk=>obtain⟨σ7,H7,I7,q7⟩:=q7;exact⟨σ7,H7,I7.kI,q7⟩
  | ret v=>obtain⟨x7,σ7,H7,I7,r7,q7⟩:=q7;exact⟨x7,σ7,H7,I7.kI,r7,q7⟩
end
abbrev R2:=V->V->Hp->VK->Prop
def jm (X:Cx) (f:Value->Value->Sem Value) (r:R2):Prop :=
 ∀(pins:List (Addr×Obj)) (s:Shared) (σ:St) (H:Hp) (x y:V) (v u:Value) (Q:VK),Inv X pins σ H s->RelV x v->RelV y u->r x y H Q ->
  wpAny (model X.prog X.w) X.A (f v u) (EP X pins σ Q) X.xe s
def GJ (X:Cx) (f:Value->Sem Value) (r:V->Hp->VK->Prop):Prop :=
 ∀(pins:List (Addr×Obj)) (s:Shared) (σ:St) (H:Hp) (x:V) (v:Value) (Q:VK),Inv X pins σ H s->RelV x v->r x H Q ->
  wpAny (model X.prog X.w) X.A (f v) (EP X pins σ Q) X.xe s
def eQ (X:Cx) (f:Value) (r:List V->Hp->VK->Prop):Prop :=
 ∀(pins:List (Addr×Obj)) (s:Shared) (σ:St) (H:Hp) (xs:List V) (us:List Value) (Q:VK),Inv X pins σ H s->Vals xs us->r xs H Q ->
  wpAny (model X.prog X.w) X.A (call f us) (EP X pins σ Q) X.xe s
def EG (r:R2) (ta tb:TE):TE:=λσ H Q=>ta σ H λx H1=>tb σ H1 λy H2=>r x y H2 Q
def Ii (r:V->Hp->VK->Prop) (ta:TE):TE:=λσ H Q=>ta σ H λx H1=>r x H1 Q
def rI (C:Int->Int->Prop) (g:Int->Int->V):R2:=λx y H Q=>∃i j,x=.int i/\y=.int j/\C i j/\Q (g i j) H
def AA (g:Int->Int->V):R2:=λx y H Q=>∃i j,x=.int i/\y=.int j/\Q (g i j) H
def rU (g:Int->V):V->Hp->VK->Prop:=λx H Q=>∃i,x=.int i/\Q (g i) H
section
variable {X:Cx} {a b c:Expr} {ta tb tc:TE} {pos:Pos}
theorem Dy (ha:PE X a ta) (hb:PE X b tb) {pins:List (Addr×Obj)} {s:Shared} {σ:St} {H:Hp} {R:V->V->Hp->Prop} (I:Inv X pins σ H s)
  (h:ta σ H λx H1=>tb σ H1 λy H2=>R x y H2) {Q:Value->Shared->Prop} {f:Value->Value->Sem Value}
  (hf:∀v u s2 x y H2,Inv X pins σ H2 s2->RelV x v->RelV y u->R x y H2->wpAny (model X.prog X.w) X.A (f v u) Q X.xe s2) :
  wpAny (model X.prog X.w) X.A (eval a X.env) (λv s₁=>wpAny (model X.prog X.w) X.A (eval b X.env) (λu s₂=>wpAny (model X.prog X.w) X.A (f v u) Q X.xe s₂) X.xe s₁) X.xe s:=by
 refine bQ (ha pins s σ H _ I h) λv s1 hq0=>?_;obtain⟨x,H1,I1,r1,q1⟩:=hq0;refine bQ (hb pins s1 σ H1 _ I1 q1) λu s2 hq0=>?_;obtain⟨y,H2,I2,r2,q2⟩:=hq0;exact hf v u s2 x y H2 I2 r1 r2 q2
theorem FQ {op:Operator} {r:R2} (ho:jm X (binaryOp op) r) (ha:PE X a ta) (hb:PE X b tb):PE X (.BinOp a op b pos) (EG r ta tb):=by
 intro pins s σ H Q I h;exact wpAny_BinOp (Dy ha hb I h λv u s2 x y H2 I2 rx ry q=>ho pins s2 σ H2 x y v u Q I2 rx ry q)
theorem E4 {op:UnaryOp} {r:V->Hp->VK->Prop} (ho:GJ X (unaryOp op) r) (ha:PE X a ta):PE X (.UnaryOp op a pos) (Ii r ta):=by
 intro pins s σ H Q I h;exact UnaryOp_ (bQ (ha pins s σ H _ I h) λv s1 ⟨x,H1,I1,r1,q1⟩=>ho pins s1 σ H1 x v Q I1 r1 q1)
theorem GX {f:Value->Value->Sem Value} {C:Int->Int->Prop} {g:Int->Int->Int}
  (rule:∀(i j:Int) (t u:Tok) (s:Shared) (Q:Value->Shared->Prop) (E:Value->Shared->Prop),C i j->Q (.int (g i j) s.toks) { s with toks:=s.toks + 1 }->wpAny (model X.prog X.w) X.A (f (.int i t) (.int j u)) Q E s) :
  jm X f (rI C λi j=>.int (g i j)):=by
 intro pins s σ H x y v u Q I rx ry h;obtain⟨i,j,rfl,rfl,hc,q⟩:=h;obtain⟨t,rfl⟩:=rx;obtain⟨t',rfl⟩:=ry;exact rule i j t t' s _ _ hc ⟨.int (g i j),H,I.tok _,⟨_,rfl⟩,q⟩
theorem FE {f:Value->Value->Sem Value} {g:Int->Int->Int}
  (rule:∀(i j:Int) (t u:Tok) (s:Shared) (Q:Value->Shared->Prop) (E:Value->Shared->Prop),Q (.int (g i j) s.toks) { s with toks:=s.toks + 1 }->wpAny (model X.prog X.w) X.A (f (.int i t) (.int j u)) Q E s) :
  jm X f (AA λi j=>.int (g i j)):=by
 intro pins s σ H x y v u Q I rx ry h;obtain⟨i,j,rfl,rfl,q⟩:=h;obtain⟨t,rfl⟩:=rx;obtain⟨t',rfl⟩:=ry;exact rule i j t t' s _ _ ⟨.int (g i j),H,I.tok _,⟨_,rfl⟩,q⟩
theorem Eu {f:Value->Value->Sem Value} {g:Int->Int->Bool}
  (rule:∀(i j:Int) (t u:Tok) (s:Shared) (Q:Value->Shared->Prop) (E:Value->Shared->Prop),Q (.bool (g i j)) s->wpAny (model X.prog X.w) X.A (f (.int i t) (.int j u)) Q E s) :
  jm X f (AA λi j=>.bl (g i j)):=by
 intro pins s σ H x y v u Q I rx ry h;obtain⟨i,j,rfl,rfl,q⟩:=h;obtain⟨t,rfl⟩:=rx;obtain⟨t',rfl⟩:=ry;exact rule i j t t' s _ _ ⟨.bl (g i j),H,I,rfl,q⟩
def Dw (i j:Int):Prop:=0<=j/\j<=1000000/\i.natAbs < 2 ^ 64
theorem CH:jm X (binaryOp .Add) (AA λi j=>.int (i + j)):=FE λ_ _ _ _ _ _ _ q=>add_int q
theorem DD:jm X (binaryOp .Sub) (AA λi j=>.int (i - j)):=FE λ_ _ _ _ _ _ _ q=>sub_int q
theorem Bz:jm X (binaryOp .Mod) (rI (λ_ j=>j≠0) λi j=>.int (i.fmod j)):=GX λ_ _ _ _ _ _ _ hc q=>mod_int' hc q
theorem DG:jm X (binaryOp .Pow) (rI Dw λi j=>.int (i ^ j.toNat)):=GX λ_ _ _ _ _ _ _ hc q=>pow_int_small hc.1 hc.2.1 hc.2.2 q
theorem Ie {f:Value->Sem Value} {g:Int->Int}
  (rule:∀(i:Int) (t:Tok) (s:Shared) (Q:Value->Shared->Prop) (E:Value->Shared->Prop),Q (.int (g i) s.toks) { s with toks:=s.toks + 1 }->wpAny (model X.prog X.w) X.A (f (.int i t)) Q E s) :
  GJ X f (rU λi=>.int (g i)):=by
 intro pins s σ H x v Q I rx h;obtain⟨i,rfl,q⟩:=h;obtain⟨t,rfl⟩:=rx;exact rule i t s _ _ ⟨.int (g i),H,I.tok _,⟨_,rfl⟩,q⟩
theorem Ef:GJ X (unaryOp .USub) (rU λi=>.int (-i)):=Ie λ_ _ _ _ _ q=>neg_int q
end
section
variable {X:Cx} {a b c:Expr} {ta tb tc:TE} {pos:Pos}
theorem Et {pins:List (Addr×Obj)} {σ:St} {H:Hp} {s:Shared} {Q:VK} {k k':Bool} (I:Inv X pins σ H s) (q:Q (.bl k) H) (e:k=k'):EP X pins σ Q (.bool k') s:=by
 subst e;exact⟨.bl k,H,I,rfl,q⟩
theorem FK:jm X (compareOp .Lt) (AA λi j=>.bl (decide (i < j))):=Eu λ_ _ _ _ _ _ _ q=>lt_int q
theorem EU:jm X (compareOp .Gt) (AA λi j=>.bl (decide (j < i))):=Eu λ_ _ _ _ _ _ _ q=>gt_int q
theorem FV:jm X (compareOp .GtE) (AA λi j=>.bl (decide (j<=i))):=Eu λ_ _ _ _ _ _ _ q=>ge_int q
theorem Bk:jm X (compareOp .IsNot) (λx y H Q=>y=.non/\Q (.bl (!decide (x=.non))) H):=by
 intro pins s σ H x y v u Q I rx ry h;obtain⟨rfl,q⟩:=h;cases ry;refine isnot_none_gen (Et I q ?_)
 cases x <;> first
  | (cases rx;rfl)
  | (obtain⟨t,rfl⟩:=rx;rfl)
theorem jm.or {f:Value->Value->Sem Value} {r r':R2} (h:jm X f r) (h':jm X f r'):jm X f (λx y H Q=>r x y H Q\/r' x y H Q):=by
 intro pins s σ H x y v u Q I rx ry q;rcases q with q|q
 ·exact h pins s σ H x y v u Q I rx ry q
 ·exact h' pins s σ H x y v u Q I rx ry q
theorem fX (b:Expr) {op:CmpOp} (h:op≠.In:=by decide) (h2:op≠.NotIn:=by decide):behindInMarks op b=false:=by
 have e1:(op == CmpOp.In)=false:=by cases op <;> first|rfl|exact absurd rfl h
 have e2:(op == CmpOp.NotIn)=false:=by cases op <;> first|rfl|exact absurd rfl h2
 cases b <;> simp [behindInMarks,e1,e2]
theorem AL {op:CmpOp} {r:R2} (ho:jm X (compareOp op) r) (ha:PE X a ta) (hb:PE X b tb) (hm:behindInMarks op b=false):PE X (.Compare a [op] [b] pos) (EG r ta tb):=by
 intro pins s σ H Q I h;exact wpAny_Compare1 (Dy ha hb I h λv u s2 x y H2 I2 rx ry q=>ho pins s2 σ H2 x y v u Q I2 rx ry q) hm
def Gm (t:TE):TT:=λσ H Q=>t σ H λx H'=>∃k,x=.bl k/\Q k H'
theorem kO {op:CmpOp} {r:R2} (ho:jm X (compareOp op) r) (ha:PE X a ta) (hb:PE X b tb) (hm:behindInMarks op b=false):PT X (.Compare a [op] [b] pos) (Gm (EG r ta tb)):=by
 intro pins s σ H Q I h
 refine wpAny_isTrue_Compare1 (bQ (ha pins s σ H _ I h) λv s1 ⟨x,H1,I1,r1,q1⟩=>bQ (hb pins s1 σ H1 _ I1 q1) λu s2 ⟨y,H2,I2,r2,q2⟩ =>
  bQ (ho pins s2 σ H2 x y v u _ I2 r1 r2 q2) λc s3 ⟨z,H3,I3,r3,k,e,q3⟩=>?_) hm
 subst e;cases r3;exact wpAny_truthy_bool ⟨H3,I3,q3⟩
theorem lP:(sizeLine:Nat) < 2 ^ 63:=by rw [sizeLine_eq];decide
theorem vI:jm X (binaryOp .Add) (λx y H Q=>∃i j,x=.str i/\y=.str j/\i.length + j.length<=sizeLine/\Q (.str (i ++ j)) H):=by
 intro pins s σ H x y v u Q I rx ry h;obtain⟨i,j,rfl,rfl,hz,q⟩:=h;obtain⟨t,rfl⟩:=rx;obtain⟨t',rfl⟩:=ry;exact add_str (λt' tk=>⟨.str (i ++ j),H,I.tok _,⟨_,rfl⟩,q⟩) hz
theorem vals1 {x:V} {us:List Value} (r:Vals [x] us):∃u,us=[u]/\RelV x u:=by
 cases r with
 | cons r1 r2=>cases r2;exact⟨_,rfl,r1⟩
theorem vals2 {x y:V} {us:List Value} (r:Vals [x,y] us):∃u w',us=[u,w']/\RelV x u/\RelV y w':=by
 cases r with
 | cons r1 r2 =>
  cases r2 with
  | cons r3 r4=>cases r4;exact⟨_,_,rfl,r1,r3⟩
theorem yn:eQ X (.builtin "abs") (λxs H Q=>∃i,xs=[.int i]/\Q (.int (if i < 0 then -i else i)) H):=by
 intro pins s σ H xs us Q I r h;obtain⟨i,rfl,q⟩:=h;obtain⟨u,rfl,t,rfl⟩:=vals1 r;exact call_abs_int λu tk=>⟨.int (if i < 0 then -i else i),H,I.tok _,⟨_,rfl⟩,q⟩
theorem xP (hc:X.calm=true):eQ X (.builtin "max") (λxs H Q=>∃i j,xs=[.int i,.int j]/\Q (.int (if j > i then j else i)) H):=by
 intro pins s σ H xs us Q I r h;obtain⟨i,j,rfl,q⟩:=h;obtain⟨u,w',rfl,⟨t,rfl⟩,⟨t',rfl⟩⟩:=vals2 r;refine max_two_ints (I.ok.hd hc) λh' tk k=>⟨_,H,I.kept k,?_,q⟩
 by_cases hj:j > i
 ·rw [if_pos hj,if_pos hj];exact⟨_,rfl⟩
 ·rw [if_neg hj,if_neg hj];exact⟨_,rfl⟩
theorem xG (hc:X.calm=true):eQ X (.builtin "min") (λxs H Q=>∃i j,xs=[.int i,.int j]/\Q (.int (if j < i then j else i)) H):=by
 intro pins s σ H xs us Q I r h;obtain⟨i,j,rfl,q⟩:=h;obtain⟨u,w',rfl,⟨t,rfl⟩,⟨t',rfl⟩⟩:=vals2 r;refine min_two_ints (I.ok.hd hc) λh' tk k=>⟨_,H,I.kept k,?_,q⟩
 by_cases hj:j < i
 ·rw [if_pos hj,if_pos hj];exact⟨_,rfl⟩
 ·rw [if_neg hj,if_neg hj];exact⟨_,rfl⟩
theorem xK:eQ X (.type "int") (λxs H Q=>(∃i,xs=[.int i]/\Q (.int i) H)\/∃k,xs=[.bl k]/\Q (.int (if k then 1 else 0)) H):=by
 intro pins s σ H xs us Q I r h;rcases h with ⟨i,rfl,q⟩|⟨k,rfl,q⟩
 ·obtain⟨u,rfl,t,rfl⟩:=vals1 r;exact call_int_int ⟨.int i,H,I,⟨_,rfl⟩,q⟩
 ·obtain⟨u,rfl,r1⟩:=vals1 r;cases r1;exact call_int_bool ⟨.int (if k then 1 else 0),H,I.tok _,⟨_,rfl⟩,q⟩
end
theorem tF.some_of {v:V} {o:Option Value} (r:tF (some v) o):∃u,o=some u/\RelV v u:=by
 cases o with
 | none=>exact (show False from r).elim
 | some u=>exact⟨u,rfl,r⟩
structure cQ (k:Nat) (A:Around):Prop where
 hd:A.handled=none
 dp:A.depth + 3 * k + 5 < recursionLimit
 un:A.units + 16 * k + 200 < cLine
theorem cQ.mono {j k:Nat} {A:Around} (r:cQ k A) (h:j<=k):cQ j A:=⟨r.hd,by have:=r.dp;omega,by have:=r.un;omega⟩
theorem cQ.deeper {k:Nat} {A:Around} (r:cQ (k + 1) A) (env:Env):cQ k (A.deeper env) :=
 ⟨r.hd,by have:=r.dp;show A.depth + 1 + 3 * k + 5 < _;omega,by have:=r.un;show A.units + 3 + 16 * k + 200 < _;omega⟩
theorem cQ.depth {k:Nat} {A:Around} (r:cQ k A):A.depth < recursionLimit:=by have:=r.dp;omega
theorem cQ.units {k:Nat} {A:Around} (r:cQ k A):A.units + 64 < cLine:=by have:=r.un;omega
def Hg:TA:=λ_ H Q=>Q [] H
def E6 (ta:TE) (tr:TA):TA:=λσ H Q=>ta σ H λx H1=>tr σ H1 λxs H2=>Q (x :: xs) H2
section
variable {X:Cx} {e:Expr} {es:List Expr} {te:TE} {t:TA} {pos:Pos}
theorem f6:PA X [] Hg:=λ_ _ _ _ H Q I h=>Calls.spliced_nil ⟨[],H,I,.nil,h⟩
theorem dO (ha:PE X e te) (hr:PA X es t) (hs:starEach (e :: es) X.env=(false,eval e X.env) :: starEach es X.env:=by rfl):PA X (e :: es) (E6 te t):=by
 intro pos pins s σ H Q I h;rw [hs];show wpAny _ _ (spliced ((false,eval e X.env) :: backTo pos (starEach es X.env))) _ _ s
 refine JO (bQ (ha pins s σ H _ I h) λu s1 hq0=>?_);obtain⟨x,H1,I1,r1,q1⟩:=hq0;exact bQ (hr pos pins s1 σ H1 _ I1 q1) λus s2 ⟨xs,H2,I2,r2,q2⟩=>⟨x :: xs,H2,I2,.cons r1 r2,q2⟩
def Hk (t:TA):TE:=λσ H Q=>t σ H λxs H1=>xs.length<=sizeLine/\∀p,H1 p=none->Q (.ref p) (upd H1 p (.tup xs))
def Hh (t:TA):TE:=λσ H Q=>t σ H λxs H1=>xs.length<=sizeLine/\∀p,H1 p=none->Q (.ref p) (upd H1 p (.lst xs))
theorem Ed {x1} (h:PA X es t):PE X (.Tuple es x1 pos) (Hk t):=by
 intro pins s σ H Q I hq;refine wpAny_Tuple_spliced (bQ (h pos pins s σ H _ I hq) λus s1 ⟨xs,H1,I1,r,z,q⟩=>⟨by rw [<- r.length];exact z,?_⟩);have hf:H1 s1.heap.objs.size=none:=I1.hok.fresh (II _);refine⟨.ref s1.heap.objs.size,upd H1 s1.heap.objs.size (.tup xs),I1.laid (t':=s1.toks) (λb u e=>IC _ e) (II _) ?_,rfl,q _ hf⟩;exact⟨z,us,r,⟨_,IS _ rfl,rfl,⟨_,rfl⟩,rfl⟩⟩
theorem uL (h:PA X es t):PE X (.List es pos) (Hh t):=by
 intro pins s σ H Q I hq;refine wpAny_List_spliced (bQ (h pos pins s σ H _ I hq) λus s1 ⟨xs,H1,I1,r,z,q⟩=>⟨by rw [<- r.length];exact z,?_⟩);have hf:H1 s1.heap.objs.size=none:=I1.hok.fresh (II _);refine⟨.ref s1.heap.objs.size,upd H1 s1.heap.objs.size (.lst xs),I1.laid (t':=s1.toks) (λb u e=>IC _ e) (II _) ?_,rfl,q _ hf⟩;exact⟨z,us,0,r,IS _ rfl⟩
end
abbrev Sp:=List V->Hp->VK->XK->Prop
abbrev zN:=List Env->Hp->Shared->XK->Value->Shared->Prop
structure uS (P:Program) (w:World) (K:IB) (mg:Str->Option Value) (base:Heap) (A:Around) (outer:List Env) (s:Shared) (H:Hp):Prop where
 frames:A.frames=some outer
 mod:Mod K mg base
 bs:∀b o,base.get? b=some o->s.heap.get? b=some o/\H b=none
 bsz:base.objs.size<=s.heap.objs.size
 kP:s.heap.FunFrames base outer
 frf:(∀b∈jP outer,H b=none)/\BC K H
 hok:jk P w H s.heap
 bare:AllBare s.gens
def CE (outer:List Env) (P:Program) (w:World) (H:Hp) (s:Shared) (Q:VK) (u:Value) (s':Shared):Prop :=
 ∃v H',s'.os=s.os/\AllBare s'.gens/\Un (jP outer) [] H H' s.heap s'.heap/\jk P w H' s'.heap/\RelV v u/\Q v H'
def CR (CX:zN) (outer:List Env) (P:Program) (w:World) (H:Hp) (s:Shared) (Q:VK) (E:XK) (r:Result) (s':Shared):Prop :=
 match r with
 | .ok (.ret u)=>CE outer P w H s Q u s'
 | .ok _=>False
 | .error e=>CX outer H s E e s'
structure oq (P:Program) (w:World) (K:IB) (mg:Str->Option Value) (base:Heap) (CX:zN) (k:Nat) (f:Addr) (fd:FuncData) (ps:List Str) (sp:Sp):Prop where
 len:∀vs H Q E,sp vs H Q E->vs.length=ps.length
 run:∀(A:Around) (outer:List Env) (s:Shared) (H:Hp) (args:Args) (us:List Value) (vs:List V) (Q:VK) (E:XK),cQ k A->uS P w K mg base A outer s H->BindsTo s fd args (ps.zip us)->Vals vs us->sp vs H Q E ->
  codeAny (model P w) A (.call (.ref f) args) (CR CX outer P w H s Q E) s
section
variable {X:Cx} {pins:List (Addr×Obj)} {σ:St} {H:Hp} {s s':Shared}
theorem Inv.gD (I:Inv X pins σ H s):uS X.prog X.w X.K X.mg X.base X.A X.stack s H :=
 ⟨I.ok.frames,I.ok.mod,I.bs,Jz I.ok.bsz I.sz,I.stack,⟨I.m9,I.tb⟩,I.hok,I.bare⟩
theorem Inv.after {Q:VK} {u:Value} (I:Inv X pins σ H s) (h:CE X.stack X.prog X.w H s Q u s'):EP X pins σ Q u s':=by
 obtain⟨v,H',os,bare,un,hok,r,q⟩:=h;obtain⟨hh,g,d,t,os'⟩:=s';obtain rfl:os'=s.os:=os;exact⟨v,H',I.call (h':=hh) (g':=g) (d':=d) (t':=t) (ch:=[]) un hok bare (λb z=>absurd z (by simp)),r,q⟩
end
def Fh (sp:Sp) (dvs:List V) (E:XK) (t:TA):TE:=λσ H Q=>t σ H λvs H1=>sp (vs ++ dvs) H1 Q E
def Binds (K:IB) (fd:FuncData) (ps:List Str) (ds:List Value):Prop :=
 ∀(s:Shared) (us:List Value),K.In s.heap->(us ++ ds).length=ps.length->BindsTo s fd ⟨us,[]⟩ (ps.zip (us ++ ds))
theorem Binds.all {K:IB} {fd:FuncData} {ps:List Str} (h:∀us:List Value,us.length=ps.length->bindArgs fd ⟨us,[]⟩=pure (ps.zip us)):Binds K fd ps []:=λs us _ hl=>by
 rw [Jw] at hl ⊢;exact .of_eq (h us hl)
def Passes (CX:zN) (X:Cx) (E:XK):Prop:=∀(pins:List (Addr×Obj)) (σ:St) (H:Hp) (s:Shared) (e:Value) (s':Shared),Inv X pins σ H s->CX X.stack H s E e s'->X.xe e s'
section
variable {X:Cx} {CX:zN} {k:Nat} {f C:Addr} {fd:FuncData} {ps:List Str} {sp:Sp} {dvs:List V} {ds:List Value} {E:XK} {x m:Str} {p pos apos:Pos} {e o:Expr} {es:List Expr} {ta:TE} {t:TA}
theorem DE {pins:List (Addr×Obj)} {σ:St} {H:Hp} {s:Shared} {Q:VK} {us:List Value} {vs:List V} (F:oq X.prog X.w X.K X.mg X.base CX k f fd ps sp) (hr:cQ k X.A) (hb:Binds X.K fd ps ds) (hd:Vals dvs ds) (hx:Passes CX X E)
  (I:Inv X pins σ H s) (r:Vals vs us) (h:sp (vs ++ dvs) H Q E):wpAny (model X.prog X.w) X.A (call (.ref f) us) (EP X pins σ Q) X.xe s:=by
 have r2:Vals (vs ++ dvs) (us ++ ds):=r.append hd;have hl:(us ++ ds).length=ps.length:=by rw [<- r2.length];exact F.len _ _ _ _ h
 refine wpAny_call (codeAny_mono (F.run X.A X.stack s H ⟨us,[]⟩ (us ++ ds) (vs ++ dvs) Q E hr I.gD (hb s us I.zH hl) r2 h) λr s' hq=>?_)
 cases r with
 | error e=>exact hx pins σ H s e s' I hq
 | ok fl =>
  cases fl with
  | ret u=>exact I.after hq
  | next=>exact False.elim hq
  | brk=>exact False.elim hq
  | cont=>exact False.elim hq
theorem Bb (F:oq X.prog X.w X.K X.mg X.base CX k f fd ps sp) (hr:cQ k X.A) (hg:Gl X x) (hm:X.mg x=some (.ref f)) (hk:PySem.W.keepIn X.K (.ref f)=true) (hb:Binds X.K fd ps ds) (hd:Vals dvs ds) (hx:Passes CX X E)
  (ha:PA X (e :: es) t) (hdb:(x == ("__debug__" : Str))=false:=by decide) (he:starEach (e :: es) X.env=(false,eval e X.env) :: starEach es X.env:=by rfl) (hpl:(backTo pos (starEach es X.env)).any (·.1)=false:=by rfl) :
  PE X (.Call (.Name x p) (e :: es) [] pos) (Fh sp dvs E t):=by
 intro pins s σ H Q I h;refine wpAny_Call_Name_kw (iU I hg hm ?_ hdb);refine PySem.W.callWith_K (h₀:=X.base) I.ok.mod.kin hk (bQ (ha pos pins s σ H _ I h) λus s1 ⟨vs,H1,I1,r,q⟩=>⟨I1.zH,?_⟩) he hpl;exact DE F hr hb hd hx I1 r q
end
structure aK (N P:List Str) (sc:Scope):Prop where
 kind:sc.kind=.function
 co:sc.isCoroutine=false
 gen:sc.isGenerator=false
 nd:N.Nodup
 pre:N.take P.length=P
 par:∀x∈P,sc.names.lookup x=some .local\/sc.names.lookup x=some .cell
 nofree:∀y∈sc.names,y.2≠.free
theorem p5 {kindOf:Str->Option NameKind} {x:Str}:∀{binds:List (Str×Value)} {m:Str->Option Value},(∀v,(x,v)∉binds)->bindL kindOf binds m x=m x
 | [],_,_=>rfl
 | (n,v) :: r,m,h=>by
  unfold bindL;rw [p5 λw hw=>h w (IT _ hw)]
  split
  ·have:x≠n:=by rintro rfl;exact h v Jb
   simp [this]
  ·rfl
theorem pN {kindOf:Str->Option NameKind} {x:Str}:∀{binds:List (Str×Value)} {m:Str->Option Value},(∀v,(x,v)∉binds)->bindC kindOf binds m x=m x
 | [],_,_=>rfl
 | (n,v) :: r,m,h=>by
  unfold bindC;rw [pN λw hw=>h w (IT _ hw)]
  split
  ·rfl
  ·have:x≠n:=by rintro rfl;exact h v Jb
   simp [this]
theorem qd {kindOf:Str->Option NameKind} {x:Str} {v:Value}:∀{P:List Str} {vs:List Value} {i:Nat} {m:Str->Option Value},P.Nodup->P[i]?=some x->vs[i]?=some v->kindOf x=some .local ->
  bindL kindOf (P.zip vs) m x=some v
 | [],_,_,_,_,h,_,_=>by simp at h
 | _ :: _,[],_,_,_,_,h,_=>by simp at h
 | p :: P,w :: vs,0,m,nd,h1,h2,hk=>by
  simp at h1 h2;subst h1;subst h2;show bindL kindOf ((p,w) :: P.zip vs) m p=_
  unfold bindL;rw [p5 λv hv=>(Jx.mp nd).1 (List.of_mem_zip hv).1,if_pos hk]
  simp
 | p :: P,w :: vs,i + 1,m,nd,h1,h2,hk=>by
  show bindL kindOf ((p,w) :: P.zip vs) m x=_
  unfold bindL;exact qd (i:=i) (Jx.mp nd).2 (by simpa using h1) (by simpa using h2) hk
theorem pI {kindOf:Str->Option NameKind} {x:Str} {v:Value}:∀{P:List Str} {vs:List Value} {i:Nat} {m:Str->Option Value},P.Nodup->P[i]?=some x->vs[i]?=some v->kindOf x≠some .local ->
  bindC kindOf (P.zip vs) m x=some v
 | [],_,_,_,_,h,_,_=>by simp at h
 | _ :: _,[],_,_,_,_,h,_=>by simp at h
 | p :: P,w :: vs,0,m,nd,h1,h2,hk=>by
  simp at h1 h2;subst h1;subst h2;show bindC kindOf ((p,w) :: P.zip vs) m p=_
  unfold bindC;rw [pN λv hv=>(Jx.mp nd).1 (List.of_mem_zip hv).1,if_neg hk]
  simp
 | p :: P,w :: vs,i + 1,m,nd,h1,h2,hk=>by
  show bindC kindOf ((p,w) :: P.zip vs) m x=_
  unfold bindC;exact pI (i:=i) (Jx.mp nd).2 (by simpa using h1) (by simpa using h2) hk
def start (N:List Str) (vs:List V):St:=vs.map some ++ List.replicate (N.length - vs.length) none
def jc (CX:zN) (P:Program) (w:World) (K:IB) (mg:Str->Option Value) (base:Heap) (N:List Str) (qual:Str) (scope:Scope) (f:Addr) (cd:Value) (A:Around) (outer:List Env) (s:Shared) (H:Hp) (E:XK):Cx where
 prog:=P
 w:=w
 K:=K
 mg:=mg
 base:=base
 A:=A.deeper (envOfC qual scope s.heap.objs.size f cd)
 N:=N
 s₀:=s
 H₀:=H
 env:=envOfC qual scope s.heap.objs.size f cd
 outer:=outer
 stack:=envOfC qual scope s.heap.objs.size f cd :: outer
 ex:=[]
 calm:=true
 fn:=λ_=>true
 pn:=[]
 xe:=λe s'=>wpAny (model P w) (A.deeper (envOfC qual scope s.heap.objs.size f cd)) (leaving (envOfC qual scope s.heap.objs.size f cd) e) (λ_ s''=>CX outer H s E e s'') (λe' s''=>CX outer H s E e' s'') s'
theorem sa {sc:Scope} {n:Nat} {x:Str} (h:sc.names.lookup x=some .cell):∃c,(cellsFrom n sc.names []).lookup x=some c:=by
 have q:=PySem.W.cellsFrom_some sc.names n [] (.inl h);exact Option.isSome_iff_exists.mp q
theorem xJ {CX:zN} {P:Program} {w:World} {K:IB} {mg:Str->Option Value} {base:Heap} {N ps:List Str} {qual:Str} {scope:Scope} {f:Addr} {cd:Value} {A:Around} {outer:List Env} {s s1:Shared} {H:Hp} {E:XK} {us:List Value} {vs:List V}
  (S:aK N ps scope) (hd:A.handled=none) (e0:uS P w K mg base A outer s H) (hl:vs.length=ps.length) (r:Vals vs us)
  (x:InCallC s s.heap.objs.size (bindL (envOfC qual scope s.heap.objs.size f cd).kindOf (ps.zip us) λ_=>none) (cellsFrom (s.heap.objs.size + 1) scope.names []) (bindC (envOfC qual scope s.heap.objs.size f cd).kindOf (ps.zip us) λ_=>none) s1) :
  Inv (jc CX P w K mg base N qual scope f cd A outer s H E) [] (start N vs) H s1:=by
 have hpl:ps.length<=N.length:=by have:=congrArg List.length S.pre;rw [List.length_take] at this;omega
 obtain⟨h1,tk,rfl,hk⟩:=x.done;have noA:∀b:Addr,b∉(jc CX P w K mg base N qual scope f cd A outer s H E).ex:=λb z=>absurd (show b∈([]:List Addr) from z) (by simp)
 refine⟨⟨e0.mod,S.kind,rfl,rfl,II _,λy z c h1 h2=>?_,λy hy=>?_,λy c _ h=>?_,λ_=>hd,Around.frames_deeper e0.frames,.inr ⟨rfl,rfl⟩,λb z=>absurd z (noA b),e0.bs,e0.bsz,λb _ _=>noA b,λb z=>absurd z (noA b),e0.kP,e0.frf⟩,
  rfl,e0.bare,Un.kept hk,⟨_,x.toInCall.ns,λi y v h1 h2 h3=>?_⟩,λy c h=>⟨_,x.cell y c h⟩,e0.hok.fresh (II _),λy c h=>?_,λp hp=>absurd (show p∈([]:List (Addr×Obj)) from hp) (by simp),e0.hok.kept hk,?_⟩
 ·exact name_of_addr x.apart (PySem.mem_of_lookup h1) (PySem.mem_of_lookup h2)
 ·have hy:scope.names.lookup y=some .cell\/scope.names.lookup y=some .free:=hy;rcases hy with hy|hy
  ·exact sa hy
  ·exact absurd rfl (S.nofree _ (PySem.mem_of_lookup hy))
 ·exact JS (x.above y c (PySem.mem_of_lookup h))
 ·have hi:i < vs.length:=by
   unfold start at h2
   by_cases hi:i < vs.length
   ·exact hi
   ·rw [IQ (by simpa using hi)] at h2;rw [Jp] at h2
    split at h2 <;> cases h2
  have ha:vs[i]?=some v:=by
   unfold start at h2;rw [IW (by simpa using hi),IJ] at h2
   cases e:vs[i]? with
   | none=>rw [e] at h2;cases h2
   | some a=>rw [e] at h2;cases h2;rfl
  obtain⟨u,hu,rv⟩:=r.get ha
  have hp:ps[i]?=some y:=by
   rw [<- S.pre,List.getElem?_take_of_lt (by omega)];exact h1
  have ndP:ps.Nodup:=by rw [<- S.pre];exact S.nd.sublist (List.take_sublist _ _)
  refine⟨u,rv,?_⟩;rcases S.par y (IG hp) with k|k
  ·exact .inl ⟨k,qd ndP hp hu k⟩
  ·obtain⟨c,e⟩:=sa (n:=s.heap.objs.size + 1) k;refine .inr ⟨.inl k,c,e,?_⟩;have q:=x.cell y c e;rw [pI ndP hp hu (by show scope.names.lookup y≠_;rw [k];decide)] at q;exact q
 ·exact e0.hok.fresh (JS (x.above y c (PySem.mem_of_lookup h)))
 ·unfold start;show _=N.length
  rw [Jd,IK,List.length_replicate];omega
theorem Ag {CX:zN} {P:Program} {w:World} {K:IB} {mg:Str->Option Value} {base:Heap} {k:Nat} {f:Addr} {name qual:Str} {params:Arguments} {body:List Stmt} {scope:Scope} {dV kV doc pm cdv ct oc:Value} {an od:Option Addr}
  {osl:Array (Option Value)} {N ps:List Str} {sp:Sp} (lk:K.lookup f=some ⟨oc,od,.func (PySem.W.fnOf name qual params body scope dV kV doc pm an cdv ct),osl⟩) (hcd:PySem.W.codeIn K cdv qual=true) (S:aK N ps scope)
  (len:∀vs H Q E,sp vs H Q E->vs.length=ps.length)
  (hbody:∀(A:Around) (outer:List Env) (s:Shared) (H:Hp) (vs:List V) (Q:VK) (E:XK),cQ k (A.deeper (envOfC qual scope s.heap.objs.size f cdv))->sp vs H Q E ->
   ∃t,vt (jc CX P w K mg base N qual scope f cdv A outer s H E) body t/\t { nx:=λ_ H'=>Q .non H',rt:=Q } (start N vs) H) :
  oq P w K mg base CX (k + 1) f (PySem.W.fnOf name qual params body scope dV kV doc pm an cdv ct) ps sp:=by
 refine⟨len,λA outer s H args us vs Q E hr e0 hb r hsp=>?_⟩;have hl:=len _ _ _ _ hsp;have KX:K.In s.heap:=e0.mod.kin.keeps λb o e=>(e0.bs b o e).1;have lim:s.heap.NoLimit:=e0.mod.nolimit.keeps λb o e=>(e0.bs b o e).1
 have hkind:∀y∈ps.zip us,scope.names.lookup y.1=some .local\/(scope.names.lookup y.1=some .cell/\((cellsFrom (s.heap.objs.size + 1) scope.names []).lookup y.1).isSome=true):=fun⟨n,v⟩ hy=>by
  rcases S.par n (List.of_mem_zip hy).1 with q|q
  ·exact .inl q
  ·exact .inr ⟨q,PySem.W.cellsFrom_some _ _ _ (.inl q)⟩
 refine codeAny_call_function hr.depth (KX _ _ lk) rfl S.co S.gen rfl (PySem.W.codeRec_of KX hcd) (hb _ _ _ _ ?_);refine wpAny_newFunctionEnv_cells S.kind hkind λenv he s1 x=>?_;subst he;refine⟨lim.keeps x.toInCall.keep,codeAny_func ?_⟩;obtain⟨t,ht,hq⟩:=hbody A outer s H vs Q E (hr.deeper _) hsp;have I:Inv (jc CX P w K mg base N qual scope f cdv A outer s H E) [] (start N vs) H s1:=xJ S hr.hd e0 hl r x
 refine Jh (ht [] s1 (start N vs) H _ I hq) (λfl s' hs=>?_) λe s' hs=>hs
 have fin:∀{σ':St} {H':Hp} {v:V} {u:Value},Inv (jc CX P w K mg base N qual scope f cdv A outer s H E) [] σ' H' s'->RelV v u->Q v H'->CE outer P w H s Q u s' :=
  λ{σ' H' v u} J rv q=>⟨v,H',J.os,J.bare,J.base,J.hok,rv,q⟩
 cases fl with
 | ret u =>
  obtain⟨v,σ',H',J,rv,q⟩:=hs
  exact fin J rv q
 | next =>
  obtain⟨σ',H',J,q⟩:=hs
  exact fin (v:=V.non) (u:=Value.none) J rfl q
 | brk =>
  obtain⟨_,_,_,q⟩:=hs
  exact False.elim q
 | cont =>
  obtain⟨_,_,_,q⟩:=hs;exact False.elim q
section
variable {X:Cx} {x:Str} {p pos:Pos} {e:Expr} {es:List Expr} {t:TA} {id T:String} {r:List V->Hp->VK->Prop}
def G7 (r:List V->Hp->VK->Prop) (t:TA):TE:=λσ H Q=>t σ H λvs H1=>r vs H1 Q
theorem uk (hc:eQ X (.builtin id) r) (hg:Gl X x) (hm:X.mg x=none) (hv:bootBuiltins x=some (.builtin id)) (ha:PA X (e :: es) t) (hn:x≠"__name__":=by decide) (hdb:(x == ("__debug__" : Str))=false:=by decide)
  (he:starEach (e :: es) X.env=(false,eval e X.env) :: starEach es X.env:=by rfl) (hpl:(backTo pos (starEach es X.env)).any (·.1)=false:=by rfl):PE X (.Call (.Name x p) (e :: es) [] pos) (G7 r t):=by
 intro pins s σ H Q I h;refine wpAny_Call_Name_kw (jB I hg hm hv ?_ hn hdb);exact PyProof.Rows.callWith_builtin1 (bQ (ha pos pins s σ H _ I h) λus s1 ⟨vs,H1,I1,r1,q1⟩=>hc pins s1 σ H1 vs us Q I1 r1 q1) he hpl
theorem kW (hc:eQ X (.type T) r) (hg:Gl X x) (hm:X.mg x=none) (hv:bootBuiltins x=some (.type T)) (ha:PA X (e :: es) t) (hn:x≠"__name__":=by decide) (hdb:(x == ("__debug__" : Str))=false:=by decide)
  (he:starEach (e :: es) X.env=(false,eval e X.env) :: starEach es X.env:=by rfl) (hpl:(backTo pos (starEach es X.env)).any (·.1)=false:=by rfl):PE X (.Call (.Name x p) (e :: es) [] pos) (G7 r t):=by
 intro pins s σ H Q I h;refine wpAny_Call_Name_kw (jB I hg hm hv ?_ hn hdb);exact PyProof.Rows.callWith_type1 (bQ (ha pos pins s σ H _ I h) λus s1 ⟨vs,H1,I1,r1,q1⟩=>hc pins s1 σ H1 vs us Q I1 r1 q1) he hpl
end
end L2
namespace HT
open PySem PyProof.Rows
section
variable {prog:Program} {w:World} {A:Around} {E:Value->Shared->Prop} {s:Shared}
theorem AN {t b:Addr} {vs ws:List Value} {Q:Value->Shared->Prop} (ht:IsTup s.heap t vs.toArray) (hb:IsTup s.heap b ws.toArray) (hv:vs≠[])
  (h1:ws=[]->Q (.ref t) s) (h2:ws≠[]->Q (.ref s.heap.objs.size) { s with heap:=s.heap.push { cls:=.type "tuple",data:=.seq (vs ++ ws).toArray } })
  (hsz:vs.length + ws.length<=sizeLine):wpAny (model prog w) A (binaryOp .Add (.ref t) (.ref b)) Q E s:=by
 obtain⟨⟨cls,dd,data,sl⟩,ho,hc,n,hd⟩:=id ht;obtain⟨⟨cls2,dd2,data2,sl2⟩,ho2,hc2,n2,hd2⟩:=id hb;simp only at hc hd hc2 hd2;subst hc hd hc2 hd2;have e:vs.toArray ++ ws.toArray=(vs ++ ws).toArray:=by simp
 by_cases hw:ws=[]
 ·exact concat_meets ⟨_,ho,rfl⟩ ⟨_,ho2,rfl⟩ noFill_tuple_add seq_tuple_add PySem.F.slot_tuple_add PySem.F.entry_tuple_add (PySem.F.args_tuple_add_2 _ _)
   (tuple_addW1 t b vs.toArray ws.toArray n n2 dd dd2 sl sl2 (by simpa using hv) (by simp [hw])) ⟨ho,ho2,h1 hw⟩
 ·refine concat_meets ⟨_,ho,rfl⟩ ⟨_,ho2,rfl⟩ noFill_tuple_add seq_tuple_add PySem.F.slot_tuple_add PySem.F.entry_tuple_add (PySem.F.args_tuple_add_2 _ _)
   (tuple_addW2 t b vs.toArray ws.toArray n n2 dd dd2 sl sl2 (by simpa using hv) (by simpa using hw) (by rw [IV,IV];exact hsz)) ⟨ho,ho2,?_⟩
  rw [e];exact h2 hw
def dY (n d:Nat):Option Int->Nat
 | none=>d
 | some v=>if v < 0 then (v + (n:Int)).toNat else min v.toNat n
theorem vY (n d k:Nat):dY n d (some (k:Int))=min k n:=by
 show (if (k:Int) < 0 then ((k:Int) + (n:Int)).toNat else min (k:Int).toNat n)=min k n
 rw [if_neg (by omega),Int.toNat_natCast]
theorem Dp (n d:Nat) (hd:d<=n) (o:Option Int):dY n d o<=n:=by
 cases o with
 | none=>exact hd
 | some v =>
  show (if v < 0 then (v + (n:Int)).toNat else min v.toNat n)<=n
  by_cases hv:v < 0
  ·rw [if_pos hv];omega
  ·rw [if_neg hv];exact Nat.min_le_right _ _
theorem wa (v:Int) (n d:Nat):(if v < 0 then max (v + (n:Int)) 0 else min v (n:Int))=((dY n d (some v):Nat):Int):=by
 show (if v < 0 then max (v + (n:Int)) 0 else min v (n:Int))=(((if v < 0 then (v + (n:Int)).toNat else min v.toNat n):Nat):Int)
 by_cases hv:v < 0
 ·simp only [if_pos hv];omega
 ·simp only [if_neg hv];omega
theorem uG (lo hi:Option Int) (n:Nat):Builtin.Slice.sliceAdjust lo hi 1 (n:Int)=(((dY n 0 lo:Nat):Int),((dY n n hi:Nat):Int)):=by
 have h1:¬ ((1:Int) < 0):=by omega
 unfold Builtin.Slice.sliceAdjust;simp only [h1,if_false];refine JH ?_ ?_
 ·cases lo with
  | none=>rfl
  | some v=>exact wa v n 0
 ·cases hi with
  | none=>rfl
  | some v=>exact wa v n n
theorem uQ (i j:Nat):Builtin.Slice.slicePlaces (i:Int) (j:Int) 1=j - i:=by
 unfold Builtin.Slice.slicePlaces;have h1:(1:Int) > 0:=by omega
 simp only [h1,if_true,Int.ediv_one]
 split <;> omega
theorem nI {v:Value} {o:Option Int} {Q:Option Int->Shared->Prop} (p:IsPart v o) (h:Q o s):wpAny (model prog w) A (Builtin.Slice.slicePartIndex v) Q E s:=by
 cases p with
 | none=>exact slicePart_none h
 | int i t=>exact slicePart_int h
theorem lL {sl:Addr} {vl vu:Value} {lo hi:Option Int} {n:Nat} {Q:Int×Int×Nat->Shared->Prop} (hs:s.heap.IsSliceOf sl vl vu .none) (pl:IsPart vl lo) (pu:IsPart vu hi)
  (h:Q (((dY n 0 lo:Nat):Int),1,dY n n hi - dY n 0 lo) s):wpAny (model prog w) A (Builtin.Slice.sliceApplied (.ref sl) (pure (n:Int))) Q E s:=by
 obtain⟨os,hos,hcs,hds⟩:=id hs;unfold Builtin.Slice.sliceApplied Builtin.Slice.sliceFields;refine Iw (Iw (wpAny_field hos hds (x:=vl) rfl (Iw (wpAny_field hos hds (x:=vu) rfl (Iw (wpAny_field hos hds (x:=.none) rfl (ID ?_)))))));refine Iw (slicePart_none ?_);show wpAny _ _ (if ((1:Int) == 0)=true then _ else _) _ _ s
 rw [if_neg (by decide)];refine Iw (nI pl (Iw (nI pu (Iw (ID ?_)))));show wpAny _ _ (match Builtin.Slice.sliceAdjust lo hi 1 (n:Int) with|(lo,hi)=>pure (lo,(1:Int),Builtin.Slice.slicePlaces lo hi 1)) _ _ s
 rw [uG lo hi n];show wpAny _ _ (pure (((dY n 0 lo:Nat):Int),(1:Int),Builtin.Slice.slicePlaces ((dY n 0 lo:Nat):Int) ((dY n n hi:Nat):Int) 1)) _ _ s
 rw [uQ];exact ID h
theorem yO (xs:Array Value) (i k:Nat):((List.range k).filterMap λ(m:Nat)=>xs[((i:Int) + (m:Int) * 1).toNat]?).toArray=((xs.toList.drop i).take k).toArray:=by
 have e:(λ(m:Nat)=>xs[((i:Int) + (m:Int) * 1).toNat]?)=λm=>xs[i + m]?:=by
  funext m;have:((i:Int) + (m:Int) * 1).toNat=i + m:=by omega
  rw [this]
 rw [e];have:=pick_run xs i k;rw [List.filterMap_map] at this;have e2:((λx=>xs[x]?)∘λx=>i + x)=λm=>xs[i + m]?:=rfl;rw [e2] at this;rw [this]
theorem kC {t sl:Addr} {items:Array Value} {vl vu:Value} {lo hi:Option Int} {Q:Value->Shared->Prop} (ht:IsTup s.heap t items) (hs:s.heap.IsSliceOf sl vl vu .none) (pl:IsPart vl lo) (pu:IsPart vu hi)
  (hw:¬ (dY items.size 0 lo=0/\dY items.size items.size hi=items.size))
  (h:Q (.ref s.heap.objs.size) { s with heap:=s.heap.push { cls:=.type "tuple",data:=.seq ((items.toList.drop (dY items.size 0 lo)).take (dY items.size items.size hi - dY items.size 0 lo)).toArray } })
  (hsz:items.size<=sizeLine):wpAny (model prog w) A (getItem (.ref t) (.ref sl)) Q E s:=by
 have htake:sizeOk (.seq ((items.toList.drop (dY items.size 0 lo)).take (dY items.size items.size hi - dY items.size 0 lo)).toArray):=by
  show ((items.toList.drop (dY items.size 0 lo)).take (dY items.size items.size hi - dY items.size 0 lo)).toArray.size<=sizeLine
  rw [IV,List.length_take,List.length_drop,Array.length_toList];omega
 have hj:dY items.size items.size hi<=items.size:=Dp _ _ (II _) hi;obtain⟨os,hos,hcs,hds⟩:=id hs;have hTs:s.TypeIs (.ref sl) "slice":=⟨os,hos,hcs⟩
 unfold getItem
 try with_reducible refine wpAny_holding ?_
 first|refine Iw (ID ?_)|skip
 refine Iw (wpAny_sequenceKey ht.typeIs (by decide) ?_)
 refine Iw (Jq (name:=Str.ofString "__getitem__") ht.typeIs PyProof.Rows.slot_tuple_getitem
  (wpAny_call_entry PyProof.Rows.slot_tuple_getitem ht.typeIs entry_tuple_getitem ?_ (args_tuple_getitem _ _)))
 show wpAny _ _ (Builtin.Tuple.tupleItemsOf (.ref t) >>= _) _ _ s
 refine Iw (tupleItemsOf_ ht ?_);refine Iw (wpAny_typeOf hTs ?_);rw [if_pos (by decide)];refine Iw (lL hs pl pu ?_)
 have hno:¬ ((((dY items.size 0 lo:Nat):Int) == 0 && (1:Int) == 1 && (dY items.size items.size hi - dY items.size 0 lo) == items.size)=true):=by
  intro q;rw [Bool.and_eq_true,Bool.and_eq_true] at q;have q1:((dY items.size 0 lo:Nat):Int)=0:=eq_of_beq q.1.1;have q2:dY items.size items.size hi - dY items.size 0 lo=items.size:=eq_of_beq q.2;exact hw ⟨by omega,by omega⟩
 show wpAny _ _ (if (((dY items.size 0 lo:Nat):Int) == 0 && (1:Int) == 1 && (dY items.size items.size hi - dY items.size 0 lo) == items.size)=true then _ else _) _ _ s
 rw [if_neg hno,yO]
 first
  | exact Iw (m:=Builtin.Tuple.tupleExact _) (wpAny_newObj_type (ID ⟨_,rfl,ID h⟩) htake)
  | exact Iw (m:=Builtin.Tuple.tupleExact _) (wpAny_newObj_type (Iw (ID (ID ⟨_,rfl,ID h⟩))) htake)
  | exact Iw (Iw (m:=Builtin.Tuple.tupleExact _) (wpAny_newObj_type (ID (ID ⟨_,rfl,ID h⟩)) htake))
  | exact Iw (Iw (m:=Builtin.Tuple.tupleExact _) (wpAny_newObj_type (ID ⟨_,rfl,ID h⟩) htake))
end
end HT
namespace L2
open PySem PySem.Spec PyProof.Rows
abbrev TO:=St->Hp->(Option Int->Hp->Prop)->Prop
def PO (X:Cx) (e:Option Expr) (t:TO):Prop :=
 ∀(pins:List (Addr×Obj)) (s:Shared) (σ:St) (H:Hp) (Q:Option Int->Hp->Prop),Inv X pins σ H s->t σ H Q ->
  wpAny (model X.prog X.w) X.A (evalPart e X.env) (λu s'=>∃o H',Inv X pins σ H' s'/\IsPart u o/\Q o H') X.xe s
def Fx (t:TE):TO:=λσ H Q=>t σ H λx H1=>∃i,x=.int i/\Q (some i) H1
section
variable {X:Cx} {e:Expr} {te:TE} {lo hi:Option Expr} {tl th:TO} {pos p2:Pos}
theorem Bl (h:PE X e te):PO X (some e) (Fx te):=by
 intro pins s σ H Q I hw;rw [evalPart_some];refine bQ (h pins s σ H _ I hw) λu s1 hq0=>?_;obtain⟨x,H1,I1,r1,q1⟩:=hq0;obtain⟨i,rfl,q⟩:=q1;obtain⟨t,rfl⟩:=r1;exact⟨some i,H1,I1,.int i t,q⟩
def BZ (X:Cx) (r:V->Option Int->Option Int->Hp->VK->Prop):Prop :=
 ∀(pins:List (Addr×Obj)) (s:Shared) (σ:St) (H:Hp) (x:V) (v vl vu:Value) (lo hi:Option Int) (sl:Addr) (Q:VK),Inv X pins σ H s->RelV x v->s.heap.IsSliceOf sl vl vu .none->IsPart vl lo->IsPart vu hi->r x lo hi H Q ->
  ∃T id,typeLookup (.type T) "__getitem__" = pure (some (.builtin id))/\s.TypeIs v T/\wpAny (model X.prog X.w) X.A (getItem v (.ref sl)) (EP X pins σ Q) X.xe s
theorem BZ.or {r r':V->Option Int->Option Int->Hp->VK->Prop} (h:BZ X r) (h':BZ X r'):BZ X (λx lo hi H Q=>r x lo hi H Q\/r' x lo hi H Q):=by
 intro pins s σ H x v vl vu lo hi sl Q I rx hs pl pu q;rcases q with q|q
 ·exact h pins s σ H x v vl vu lo hi sl Q I rx hs pl pu q
 ·exact h' pins s σ H x v vl vu lo hi sl Q I rx hs pl pu q
def Ih (r:V->Option Int->Option Int->Hp->VK->Prop) (te:TE) (tl th:TO):TE:=λσ H Q=>te σ H λx H1=>tl σ H1 λl H2=>th σ H2 λu H3=>r x l u H3 Q
theorem Af {r:V->Option Int->Option Int->Hp->VK->Prop} (hr:BZ X r) (he:PE X e te) (hl:PO X lo tl) (hu:PO X hi th):PE X (.Subscript e (.Slice lo hi none p2) pos) (Ih r te tl th):=by
 intro pins s σ H Q I h;refine Subscript_ (bQ (he pins s σ H _ I h) λv s1 hq0=>?_);obtain⟨x,H1,I1,r1,q1⟩:=hq0;refine wpAny_Slice (bQ (hl pins s1 σ H1 _ I1 q1) λvl s2 ⟨l,H2,I2,pl,q2⟩=>bQ (hu pins s2 σ H2 _ I2 q2) λvu s3 hq0=>?_);obtain⟨u,H3,I3,pu,q3⟩:=hq0;rw [evalPart_none];refine ID ?_;have I4:Inv X pins σ H3 { s3 with heap:=s3.heap.push { cls:=.type "slice",data:=.fields #[vl,vu,.none] } }:=I3.kept (t':=s3.toks) λb ob q=>IC _ q
 obtain⟨T,id,hT,ht,hg⟩:=hr pins { s3 with heap:=s3.heap.push { cls:=.type "slice",data:=.fields #[vl,vu,.none] } } σ H3 x v vl vu l u s3.heap.objs.size Q I4 r1 (Heap.IsSliceOf.new ..) pl pu q3
 show wpAny (model X.prog X.w) X.A (subscriptTail e (.Slice lo hi none p2) v (.ref s3.heap.objs.size)) (EP X pins σ Q) X.xe { s3 with heap:=s3.heap.push { cls:=.type "slice",data:=.fields #[vl,vu,.none] } }
 exact tail_any (ops:=[.ref s3.heap.objs.size,v]) ht hT hg (by with_unfolding_all rfl)
def o3 (xs:List V) (lo hi:Option Int):List V:=(xs.drop (HT.dY xs.length 0 lo)).take (HT.dY xs.length xs.length hi - HT.dY xs.length 0 lo)
theorem mE (xs:List V) (lo hi:Option Int):(o3 xs lo hi).length<=xs.length:=by
 unfold o3;rw [List.length_take,List.length_drop];omega
def HK (K:IB):V->Option Int->Option Int->Hp->VK->Prop:=λx lo hi H Q=>∃a xs,x=.ref a/\fB K H a xs /\
 ¬ (HT.dY xs.length 0 lo=0/\HT.dY xs.length xs.length hi=xs.length)/\∀p,H p=none->Q (.ref p) (upd H p (.tup (o3 xs lo hi)))
theorem Cz:BZ X (HK X.K):=by
 intro pins s σ H x v vl vu lo hi sl Q I rx hs pl pu h;obtain⟨a,xs,rfl,hx,hw,q⟩:=h;cases rx;obtain⟨its,r,ht,hz⟩:=I.tuple hx;have hlen:its.toArray.size=xs.length:=by rw [IV];exact r.length.symm
 refine⟨"tuple",_,PyProof.Rows.slot_tuple_getitem.lookup,ht.typeIs,?_⟩
 refine HT.kC ht hs pl pu (by rw [hlen];exact hw) ?_ (by rw [hlen];exact hz);rw [hlen];refine⟨.ref s.heap.objs.size,_,I.laid (t':=s.toks) (o:=.tup (o3 xs lo hi)) (λb ob q=>IC _ q) (II _) ?_,rfl,q _ (I.hok.fresh (II _))⟩;exact⟨Jz (mE xs lo hi) hz,_,(r.drop (HT.dY xs.length 0 lo)).take (HT.dY xs.length xs.length hi - HT.dY xs.length 0 lo),pz.new _ _⟩
def Cy (K:IB):R2:=λx y H Q=>∃a b xs ys,x=.ref a/\y=.ref b/\fB K H a xs/\fB K H b ys/\xs≠[]/\xs.length + ys.length<=sizeLine /\
 (ys=[]->Q (.ref a) H)/\(ys≠[]->∀p,H p=none->Q (.ref p) (upd H p (.tup (xs ++ ys))))
theorem Vals.qS {xs:List V} {us:List Value} (r:Vals xs us):us=[]↔xs=[]:=by
 cases r with
 | nil=>simp
 | cons _ _=>simp
theorem A3:jm X (binaryOp .Add) (Cy X.K):=by
 intro pins s σ H x y v u Q I rx ry h;obtain⟨a,b,xs,ys,rfl,rfl,ha,hb,hx,hz,q1,q2⟩:=h;cases rx;cases ry;obtain⟨its,r1,p1,_⟩:=I.tuple ha;obtain⟨its2,r2,p2,_⟩:=I.tuple hb;refine HT.AN p1 p2 (λz=>hx (r1.qS.mp z)) (λz=>⟨.ref a,H,I,rfl,q1 (r2.qS.mp z)⟩) (λz=>?_) (by rw [<- r1.length,<- r2.length];exact hz);refine⟨.ref s.heap.objs.size,_,I.laid (t':=s.toks) (o:=.tup (xs ++ ys)) (λb ob q=>IC _ q) (II _) ?_,rfl,q2 (λw=>z (r2.qS.mpr w)) _ (I.hok.fresh (II _))⟩
 exact⟨by rw [Jd];exact hz,_,r1.append r2,pz.new _ _⟩
end
def rZ (n:Nat) (i:Int):Option Nat:=if 0<=i then (if i < n then some i.toNat else none) else if -(n:Int)<=i then some (i + n).toNat else none
def jz {α:Type} (xs:List α) (i:Int):Option α:=(rZ xs.length i).bind λj=>xs[j]?
theorem mX {n:Nat} {i:Int} {j:Nat} (h:rZ n i=some j):seqIndex? i n=some j/\j < n/\-(n:Int)<=i/\i < n:=by
 unfold rZ at h
 by_cases h0:0<=i
 ·rw [if_pos h0] at h
  by_cases h1:i < n
  ·rw [if_pos h1] at h;have e:i.toNat=j:=IL h;exact⟨by rw [seqIndex_of h0 h1,e],by omega,by omega,h1⟩
  ·rw [if_neg h1] at h;cases h
 ·rw [if_neg h0] at h
  by_cases h1:-(n:Int)<=i
  ·rw [if_pos h1] at h;have e:(i + n).toNat=j:=IL h;exact⟨by rw [seqIndex_neg (by omega) h1,e],by omega,h1,by omega⟩
  ·rw [if_neg h1] at h;cases h
theorem qI {α:Type} {xs:List α} {i:Int} {v:α} (h:jz xs i=some v):∃j,seqIndex? i xs.length=some j/\xs[j]?=some v/\j < xs.length/\-(xs.length:Int)<=i/\i < xs.length:=by
 unfold jz at h
 cases e:rZ xs.length i with
 | none=>rw [e] at h;cases h
 | some j =>
  rw [e] at h;obtain⟨h1,h2,h3,h4⟩:=mX e;exact⟨j,h1,h,h2,h3,h4⟩
def kA (b:Expr):Prop:=∀o i,subscripted b false o i=operate [o,i] (getItem o i)
def Ar (X:Cx) (r:R2):Prop :=
 ∀(value slice:Expr) (pins:List (Addr×Obj)) (s:Shared) (σ:St) (H:Hp) (x y:V) (v u:Value) (Q:VK),Inv X pins σ H s->RelV x v->RelV y u->r x y H Q ->
  subscripted slice false v u=operate [v,u] (getItem v u)->wpAny (model X.prog X.w) X.A (subscriptTail value slice v u) (EP X pins σ Q) X.xe s
def HV (X:Cx) (id:String) (r:V->List V->Hp->VK->Prop):Prop :=
 ∀(pins:List (Addr×Obj)) (s:Shared) (σ:St) (H:Hp) (x:V) (xs:List V) (v:Value) (us:List Value) (Q:VK),Inv X pins σ H s->RelV x v->Vals xs us->r x xs H Q ->
  wpAny (model X.prog X.w) X.A (call (.builtin id) (v :: us)) (EP X pins σ Q) X.xe s
section
variable {X:Cx} {a b:Expr} {ta tb:TE} {pos:Pos}
theorem Ar.or {r r':R2} (h:Ar X r) (h':Ar X r'):Ar X (λx y H Q=>r x y H Q\/r' x y H Q):=by
 intro value slice pins s σ H x y v u Q I rx ry q hs;rcases q with q|q
 ·exact h value slice pins s σ H x y v u Q I rx ry q hs
 ·exact h' value slice pins s σ H x y v u Q I rx ry q hs
theorem wI {r:R2} (hr:Ar X r) (ha:PE X a ta) (hb:PE X b tb) (hs:kA b):PE X (.Subscript a b pos) (EG r ta tb):=by
 intro pins s σ H Q I h;exact Subscript_ (Dy ha hb I h λv u s2 x y H2 I2 rx ry q=>hr a b pins s2 σ H2 x y v u Q I2 rx ry q (hs _ _))
def EW (K:IB):R2:=λx y H Q=>∃p xs i v,x=.ref p/\y=.int i/\fw K H p xs/\jz xs i=some v/\Q v H
def Gs (K:IB):R2:=λx y H Q=>∃p xs i v,x=.ref p/\y=.int i/\fB K H p xs/\jz xs i=some v/\Q v H
def Gb:R2:=λx y H Q=>∃z i c,x=.str z/\y=.int i/\z.length<=sizeLine/\jz z.cps.toList i=some c/\Q (.str ⟨#[c]⟩) H
theorem wY:Ar X (EW X.K):=by
 intro value slice pins s σ H x y v u Q I rx ry h hs;obtain⟨p,xs,i,z,rfl,rfl,hq,he,q⟩:=h;cases rx;obtain⟨t,rfl⟩:=ry;obtain⟨its,r,pl,hz⟩:=I.list hq;obtain⟨j,h1,h2,h3,h4,h5⟩:=qI he;obtain⟨w,ew,rw'⟩:=r.get h2;have hl:=r.length;have hn:=lP;have fin:EP X pins σ Q w s:=⟨z,H,I,rw',q⟩
 by_cases h0:0<=i
 ·have hj:i.toNat=j:=by
   rw [seqIndex_of h0 h5] at h1;exact IL h1
  exact item_listR pl.isList h0 (by omega) (by rw [hj];simpa using ew) fin hs
 ·have hj:(i + (its.toArray.size:Int)).toNat=j:=by
   rw [seqIndex_neg (by omega) h4] at h1;rw [IV,<- hl];exact IL h1
  exact subscriptTail_builtinR (x:=w) pl.isList.typeIs slot_list_getitem.lookup
   (wpAny_getItem_list_neg (Q:=λr s'=>r=w/\EP X pins σ Q r s') pl.isList (by omega) (by rw [IV] <;> omega) (by omega) (by rw [hj];simpa using ew) ⟨rfl,fin⟩) hs
theorem CV:Ar X (Gs X.K):=by
 intro value slice pins s σ H x y v u Q I rx ry h hs;obtain⟨p,xs,i,z,rfl,rfl,hq,he,q⟩:=h;cases rx;obtain⟨t,rfl⟩:=ry;obtain⟨its,r,pl,hz⟩:=I.tuple hq;obtain⟨j,h1,h2,h3,h4,h5⟩:=qI he;obtain⟨w,ew,rw'⟩:=r.get h2;have hl:=r.length;have hn:=lP;have fin:EP X pins σ Q w s:=⟨z,H,I,rw',q⟩
 exact subscriptTail_builtinR (x:=w) pl.typeIs slot_tuple_getitem.lookup
  (getItem_tuple (j:=j) (Q:=λr s'=>r=w/\EP X pins σ Q r s') pl (by omega) (by omega) (by rw [IV,<- hl];exact h1) (by simpa using ew) ⟨rfl,fin⟩) hs
theorem Dz:Ar X Gb:=by
 intro value slice pins s σ H x y v u Q I rx ry h hs;obtain⟨z,i,c,rfl,rfl,hz,he,q⟩:=h;obtain⟨t,rfl⟩:=rx;obtain⟨t',rfl⟩:=ry;obtain⟨j,h1,h2,h3,h4,h5⟩:=qI he;have hl:z.cps.toList.length=z.length:=by simp [Str.length]
 rw [hl] at h1 h4 h5;have hn:=lP
 exact tail_any (typeIs_str s z t) slot_str_getitem.lookup (getItem_str (c:=c) (by
  have e1:decide (i < -(2 ^ 63:Int))=false:=decide_eq_false (by omega);have e2:decide (i≥2 ^ 63)=false:=decide_eq_false (by omega)
  rw [e1,e2,Bool.or_false]) (by rw [h1];simpa using h2) ⟨.str ⟨#[c]⟩,H,I.tok _,⟨_,rfl⟩,q⟩) hs
def G9 (K:IB):R2:=λx y H Q=>EW K x y H Q\/Gs K x y H Q\/Gb x y H Q
theorem zq:Ar X (G9 X.K):=wY.or (CV.or Dz)
theorem vb (its:List Value) (n j:Nat) (u:Value):Obj.mapSeq (·.setIfInBounds j u) { cls:=.type "list",data:=.seq its.toArray n }={ cls:=.type "list",data:=.seq (its.set j u).toArray n }:=by
 simp [Obj.mapSeq]
theorem Inv.lst {pins:List (Addr×Obj)} {σ:St} {H:Hp} {s:Shared} {p:Addr} {xs:List V} (I:Inv X pins σ H s) (h:H p=some (.lst xs)) :
  ∃(its:List Value) (n:Nat),Vals xs its/\s.heap.get? p=some { cls:=.type "list",data:=.seq its.toArray n }/\xs.length<=sizeLine:=by
 obtain⟨z,its,n,r,e⟩:=I.hok p _ h;exact⟨its,n,r,e,z⟩
theorem Inv.EC {pins:List (Addr×Obj)} {σ:St} {H:Hp} {s:Shared} {p:Addr} {xs ys:List V} {its its':List Value} {n n':Nat} {f:Obj->Obj} (I:Inv X pins σ H s) (h:H p=some (.lst xs))
  (ho:s.heap.get? p=some { cls:=.type "list",data:=.seq its.toArray n }) (hf:f { cls:=.type "list",data:=.seq its.toArray n }={ cls:=.type "list",data:=.seq its'.toArray n' }) (r:Vals ys its') (hz:ys.length<=sizeLine) (t:Nat) :
  Inv X pins σ (upd H p (.lst ys)) { s with heap:=s.heap.update p f,toks:=t }:=by
 have e:(s.heap.update p f).get? p=some { cls:=.type "list",data:=.seq its'.toArray n' }:=by
  rw [Heap.get?_update_self f ho (by rw [hf] <;> rfl),hf]
 refine I.write (x:=p) (e:=p) (by rw [h];trivial) (.inl rfl) (λb u hb q=>(Heap.get?_update_other _ _ (Ne.symm hb)).trans q) ⟨_,e⟩ ?_
 exact⟨hz,its',n',r,e⟩
def E2:V->V->V->Hp->(Hp->Prop)->Prop:=λo i v H Q=>∃p xs k j,o=.ref p/\i=.int k/\H p=some (.lst xs)/\rZ xs.length k=some j/\Q (upd H p (.lst (xs.set j v)))
theorem set_list:C1 X E2:=by
 intro pins s σ H o i v ov iv u Q I ro ri rv h;obtain⟨p,xs,k,j,rfl,rfl,hp,hj,q⟩:=h;cases ro;obtain⟨t,rfl⟩:=ri;obtain⟨its,n,r,ho,hz⟩:=I.lst hp;obtain⟨h1,h2,h3,h4⟩:=mX hj;have hl:=r.length;have hn:=lP
 have I':Inv X pins σ (upd H p (.lst (xs.set j v))) { s with heap:=s.heap.update p (Obj.mapSeq (·.setIfInBounds j u)) } :=
  I.EC hp ho (vb its n j u) (r.set rv j) (by rw [List.length_set];exact hz) s.toks
 by_cases h0:0<=k
 ·have hk:k.toNat=j:=by
   rw [seqIndex_of h0 h4] at h1;exact IL h1
  exact PySem.W.ki_setAt ho h0 (by omega) (by rw [IV,<- hl];exact h4) (by rw [hk];exact⟨_,I',q⟩)
 ·have hk:(k + (its.toArray.size:Int)).toNat=j:=by
   rw [seqIndex_neg (by omega) h3] at h1;rw [IV,<- hl];exact IL h1
  exact PySem.W.ki_setBack ho (by omega) (by rw [IV,<- hl];exact h3) (by omega) (by rw [hk];exact⟨_,I',q⟩)
theorem qR (lo hi:Option Int) (n:Nat):(sliceBounds lo hi none n).1=((HT.dY n 0 lo:Nat):Int)/\(sliceBounds lo hi none n).2.1=((HT.dY n n hi:Nat):Int)/\(sliceBounds lo hi none n).2.2=1:=by
 refine⟨?_,?_,rfl⟩
 ·cases lo with
  | none=>simp [sliceBounds,HT.dY]
  | some i =>
   simp only [sliceBounds,HT.dY,Option.getD_none,show (1:Int) > 0 by decide,if_true]
   by_cases h:i < 0
   ·simp only [h,if_true] <;> omega
   ·simp only [h,if_false] <;> omega
 ·cases hi with
  | none=>simp [sliceBounds,HT.dY]
  | some i =>
   simp only [sliceBounds,HT.dY,Option.getD_none,show (1:Int) > 0 by decide,if_true]
   by_cases h:i < 0
   ·simp only [h,if_true] <;> omega
   ·simp only [h,if_false] <;> omega
theorem o6 (its:List Value) (lo hi:Option Int):slicePick its.toArray lo hi none=((its.drop (HT.dY its.length 0 lo)).take (HT.dY its.length its.length hi - HT.dY its.length 0 lo)).toArray:=by
 obtain⟨h1,h2,h3⟩:=qR lo hi its.toArray.size;unfold slicePick;rw [h1,h2,h3];simp only [sliceRange_one,pick_run,IV] <;> rfl
def Hf (K:IB):V->Option Int->Option Int->Hp->VK->Prop:=λx lo hi H Q=>∃a xs,x=.ref a/\fw K H a xs/\∀p,H p=none->Q (.ref p) (upd H p (.lst (o3 xs lo hi)))
theorem BI:BZ X (Hf X.K):=by
 intro pins s σ H x v vl vu lo hi sl Q I rx hs pl pu h;obtain⟨a,xs,rfl,hx,q⟩:=h;cases rx;obtain⟨its,r,ht,hz⟩:=I.list hx;have hlen:=r.length;refine⟨"list",_,slot_list_getitem.lookup,ht.isList.typeIs,?_⟩
 refine wpAny_getItem_list_slice ht.isList hs pl pu .none (by simp) ?_ (by rw [IV] <;> omega)
 rw [o6,<- hlen];refine⟨.ref s.heap.objs.size,_,I.laid (t':=s.toks) (o:=.lst (o3 xs lo hi)) (λb ob q=>IC _ q) (II _) ?_,rfl,q _ (I.hok.fresh (II _))⟩;exact⟨Jz (mE xs lo hi) hz,_,0,(r.drop (HT.dY xs.length 0 lo)).take (HT.dY xs.length xs.length hi - HT.dY xs.length 0 lo),IS _ rfl⟩
theorem jR:eQ X (.builtin "len") (λxs H Q=>∃p ys,xs=[.ref p]/\(fw X.K H p ys\/fB X.K H p ys)/\Q (.int ys.length) H):=by
 intro pins s σ H xs us Q I r h;obtain⟨p,ys,rfl,hq,q⟩:=h;obtain⟨u,rfl,rx⟩:=vals1 r;cases rx;have hn:=lP;rcases hq with hq|hq
 ·obtain⟨its,r',pl,hz⟩:=I.list hq;have hlen:=r'.length;exact Calls.call_len_list pl.isList (by simp only [IV] <;> omega) ⟨.int ys.length,H,I.tok _,⟨s.toks + 1,by rw [IV,hlen]⟩,q⟩
 ·obtain⟨its,r',pl,hz⟩:=I.tuple hq;have hlen:=r'.length;exact len_tuple pl (by simp only [IV] <;> omega) ⟨.int ys.length,H,I.tok _,⟨s.toks + 1,by rw [IV,hlen]⟩,q⟩
theorem qz:eQ X (.builtin "len") (λxs H Q=>∃z,xs=[.str z]/\z.length<=sizeLine/\Q (.int z.length) H):=by
 intro pins s σ H xs us Q I r h;obtain⟨z,rfl,hz,q⟩:=h;obtain⟨u,rfl,t,rfl⟩:=vals1 r;have hn:=lP;exact len_str (by omega) ⟨.int z.length,H,I.tok _,⟨_,rfl⟩,q⟩
theorem eQ.or {f:Value} {r r':List V->Hp->VK->Prop} (h:eQ X f r) (h':eQ X f r'):eQ X f (λxs H Q=>r xs H Q\/r' xs H Q):=by
 intro pins s σ H xs us Q I rs q;rcases q with q|q
 ·exact h pins s σ H xs us Q I rs q
 ·exact h' pins s σ H xs us Q I rs q
theorem rq:eQ X (.type "list") (λxs H Q=>∃p ys,xs=[.ref p]/\(fw X.K H p ys\/fB X.K H p ys)/\∀l,H l=none->Q (.ref l) (upd H l (.lst ys))):=by
 intro pins s σ H xs us Q I r h;obtain⟨p,ys,rfl,hq,q⟩:=h;obtain⟨u,rfl,rx⟩:=vals1 r;cases rx
 have fin:∀(its:List Value),Vals ys its->ys.length<=sizeLine->∀(h':Heap) (c':Nat),(∀b o',s.heap.get? b=some o'->h'.get? b=some o') ->
   h'.get? s.heap.objs.size=some { cls:=.type "list",dict:=none,data:=.seq its.toArray c',slots:=#[] }->EP X pins σ Q (.ref s.heap.objs.size) { s with heap:=h' }:=λits r' hz h' c' kp e =>
  ⟨.ref s.heap.objs.size,_,I.laid (t':=s.toks) kp (II _) (show bC X.prog X.w _ h' _ (.lst ys) from ⟨hz,its,c',r',e⟩),rfl,q _ (I.hok.fresh (II _))⟩
 rcases hq with hq|hq
 ·obtain⟨its,r',pl,hz⟩:=I.list hq;have hlen:=r'.length;obtain⟨o,ho,hc,n,hd⟩:=pl.isList;exact call_list_seq p (.inl rfl) ho hc hd (λh' c' kp e=>fin its r' hz h' c' kp e) (by simp only [IV] <;> omega)
 ·obtain⟨its,r',pl,hz⟩:=I.tuple hq;have hlen:=r'.length;obtain⟨o,ho,hc,n,hd⟩:=pl;exact call_list_seq p (.inr rfl) ho hc hd (λh' c' kp e=>fin its r' hz h' c' kp e) (by simp only [IV] <;> omega)
theorem oZ:eQ X (.type "tuple") (λxs H Q=>∃p ys,xs=[.ref p]/\((fw X.K H p ys/\∀l,H l=none->Q (.ref l) (upd H l (.tup ys)))\/(fB X.K H p ys/\Q (.ref p) H))):=by
 intro pins s σ H xs us Q I r h;obtain⟨p,ys,rfl,h⟩:=h;obtain⟨u,rfl,rx⟩:=vals1 r;cases rx;rcases h with ⟨hq,q⟩|⟨hq,q⟩
 ·obtain⟨its,r',pl,hz⟩:=I.list hq;have hlen:=r'.length;refine call_tuple_list pl.isList (λh' kp=>?_) (by simp only [IV] <;> omega)
  have I1:Inv X pins σ H { s with heap:=h' }:=I.kept (t':=s.toks) kp
  have I2:Inv X pins σ (upd H h'.objs.size (.tup ys)) { s with heap:=h'.push { cls:=.type "tuple",data:=.seq its.toArray } } :=
   I1.laid (t':=s.toks) (λb o e=>IC _ e) (II _) (show bC X.prog X.w _ _ _ (.tup ys) from ⟨hz,its,r',pz.new _ _⟩)
  exact⟨.ref h'.objs.size,_,I2,rfl,q _ (I1.hok.fresh (II _))⟩
 ·obtain⟨its,r',pl,hz⟩:=I.tuple hq;exact call_tuple_same pl ⟨.ref p,H,I,rfl,q⟩
def HR (K:IB) (T:String) (x:V) (H:Hp):Prop:=match x with
 | .str _=>T = "str"
 | .int _=>T = "int"
 | .ref p=>(T = "list"/\∃xs,fw K H p xs)\/(T = "tuple"/\∃o,K.lookup p=some o/\o.cls=.type "tuple"/\o.dict=none) \/
   (T = "dict"/\((∃kvs,H p=some (.dK kvs))\/∃kvs,H p=some (.dT kvs)))\/(T = "set"/\∃S n,H p=some (.set S n))
 | _=>False
theorem DY {pins:List (Addr×Obj)} {σ:St} {H:Hp} {s:Shared} {T:String} {x:V} {v:Value} (I:Inv X pins σ H s) (r:RelV x v) (ty:HR X.K T x H) :
  s.TypeIs v T/\∀a,v=.ref a->∃ob,s.heap.get? a=some ob/\ob.dict=none:=by
 cases x with
 | str z =>
  obtain⟨t,rfl⟩:=r;cases (show T = "str" from ty)
  exact⟨typeIs_str s z t,λ_ e=>nomatch e⟩
 | int i =>
  obtain⟨t,rfl⟩:=r;cases (show T = "int" from ty)
  exact⟨typeIs_int s i t,λ_ e=>nomatch e⟩
 | ref p =>
  cases r;rcases ty with ⟨rfl,xs,hq⟩|⟨rfl,o,hk,hc,hd⟩|⟨rfl,hk⟩|⟨rfl,S,n,hk⟩
  ·obtain⟨its,_,pl,_⟩:=I.list hq;refine⟨pl.isList.typeIs,λa e=>?_⟩;cases e;obtain⟨o,n,e,c,hd,_⟩:=pl;exact⟨o,e,hd⟩
  ·refine⟨⟨o,I.zH p o hk,hc⟩,λa e=>?_⟩;cases e;exact⟨o,I.zH _ o hk,hd⟩
  ·have z:∃o,s.heap.get? p=some o/\o.ExactDict:=by
    rcases hk with ⟨kvs,hk⟩|⟨kvs,hk⟩
    ·obtain⟨_,_,_,_,o,_,_,e,ex,_⟩:=I.hok p _ hk;exact⟨o,e,ex⟩
    ·obtain⟨_,_,_,_,o,_,_,e,ex,_⟩:=I.hok p _ hk;exact⟨o,e,ex⟩
   obtain⟨o,e,ex⟩:=z;refine⟨⟨o,e,ex.1⟩,λa e2=>?_⟩;cases e2;exact⟨o,e,ex.2.1⟩
  ·obtain⟨o,_,_,_,e,ex,_⟩:=I.hok p _ hk;refine⟨⟨o,e,ex.1⟩,λa e2=>?_⟩;cases e2
   exact⟨o,e,ex.2.1⟩
 | _=>exact False.elim ty
def Il (K:IB) (T:String) (r:V->List V->Hp->VK->Prop) (to:TE) (t:TA):TE:=λσ H Q=>to σ H λx H1=>HR K T x H1/\t σ H1 λxs H2=>r x xs H2 Q
variable {o e:Expr} {es:List Expr} {to:TE} {t:TA} {name:Str} {apos cpos:Pos} {T id:String} {r:V->List V->Hp->VK->Prop}
theorem sI (pa:PlainAttrs T) (slot:Slot T name id) (hty:typeOf (.builtin id)=pure (.type "method_descriptor")) (hm:HV X id r) (ho:PE X o to) (ha:PA X (e :: es) t)
  (hbase:attributeBase o name X.env (eval o X.env)=eval o X.env:=by rfl)
  (hfew:((backTo cpos (starEach (e :: es) X.env)).all (λx=>!x.1) && (backToKw cpos (keywordEach [] X.env)).all (λx=>x.1.isSome)
   && decide ((e :: es).length + ([]:List Keyword).length + (if ([]:List Keyword).isEmpty then 0 else 1) < 30))=true:=by rfl)
  (hline:(apos.endLine == cpos.line)=true:=by rfl) (hs:starEach (e :: es) X.env=(false,eval e X.env) :: starEach es X.env:=by rfl) (hplain:(backTo cpos (starEach es X.env)).any (·.1)=false:=by rfl) :
  PE X (.Call (.Attribute o name apos) (e :: es) [] cpos) (Il X.K T r to t):=by
 intro pins s σ H Q I h;refine wpAny_Call_method_late hbase hfew hline rfl (bQ (ho pins s σ H _ I h) λv s1 hq0=>?_);obtain⟨x,H1,I1,r1,ty,q1⟩:=hq0;obtain⟨h1,h2⟩:=DY I1 r1 ty;refine⟨T,id,pa,slot,hty,h1,h2,?_⟩;have hA:=ha cpos pins s1 σ H1 _ I1 q1;rw [hs] at hA ⊢;refine Calls.callWith_builtin (by show (false || (backTo cpos (starEach es X.env)).any (·.1))=false;rw [hplain] <;> rfl) (Calls.evalArgs_plain ?_)
 exact bQ hA λus s2 ⟨vs,H2,I2,r2,q2⟩=>hm pins s2 σ H2 x vs v us Q I2 r1 r2 q2
end
def Hn (X:Cx) (id:String) (r:V->List V->Hp->VK->Prop):Prop :=
 ∀(pins:List (Addr×Obj)) (s:Shared) (σ:St) (H:Hp) (x:V) (xs:List V) (v:Value) (us:List Value) (Q:VK),Inv X pins σ H s->RelV x v->Vals xs us->r x xs H Q ->
  wpAny (model X.prog X.w) X.A (call (.builtin id) (v :: us)) (EP X pins σ Q) X.xe s
theorem Vals.one:∀{x:V} {us:List Value},Vals [x] us->∃u,us=[u]/\RelV x u
 | _,_,.cons r .nil=>⟨_,rfl,r⟩
theorem Vals.two {x y:V} {us:List Value} (h:Vals [x,y] us):∃u v,us=[u,v]/\RelV x u/\RelV y v:=by
 cases h with
 | cons r q =>
  cases q with
  | cons q z=>cases z;exact⟨_,_,rfl,r,q⟩
theorem Vals.eraseIdx:∀{xs:List V} {us:List Value} (i:Nat),Vals xs us->Vals (xs.eraseIdx i) (us.eraseIdx i)
 | _,_,_,.nil=>.nil
 | _,_,0,.cons _ t=>t
 | _,_,i + 1,.cons r t=>.cons r (Vals.eraseIdx i t)
theorem pU {α:Type}:∀(l:List α) (i:Nat),(l.eraseIdx i).length<=l.length
 | [],_=>II _
 | _ :: _,0=>Nat.le_succ _
 | _ :: r,i + 1=>Nat.succ_le_succ (pU r i)
section
variable {X:Cx} {pins:List (Addr×Obj)} {σ:St} {H:Hp} {s:Shared} {l b:Addr} {xs ys zs:List V}
theorem Inv.DL {its its':List Value} {n:Nat} {f:Array Value->Array Value} {t':Nat} (I:Inv X pins σ H s) (hH:H l=some (.lst xs))
  (e:s.heap.get? l=some { cls:=.type "list",data:=.seq its.toArray n }) (hf:f its.toArray=its'.toArray) (hv:Vals ys its') (hz:ys.length<=sizeLine) :
  Inv X pins σ (upd H l (.lst ys)) { s with heap:=s.heap.update l (Obj.mapSeq f),toks:=t' }:=by
 have q:=PySem.IsL.update e f;rw [hf] at q;refine I.write (x:=l) (e:=l) (by rw [hH];exact trivial) (.inl rfl) (λb' u hb hu=>(Heap.get?_update_other s.heap (Obj.mapSeq f) (Ne.symm hb)).trans hu) ⟨_,q⟩ ?_;exact⟨hz,its',_,hv,q⟩
theorem Inv.GZ {its:List Value} {t':Nat} (I:Inv X pins σ H s) (hv:Vals ys its) (hz:ys.length<=sizeLine) :
  Inv X pins σ (upd H s.heap.objs.size (.lst ys)) { s with heap:=s.heap.push { cls:=.type "list",data:=.seq its.toArray },toks:=t' } :=
 I.laid (λ_ _ q=>IC _ q) (II _) ⟨hz,its,0,hv,IS _ rfl⟩
theorem Inv.fresh (I:Inv X pins σ H s):H s.heap.objs.size=none:=I.hok.fresh (II _)
theorem Inv.DR (I:Inv X pins σ H s) (hH:H l=some (.lst xs)):xs.length<=sizeLine/\∃(its:List Value) (n:Nat),Vals xs its/\xs.length=its.length/\s.heap.get? l=some { cls:=.type "list",data:=.seq its.toArray n }:=by
 obtain⟨z,its,n,r,e⟩:=I.hok l _ hH;exact⟨z,its,n,r,r.length,e⟩
end
section
variable {X:Cx}
def A2:V->List V->Hp->VK->Prop:=λx vs H Q=>∃l xs y,x=.ref l/\vs=[y]/\H l=some (.lst xs)/\xs.length < sizeLine/\Q .non (upd H l (.lst (xs ++ [y])))
theorem pG:Hn X "list.append" A2:=by
 intro pins s σ H x vs v us Q I rx rv h;obtain⟨l,xs,y,rfl,rfl,hH,hz,q⟩:=h;cases rx;obtain⟨u,rfl,ru⟩:=rv.one;obtain⟨z,its,n,r,hl,e⟩:=I.DR hH;refine call_meets F.slot_list_append ⟨_,e,rfl⟩ F.entry_list_append (F.args_list_append_2 _ _) (PySem.list_append l its.toArray n u (by rw [IV];omega)) ⟨e,?_⟩;refine⟨.non,_,I.DL (its':=its ++ [u]) hH e (by simp) (r.append (.cons ru .nil)) ?_,rfl,q⟩;rw [Jd,List.length_singleton]
 omega
def CC:V->List V->Hp->VK->Prop:=λx vs H Q=>∃l xs i k y,x=.ref l/\vs=[.int i]/\H l=some (.lst xs)/\-(2 ^ 63)<=i/\i < 2 ^ 63/\seqIndex? i xs.length=some k/\xs[k]?=some y/\Q y (upd H l (.lst (xs.eraseIdx k)))
theorem sq:Hn X "list.pop" CC:=by
 intro pins s σ H x vs v us Q I rx rv h;obtain⟨l,xs,i,k,y,rfl,rfl,hH,h1,h2,hk,hy,q⟩:=h;cases rx;obtain⟨u,rfl,ru⟩:=rv.one;obtain⟨t,rfl⟩:=ru;obtain⟨z,its,n,r,hl,e⟩:=I.DR hH;obtain⟨w,hw,rw'⟩:=r.get hy
 refine call_meets F.slot_list_pop ⟨_,e,rfl⟩ F.entry_list_pop (F.args_list_pop_2 _ _)
  (MeetsSeq.list_pop_at l its.toArray n i t k w (fitsIndex_both h1 h2) (by rw [IV,<- hl];exact hk) (by rw [<- JI];exact hw) (by rw [IV];omega)) ⟨e,?_⟩
 refine⟨y,_,I.DL (its':=its.eraseIdx k) hH e ?_ (r.eraseIdx k) ?_,rw',q⟩
 ·show its.toArray.eraseIdxIfInBounds k=(its.eraseIdx k).toArray
  rw [List.eraseIdxIfInBounds_toArray]
 ·have:=pU xs k;omega
end
end L2
namespace Att
open PySem PySem.W PySem.Calls PyProof.Rows
theorem mK {P:Params} {h:Heap}:∀(ns:List Int) (vs:List Value),WellAll P h vs (ns.map WData.int)->IntsAre vs ns:=by
 intro ns
 induction ns with
 | nil =>
  intro vs w;rw [List.map_nil] at w;cases w
  exact .nil
 | cons n ns ih =>
  intro vs w;rw [Ji] at w
  cases w with
  | cons a b =>
   cases a;exact .cons _ _ (ih _ b)
theorem xY {l:OpenLaw} {n:Nat} (hn:l.most=some n) {P:Params} {h:Heap} {args:List WData} {vals:List Value}
  (hpre:l.row.toRowW.claim.pre args=true) (hwl:WellAll P h vals args) :
  ∃a vs ns,vals=[Value.ref a]/\args=[WData.list (ns.map WData.int)]/\h.get? a=some { cls:=.type "list",data:=.seq vs.toArray }/\IntsAre vs ns/\ns.length<=n:=by
 have hsh:WShape.hasAll [] args [.list .int]=true:=(pre_splitW hpre).1;have hc:l.pre.holds [] { args:=args }=true:=(pre_splitW hpre).2;obtain⟨d,r,rfl,h1,h2⟩:=hasAllW_cons hsh;obtain rfl:=hasAllW_nil h2;obtain⟨xs,rfl,h3⟩:=hasW_list h1;obtain⟨ns,rfl⟩:=items_int h3
 have hlen:ns.length<=n:=by
  unfold OpenLaw.pre at hc
  have h4:(WTm.not (.lt (.lit (.int (n:Int))) (.len (.arg 0)))).holds [] { args:=[.list (ns.map .int)] }=true:=by
   have h4:=(holds_andW hc).1;rw [hn] at h4;exact h4
  have h5:=condW_of h4 (w_not (w_lt w_lit (w_len_list (w_arg rfl))));rw [IK] at h5;refine Nat.le_of_not_lt λq=>?_;have q':(n:Int) < ((ns.length:Nat):Int):=by omega
  first
   | (rw [decide_eq_true q'] at h5;exact absurd h5 (by decide))
   | (simp at h5;omega)
 cases hwl with
 | cons w1 w2 =>
  cases w2
  cases w1 with
  | list ho hall=>exact⟨_,_,ns,rfl,rfl,ho,mK ns _ hall,hlen⟩
theorem xy (l:OpenLaw) (args:List WData):l.row.toRowW.claim.post args (.bool true) args=true :=
 postW_of (r:=l.row.toRowW) (X:=(true == true))
  (show WShape.has [] (.bool true) .bool=true by first|rfl|decide|simp [WShape.has,WShape.arms,WShape.armsAll])
  (show (WTm.eq .res (.lit (.bool true))).value [] { args:=args,res:=some (.bool true),after:=args }=some (.bool (true == true)) from w_eq_bool (w_res rfl) w_lit) rfl
theorem tI {l:OpenLaw} {n:Nat} {q:Program} {loose:List Str} {XP:(Str->Option Value)->Heap->Prop} {YP:World->Heap->Prop} {d:DefRec}
  (hn:l.most=some n) (hdf:d.params.defaults=[])
  (call:∀(w:World) (s₀ s₁:Shared) (mg mb:Str->Option Value) (fa:Addr) (o:Obj) (pm cd doc:Value) (a:Addr) (vs:List Value) (ns:List Int),
   Ground q loose [] XP w s₀ mg mb s₁.heap->YP w s₁.heap ->
   s₁.heap.get? fa=some o->o.data=.func (docDef d.name d.params d.body d.scope pm cd doc)->s₁.heap.CodeRec cd d.name->mg d.name=some (.ref fa) ->
   s₁.heap.get? a=some { cls:=.type "list",data:=.seq vs.toArray }->IntsAre vs ns->ns.length<=n->s₁.gens=#[] ->
   codeAny (model l.prog w) callerA (.call (.ref fa) ⟨[.ref a],[]⟩) (λr s'=>r=.ok (.ret (.bool true))/\OldK s₁.heap s'.heap/\s'.os=s₁.os/\AllBare s'.gens) s₁) :
  WalkO q loose XP YP l.row.toRowW d [] (λf vs=>PySem.call f vs):=by
 intro w s₀ s₁ mg mb G Y fa o pm cd doc dV kV ho hd hcd hD hmg hg args vals as hpre hlay hrd hwl hlo;obtain rfl:dV=.none:=Dflts.none hD hdf;obtain rfl:kV=.none:=Dflts.noKw hD;obtain⟨a,vs,ns,rfl,rfl,hobj,hints,hlen⟩:=xY hn hpre hwl;refine enter_call (codeAny_mono (call w s₀ s₁ mg mb fa o pm cd doc a vs ns G Y ho (fd_plain hd) hcd hmg hobj hints hlen hg) λr s' hq=>?_);obtain⟨rfl,h2,h3,h4⟩:=hq;exact⟨.inl ⟨.bool true,.bool true,[],rfl,λ_=>rfl,.bool true,xy l _,λ_=>⟨List.Pairwise.nil,λ_ hm=>(nomatch hm)⟩⟩,h2,h3,h4⟩
end Att
namespace L2
open PySem PySem.Spec PyProof.Rows
theorem iL:∀{vs:List Value} {ns:List Int},IntsAre vs ns->Vals (ns.map V.int) vs
 | _,_,.nil=>.nil
 | _,_,.cons n t h=>.cons ⟨t,rfl⟩ (iL h)
theorem AX {K:IB} {b:Addr} {q:Str} (h:tq K b=some q):∃x c,(x,q)∈j6/\PySem.W.tabIn K x=some (c,b):=by
 unfold tq at h
 cases e:j6.find? λp=>match PySem.W.tabIn K p.1 with|some (_,P)=>P == b|none=>false with
 | none=>rw [e] at h;cases h
 | some p =>
  rw [e] at h;cases h;have m:=List.mem_of_find?_eq_some e;have z:=List.find?_some e;refine⟨p.1,?_⟩
  cases t:PySem.W.tabIn K p.1 with
  | none=>rw [t] at z;cases z
  | some r =>
   obtain⟨c,P⟩:=r;rw [t] at z;obtain rfl:P=b:=by simpa using z
   exact⟨c,m,rfl⟩
theorem zP {P:Program} {w:World} {K:IB} {mg mb:Str->Option Value} {CX:zN} {k:Nat} {fa a:Addr} {fd:FuncData} {x:Str} {sp:Sp} {s₁:Shared} {vs:List Value} {ns:List Int}
  (KX:K.In s₁.heap) (hns:s₁.heap.Ns mainGlobals mg) (hb:s₁.heap.Ns builtinsNs mb) (hbb:∀x:Str,x≠"__name__"->mb x=bootBuiltins x) (hlim:s₁.heap.NoLimit) (hg:s₁.gens=#[])
  (ha:s₁.heap.get? a=some { cls:=.type "list",data:=.seq vs.toArray }) (hi:IntsAre vs ns) (hl:ns.length<=sizeLine) (hr:cQ k callerA)
  (hbm:∃bm ob,mg "__builtins__" = some (.ref bm)/\bm≠builtinsNs/\s₁.heap.get? bm=some ob/\ob.cls=.type "module"/\ob.dict=some builtinsNs/\ob.data=.plain)
  (hnt:PySem.W.noTabs K=true) (htb:∀x c b,x∈j6.map (·.1)->PySem.W.tabIn K x=some (c,b)->PySem.W.CodeHd s₁.heap c b/\s₁.heap.get? b=some (PySem.W.tabObj #[]))
  (F:∀base:Heap,K.In base->base.Ns mainGlobals mg->oq P w K mg base CX k fa fd [x] sp) (hbind:∀(s:Shared) (u:Value),BindsTo s fd ⟨[u],[]⟩ [(x,u)])
  (hsp:∀H:Hp,fw K H a (ns.map V.int)->sp [.ref a] H (λv _=>v=.bl true) λ_ _ _=>False)
  (hCX:∀H e s',CX [] H s₁ (λ_ _ _=>False) e s'->False) :
  codeAny (model P w) callerA (.call (.ref fa) ⟨[.ref a],[]⟩) (λr s'=>r=.ok (.ret (.bool true))/\OldK s₁.heap s'.heap/\s'.os=s₁.os/\AllBare s'.gens) s₁:=by
 have rv:=iL hi;have lenV:=hi.length
 have tab:∀{b:Addr} {q:Str},tq K b=some q->(∃c,PySem.W.CodeHd s₁.heap c b)/\s₁.heap.get? b=some (PySem.W.tabObj #[]):=λ{b q} e=>by
  obtain⟨x,c,m,t⟩:=AX e;obtain⟨h1,h2⟩:=htb x c b (Jn.mpr ⟨_,m,rfl⟩) t;exact⟨⟨c,h1⟩,h2⟩
 have notab:∀{b:Addr} {o:Obj} {q:Str},K.lookup b=some o->tq K b=some q->False:=λ{b o q} e z=>by
  have e2:=(tab z).2;rw [KX b o e] at e2;cases e2;have h2:=List.all_eq_true.mp hnt (b,_) (PySem.W.mem_of_lookupK e);exact absurd (show false=true from h2) Bool.false_ne_true
 have core:∀H:Hp,(∀b,(H b=none/\tq K b=none)\/(∃o xs,H b=some (.frz o (.lst xs))/\b=a/\tq K b=none)\/∃q,H b=some (.m8 q)/\tq K b=some q)->fw K H a (ns.map V.int)->jk P w H s₁.heap->(H a≠none->K.lookup a=none) ->
   codeAny (model P w) callerA (.call (.ref fa) ⟨[.ref a],[]⟩) (λr s'=>r=.ok (.ret (.bool true))/\OldK s₁.heap s'.heap/\s'.os=s₁.os/\AllBare s'.gens) s₁:=by
  intro H hO hS hok hK;have base_of:∀{b:Addr} {o:Obj},s₁.heap.get? b=some o->H b=none->(qK s₁.heap H).get? b=some o:=λe n=>zB e n
  have noA:∀{b:Addr} {o:Obj} {es:Array DictEntry} {ep:Nat},s₁.heap.get? b=some o->o.data=.dict es ep->H b=none:=λ{b o es ep} e d=>by
   rcases hO b with z|⟨_,_,_,rfl,_⟩|⟨q,z,t⟩
   ·exact z.1
   ·rw [ha] at e;cases e;have d':Data.seq vs.toArray _=Data.dict es ep:=d;cases d'
   ·rw [(tab t).2] at e;cases e;have d':Data.fields #[]=Data.dict es ep:=d;cases d'
  have nsK:∀{b:Addr} {m:Str->Option Value},s₁.heap.Ns b m->(qK s₁.heap H).Ns b m:=λ{b m} ⟨o,es,ep,e,d,r⟩=>⟨o,es,ep,base_of e (noA e d),d,r⟩
  have hKb:K.In (qK s₁.heap H):=λb o e=>base_of (KX b o e) (by
   rcases hO b with z|⟨_,_,z,rfl,_⟩|⟨q,z,t⟩
   ·exact z.1
   ·rw [hK (by rw [z];simp)] at e;cases e
   ·exact (notab e t).elim)
  have hM:Mod K mg (qK s₁.heap H):=⟨hKb,nsK hns,⟨mb,nsK hb,hbb⟩,let ⟨mc,h1,h2⟩:=hlim;⟨mc,nsK h1,h2⟩,by
   obtain⟨bm,ob,b1,b2,b3,b4,b5⟩:=hbm;refine⟨bm,ob,b1,b2,base_of b3 ?_,b4,b5⟩;rcases hO bm with z|⟨_,_,_,rfl,_⟩|⟨q,z,t⟩
   ·exact z.1
   ·rw [ha] at b3;cases b3;simp at b4
   ·rw [(tab t).2] at b3;cases b3;simp at b4⟩
  have hTb:BC K H:=λb q e=>by
   rcases hO b with z|⟨_,_,_,_,z⟩|⟨q',z,t⟩
   ·rw [z.2] at e;cases e
   ·rw [z] at e;cases e
   ·rw [t] at e;cases e;exact z
  have e0:uS P w K mg (qK s₁.heap H) callerA [] s₁ H:=⟨rfl,hM,λb o e=>BF e,Nat.le_of_eq (xx _ _),trivial,⟨λb hb=>absurd (show b∈([]:List Addr) from hb) (by simp),hTb⟩,hok,.of_eq hg⟩;refine codeAny_mono ((F _ hKb (nsK hns)).run callerA [] s₁ H ⟨[.ref a],[]⟩ [.ref a] [.ref a] _ _ hr e0 (hbind s₁ (.ref a)) (.cons rfl .nil) (hsp H hS)) λr s' h=>?_
  cases r with
  | error e=>exact (hCX H e s' h).elim
  | ok fl =>
   cases fl with
   | next=>exact False.elim h
   | brk=>exact False.elim h
   | cont=>exact False.elim h
   | ret u =>
    obtain⟨v,H',os,bare,un,hok',r',q⟩:=h;have q':v=.bl true:=q;subst q';obtain rfl:u=Value.bool true:=r'
    have look:∀b o,s₁.heap.get? b=some o->s'.heap.get? b=some o\/(isCodeTable s₁.heap b/\o=PySem.W.tabObj #[]/\∃ps,s'.heap.get? b=some (PySem.W.tabObj ps)):=λb o e=>by
     rcases hO b with z|⟨ob,xs,z,rfl,_⟩|⟨q,z,t⟩
     ·exact .inl (un.keep b o e z.1 (by intro z;exact absurd (show b∈([]:List Addr) from z) (by simp)) (by simp))
     ·have z2:=un.frzs _ ob _ z;obtain⟨e1,_⟩:=hok _ _ z;obtain⟨e2,_⟩:=hok' _ _ z2;rw [e] at e1;cases e1;exact .inl e2
     ·obtain⟨⟨c,hc⟩,e1⟩:=tab t;obtain⟨ps,e2,_⟩:=hok' b _ (un.tbls b q z);rw [e] at e1;cases e1;exact .inr ⟨(hc.tab e).isCodeTable,rfl,ps,e2⟩
    refine⟨rfl,⟨λb o e=>?_,λb o e=>?_⟩,os,bare⟩
    ·rcases look b o e with z|⟨t,rfl,ps,z⟩
     ·exact .inl z
     ·exact .inr (.inl ⟨t,rfl,#[],ps,rfl,by rw [Array.empty_append];exact z⟩)
    ·rcases look b o e with z|⟨t,rfl,ps,z⟩
     ·exact⟨o,z⟩
     ·exact⟨_,z⟩
 have aTab:tq K a=none:=by
  cases e:tq K a with
  | none=>rfl
  | some q=>have z:=(tab e).2;rw [ha] at z;cases z
 have tblOk:∀(H:Hp) {b:Addr} {q:Str},tq K b=some q->bC P w H s₁.heap b (.m8 q):=λH {b q} e=>⟨#[],(tab e).2,trivial,λpos cv z=>by cases z⟩
 cases hk:K.lookup a with
 | some o =>
  have e:=KX a o hk;rw [ha] at e;cases e;refine core (λb=>(tq K b).map HO.m8) (λb=>?_) (.inr ⟨_,vs.toArray,_,hk,rfl,rfl,rfl,by rw [IV,lenV];exact hl,by simpa using rv⟩) (λb u z=>?_) λz=>absurd (by show (tq K a).map HO.m8=none;rw [aTab];rfl) z
  ·cases e:tq K b with
   | none=>exact .inl ⟨by rw [Option.map_none],rfl⟩
   | some q=>exact .inr (.inr ⟨q,by rw [Option.map_some],rfl⟩)
  ·have z':(tq K b).map HO.m8=some u:=z
   cases e:tq K b with
   | none=>rw [e] at z';cases z'
   | some q=>rw [e] at z';cases z';exact tblOk _ e
 | none =>
  refine core (λb=>if b=a then some (.frz { cls:=.type "list",data:=.seq vs.toArray } (.lst (ns.map V.int))) else (tq K b).map HO.m8) (λb=>?_) (.inl (.inr ⟨{ cls:=.type "list",data:=.seq vs.toArray },if_pos rfl⟩)) (λb u z=>?_) λ_=>hk
  ·by_cases hb:b=a
   ·exact .inr (.inl ⟨_,_,if_pos hb,hb,by rw [hb];exact aTab⟩)
   ·cases e:tq K b with
    | none=>exact .inl ⟨by rw [if_neg hb,Option.map_none],rfl⟩
    | some q=>exact .inr (.inr ⟨q,by rw [if_neg hb,Option.map_some],rfl⟩)
  ·by_cases hb:b=a
   ·have z':=(if_pos hb).symm.trans z;cases z';subst hb;exact⟨ha,by rw [IK];exact hl,vs,_,rv,ha⟩
   ·have z':=(if_neg hb).symm.trans z
    cases e:tq K b with
    | none=>rw [e] at z';cases z'
    | some q=>rw [e] at z';cases z';exact tblOk _ e
theorem BV {l:PySem.W.OpenLaw} {n k:Nat} {q:Program} {loose:List Str} {XP:(Str->Option Value)->Heap->Prop} {YP:World->Heap->Prop} {d:DefRec} {K:Params->IB} {CX:World->zN} {sp:World->Sp} {x:Str}
  (hn:l.most=some n) (hn2:n<=sizeLine) (hdf:d.params.defaults=[]) (hr:cQ k callerA)
  (hnt:∀w:World,PySem.W.noTabs (K w.params)=true) (hrc:∀w:World,j6.all (λp=>(PySem.W.tabIn (K w.params) p.1).isNone || ((recsOf q).find? λe=>e.name == p.1).isSome)=true)
  (hY:∀(w:World) (h:Heap),YP w h->(K w.params).In h)
  (F:∀(w:World) (mg:Str->Option Value) (fa:Addr) (h:Heap),(K w.params).In h->h.Ns mainGlobals mg->mg d.name=some (.ref fa) ->
   ∃fd:FuncData,(∀(s:Shared) (u:Value),BindsTo s fd ⟨[u],[]⟩ [(x,u)]) /\
    ∀base:Heap,(K w.params).In base->base.Ns mainGlobals mg->oq l.prog w (K w.params) mg base (CX w) k fa fd [x] (sp w))
  (hsp:∀(w:World) (H:Hp) (a:Addr) (ns:List Int),ns.length<=n->fw (K w.params) H a (ns.map V.int)->sp w [.ref a] H (λv _=>v=.bl true) λ_ _ _=>False)
  (hCX:∀(w:World) (H:Hp) (s:Shared) (e:Value) (s':Shared),CX w [] H s (λ_ _ _=>False) e s'->False) :
  PySem.W.WalkO q loose XP YP l.row.toRowW d [] (λf vs=>PySem.call f vs):=by
 refine Att.tI hn hdf λw s₀ s₁ mg mb fa o pm cd doc a vs ns G Y ho hd hcd hmg hobj hints hlen hg=>?_;have KX:=hY w _ Y;obtain⟨fd,hb,hF⟩:=F w mg fa _ KX G.T.g hmg;refine zP KX G.T.g G.T.b G.T.builtins G.T.nolimit hg hobj hints (Jz hlen hn2) hr G.T.bmain (hnt w) (λx c b hx ht=>?_) hF hb (λH hS=>hsp w H a ns hlen hS) λH e s'=>hCX w H s₁ e s';obtain⟨p,hp,rfl⟩:=Jn.mp hx;have z:=List.all_eq_true.mp (hrc w) p hp
 rw [ht] at z;have z2:((recsOf q).find? λe=>e.name == p.1).isSome=true:=by simpa using z
 obtain⟨dd,hd'⟩:=Option.isSome_iff_exists.mp z2;exact PySem.W.tab_of G.T KX hd' ht
def dR (s:Stmt):Arguments:=match s with
 | .FunctionDef _ a _ _ _ _ _ _ _ _=>a
 | _=>{ posonlyargs:=[],args:=[],vararg:=none,kwonlyargs:=[],kw_defaults:=[],kwarg:=none,defaults:=[] }
def bT (s:Stmt):List Stmt:=match s with
 | .FunctionDef _ _ b _ _ _ _ _ _ _=>b
 | _=>[]
def ar (s:Stmt):Scope:=match s with
 | .FunctionDef _ _ _ _ _ _ sc _ _ _=>sc
 | _=>{ kind:=.function,names:=[],isGenerator:=false,isCoroutine:=false }
abbrev yb:zN:=λ_ _ _ _ _ _=>False
abbrev E0:XK:=λ_ _ _=>False
theorem FZ {X:Cx}:Passes yb X E0:=λ_ _ _ _ _ _ _ h=>h.elim
structure rD (K:IB) (x qual:Str) (st:Stmt) (f:Addr) (fd:FuncData):Prop where
 ex:∃(oc:Value) (od:Option Addr) (kV doc pm:Value) (an:Option Addr) (cdv ct:Value) (osl:Array (Option Value)),
  fd=PySem.W.fnOf x qual (dR st) (bT st) (ar st) .none kV doc pm an cdv ct/\K.lookup f=some ⟨oc,od,.func fd,osl⟩/\PySem.W.codeIn K cdv qual=true
 kp:PySem.W.keepIn K (.ref f)=true
section
variable {P:Program} {w:World} {K:IB} {mg:Str->Option Value} {base:Heap}
theorem rD.ok {x qual:Str} {st:Stmt} {f:Addr} {fd:FuncData} {N ps:List Str} {k:Nat} {sp:Sp} (F:rD K x qual st f fd) (S:aK N ps (ar st)) (len:∀vs H Q E,sp vs H Q E->vs.length=ps.length)
  (hbody:∀(cdv:Value) (A:Around) (outer:List Env) (s:Shared) (H:Hp) (vs:List V) (Q:VK) (E:XK),cQ k (A.deeper (envOfC qual (ar st) s.heap.objs.size f cdv))->sp vs H Q E ->
   ∃t,vt (jc yb P w K mg base N qual (ar st) f cdv A outer s H E).pE (bT st) t/\t { nx:=λ_ H'=>Q .non H',rt:=Q } (start N vs) H):oq P w K mg base yb (k + 1) f fd ps sp:=by
 obtain⟨oc,od,kV,doc,pm,an,cdv,ct,osl,rfl,lk,hcd⟩:=F.ex;refine Ag lk hcd S len λA outer s H vs Q E hr hsp=>?_;obtain⟨t,h,q⟩:=hbody cdv A outer s H vs Q E hr hsp;exact⟨t,h.pE,q⟩
theorem rD.binds {x qual:Str} {st:Stmt} {f:Addr} {fd:FuncData} {ps:List Str} (F:rD K x qual st f fd)
  (h:∀(kV doc pm:Value) (an:Option Addr) (cdv ct:Value) (us:List Value),us.length=ps.length->bindArgs (PySem.W.fnOf x qual (dR st) (bT st) (ar st) .none kV doc pm an cdv ct) ⟨us,[]⟩=pure (ps.zip us)):Binds K fd ps []:=by
 obtain⟨oc,od,kV,doc,pm,an,cdv,ct,osl,rfl,lk,hcd⟩:=F.ex;exact .all (h kV doc pm an cdv ct)
theorem uM {x qual:Str} {st:Stmt} {f:Addr} {oc:Value} {od an:Option Addr} {osl:Array (Option Value)} {kV doc pm cdv ct:Value} (l:K.lookup f=some ⟨oc,od,.func (PySem.W.fnOf x qual (dR st) (bT st) (ar st) .none kV doc pm an cdv ct),osl⟩)
  (c:PySem.W.codeIn K cdv qual=true) (k:PySem.W.keepIn K (.ref f)=true):rD K x qual st f (PySem.W.fnOf x qual (dR st) (bT st) (ar st) .none kV doc pm an cdv ct):=⟨⟨oc,od,kV,doc,pm,an,cdv,ct,osl,rfl,l,c⟩,k⟩
end
def ak (H H':Hp):Prop:=∀b o,H b=some o->H' b=some o
theorem ak.refl (H:Hp):ak H H:=λ_ _ h=>h
theorem ak.trans {H H1 H2:Hp} (a:ak H H1) (b:ak H1 H2):ak H H2:=λc o h=>b c o (a c o h)
theorem ak.free {H H':Hp} (e:ak H H') {l:Addr} (h:H' l=Option.none):H l=Option.none:=by
 cases q:H l with
 | none=>rfl
 | some o =>
  rw [e l o q] at h;cases h
theorem ak.seq {K:IB} {H H':Hp} {a:Addr} {xs:List V} (e:ak H H') (h:fw K H a xs):fw K H' a xs:=by
 rcases h with (h|⟨o,h⟩)|h
 ·exact .inl (.inl (e _ _ h))
 ·exact .inl (.inr ⟨o,e _ _ h⟩)
 ·exact .inr h
end L2
set_option maxHeartbeats 8000000
namespace L2
open PySem PySem.Spec PyProof.Rows
section
variable {κ:Type} [DecidableEq κ]
def jV (kvs:List (κ×V)) (k:κ):Option V:=(kvs.find? λkv=>decide (kv.1=k)).map (·.2)
def putK (kvs:List (κ×V)) (k:κ) (v:V):List (κ×V) :=
 if (kvs.any λkv=>decide (kv.1=k))=true then kvs.map (λkv=>if kv.1=k then (kv.1,v) else kv) else kvs ++ [(k,v)]
theorem j8 {p:κ×V} {r:List (κ×V)} {k:κ} (e:p.1=k):jV (p :: r) k=some p.2:=by simp [jV,List.find?_cons,e]
theorem kn {p:κ×V} {r:List (κ×V)} {k:κ} (e:¬ p.1=k):jV (p :: r) k=jV r k:=by simp [jV,List.find?_cons,e]
theorem oE (k:κ):∀kvs:List (κ×V),(kvs.any λkv=>decide (kv.1=k))=(jV kvs k).isSome
 | []=>rfl
 | p :: r=>by
  rw [List.any_cons]
  by_cases e:p.1=k
  ·simp only [j8 e,decide_eq_true e,Bool.true_or,Option.isSome_some]
  ·rw [kn e,decide_eq_false e,Bool.false_or];exact oE k r
theorem sj (kvs:List (κ×V)) (k:κ) (v:V):(putK kvs k v).length<=kvs.length + 1:=by
 unfold putK
 split
 ·rw [IK];omega
 ·rw [Jd,Jo,JF];omega
theorem zJ {kvs:List (κ×V)} {k:κ} (v:V) (h:jV kvs k=none):putK kvs k v=kvs ++ [(k,v)]:=by
 unfold putK;rw [oE,h];exact if_neg (by decide)
theorem KV.val {kvs:List (κ×V)} {vs:List (κ×Value)} (r:KV kvs vs) (k:κ):tF (jV kvs k) (valueAt vs k):=by
 unfold KV at r
 induction r with
 | nil=>exact True.intro
 | @cons p q ps qs h t ih =>
  obtain⟨h1,h2⟩:=h
  by_cases e:p.1=k
  ·have e':q.1=k:=h1.symm.trans e;have b:valueAt (q :: qs) k=some q.2:=by simp [valueAt,List.find?_cons,e']
   rw [j8 e,b];exact h2
  ·have e':¬ q.1=k:=λz=>e (h1.trans z);have b:valueAt (q :: qs) k=valueAt qs k:=by simp [valueAt,List.find?_cons,e']
   rw [kn e,b];exact ih
theorem KV.any {kvs:List (κ×V)} {vs:List (κ×Value)} (r:KV kvs vs) (k:κ):(kvs.any λkv=>decide (kv.1=k))=vs.any λkv=>decide (kv.1=k):=by
 unfold KV at r
 induction r with
 | nil=>rfl
 | cons h t ih=>rw [List.any_cons,List.any_cons,ih,h.1]
theorem KV.G5 {kvs:List (κ×V)} {vs:List (κ×Value)} (r:KV kvs vs) (k:κ) {y:V} {u:Value} (ry:RelV y u) :
  KV (kvs.map λkv=>if kv.1=k then (kv.1,y) else kv) (vs.map λkv=>if kv.1=k then (kv.1,u) else kv):=by
 unfold KV at r ⊢
 induction r with
 | nil=>exact .nil
 | @cons p q ps qs h t ih =>
  rw [Ji,Ji];refine .cons ?_ ih;obtain⟨h1,h2⟩:=h
  by_cases e:p.1=k
  ·rw [if_pos e,if_pos (h1.symm.trans e)];exact⟨h1,ry⟩
  ·rw [if_neg e,if_neg (λz=>e (h1.trans z))];exact⟨h1,h2⟩
theorem KV.put {kvs:List (κ×V)} {vs:List (κ×Value)} (r:KV kvs vs) (k:κ) {y:V} {u:Value} (ry:RelV y u):KV (putK kvs k y) (stored vs k u):=by
 unfold putK stored;rw [r.any k]
 by_cases e:(vs.any λkv=>decide (kv.1=k))=true
 ·rw [if_pos e,if_pos e];exact r.G5 k ry
 ·rw [if_neg e,if_neg e];exact Paired.snoc r ⟨rfl,ry⟩
theorem KV.length {kvs:List (κ×V)} {vs:List (κ×Value)} (r:KV kvs vs):kvs.length=vs.length:=Paired.length r
end
theorem zC {P:Program} {w:World} {k:Key} {u:Value} (r:RelV (kV k) u):(bX P w).is k u=true:=by
 cases k with
 | inl i=>obtain⟨t,e⟩:=(show ∃t,u=Value.int i t from r);subst e;exact tN P w i t
 | inr x=>obtain⟨t,e⟩:=(show ∃t,u=Value.str x t from r);subst e;exact ur P w x t
theorem p4 {P:Program} {w:World}:∀{ks:List Key} {us:List Value},Vals (ks.map kV) us->ItemsAre (bX P w) ks us
 | [],_,r=>by rw [List.map_nil] at r;cases r;exact .nil
 | k :: ks,_,r=>by
  rw [Ji] at r
  cases r with
  | cons h t=>exact .cons (zC h) (p4 t)
abbrev KT (H:Hp):List (List Key×V)->List (List Key×Addr×Value)->Prop:=Paired λp q=>p.1=q.1/\H q.2.1=some (.tup (p.1.map kV))/\RelV p.2 q.2.2
theorem KT.val {H:Hp} {kvs:List (List Key×V)} {xs:List (List Key×Addr×Value)} (r:KT H kvs xs) (k:List Key):tF (jV kvs k) ((atKey xs k).map (·.2)):=by
 induction r with
 | nil=>exact True.intro
 | @cons p q ps qs h t ih =>
  obtain⟨h1,_,h2⟩:=h
  by_cases e:p.1=k
  ·have e':q.1=k:=h1.symm.trans e;have b:atKey (q :: qs) k=some q.2:=by simp [atKey,List.find?_cons,e']
   rw [j8 e,b];exact h2
  ·have e':¬ q.1=k:=λz=>e (h1.trans z);have b:atKey (q :: qs) k=atKey qs k:=by simp [atKey,List.find?_cons,e']
   rw [kn e,b];exact ih
section
variable {P:Program} {w:World} {H:Hp} {h:Heap} {a:Addr}
theorem Cg {u:HO} (ok:jk P w H h) (e:Rd H a u):bC P w H h a u:=e.ok ok
theorem yP {kvs:List (Key×V)} (ok:jk P w H h) (e:Rd H a (.dK kvs)):kvs.length<=sizeLine/\(a == sysModules)=false/\∃vs,KV kvs vs/\h.DictOf (bX P w) a vs :=
 show bC P w H h a (.dK kvs) from Cg ok e
theorem Fy {kvs:List (Key×V)} (ok:jk P w H h) (e:H a=some (.dK kvs)):kvs.length<=sizeLine/\(a == sysModules)=false/\∃vs,KV kvs vs/\h.DictOf (bX P w) a vs:=yP ok (.inl e)
theorem yQ {ks:List Key} (ok:jk P w H h) (e:H a=some (.tup (ks.map kV))):(tupleKind (bX P w)).is h ks a:=by
 obtain⟨_,its,r,o,h1,h2,⟨n,h3⟩,_⟩:=(show bC P w H h a (.tup (ks.map kV)) from ok a _ e);exact⟨o,its.toArray,n,h1,h2,h3,by simpa using p4 r⟩
theorem Co {kvs:List (List Key×V)} (ok:jk P w H h) (e:Rd H a (.dT kvs)):kvs.length<=sizeLine/\(a == sysModules)=false /\
  ∃xs,KT H kvs xs/\h.DictOfH (tupleKind (bX P w)) a xs:=by
 obtain⟨z,y,xs,r,o,es,ep,h1,h2,h3,h4,h5⟩:=(show bC P w H h a (.dT kvs) from Cg ok e);refine⟨z,y,xs,r,o,es,ep,h1,h2,h3,h4,λx hx=>?_,h5⟩
 have all:∀{l:List (List Key×V)} {m:List (List Key×Addr×Value)},KT H l m->∀x∈m,(tupleKind (bX P w)).is h x.1 x.2.1:=by
  intro l m q
  induction q with
  | nil=>intro x hx;exact nomatch hx
  | @cons p q ps qs hq t ih =>
   intro x hx;rcases IZ.mp hx with e|hx
   ·subst e;exact yQ ok (by rw [<- hq.1];exact hq.2.1)
   ·exact ih x hx
 exact all r x hx
end
def Aw (H:Hp) (a:Addr) (y:V) (r:Option V):Prop :=
 (∃kvs k,Rd H a (.dK kvs)/\y=kV k/\r=jV kvs k)\/∃kvs k b,Rd H a (.dT kvs)/\y=.ref b/\H b=some (.tup (k.map kV))/\r=jV kvs k
theorem Aw.k {H:Hp} {a:Addr} {kvs:List (Key×V)} {k:Key} (e:H a=some (.dK kvs)):Aw H a (kV k) (jV kvs k):=.inl ⟨kvs,k,.inl e,rfl,rfl⟩
section
variable {X:Cx} {pins:List (Addr×Obj)} {σ:St} {H:Hp} {s:Shared} {a:Addr} {y v:V} {u r:Value} {o:Option V} {A:Around} {E:Value->Shared->Prop}
theorem Inv.big (I:Inv X pins σ H s):sysModules < s.heap.objs.size:=by
 have h:mainGlobals < s.heap.objs.size:=(I.mod.glob.keeps I.bk).lt;exact Nat.lt_trans (by decide) h
theorem xF {Q:Value->Shared->Prop} (hu:A.units + 1 < cLine) (I:Inv X pins σ H s) (g:Aw H a y (some v)) (ry:RelV y u) (h:∀w' s',Inv X pins σ H s'->RelV v w'->Q w' s') :
  wpAny (model X.prog X.w) A (getItem (.ref a) u) Q E s:=by
 rcases g with ⟨kvs,k,e,ey,l⟩|⟨kvs,k,b,e,ey,eb,l⟩
 ·subst ey;obtain⟨z,hd,vs,rel,dd⟩:=yP I.hok e;obtain⟨w',hw,rw'⟩:=tF.some_of (v:=v) (o:=valueAt vs k) (by rw [l];exact rel.val k);exact wpAny_getItem_of (zC ry) dd.mapOf hw (h w' _ (I.tok _) rw')
 ·subst ey;cases (show u=Value.ref b from ry);obtain⟨z,hd,xs,rel,dd⟩:=Co I.hok e;obtain⟨w',hw,rw'⟩:=tF.some_of (v:=v) (o:=(atKey xs k).map (·.2)) (by rw [l];exact rel.val k);obtain⟨p,hp,hp2⟩:=Js.mp hw;refine wpAny_getItem_heap (tupleKind_room_in1 hu) (yQ I.hok eb) dd hp ?_;rw [hp2];exact h w' _ (I.tok _) rw'
theorem iN {h':Heap} {t':Nat} {ob:HO} (I:Inv X pins σ H s) (mu:Fe (H a)) (hs:Heap.SameBut a s.heap h') (he:∃q,h'.get? a=some q) (new:bC X.prog X.w (upd H a ob) h' a ob) :
  Inv X pins σ (upd H a ob) { s with heap:=h',toks:=t' } :=
 I.write (x:=a) (e:=a) mu (.inl rfl) (λb q hb z=>(hs.2 b hb).trans z) he new
theorem Eg {P:Program} {w:World} {H':Hp} {h':Heap} {kvs:List (Key×V)} {vs:List (Key×Value)} (z:kvs.length<=sizeLine) (hd:(a == sysModules)=false) (rel:KV kvs vs) (dd:h'.DictOf (bX P w) a vs) :
  bC P w H' h' a (.dK kvs):=⟨z,hd,vs,rel,dd⟩
end
def yY (i:Expr):Prop:=∀ov iv,subscripted i false ov iv=operate [ov,iv] (getItem ov iv)
theorem w4 {prog:Program} {w:World} {A:Around} {E:Value->Shared->Prop} {s:Shared} {env:Env} {value slice:Expr} {pos:Pos} {T id:String} {Q:Value->Shared->Prop}
  (hl:typeLookup (.type T) "__getitem__" = pure (some (.builtin id))) (hs:yY slice)
  (h:wpAny (model prog w) A (eval value env) (λo s₁=>wpAny (model prog w) A (eval slice env) (λi s₂=>s₂.TypeIs o T/\wpAny (model prog w) A (getItem o i) Q E s₂) E s₁) E s) :
  wpAny (model prog w) A (eval (.Subscript value slice pos) env) Q E s:=by
 refine Subscript_ (Jh h (λo s₁ h₁=>Jh h₁ (λi s₂ h₂=>?_) λ_ _ x=>x) λ_ _ x=>x);obtain⟨hT,h₂⟩:=h₂;unfold subscriptTail;refine Iw ?_;rw [getitemInPython_of_ne hT.not_modules];refine Iw (wpAny_specialOf hT hl ?_)
 have fin:wpAny (model prog w) A (subscripted slice false o i) (λr s₃=>wpAny (model prog w) A (letTemporaryGo value o r >>= λ_=>pure r) Q E s₃) E s₂:=by
  rw [hs o i];exact wpAny_operating (Jh h₂ (λr s₃ h₃=>Iw (wpAny_letTemporaryGo (ID h₃))) λ_ _ x=>x)
 first
  | exact ID (Iw fin)
  | exact Iw (ID (Iw fin))
  | exact Iw fin
theorem ue {X:Cx} {pins:List (Addr×Obj)} {σ:St} {H:Hp} {s:Shared} {a:Addr} {y:V} {o:Option V} (I:Inv X pins σ H s) (g:Aw H a y o):s.TypeIs (.ref a) "dict":=by
 rcases g with ⟨kvs,k,e,_,_⟩|⟨kvs,k,b,e,_,_,_⟩
 ·obtain⟨_,_,vs,_,dd⟩:=yP I.hok e;exact dd.typeIs
 ·obtain⟨_,_,xs,_,dd⟩:=Co I.hok e;exact dd.typeIs
def E3 (td ty:TE):TE:=λσ H Q=>td σ H λx H1=>ty σ H1 λy H2=>∃a v,x=.ref a/\Aw H2 a y (some v)/\Q v H2
section
variable {X:Cx} {o i e value:Expr} {pos pos' tpos:Pos} {td ty tv:TE}
theorem BL (hu:X.A.units + 1 < cLine) (ho:PE X o td) (hi:PE X i ty) (hs:yY i):PE X (.Subscript o i pos) (E3 td ty):=by
 intro pins s σ H Q I h;refine w4 PySem.F.slot_dict_getitem.lookup hs (bQ (ho pins s σ H _ I h) λu s1 ⟨x,H1,I1,rx,q1⟩=>bQ (hi pins s1 σ H1 _ I1 q1) λiv s2 hq0=>?_);obtain⟨y,H2,I2,ry,a,v,ex,g,q2⟩:=hq0;subst ex;obtain rfl:u=Value.ref a:=rx;exact⟨ue I2 g,xF hu I2 g ry λw' s3 I3 rw'=>⟨v,H2,I3,rw',q2⟩⟩
end
theorem zw {P:Program} {w:World} {H:Hp} (h:Heap) (hb:sysModules < h.objs.size):bC P w H (h.push { cls:=.type "dict",data:=.dict #[] }) h.objs.size (.dK []) :=
 ⟨Ju _,beq_eq_false_iff_ne.mpr (Ne.symm (Jj hb)),[],.nil,Heap.DictOf.new h⟩
def lH:List (TE×TE)->St->Hp->(List (V×V)->Hp->Prop)->Prop
 | [],_,H,Q=>Q [] H
 | (tk,tv) :: r,σ,H,Q=>tk σ H λx H1=>tv σ H1 λy H2=>lH r σ H2 λps H3=>Q ((x,y) :: ps) H3
abbrev VV:List (V×V)->List (Value×Value)->Prop:=Paired λp q=>RelV p.1 q.1/\RelV p.2 q.2
def Fs (X:Cx) (pos:Pos) (keys:List (Option Expr)) (values:List Expr) (trs:List (TE×TE)):Prop :=
 ∀(pins:List (Addr×Obj)) (s:Shared) (σ:St) (H:Hp) (Q:List (V×V)->Hp->Prop),Inv X pins σ H s->lH trs σ H Q ->
  wpAny (model X.prog X.w) X.A (evalPairs (pairTrees keys values X.env pos)) (λvs s'=>∃ps H',Inv X pins σ H' s'/\VV ps vs/\Q ps H') X.xe s
theorem qU {X:Cx} {pos:Pos}:Fs X pos [] [] []:=λpins s σ H Q I h=>pairTrees_nil_walk ⟨[],H,I,.nil,h⟩
theorem nX {X:Cx} {pos:Pos} {k v:Expr} {ks:List (Option Expr)} {vs:List Expr} {tk tv:TE} {trs:List (TE×TE)} (hk:PE X k tk) (hv:PE X v tv) (hr:Fs X pos ks vs trs) :
  Fs X pos (some k :: ks) (v :: vs) ((tk,tv) :: trs):=λpins s σ H Q I h =>
 pairTrees_cons_walk (bQ (hk pins s σ H _ I h) λu s1 ⟨x,H1,I1,rx,q1⟩=>bQ (hv pins s1 σ H1 _ I1 q1) λw2 s2 ⟨y,H2,I2,ry,q2⟩ =>
  bQ (hr pins s2 σ H2 _ I2 q2) λws s3 ⟨ps,H3,I3,rel,q3⟩=>⟨(x,y) :: ps,H3,I3,.cons ⟨rx,ry⟩ rel,q3⟩)
def fV (kvs more:List (Key×V)):List (Key×V):=more.foldl (λacc kv=>putK acc kv.1 kv.2) kvs
theorem KV.merge:∀{more:List (Key×V)} {rs:List (Key×Value)} {kvs:List (Key×V)} {vs:List (Key×Value)},KV more rs->KV kvs vs->KV (fV kvs more) (merged vs rs):=by
 intro more rs kvs vs r;unfold KV at r
 induction r generalizing kvs vs with
 | nil=>intro q;exact q
 | @cons p q ps qs h t ih =>
  intro r0
  have e:KV (putK kvs p.1 p.2) (stored vs q.1 q.2):=by
   have:=r0.put p.1 h.2;rw [<- h.1];exact this
  exact ih e
theorem jt:∀(more kvs:List (Key×V)),(fV kvs more).length<=kvs.length + more.length
 | [],kvs=>by show kvs.length<=kvs.length + 0;omega
 | p :: r,kvs=>by
  have h1:=jt r (putK kvs p.1 p.2);have h2:=sj kvs p.1 p.2;show (fV (putK kvs p.1 p.2) r).length<=_
  rw [Jo];omega
theorem nC {P:Program} {w:World}:∀{kvs:List (Key×V)} {ws:List (Value×Value)},VV (kvs.map λkv=>(kV kv.1,kv.2)) ws->∃rs,Carries (bX P w) ws rs/\KV kvs rs
 | [],_,r=>by rw [List.map_nil] at r;cases r;exact⟨[],True.intro,.nil⟩
 | p :: kvs,_,r=>by
  rw [Ji] at r
  cases r with
  | @cons a b as bs h t =>
   obtain⟨rs,c,q⟩:=nC (P:=P) (w:=w) t;obtain⟨b1,b2⟩:=b;exact⟨(p.1,b2) :: rs,⟨zC h.1,rfl,c⟩,.cons ⟨rfl,h.2⟩ q⟩
def FY (trs:List (TE×TE)):TE:=λσ H Q=>∀p,H p=none->lH trs σ (upd H p (.dK [])) λps H2=>H2 p=some (.dK [])/\∃kvs:List (Key×V),ps=kvs.map (λkv=>(kV kv.1,kv.2))/\kvs.length<=15/\Q (.ref p) (upd H2 p (.dK (fV [] kvs)))
theorem v8 {X:Cx} {pos:Pos} {keys:List (Option Expr)} {values:List Expr} {trs:List (TE×TE)} (h:Fs X pos keys values trs) (hall:keys.all (·.isSome)=true) (hl:keys.length=values.length) (h0:keys≠[])
  (h15:keys.length<=15):PE X (.Dict keys values pos) (FY trs):=by
 intro pins s σ H Q I q;have hn:=I.hok.fresh (II s.heap.objs.size);have I1:=I.laid (a:=s.heap.objs.size) (o:=.dK []) (h':=s.heap.push { cls:=.type "dict",data:=.dict #[] }) (t':=s.toks) (λ_ _ q=>IC _ q) (II _) (zw s.heap I.big)
 refine wpAny_Dict_walk (knd:=bX X.prog X.w) hall hl h0 h15 (bQ (h pins _ σ _ _ I1 (q _ hn)) λws s2 hq0=>?_);obtain⟨ps,H2,I2,rel,e,kvs,ep,lk,q2⟩:=hq0;subst ep;obtain⟨rs,c,rk⟩:=nC (P:=X.prog) (w:=X.w) rel;obtain⟨z,hd,vs0,r0,dd⟩:=Fy I2.hok e;cases r0;refine⟨rs,c,dd,λh' dd' hs=>⟨.ref s.heap.objs.size,_,?_,rfl,q2⟩⟩
 have hz:(fV [] kvs).length<=sizeLine:=by
  have h1:=jt kvs [];rw [JF] at h1;rw [sizeLine_eq];omega
 have he:∃q,h'.get? s.heap.objs.size=some q:=let ⟨q,_,_,hq,_⟩:=dd';⟨q,hq⟩
 exact iN I2 (by rw [e];exact True.intro) hs he (Eg hz hd (rk.merge .nil) dd')
structure M1 (X:Cx) (o:Expr) (m:Str) (apos:Pos) (e:Expr) (cpos:Pos):Prop where
 base:attributeBase o m X.env (eval o X.env)=eval o X.env
 few:((backTo cpos (starEach [e] X.env)).all (λx=>!x.1) && (backToKw cpos (keywordEach [] X.env)).all (λx=>x.1.isSome)
  && decide (([e]:List Expr).length + ([]:List Keyword).length + (if ([]:List Keyword).isEmpty then 0 else 1) < 30))=true
 line:(apos.endLine == cpos.line)=true
 trees:backTo cpos (starEach [e] X.env)=[(false,eval e X.env)]
structure M2 (X:Cx) (o:Expr) (m:Str) (apos:Pos) (e f:Expr) (cpos:Pos):Prop where
 base:attributeBase o m X.env (eval o X.env)=eval o X.env
 few:((backTo cpos (starEach [e,f] X.env)).all (λx=>!x.1) && (backToKw cpos (keywordEach [] X.env)).all (λx=>x.1.isSome)
  && decide (([e,f]:List Expr).length + ([]:List Keyword).length + (if ([]:List Keyword).isEmpty then 0 else 1) < 30))=true
 line:(apos.endLine == cpos.line)=true
 trees:backTo cpos (starEach [e,f] X.env)=[(false,eval e X.env),(false,eval f X.env)]
end L2
namespace L2.L3
open PySem PySem.Spec PyProof.Rows
inductive D where
 | non|bl (b:Bool)|int (i:Int)|str (x:Str)|tup (xs:List D)|lst (xs:List D)|dct (ks:List Key) (xs:List D)|ty (n:String)|exc (c:Str)|cls (c:Str)|obj (P:IB->Hp->Addr->Prop)
def excAt (a C:Addr) (h:Heap):Prop:=∃o vs,h.get? a=some o/\o.cls=.ref C/\o.dict=none/\o.data=.fields vs
mutual
def Den (K:IB) (F:Hp):D->V->Prop
 | .non,v=>v=V.non
 | .bl b,v=>v=V.bl b
 | .int i,v=>v=V.int i
 | .str x,v=>v=V.str x
 | .ty n,v=>v=V.ty n
 | .exc c,v=>∃a C,v=V.ref a/\PySem.W.nsIn K mainGlobals c=some (some (.ref C))/\F a=some (.ext (excAt a C))
 | .cls c,v=>∃C,v=V.ref C/\PySem.W.nsIn K mainGlobals c=some (some (.ref C))
 | .tup ds,v=>∃a vs,v=V.ref a/\fB K F a vs/\ao K F ds vs
 | .lst ds,v=>∃a vs,v=V.ref a/\fw K F a vs/\ao K F ds vs
 | .obj P,v=>∃a,v=V.ref a/\∀G,ak F G->P K G a
 | .dct ks ds,v=>∃a vs,v=V.ref a/\F a=some (.dK (ks.zip vs))/\vs.length=ks.length/\ao K F ds vs
def ao (K:IB) (F:Hp):List D->List V->Prop
 | [],vs=>vs=[]
 | d :: ds,vs=>∃v r,vs=v :: r/\Den K F d v/\ao K F ds r
end
theorem ak.bt {K:IB} {H H':Hp} {a:Addr} {xs:List V} (e:ak H H') (h:fB K H a xs):fB K H' a xs:=by
 rcases h with (h|⟨o,h⟩)|h
 ·exact .inl (.inl (e _ _ h))
 ·exact .inl (.inr ⟨o,e _ _ h⟩)
 ·exact .inr h
mutual
theorem Den.mono {K:IB} {F F':Hp} (s:ak F F'):∀(d:D) (v:V),Den K F d v->Den K F' d v
 | .non,_,h=>by simpa only [Den] using h
 | .bl _,_,h=>by simpa only [Den] using h
 | .int _,_,h=>by simpa only [Den] using h
 | .str _,_,h=>by simpa only [Den] using h
 | .ty _,_,h=>by simpa only [Den] using h
 | .cls _,_,h=>by simpa only [Den] using h
 | .exc _,v,h=>by
  simp only [Den] at h ⊢;obtain⟨a,C,e,z,q⟩:=h
  exact⟨a,C,e,z,s _ _ q⟩
 | .tup ds,v,h=>by
  simp only [Den] at h ⊢;obtain⟨a,vs,e,q,r⟩:=h
  exact⟨a,vs,e,ak.bt s q,ao.mono s ds vs r⟩
 | .lst ds,v,h=>by
  simp only [Den] at h ⊢;obtain⟨a,vs,e,q,r⟩:=h
  exact⟨a,vs,e,s.seq q,ao.mono s ds vs r⟩
 | .obj _,v,h=>by
  simp only [Den] at h ⊢;obtain⟨a,e,q⟩:=h
  exact⟨a,e,λG sG=>q G (s.trans sG)⟩
 | .dct ks ds,v,h=>by
  simp only [Den] at h ⊢;obtain⟨a,vs,e,q,l,r⟩:=h;exact⟨a,vs,e,s _ _ q,l,ao.mono s ds vs r⟩
theorem ao.mono {K:IB} {F F':Hp} (s:ak F F'):∀(ds:List D) (vs:List V),ao K F ds vs->ao K F' ds vs
 | [],_,h=>by simpa only [ao] using h
 | d :: ds,vs,h=>by
  simp only [ao] at h ⊢;obtain⟨v,r,e,a,b⟩:=h;exact⟨v,r,e,Den.mono s d v a,ao.mono s ds r b⟩
end
section
variable {K:IB} {F:Hp}
theorem bq {i:Int}:Den K F (.int i) (.int i):=by simp only [Den]
theorem gv {b:Bool}:Den K F (.bl b) (.bl b):=by simp only [Den]
theorem mW:Den K F .non .non:=by simp only [Den]
theorem gw {x:Str}:Den K F (.str x) (.str x):=by simp only [Den]
theorem fb {a:Addr} {vs:List V} {ds:List D} (h:fB K F a vs) (r:ao K F ds vs):Den K F (.tup ds) (.ref a):=by
 simp only [Den];exact⟨a,vs,rfl,h,r⟩
theorem gu {a:Addr} {vs:List V} {ds:List D} (h:fw K F a vs) (r:ao K F ds vs):Den K F (.lst ds) (.ref a):=by
 simp only [Den];exact⟨a,vs,rfl,h,r⟩
theorem aJ:ao K F [] []:=by simp only [ao]
theorem aF {d:D} {v:V} {ds:List D} {vs:List V} (h:Den K F d v) (r:ao K F ds vs):ao K F (d :: ds) (v :: vs):=by
 simp only [ao];exact⟨v,vs,rfl,h,r⟩
theorem ao.length:∀{ds:List D} {vs:List V},ao K F ds vs->ds.length=vs.length
 | [],vs,h=>by simp only [ao] at h;subst h;rfl
 | d :: ds,vs,h=>by
  simp only [ao] at h;obtain⟨v,r,rfl,_,b⟩:=h;simp [ao.length b]
theorem ao.get:∀{ds:List D} {vs:List V} {i:Nat} {d:D},ao K F ds vs->ds[i]?=some d->∃v,vs[i]?=some v/\Den K F d v
 | [],vs,i,d,h,e=>by simp at e
 | x :: ds,vs,i,d,h,e=>by
  simp only [ao] at h;obtain⟨v,r,rfl,a,b⟩:=h
  cases i with
  | zero=>simp at e;subst e;exact⟨v,rfl,a⟩
  | succ i=>simpa using ao.get b (by simpa using e)
theorem ao.FR:∀{ds:List D} {vs:List V} {i:Nat} {v:V},ao K F ds vs->vs[i]?=some v->∃d,ds[i]?=some d/\Den K F d v
 | [],vs,i,d,h,e=>by simp only [ao] at h;subst h;simp at e
 | x :: ds,vs,i,d,h,e=>by
  simp only [ao] at h;obtain⟨v,r,rfl,a,b⟩:=h
  cases i with
  | zero=>simp at e;subst e;exact⟨x,rfl,a⟩
  | succ i=>simpa using ao.FR b (by simpa using e)
theorem ao.append:∀{ds es:List D} {vs us:List V},ao K F ds vs->ao K F es us->ao K F (ds ++ es) (vs ++ us)
 | [],es,vs,us,h,g=>by simp only [ao] at h;subst h;exact g
 | x :: ds,es,vs,us,h,g=>by
  simp only [ao] at h;obtain⟨v,r,rfl,a,b⟩:=h;exact aF a (ao.append b g)
theorem ao.take:∀{ds:List D} {vs:List V} (n:Nat),ao K F ds vs->ao K F (ds.take n) (vs.take n)
 | _,_,0,_=>by simpa using aJ
 | [],vs,n + 1,h=>by simp only [ao] at h;subst h;simpa using aJ
 | x :: ds,vs,n + 1,h=>by
  simp only [ao] at h;obtain⟨v,r,rfl,a,b⟩:=h;exact aF a (ao.take n b)
theorem ao.drop:∀{ds:List D} {vs:List V} (n:Nat),ao K F ds vs->ao K F (ds.drop n) (vs.drop n)
 | _,_,0,h=>by simpa using h
 | [],vs,n + 1,h=>by simp only [ao] at h;subst h;simpa using aJ
 | x :: ds,vs,n + 1,h=>by
  simp only [ao] at h;obtain⟨v,r,rfl,a,b⟩:=h;exact ao.drop n b
theorem ao.set {x:D} {v:V} (q:Den K F x v):∀{ds:List D} {vs:List V} (n:Nat),ao K F ds vs->ao K F (ds.set n x) (vs.set n v)
 | [],vs,n,h=>by simp only [ao] at h;subst h;simpa using aJ
 | y :: ds,vs,0,h=>by
  simp only [ao] at h;obtain⟨w,r,rfl,a,b⟩:=h
  exact aF q b
 | y :: ds,vs,n + 1,h=>by
  simp only [ao] at h;obtain⟨w,r,rfl,a,b⟩:=h;exact aF a (ao.set q n b)
theorem pL (ns:List Int):ao K F (ns.map D.int) (ns.map V.int):=by
 induction ns with
 | nil=>exact aJ
 | cons n r ih=>exact aF bq ih
end
mutual
def vU:D->Int
 | .int i=>hashInt i
 | .tup ds=>reduceHash (Builtin.Tuple.tupleHashOf (n8 ds))
 | .non=>4238894112
 | _=>0
def n8:List D->List Int
 | []=>[]
 | d :: ds=>vU d :: n8 ds
end
def aZ (h:Heap) (d:Addr) (es:Array DictEntry) (ep:Nat):Prop:=∃o,h.get? d=some o/\o.ExactDict/\o.data=.dict es ep
def uJ (row:Int×V×V) (e:DictEntry):Prop:=e.hash=row.1/\RelV row.2.1 e.key/\RelV row.2.2 e.val
def eL (p:Addr) (ep:Nat) (rows:List (Int×V×V)):HO:=.ext λh=>rows.length<=sizeLine/\(p == sysModules)=false/\∃es,aZ h p es ep/\Paired uJ rows es.toList
def br (kvs:List (D×D)) (us vs:List V):List (Int×V×V):=(kvs.map λkv=>vU kv.1).zip (us.zip vs)
inductive Lo where
 | d (x:D)|own (xs:List D)|dic (kvs:List (D×D))
abbrev En:=List (Option Lo)
structure Base where
 F:Hp
 H:Hp
 N:Addr->Prop
 nb:∀p,N p->H p≠none
structure Rep (K:IB) (B:Base) (F H:Hp) (σ:St) (e:En):Prop where
 f0:ak B.F F
 fh:ak F H
 h0:ak B.H H
 nf:∀p,B.N p->F p=none
 dv:∀(i:Nat) x,e[i]?=some (some (.d x))->∃v,σ[i]?=some (some v)/\Den K F x v
 ov:∀(i:Nat) xs,e[i]?=some (some (.own xs))->∃p vs,σ[i]?=some (some (.ref p))/\H p=some (.lst vs)/\F p=none/\B.H p=none/\ao K F xs vs
 ne:∀(i j:Nat) xs ys p,i≠j->e[i]?=some (some (.own xs))->e[j]?=some (some (.own ys))->σ[i]?=some (some (.ref p))->σ[j]?=some (some (.ref p))->False
 mv:∀(i:Nat) kvs,e[i]?=some (some (.dic kvs))->∃p ep us vs,σ[i]?=some (some (.ref p))/\H p=some (eL p ep (br kvs us vs))/\F p=none/\B.H p=none/\ao K F (kvs.map (·.1)) us/\ao K F (kvs.map (·.2)) vs
 nm:∀(i j:Nat) xs ys p,i≠j->e[i]?=some (some (.dic xs))->e[j]?=some (some (.dic ys))->σ[i]?=some (some (.ref p))->σ[j]?=some (some (.ref p))->False
section
variable {K:IB} {B:Base} {F H F' H':Hp} {σ:St} {e:En}
theorem Rep.ext (r:Rep K B F H σ e) (a:ak F F') (b:ak F' H') (c:ak H H') (n:∀p,H p≠none->F p=none->F' p=none):Rep K B F' H' σ e where
 f0:=r.f0.trans a
 fh:=b
 h0:=r.h0.trans c
 nf:=λp hp=>by
  refine n p (λz=>?_) (r.nf p hp);have q:=B.nb p hp
  cases w:B.H p with
  | none=>exact q w
  | some o=>rw [r.h0 _ _ w] at z;cases z
 dv:=λi x h=>let ⟨v,h1,h2⟩:=r.dv i x h;⟨v,h1,Den.mono a _ _ h2⟩
 ov:=λi xs h=>by
  obtain⟨p,vs,h1,h2,h3,h4,h5⟩:=r.ov i xs h;exact⟨p,vs,h1,c _ _ h2,n p (by rw [h2];simp) h3,h4,ao.mono a _ _ h5⟩
 ne:=r.ne
 mv:=λi xs h=>by
  obtain⟨p,ep,us,vs,h1,h2,h3,h4,h5,h6⟩:=r.mv i xs h;exact⟨p,ep,us,vs,h1,c _ _ h2,n p (by rw [h2];simp) h3,h4,ao.mono a _ _ h5,ao.mono a _ _ h6⟩
 nm:=r.nm
theorem Rep.mG (r:Rep K B F H σ e) {p:Addr} (h:H p=none):F p=none:=r.fh.free h
theorem a8 {H:Hp} {p:Addr} {o:HO} (h:H p=none):ak H (upd H p o):=λb u q=>by rw [av (bz q h)];exact q
theorem kY {F H:Hp} {p:Addr} {o:HO} (h:ak F H):ak (upd F p o) (upd H p o):=λb u q=>by
 by_cases e:b=p
 ·subst e;rw [au] at q ⊢;exact q
 ·rw [av e] at q ⊢;exact h _ _ q
theorem Rep.laid (r:Rep K B F H σ e) {p:Addr} {o:HO} (h:H p=none):Rep K B (upd F p o) (upd H p o) σ e/\ak F (upd F p o):=by
 have hf:=r.mG h;refine⟨r.ext (a8 hf) (kY r.fh) (a8 h) λq hq hn=>?_,a8 hf⟩
 by_cases z:q=p
 ·subst z;exact absurd h hq
 ·rw [av z];exact hn
theorem Rep.loose (r:Rep K B F H σ e) {p:Addr} {o:HO} (h:H p=none):Rep K B F (upd H p o) σ e :=
 r.ext (ak.refl _) (r.fh.trans (a8 h)) (a8 h) λ_ _ hn=>hn
theorem Rep.now (r:Rep K B F H σ e):Rep K ⟨F,B.H,B.N,B.nb⟩ F H σ e:=⟨ak.refl _,r.fh,r.h0,r.nf,r.dv,r.ov,r.ne,r.mv,r.nm⟩
theorem Rep.back {G:Hp} (s:ak B.F G) (r:Rep K ⟨G,B.H,B.N,B.nb⟩ F H σ e):Rep K B F H σ e:=⟨s.trans r.f0,r.fh,r.h0,r.nf,r.dv,r.ov,r.ne,r.mv,r.nm⟩
theorem aR {e:En} {i j:Nat} {l:Lo} {kvs:List (D×D)} (hl:∀z,l≠.dic z) (q:(e.set i (some l))[j]?=some (some (.dic kvs))):i≠j:=λz=>by
 subst z
 by_cases w:i < e.length
 ·rw [IH w] at q;cases q;exact hl _ rfl
 ·rw [Ja (by simpa using w)] at q;cases q
theorem Rep.set (r:Rep K B F H σ e) {i:Nat} {v:V} {x:D} (h:Den K F x v) (hl:i < σ.length):Rep K B F H (σ.set i (some v)) (e.set i (some (.d x))) where
 f0:=r.f0
 fh:=r.fh
 h0:=r.h0
 nf:=r.nf
 dv:=λj y q=>by
  by_cases z:i=j
  ·subst z
   by_cases w:i < e.length
   ·rw [IH w] at q;cases q;exact⟨v,IH hl,h⟩
   ·rw [Ja (by simpa using w)] at q;cases q
  ·rw [IA z] at q ⊢;exact r.dv j y q
 ov:=λj y q=>by
  by_cases z:i=j
  ·subst z
   by_cases w:i < e.length
   ·rw [IH w] at q;cases q
   ·rw [Ja (by simpa using w)] at q;cases q
  ·rw [IA z] at q ⊢;exact r.ov j y q
 ne:=λj k xs ys p hjk q1 q2 q3 q4=>by
  have own_ne:∀(j:Nat) (ys:List D),(e.set i (some (.d x)))[j]?=some (some (.own ys))->i≠j:=λj ys q z=>by
   subst z
   by_cases w:i < e.length
   ·rw [IH w] at q;cases q
   ·rw [Ja (by simpa using w)] at q;cases q
  have z1:=own_ne j xs q1;have z2:=own_ne k ys q2;rw [IA z1] at q1 q3;rw [IA z2] at q2 q4;exact r.ne j k xs ys p hjk q1 q2 q3 q4
 mv:=λj y q=>by
  have z:i≠j:=aR (λ_ w=>by cases w) q;rw [IA z] at q ⊢;exact r.mv j y q
 nm:=λj k xs ys p hjk q1 q2 q3 q4=>by
  have z1:=aR (λ_ w=>by cases w) q1;have z2:=aR (λ_ w=>by cases w) q2;rw [IA z1] at q1 q3;rw [IA z2] at q2 q4;exact r.nm j k xs ys p hjk q1 q2 q3 q4
theorem Rep.yk (r:Rep K B F H σ e) {i:Nat} {p:Addr} {vs:List V} {xs:List D} (h:H p=none) (hd:ao K F xs vs) (hl:i < σ.length) :
  Rep K B F (upd H p (.lst vs)) (σ.set i (some (.ref p))) (e.set i (some (.own xs))):=by
 have r1:=r.loose (o:=.lst vs) h;have hb:B.H p=none:=r.h0.free h
 have old:∀(j:Nat) (ys:List D),e[j]?=some (some (.own ys))->σ[j]?≠some (some (.ref p)):=λj ys q z=>by
  obtain⟨q1,_,h1,h2,_⟩:=r.ov j ys q;rw [z] at h1;cases h1;rw [h] at h2;cases h2
 refine⟨r1.f0,r1.fh,r1.h0,r1.nf,λj y q=>?_,λj y q=>?_,λj k ys zs q hjk q1 q2 q3 q4=>?_,λj y q=>?_,λj k ys zs q hjk q1 q2 q3 q4=>?_⟩
 ·by_cases z:i=j
  ·subst z
   by_cases w:i < e.length
   ·rw [IH w] at q;cases q
   ·rw [Ja (by simpa using w)] at q;cases q
  ·rw [IA z] at q ⊢;exact r1.dv j y q
 ·by_cases z:i=j
  ·subst z
   by_cases w:i < e.length
   ·rw [IH w] at q;cases q;exact⟨p,vs,IH hl,au,r.mG h,hb,hd⟩
   ·rw [Ja (by simpa using w)] at q;cases q
  ·rw [IA z] at q ⊢;exact r1.ov j y q
 ·by_cases z1:i=j
  ·subst z1;rw [IA hjk] at q2 q4
   by_cases w:i < e.length
   ·rw [IH hl] at q3;cases q3;exact old k zs q2 q4
   ·rw [Ja (by simpa using w)] at q1;cases q1
  ·rw [IA z1] at q1 q3
   by_cases z2:i=k
   ·subst z2;rw [IH hl] at q4;cases q4;exact old j ys q1 q3
   ·rw [IA z2] at q2 q4;exact r.ne j k ys zs q hjk q1 q2 q3 q4
 ·have z:i≠j:=aR (λ_ w=>by cases w) q;rw [IA z] at q ⊢;exact r1.mv j y q
 ·have z1:=aR (λ_ w=>by cases w) q1;have z2:=aR (λ_ w=>by cases w) q2;rw [IA z1] at q1 q3;rw [IA z2] at q2 q4;exact r.nm j k ys zs q hjk q1 q2 q3 q4
theorem Rep.change (r:Rep K B F H σ e) {i:Nat} {p:Addr} {vs:List V} {xs ys:List D} (h:e[i]?=some (some (.own xs))) (hp:σ[i]?=some (some (.ref p))) (hd:ao K F ys vs) :
  Rep K B F (upd H p (.lst vs)) σ (e.set i (some (.own ys))):=by
 obtain⟨p',_,h1,h2,h3,h4,_⟩:=r.ov i xs h;rw [hp] at h1;cases h1;have wl:i < e.length:=(Iy.mp h).1;have fk:∀q o,F q=some o->q≠p:=λq o z w=>by subst w;rw [h3] at z;cases z
 have bk:∀q o,B.H q=some o->q≠p:=λq o z w=>by subst w;rw [h4] at z;cases z
 have ownAt:∀(j:Nat) (zs:List D),(e.set i (some (.own ys)))[j]?=some (some (.own zs))->∃ws,e[j]?=some (some (.own ws)):=λj zs q=>by
  by_cases z:i=j
  ·subst z;exact⟨xs,h⟩
  ·rw [IA z] at q;exact⟨zs,q⟩
 refine⟨r.f0,λb o z=>by rw [av (fk b o z)];exact r.fh _ _ z,λb o z=>by rw [av (bk b o z)];exact r.h0 _ _ z,r.nf,λj y q=>?_,λj y q=>?_,λj k as bs q hjk q1 q2 q3 q4=>?_,λj y q=>?_,λj k as bs q hjk q1 q2 q3 q4=>?_⟩
 ·by_cases z:i=j
  ·subst z;rw [IH wl] at q;cases q
  ·rw [IA z] at q;exact r.dv j y q
 ·by_cases z:i=j
  ·subst z;rw [IH wl] at q;cases q;exact⟨p,vs,hp,au,h3,h4,hd⟩
  ·rw [IA z] at q;obtain⟨p2,us,g1,g2,g3,g4,g5⟩:=r.ov j y q;have:p2≠p:=λw=>by subst w;exact r.ne j i y xs p2 (Ne.symm z) q h g1 hp
   exact⟨p2,us,g1,by rw [av this];exact g2,g3,g4,g5⟩
 ·obtain⟨as',w1⟩:=ownAt j as q1;obtain⟨bs',w2⟩:=ownAt k bs q2;exact r.ne j k as' bs' q hjk w1 w2 q3 q4
 ·have z:i≠j:=aR (λ_ w=>by cases w) q;rw [IA z] at q;obtain⟨p2,ep,us,ws,g1,g2,g3,g4,g5,g6⟩:=r.mv j y q;have:p2≠p:=λw=>by subst w;rw [h2] at g2;cases g2
  exact⟨p2,ep,us,ws,g1,by rw [av this];exact g2,g3,g4,g5,g6⟩
 ·have z1:=aR (λ_ w=>by cases w) q1;have z2:=aR (λ_ w=>by cases w) q2;rw [IA z1] at q1;rw [IA z2] at q2;exact r.nm j k as bs q hjk q1 q2 q3 q4
theorem Rep.freeze (r:Rep K B F H σ e) {i:Nat} {xs:List D} (h:e[i]?=some (some (.own xs))):∃F',ak F F'/\Rep K B F' H σ (e.set i (some (.d (.lst xs)))):=by
 obtain⟨p,vs,h1,h2,h3,h4,h5⟩:=r.ov i xs h;have wl:i < e.length:=(Iy.mp h).1;have s1:ak F (upd F p (.lst vs)):=a8 h3;refine⟨upd F p (.lst vs),s1,r.f0.trans s1,λb o z=>?_,r.h0,λq hq=>?_,λj y q=>?_,λj y q=>?_,λj k as bs q hjk q1 q2 q3 q4=>?_,λj y q=>?_,λj k as bs q hjk q1 q2 q3 q4=>?_⟩
 ·by_cases w:b=p
  ·subst w;rw [au] at z;cases z;exact h2
  ·rw [av w] at z;exact r.fh _ _ z
 ·have:q≠p:=λw=>by subst w;exact B.nb _ hq h4
  rw [av this];exact r.nf q hq
 ·by_cases z:i=j
  ·subst z;rw [IH wl] at q;cases q;exact⟨_,h1,gu (fw.of au) (ao.mono s1 _ _ h5)⟩
  ·rw [IA z] at q;obtain⟨v,a,b⟩:=r.dv j y q;exact⟨v,a,Den.mono s1 _ _ b⟩
 ·by_cases z:i=j
  ·subst z;rw [IH wl] at q;cases q
  ·rw [IA z] at q;obtain⟨p2,us,g1,g2,g3,g4,g5⟩:=r.ov j y q;have:p2≠p:=λw=>by subst w;exact r.ne j i y xs p2 (Ne.symm z) q h g1 h1
   exact⟨p2,us,g1,g2,by rw [av this];exact g3,g4,ao.mono s1 _ _ g5⟩
 ·have ownAt:∀(j:Nat) (zs:List D),(e.set i (some (.d (.lst xs))))[j]?=some (some (.own zs))->e[j]?=some (some (.own zs)):=λj zs q=>by
   by_cases z:i=j
   ·subst z;rw [IH wl] at q;cases q
   ·rw [IA z] at q;exact q
  exact r.ne j k as bs q hjk (ownAt j as q1) (ownAt k bs q2) q3 q4
 ·have z:i≠j:=aR (λ_ w=>by cases w) q;rw [IA z] at q;obtain⟨p2,ep,us,ws,g1,g2,g3,g4,g5,g6⟩:=r.mv j y q;have:p2≠p:=λw=>by subst w;rw [h2] at g2;cases g2
  exact⟨p2,ep,us,ws,g1,g2,by rw [av this];exact g3,g4,ao.mono s1 _ _ g5,ao.mono s1 _ _ g6⟩
 ·have z1:=aR (λ_ w=>by cases w) q1;have z2:=aR (λ_ w=>by cases w) q2;rw [IA z1] at q1;rw [IA z2] at q2;exact r.nm j k as bs q hjk q1 q2 q3 q4
end
end L2.L3
namespace L2.L3
open PySem PySem.Spec PyProof.Rows
def notStar:Expr->Bool
 | .Starred _ _=>false
 | _=>true
theorem aV {e:Expr} {es:List Expr} {env:Env} (h:notStar e=true):starEach (e :: es) env=(false,eval e env) :: starEach es env:=by
 cases e <;> first|rfl|cases h
abbrev TD:=En->(D->Prop)->Prop
abbrev TB:=En->(Bool->Prop)->Prop
abbrev d7:=En->(List D->Prop)->Prop
structure Ends3 where
 nx:En->Prop
 rt:D->Prop
 bk:En->Prop:=λ_=>False
 ct:En->Prop:=λ_=>False
abbrev bG:=Ends3->En->Prop
def wE (X:Cx) (e:Expr):TE:=λσ H Q=>∀(pins:List (Addr×Obj)) (s:Shared),Inv X pins σ H s->wpAny (model X.prog X.w) X.A (eval e X.env) (EP X pins σ Q) X.xe s
def wT (X:Cx) (e:Expr):TT:=λσ H Q=>∀(pins:List (Addr×Obj)) (s:Shared),Inv X pins σ H s->wpAny (model X.prog X.w) X.A (isTrue e X.env (eval e X.env)) (TP X pins σ Q) X.xe s
def wW (X:Cx) (e:Expr):TT:=λσ H Q=>∀(whole:Sem Value) (pins:List (Addr×Obj)) (s:Shared),Inv X pins σ H s->wpAny (model X.prog X.w) X.A (isTrue e X.env whole) (TP X pins σ Q) X.xe s
def wA (X:Cx) (es:List Expr):TA:=λσ H Q=>∀(pos:Pos) (pins:List (Addr×Obj)) (s:Shared),Inv X pins σ H s->wpAny (model X.prog X.w) X.A (spliced (backTo pos (starEach es X.env))) (AP X pins σ Q) X.xe s
def wS (X:Cx) (st:Stmt):TS:=λD σ H=>∀(pins:List (Addr×Obj)) (s:Shared),Inv X pins σ H s->wpAny (model X.prog X.w) X.A (exec st X.env) (SP X pins D) X.xe s
def wSs (X:Cx) (st:List Stmt):TS:=λD σ H=>∀(pins:List (Addr×Obj)) (s:Shared),Inv X pins σ H s->wpAny (model X.prog X.w) X.A (execs st X.env) (SP X pins D) X.xe s
section
variable {X:Cx} {e:Expr} {es:List Expr} {st:Stmt} {sts:List Stmt} {σ:St} {H:Hp}
theorem bB:PE X e (wE X e):=λpins s σ H Q I h=>h pins s I
theorem rK:PT X e (wT X e):=λpins s σ H Q I h=>h pins s I
theorem FJ:PW X e (wW X e):=λwh pins s σ H Q I h=>h wh pins s I
theorem ji:PA X es (wA X es):=λpos pins s σ H Q I h=>h pos pins s I
theorem zY:PS X st (wS X st):=λpins s σ H D I h=>h pins s I
theorem dI:vt X sts (wSs X sts):=λpins s σ H D I h=>h pins s I
theorem cj {te:TE} {Q:VK} (h:PE X e te) (q:te σ H Q):wE X e σ H Q:=λpins s I=>h pins s σ H Q I q
theorem p8 {te:TT} {Q:Bool->Hp->Prop} (h:PT X e te) (q:te σ H Q):wT X e σ H Q:=λpins s I=>h pins s σ H Q I q
theorem wL {te:TT} {Q:Bool->Hp->Prop} (h:PW X e te) (q:te σ H Q):wW X e σ H Q:=λwh pins s I=>h wh pins s σ H Q I q
theorem Cr {te:TA} {Q:List V->Hp->Prop} (h:PA X es te) (q:te σ H Q):wA X es σ H Q:=λpos pins s I=>h pos pins s σ H Q I q
theorem df {te:TS} {D:Ends} (h:PS X st te) (q:te D σ H):wS X st D σ H:=λpins s I=>h pins s σ H D I q
theorem kU {te:TS} {D:Ends} (h:vt X sts te) (q:te D σ H):wSs X sts D σ H:=λpins s I=>h pins s σ H D I q
theorem aA {Q Q':VK} (h:wE X e σ H Q) (i:∀v H',Q v H'->Q' v H'):wE X e σ H Q':=λpins s I=>bQ (h pins s I) λ_ _ ⟨v,H',I',r,q⟩=>⟨v,H',I',r,i v H' q⟩
theorem gJ {Q Q':Bool->Hp->Prop} (h:wT X e σ H Q) (i:∀v H',Q v H'->Q' v H'):wT X e σ H Q':=λpins s I=>bQ (h pins s I) λb _ ⟨H',I',q⟩=>⟨H',I',i b H' q⟩
theorem wQ {Q Q':Bool->Hp->Prop} (h:wW X e σ H Q) (i:∀v H',Q v H'->Q' v H'):wW X e σ H Q':=λwh pins s I=>bQ (h wh pins s I) λb _ ⟨H',I',q⟩=>⟨H',I',i b H' q⟩
theorem cH {Q Q':List V->Hp->Prop} (h:wA X es σ H Q) (i:∀v H',Q v H'->Q' v H'):wA X es σ H Q':=λpos pins s I=>bQ (h pos pins s I) λ_ _ ⟨v,H',I',r,q⟩=>⟨v,H',I',r,i v H' q⟩
theorem mY {pins:List (Addr×Obj)} {D D':Ends} {f:Flow} {s':Shared} (h:SP X pins D f s') (nx:∀σ H,D.nx σ H->D'.nx σ H) (rt:∀v H,D.rt v H->D'.rt v H) (bk:∀σ H,D.bk σ H->D'.bk σ H) (ct:∀σ H,D.ct σ H->D'.ct σ H):SP X pins D' f s':=by
 cases f with
 | next=>obtain⟨σ',H',I,q⟩:=h;exact⟨σ',H',I,nx _ _ q⟩
 | brk=>obtain⟨σ',H',I,q⟩:=h;exact⟨σ',H',I,bk _ _ q⟩
 | cont=>obtain⟨σ',H',I,q⟩:=h;exact⟨σ',H',I,ct _ _ q⟩
 | ret u=>obtain⟨v,σ',H',I,r,q⟩:=h;exact⟨v,σ',H',I,r,rt _ _ q⟩
theorem wV {D D':Ends} (h:wS X st D σ H) (nx:∀σ H,D.nx σ H->D'.nx σ H) (rt:∀v H,D.rt v H->D'.rt v H) (bk:∀σ H,D.bk σ H->D'.bk σ H) (ct:∀σ H,D.ct σ H->D'.ct σ H):wS X st D' σ H :=
 λpins s I=>bQ (h pins s I) λ_ _ q=>mY q nx rt bk ct
theorem ib {D D':Ends} (h:wSs X sts D σ H) (nx:∀σ H,D.nx σ H->D'.nx σ H) (rt:∀v H,D.rt v H->D'.rt v H) (bk:∀σ H,D.bk σ H->D'.bk σ H) (ct:∀σ H,D.ct σ H->D'.ct σ H):wSs X sts D' σ H :=
 λpins s I=>bQ (h pins s I) λ_ _ q=>mY q nx rt bk ct
end
def RV (X:Cx) (B:Base) (σ:St) (env:En) (F:Hp) (Q:D->Prop):VK:=λv H'=>∃F' d,Rep X.K B F' H' σ env/\ak F F'/\Den X.K F' d v/\Q d
def RB (X:Cx) (B:Base) (σ:St) (env:En) (F:Hp) (Q:Bool->Prop):Bool->Hp->Prop:=λb H'=>∃F',Rep X.K B F' H' σ env/\ak F F'/\Q b
def RA (X:Cx) (B:Base) (σ:St) (env:En) (F:Hp) (Q:List D->Prop):List V->Hp->Prop:=λvs H'=>∃F' ds,Rep X.K B F' H' σ env/\ak F F'/\ao X.K F' ds vs/\Q ds
def RS (X:Cx) (B:Base) (D:Ends3):Ends where
 nx:=λσ' H'=>∃F' env',Rep X.K B F' H' σ' env'/\D.nx env'
 rt:=λv H'=>∃F' d,Rep X.K B F' H' [] []/\Den X.K F' d v/\D.rt d
 bk:=λσ' H'=>∃F' env',Rep X.K B F' H' σ' env'/\D.bk env'
 ct:=λσ' H'=>∃F' env',Rep X.K B F' H' σ' env'/\D.ct env'
structure QE (X:Cx) (e:Expr) (t:TD):Prop where
 of ::
 run:∀(B:Base) (σ:St) (F H:Hp) (env:En) (Q:D->Prop),Rep X.K B F H σ env->t env Q->wE X e σ H (RV X B σ env F Q)
instance {X:Cx} {e:Expr} {t:TD}:CoeFun (QE X e t) (λ_=>∀(B:Base) (σ:St) (F H:Hp) (env:En) (Q:D->Prop),Rep X.K B F H σ env->t env Q->wE X e σ H (RV X B σ env F Q)):=⟨QE.run⟩
structure QT (X:Cx) (e:Expr) (t:TB):Prop where
 of ::
 run:∀(B:Base) (σ:St) (F H:Hp) (env:En) (Q:Bool->Prop),Rep X.K B F H σ env->t env Q->wT X e σ H (RB X B σ env F Q)
instance {X:Cx} {e:Expr} {t:TB}:CoeFun (QT X e t) (λ_=>∀(B:Base) (σ:St) (F H:Hp) (env:En) (Q:Bool->Prop),Rep X.K B F H σ env->t env Q->wT X e σ H (RB X B σ env F Q)):=⟨QT.run⟩
structure QW (X:Cx) (e:Expr) (t:TB):Prop where
 of ::
 run:∀(B:Base) (σ:St) (F H:Hp) (env:En) (Q:Bool->Prop),Rep X.K B F H σ env->t env Q->wW X e σ H (RB X B σ env F Q)
instance {X:Cx} {e:Expr} {t:TB}:CoeFun (QW X e t) (λ_=>∀(B:Base) (σ:St) (F H:Hp) (env:En) (Q:Bool->Prop),Rep X.K B F H σ env->t env Q->wW X e σ H (RB X B σ env F Q)):=⟨QW.run⟩
structure QA (X:Cx) (es:List Expr) (t:d7):Prop where
 of ::
 run:∀(B:Base) (σ:St) (F H:Hp) (env:En) (Q:List D->Prop),Rep X.K B F H σ env->t env Q->wA X es σ H (RA X B σ env F Q)
instance {X:Cx} {es:List Expr} {t:d7}:CoeFun (QA X es t) (λ_=>∀(B:Base) (σ:St) (F H:Hp) (env:En) (Q:List D->Prop),Rep X.K B F H σ env->t env Q->wA X es σ H (RA X B σ env F Q)):=⟨QA.run⟩
structure QS (X:Cx) (st:Stmt) (t:bG):Prop where
 of ::
 run:∀(B:Base) (σ:St) (F H:Hp) (env:En) (D:Ends3),Rep X.K B F H σ env->t D env->wS X st (RS X B D) σ H
instance {X:Cx} {st:Stmt} {t:bG}:CoeFun (QS X st t) (λ_=>∀(B:Base) (σ:St) (F H:Hp) (env:En) (D:Ends3),Rep X.K B F H σ env->t D env->wS X st (RS X B D) σ H):=⟨QS.run⟩
structure m7 (X:Cx) (st:List Stmt) (t:bG):Prop where
 of ::
 run:∀(B:Base) (σ:St) (F H:Hp) (env:En) (D:Ends3),Rep X.K B F H σ env->t D env->wSs X st (RS X B D) σ H
instance {X:Cx} {st:List Stmt} {t:bG}:CoeFun (m7 X st t) (λ_=>∀(B:Base) (σ:St) (F H:Hp) (env:En) (D:Ends3),Rep X.K B F H σ env->t D env->wSs X st (RS X B D) σ H):=⟨m7.run⟩
section
variable {X:Cx} {a b c e:Expr} {es:List Expr} {ta tb tc:TD} {tA tB':TB} {ts:d7} {pos:Pos} {rest:List Expr}
def ag (i:Nat):TD:=λenv Q=>∃x,env[i]?=some (some (.d x))/\Q x
def cC (x:D):TD:=λ_ Q=>Q x
theorem qv (i:Nat) {x:Str} {pos:Pos} (hN:X.N[i]?=some x:=by rfl) (hv:rY X.env.scope x:=by first | exact Or.inl rfl | exact Or.inr (Or.inl rfl) | exact Or.inr (Or.inr rfl)) (hd:(x == ("__debug__" : Str))=false:=by decide)
  (hcd:(x == ("__classdict__" : Str))=false:=by decide):QE X (.Name x pos) (ag i):=by
 refine⟨?_⟩;intro B σ F H env Q r ⟨x,hx,q⟩;obtain⟨v,hv',hd'⟩:=r.dv i x hx;exact cj (c4 hN hv hd hcd) ⟨v,hv',F,x,r,ak.refl _,hd',q⟩
theorem qc {te:TE} {v:V} {x:D} (h:PE X e (tC v)) (hd:∀F,Den X.K F x v):QE X e (cC x):=⟨λB σ F H env Q r q=>cj h ⟨F,x,r,ak.refl _,hd F,q⟩⟩
theorem az {i j pos}:QE X (.Constant (.int i) j pos) (cC (.int i)):=qc (te:=tC (.int i)) u6 λ_=>bq
theorem Cm {b j pos}:QE X (.Constant (.bool b) j pos) (cC (.bl b)):=qc (te:=tC (.bl b)) Fu λ_=>gv
theorem Bn {j pos}:QE X (.Constant .none j pos) (cC .non):=qc (te:=tC .non) C5 λ_=>mW
theorem fi {x j pos}:QE X (.Constant (.str x) j pos) (cC (.str x)):=qc (te:=tC (.str x)) yM λ_=>gw
def Kont (X:Cx) (B:Base) (σ:St) (env:En) (F:Hp) (Q:D->Prop) (Z:VK):Prop:=∀(v:V) (H' F':Hp) (d:D),Rep X.K B F' H' σ env->ak F F'->Den X.K F' d v->Q d->Z v H'
def uN (X:Cx) (r:R2) (f:D->D->(D->Prop)->Prop):Prop:=∀(B:Base) (σ:St) (F H:Hp) (env:En) (Q:D->Prop) (d d':D) (x y:V) (Z:VK),Rep X.K B F H σ env->Den X.K F d x->Den X.K F d' y->Kont X B σ env F Q Z->f d d' Q->r x y H Z
def aH (f:D->D->(D->Prop)->Prop) (ta tb:TD):TD:=λenv Q=>ta env λx=>tb env λy=>f x y Q
theorem RV.weaken {B:Base} {σ:St} {env:En} {F F':Hp} {Q:D->Prop} (s:ak F F') {v:V} {H:Hp} (h:RV X B σ env F' Q v H):RV X B σ env F Q v H:=by
 obtain⟨G,d,r,s',hd,q⟩:=h;exact⟨G,d,r,s.trans s',hd,q⟩
theorem two {r:R2} {f:D->D->(D->Prop)->Prop} (hf:uN X r f) (ha:QE X a ta) (hb:QE X b tb) {B:Base} {σ:St} {F H:Hp} {env:En} {Q:D->Prop} {Z:VK} (rp:Rep X.K B F H σ env) (hz:Kont X B σ env F Q Z) (h:aH f ta tb env Q) :
  EG r (wE X a) (wE X b) σ H Z:=by
 refine aA (ha B σ F H env _ rp h) λx H1 hq0=>?_;obtain⟨F1,d,r1,s1,d1,q1⟩:=hq0;refine aA (hb B σ F1 H1 env _ r1 q1) λy H2 hq0=>?_;obtain⟨F2,d',r2,s2,d2,q2⟩:=hq0;exact hf B σ F2 H2 env Q d d' x y Z r2 (Den.mono s2 _ _ d1) d2 (λv H' F' d' r' s'=>hz v H' F' d' r' ((s1.trans s2).trans s')) q2
theorem GO {B:Base} {σ:St} {env:En} {F:Hp} {Q:D->Prop}:Kont X B σ env F Q (RV X B σ env F Q):=λv H' F' d r s hd q=>⟨F',d,r,s,hd,q⟩
theorem xC {op:Operator} {r:R2} {f:D->D->(D->Prop)->Prop} (ho:jm X (binaryOp op) r) (hf:uN X r f) (ha:QE X a ta) (hb:QE X b tb):QE X (.BinOp a op b pos) (aH f ta tb) :=
 ⟨λB σ F H env Q rp h=>cj (FQ ho bB bB) (two hf ha hb rp GO h)⟩
theorem B3 {op:CmpOp} {r:R2} {f:D->D->(D->Prop)->Prop} (ho:jm X (compareOp op) r) (hf:uN X r f) (ha:QE X a ta) (hb:QE X b tb) (hm:behindInMarks op b=false):QE X (.Compare a [op] [b] pos) (aH f ta tb) :=
 ⟨λB σ F H env Q rp h=>cj (AL ho bB bB hm) (two hf ha hb rp GO h)⟩
def aN (t:TD):TB:=λenv Q=>t env λx=>∃k,x=.bl k/\Q k
theorem gM {K:IB} {F:Hp} {k:Bool} {v:V} (h:Den K F (.bl k) v):v=.bl k:=by simpa only [Den] using h
theorem hJ {op:CmpOp} {r:R2} {f:D->D->(D->Prop)->Prop} (ho:jm X (compareOp op) r) (hf:uN X r f) (ha:QE X a ta) (hb:QE X b tb) (hm:behindInMarks op b=false):QT X (.Compare a [op] [b] pos) (aN (aH f ta tb)):=by
 refine⟨?_⟩;intro B σ F H env Q rp h;refine p8 (kO ho bB bB hm) ?_;show EG r (wE X a) (wE X b) σ H λx H'=>∃k,x=.bl k/\RB X B σ env F Q k H'
 refine two hf ha hb rp (λv H' F' d r' s' hd q=>?_) h;obtain⟨k,rfl,q⟩:=q;exact⟨k,gM hd,F',r',s',q⟩
theorem vS {t:TD} (h:QE X e t) (he:∀whole,isTrue e X.env whole=(do let v <- whole;standAt e.pos;holding [v] (truthy v)):=by intro _;rfl):QT X e (aN t):=by
 refine⟨?_⟩;intro B σ F H env Q rp hq;refine p8 (CO bB he) ?_;refine aA (h B σ F H env _ rp hq) λv H' w=>?_;obtain⟨F',d,r',s',hd,k,rfl,q⟩:=w;exact⟨k,gM hd,F',r',s',q⟩
def mL (t u:TB):TB:=λenv Q=>t env λk=>if k=true then u env Q else Q false
def Ck (t u:TB):TB:=λenv Q=>t env λk=>if k=true then Q true else u env Q
def pb (t:TB):TB:=λenv Q=>t env λk=>Q (!k)
theorem QW.t (h:QW X e tA):QT X e tA:=⟨λB σ F H env Q rp hq pins s I=>h B σ F H env Q rp hq _ pins s I⟩
theorem kz (ha:QT X a tA):QW X (.BoolOp .And [a] pos) tA:=⟨λB σ F H env Q rp h=>wL (Bg rK) (ha B σ F H env Q rp h)⟩
theorem CQ (ha:QT X a tA):QW X (.BoolOp .Or [a] pos) tA:=⟨λB σ F H env Q rp h=>wL (C2 rK) (ha B σ F H env Q rp h)⟩
theorem nH (ha:QT X a tA) (hb:QW X (.BoolOp .And (b :: rest) pos) tB'):QW X (.BoolOp .And (a :: b :: rest) pos) (mL tA tB'):=by
 refine⟨?_⟩;intro B σ F H env Q rp h;refine wL (Dv rK FJ) ?_;refine gJ (ha B σ F H env _ rp h) λk H1 ⟨F1,r1,s1,q1⟩=>?_
 cases k with
 | true=>exact wQ (hb B σ F1 H1 env Q r1 q1) λk2 H2 ⟨F2,r2,s2,q2⟩=>⟨F2,r2,s1.trans s2,q2⟩
 | false=>exact⟨F1,r1,s1,q1⟩
theorem E5 (ha:QT X a tA) (hb:QW X (.BoolOp .Or (b :: rest) pos) tB'):QW X (.BoolOp .Or (a :: b :: rest) pos) (Ck tA tB'):=by
 refine⟨?_⟩;intro B σ F H env Q rp h;refine wL (Gp rK FJ) ?_;refine gJ (ha B σ F H env _ rp h) λk H1 ⟨F1,r1,s1,q1⟩=>?_
 cases k with
 | false=>exact wQ (hb B σ F1 H1 env Q r1 q1) λk2 H2 ⟨F2,r2,s2,q2⟩=>⟨F2,r2,s1.trans s2,q2⟩
 | true=>exact⟨F1,r1,s1,q1⟩
theorem uI (ha:QT X a tA):QT X (.UnaryOp .Not a pos) (pb tA):=⟨λB σ F H env Q rp h=>p8 (DB rK) (gJ (ha B σ F H env _ rp h) λk H1 q=>q)⟩
def mr (t u:TD):TD:=λenv Q=>t env λx=>∃k,x=.bl k/\if k=true then u env Q else Q (.bl false)
theorem DA {op} (h:QE X a ta):QE X (.BoolOp op [a] pos) ta:=⟨λB σ F H env Q rp q=>cj (Dx bB) (h B σ F H env Q rp q)⟩
theorem C8 (ha:QE X a ta) (hb:QE X (.BoolOp .And (b :: rest) pos) tb):QE X (.BoolOp .And (a :: b :: rest) pos) (mr ta tb):=by
 refine⟨?_⟩;intro B σ F H env Q rp h;refine cj (CS bB bB) ?_;refine aA (ha B σ F H env _ rp h) λv H1 hq0=>?_;obtain⟨F1,d,r1,s1,d1,k,hk,q1⟩:=hq0;subst hk;refine⟨k,gM d1,?_⟩
 cases k with
 | true=>exact aA (hb B σ F1 H1 env Q r1 q1) λv H2 z=>z.weaken s1
 | false=>exact⟨F1,_,r1,s1,gv,q1⟩
def aw:d7:=λ_ Q=>Q []
def af (ta:TD) (tr:d7):d7:=λenv Q=>ta env λx=>tr env λxs=>Q (x :: xs)
theorem aj:QA X [] aw:=⟨λB σ F H env Q rp h=>Cr f6 ⟨F,[],rp,ak.refl _,aJ,h⟩⟩
theorem ae (ha:QE X e ta) (hr:QA X es ts) (hs:starEach (e :: es) X.env=(false,eval e X.env) :: starEach es X.env:=by exact aV rfl):QA X (e :: es) (af ta ts):=by
 refine⟨?_⟩;intro B σ F H env Q rp h;refine Cr (dO bB ji hs) ?_;refine aA (ha B σ F H env _ rp h) λx H1 hq0=>?_;obtain⟨F1,d,r1,s1,d1,q1⟩:=hq0;exact cH (hr B σ F1 H1 env _ r1 q1) λxs H2 ⟨F2,ds,r2,s2,d2,q2⟩=>⟨F2,d :: ds,r2,s1.trans s2,aF (Den.mono s2 _ _ d1) d2,q2⟩
def cf (t:d7):TD:=λenv Q=>t env λxs=>xs.length<=sizeLine/\Q (.tup xs)
def iy (t:d7):TD:=λenv Q=>t env λxs=>xs.length<=sizeLine/\Q (.lst xs)
theorem RV.EB {B:Base} {σ:St} {env:En} {F H:Hp} {Q:D->Prop} {ds:List D} {vs:List V} (r:Rep X.K B F H σ env) (hd:ao X.K F ds vs) (q:Q (.tup ds)):∀p,H p=none->RV X B σ env F Q (.ref p) (upd H p (.tup vs)):=λp hp=>by
 obtain⟨r2,s2⟩:=r.laid (o:=.tup vs) hp;exact⟨_,_,r2,s2,fb (fB.of au) (ao.mono s2 _ _ hd),q⟩
theorem RV.yy {B:Base} {σ:St} {env:En} {F H:Hp} {Q:D->Prop} {ds:List D} {vs:List V} (r:Rep X.K B F H σ env) (hd:ao X.K F ds vs) (q:Q (.lst ds)):∀p,H p=none->RV X B σ env F Q (.ref p) (upd H p (.lst vs)):=λp hp=>by
 obtain⟨r2,s2⟩:=r.laid (o:=.lst vs) hp;exact⟨_,_,r2,s2,gu (fw.of au) (ao.mono s2 _ _ hd),q⟩
theorem a9 {x1} (h:QA X es ts):QE X (.Tuple es x1 pos) (cf ts):=by
 refine⟨?_⟩;intro B σ F H env Q rp hq;refine cj (Ed ji) ?_;refine cH (h B σ F H env _ rp hq) λvs H1 ⟨F1,ds,r1,s1,d1,z,q1⟩=>⟨by rw [<- d1.length];exact z,λp hp=>(RV.EB r1 d1 q1 p hp).weaken s1⟩
theorem jC (h:QA X es ts):QE X (.List es pos) (iy ts):=by
 refine⟨?_⟩;intro B σ F H env Q rp hq;refine cj (uL ji) ?_;refine cH (h B σ F H env _ rp hq) λvs H1 ⟨F1,ds,r1,s1,d1,z,q1⟩=>⟨by rw [<- d1.length];exact z,λp hp=>(RV.yy r1 d1 q1 p hp).weaken s1⟩
end
mutual
def aT:D->D->Bool
 | .non,.non=>true
 | .bl a,.bl b=>a == b
 | .bl a,.int b=>(if a then 1 else 0) == b
 | .int a,.bl b=>a == (if b then 1 else 0)
 | .int a,.int b=>a == b
 | .str a,.str b=>a == b
 | .tup a,.tup b=>cZ a b
 | .lst a,.lst b=>cZ a b
 | _,_=>false
def cZ:List D->List D->Bool
 | [],[]=>true
 | a :: as,b :: bs=>aT a b && cZ as bs
 | _,_=>false
end
mutual
def dep:D->Nat
 | .tup ds=>b8 ds + 1
 | .lst ds=>b8 ds + 1
 | .dct _ _=>1000
 | .obj _=>1000
 | .ty _=>1000
 | .exc _=>1000
 | .cls _=>1000
 | _=>0
def b8:List D->Nat
 | []=>0
 | d :: ds=>max (dep d) (b8 ds)
end
def se (ds es:List D) (j:Nat):Bool:=match ds[j]?,es[j]? with
 | some a,some b=>aT a b
 | _,_=>true
theorem ow (n:Nat) (e:Nat->Bool):(List.range (n + 1)).all e=(e 0 && (List.range n).all λi=>e (i + 1)):=by
 rw [List.range_succ_eq_map,List.all_cons,List.all_map];rfl
theorem qN:∀ds es:List D,((List.range (min ds.length es.length)).all (se ds es) && (ds.length == es.length))=cZ ds es
 | [],[]=>by simp [cZ]
 | [],b :: es=>by simp [cZ]
 | a :: ds,[]=>by simp [cZ]
 | a :: ds,b :: es=>by
  have ih:=qN ds es;rw [Jo,Jo,Nat.succ_min_succ,ow];have e1:se (a :: ds) (b :: es) 0=aT a b:=by simp [se]
  have e2:(λi=>se (a :: ds) (b :: es) (i + 1))=se ds es:=by funext i;simp [se]
  have e3:(ds.length + 1 == es.length + 1)=(ds.length == es.length):=by
   rw [Bool.eq_iff_iff];simp
  rw [e1,e2,e3,Bool.and_assoc,ih,cZ]
section
variable {X:Cx} {pins:List (Addr×Obj)} {σ:St} {H F:Hp} {s:Shared}
theorem Inv.sR (I:Inv X pins σ H s) {a:Addr} {xs ys:List V} (h:fB X.K H a xs) (h':fw X.K H a ys):False:=by
 obtain⟨_,_,⟨o,e1,c1,_⟩,_⟩:=I.tuple h;obtain⟨_,_,⟨o2,_,e2,c2,_⟩,_⟩:=I.list h';rw [e1] at e2;cases e2;rw [c1] at c2;injection c2 with z;exact absurd z (by decide)
mutual
theorem m4 (I:Inv X pins σ H s) (fh:ak F H):∀(d d':D) (v:V),dep d < 1000->dep d' < 1000->Den X.K F d v->Den X.K F d' v->aT d d'=true
 | .non,d',v,h1,h2,e1,e2=>by
  simp only [Den] at e1;subst e1
  cases d' <;> simp only [Den] at e2 <;> first|rfl|(obtain⟨a,vs,z,_⟩:=e2;cases z;done)|(obtain⟨a,z,_⟩:=e2;cases z;done)|cases e2
 | .bl b,d',v,h1,h2,e1,e2=>by
  simp only [Den] at e1;subst e1
  cases d' <;> simp only [Den] at e2 <;> first|(obtain⟨a,vs,z,_⟩:=e2;cases z;done)|(obtain⟨a,z,_⟩:=e2;cases z;done)|(cases e2;simp [aT];done)|cases e2
 | .int b,d',v,h1,h2,e1,e2=>by
  simp only [Den] at e1;subst e1
  cases d' <;> simp only [Den] at e2 <;> first|(obtain⟨a,vs,z,_⟩:=e2;cases z;done)|(obtain⟨a,z,_⟩:=e2;cases z;done)|(cases e2;simp [aT];done)|cases e2
 | .str b,d',v,h1,h2,e1,e2=>by
  simp only [Den] at e1;subst e1
  cases d' <;> simp only [Den] at e2 <;> first|(obtain⟨a,vs,z,_⟩:=e2;cases z;done)|(obtain⟨a,z,_⟩:=e2;cases z;done)|(cases e2;simp [aT];done)|cases e2
 | .ty b,d',v,h1,h2,e1,e2=>by simp [dep] at h1
 | .exc b,d',v,h1,h2,e1,e2=>by simp [dep] at h1
 | .cls b,d',v,h1,h2,e1,e2=>by simp [dep] at h1
 | .dct _ _,d',v,h1,h2,e1,e2=>by simp [dep] at h1
 | .obj _,d',v,h1,h2,e1,e2=>by simp [dep] at h1
 | .tup ds,d',v,h1,h2,e1,e2=>by
  simp only [Den] at e1;obtain⟨a,vs,rfl,q,r⟩:=e1
  cases d' with
  | tup es =>
   simp only [Den] at e2;obtain⟨a',us,z,q',r'⟩:=e2;cases z;have:=I.gd (ak.bt fh q) (ak.bt fh q');subst this;simp only [aT]
   exact nR I fh ds es vs (by simp [dep] at h1;omega) (by simp [dep] at h2;omega) r r'
  | lst es =>
   simp only [Den] at e2;obtain⟨a',us,z,q',r'⟩:=e2;cases z
   exact (Inv.sR I (ak.bt fh q) (fh.seq q')).elim
  | dct _ _=>simp [dep] at h2
  | obj _=>simp [dep] at h2
  | exc _=>simp [dep] at h2
  | cls _=>simp [dep] at h2
  | _=>simp only [Den] at e2;cases e2
 | .lst ds,d',v,h1,h2,e1,e2=>by
  simp only [Den] at e1;obtain⟨a,vs,rfl,q,r⟩:=e1
  cases d' with
  | lst es =>
   simp only [Den] at e2;obtain⟨a',us,z,q',r'⟩:=e2;cases z;have:=I.oO (fh.seq q) (fh.seq q');subst this;simp only [aT]
   exact nR I fh ds es vs (by simp [dep] at h1;omega) (by simp [dep] at h2;omega) r r'
  | tup es =>
   simp only [Den] at e2;obtain⟨a',us,z,q',r'⟩:=e2;cases z
   exact (Inv.sR I (ak.bt fh q') (fh.seq q)).elim
  | dct _ _=>simp [dep] at h2
  | obj _=>simp [dep] at h2
  | exc _=>simp [dep] at h2
  | cls _=>simp [dep] at h2
  | _=>simp only [Den] at e2;cases e2
theorem nR (I:Inv X pins σ H s) (fh:ak F H):∀(ds es:List D) (vs:List V),b8 ds < 1000->b8 es < 1000->ao X.K F ds vs->ao X.K F es vs->cZ ds es=true
 | [],es,vs,h1,h2,e1,e2=>by
  simp only [ao] at e1;subst e1
  cases es with
  | nil=>rfl
  | cons _ _=>simp only [ao] at e2;obtain⟨_,_,z,_⟩:=e2;cases z
 | d :: ds,es,vs,h1,h2,e1,e2=>by
  simp only [ao] at e1;obtain⟨v,r,rfl,a,b⟩:=e1
  cases es with
  | nil=>simp only [ao] at e2;cases e2
  | cons e es =>
   simp only [ao] at e2;obtain⟨v',r',z,a',b'⟩:=e2;cases z;simp only [b8] at h1 h2;simp only [cZ,Bool.and_eq_true];exact⟨m4 I fh d e v (by omega) (by omega) a a',nR I fh ds es r (by omega) (by omega) b b'⟩
end
theorem units_in1 (A:Around):A.in1.units=A.units + 1:=rfl
def Ga:D->Bool
 | .non=>true
 | .bl _=>true
 | .int _=>true
 | .str _=>true
 | _=>false
theorem rb (I:Inv X pins σ H s) (fh:ak F H):∀(d d':D) (A:Around) (x y:V) (u v:Value),Ga d=true->A.units + dep d < cLine->dep d' < 1000->Den X.K F d x->Den X.K F d' y->RelV x u->RelV y v ->
  SeqAt.RcAt A s u v (aT d d')/\SeqAt.RcNeAt A s u v (!aT d d')
 | .non,d',A,x,y,u,v,lf,hu,h2,e1,e2,r1,r2=>by
  simp only [Den] at e1;subst e1;cases r1;have hu0:A.units < cLine:=by omega
  cases d' with
  | ty _=>simp [dep] at h2
  | dct _ _=>simp [dep] at h2
  | obj _=>simp [dep] at h2
  | exc _=>simp [dep] at h2
  | cls _=>simp [dep] at h2
  | non=>simp only [Den] at e2;subst e2;cases r2;exact⟨SeqAt.RcAt.none_none,SeqAt.RcNeAt.none_none⟩
  | bl b=>simp only [Den] at e2;subst e2;cases r2;exact⟨SeqAt.RcAt.none_bool b,SeqAt.RcNeAt.none_bool b⟩
  | int b=>simp only [Den] at e2;subst e2;obtain⟨t,rfl⟩:=r2;exact⟨SeqAt.RcAt.none_int b t,SeqAt.RcNeAt.none_int b t⟩
  | str b=>simp only [Den] at e2;subst e2;obtain⟨t,rfl⟩:=r2;exact⟨SeqAt.RcAt.none_str b t,SeqAt.RcNeAt.none_str b t⟩
  | tup es =>
   simp only [Den] at e2;obtain⟨a,vs,rfl,q,r⟩:=e2;cases r2;obtain⟨its,rv,ht,hz⟩:=I.tuple (ak.bt fh q)
   exact⟨SeqAt.RcAt.none_tuple ht hu0,SeqAt.RcNeAt.none_tuple ht hu0⟩
  | lst es =>
   simp only [Den] at e2;obtain⟨a,vs,rfl,q,r⟩:=e2;cases r2;obtain⟨its,rv,ht,hz⟩:=I.list (fh.seq q)
   exact⟨SeqAt.RcAt.none_list ht.isList hu0,SeqAt.RcNeAt.none_list ht.isList hu0⟩
 | .bl b',d',A,x,y,u,v,lf,hu,h2,e1,e2,r1,r2=>by
  simp only [Den] at e1;subst e1;cases r1;have hu0:A.units < cLine:=by omega
  cases d' with
  | ty _=>simp [dep] at h2
  | dct _ _=>simp [dep] at h2
  | obj _=>simp [dep] at h2
  | exc _=>simp [dep] at h2
  | cls _=>simp [dep] at h2
  | non=>simp only [Den] at e2;subst e2;cases r2;exact⟨SeqAt.RcAt.bool_none b',SeqAt.RcNeAt.bool_none b'⟩
  | bl b=>simp only [Den] at e2;subst e2;cases r2;exact⟨by simpa only [aT] using SeqAt.RcAt.bool_bool b' b,by simpa only [aT] using SeqAt.RcNeAt.bool_bool b' b⟩
  | int b=>simp only [Den] at e2;subst e2;obtain⟨t,rfl⟩:=r2;exact⟨by simpa only [aT] using SeqAt.RcAt.bool_int b' b t,by simpa only [aT] using SeqAt.RcNeAt.bool_int b' b t⟩
  | str b=>simp only [Den] at e2;subst e2;obtain⟨t,rfl⟩:=r2;exact⟨SeqAt.RcAt.bool_str b' b t,SeqAt.RcNeAt.bool_str b' b t⟩
  | tup es =>
   simp only [Den] at e2;obtain⟨a,vs,rfl,q,r⟩:=e2;cases r2;obtain⟨its,rv,ht,hz⟩:=I.tuple (ak.bt fh q)
   exact⟨SeqAt.RcAt.bool_tuple b' ht hu0,SeqAt.RcNeAt.bool_tuple b' ht hu0⟩
  | lst es =>
   simp only [Den] at e2;obtain⟨a,vs,rfl,q,r⟩:=e2;cases r2;obtain⟨its,rv,ht,hz⟩:=I.list (fh.seq q)
   exact⟨SeqAt.RcAt.bool_list b' ht.isList hu0,SeqAt.RcNeAt.bool_list b' ht.isList hu0⟩
 | .int b',d',A,x,y,u,v,lf,hu,h2,e1,e2,r1,r2=>by
  simp only [Den] at e1;subst e1;obtain⟨t',rfl⟩:=r1;have hu0:A.units < cLine:=by omega
  cases d' with
  | ty _=>simp [dep] at h2
  | dct _ _=>simp [dep] at h2
  | obj _=>simp [dep] at h2
  | exc _=>simp [dep] at h2
  | cls _=>simp [dep] at h2
  | non=>simp only [Den] at e2;subst e2;cases r2;exact⟨SeqAt.RcAt.int_none b' t',SeqAt.RcNeAt.int_none b' t'⟩
  | bl b=>simp only [Den] at e2;subst e2;cases r2;exact⟨by simpa only [aT] using SeqAt.RcAt.int_bool b' t' b,by simpa only [aT] using SeqAt.RcNeAt.int_bool b' t' b⟩
  | int b=>simp only [Den] at e2;subst e2;obtain⟨t,rfl⟩:=r2;exact⟨by simpa only [aT] using SeqAt.RcAt.int_int b' t' b t,by simpa only [aT] using SeqAt.RcNeAt.int_int b' t' b t⟩
  | str b=>simp only [Den] at e2;subst e2;obtain⟨t,rfl⟩:=r2;exact⟨SeqAt.RcAt.int_str b' t' b t,SeqAt.RcNeAt.int_str b' t' b t⟩
  | tup es =>
   simp only [Den] at e2;obtain⟨a,vs,rfl,q,r⟩:=e2;cases r2;obtain⟨its,rv,ht,hz⟩:=I.tuple (ak.bt fh q)
   exact⟨SeqAt.RcAt.int_tuple b' t' ht hu0,SeqAt.RcNeAt.int_tuple b' t' ht hu0⟩
  | lst es =>
   simp only [Den] at e2;obtain⟨a,vs,rfl,q,r⟩:=e2;cases r2;obtain⟨its,rv,ht,hz⟩:=I.list (fh.seq q)
   exact⟨SeqAt.RcAt.int_list b' t' ht.isList hu0,SeqAt.RcNeAt.int_list b' t' ht.isList hu0⟩
 | .str b',d',A,x,y,u,v,lf,hu,h2,e1,e2,r1,r2=>by
  simp only [Den] at e1;subst e1;obtain⟨t',rfl⟩:=r1;have hu0:A.units < cLine:=by omega
  cases d' with
  | ty _=>simp [dep] at h2
  | dct _ _=>simp [dep] at h2
  | obj _=>simp [dep] at h2
  | exc _=>simp [dep] at h2
  | cls _=>simp [dep] at h2
  | non=>simp only [Den] at e2;subst e2;cases r2;exact⟨SeqAt.RcAt.str_none b' t',SeqAt.RcNeAt.str_none b' t'⟩
  | bl b=>simp only [Den] at e2;subst e2;cases r2;exact⟨SeqAt.RcAt.str_bool b' t' b,SeqAt.RcNeAt.str_bool b' t' b⟩
  | int b=>simp only [Den] at e2;subst e2;obtain⟨t,rfl⟩:=r2;exact⟨SeqAt.RcAt.str_int b' t' b t,SeqAt.RcNeAt.str_int b' t' b t⟩
  | str b=>simp only [Den] at e2;subst e2;obtain⟨t,rfl⟩:=r2;exact⟨by simpa only [aT] using SeqAt.RcAt.str_str b' t' b t,by simpa only [aT] using SeqAt.RcNeAt.str_str b' t' b t⟩
  | tup es =>
   simp only [Den] at e2;obtain⟨a,vs,rfl,q,r⟩:=e2;cases r2;obtain⟨its,rv,ht,hz⟩:=I.tuple (ak.bt fh q)
   exact⟨SeqAt.RcAt.str_tuple b' t' ht hu0,SeqAt.RcNeAt.str_tuple b' t' ht hu0⟩
  | lst es =>
   simp only [Den] at e2;obtain⟨a,vs,rfl,q,r⟩:=e2;cases r2;obtain⟨its,rv,ht,hz⟩:=I.list (fh.seq q)
   exact⟨SeqAt.RcAt.str_list b' t' ht.isList hu0,SeqAt.RcNeAt.str_list b' t' ht.isList hu0⟩
 | .ty _,d',A,x,y,u,v,lf,hu,h2,e1,e2,r1,r2=>(by cases lf)
 | .exc _,d',A,x,y,u,v,lf,hu,h2,e1,e2,r1,r2=>(by cases lf)
 | .cls _,d',A,x,y,u,v,lf,hu,h2,e1,e2,r1,r2=>(by cases lf)
 | .dct _ _,d',A,x,y,u,v,lf,hu,h2,e1,e2,r1,r2=>(by cases lf)
 | .obj _,d',A,x,y,u,v,lf,hu,h2,e1,e2,r1,r2=>(by cases lf)
 | .tup _,d',A,x,y,u,v,lf,hu,h2,e1,e2,r1,r2=>(by cases lf)
 | .lst _,d',A,x,y,u,v,lf,hu,h2,e1,e2,r1,r2=>(by cases lf)
theorem v3 (I:Inv X pins σ H s) (fh:ak F H) (d d':D) (A:Around) (x y:V) (u v:Value) (hu:A.units + dep d < cLine) (h1:dep d < 1000) (h2:dep d' < 1000) (e1:Den X.K F d x) (e2:Den X.K F d' y) (r1:RelV x u) (r2:RelV y v) (k:SeqAt.RcAt A s u v (aT d d')) :
  SeqAt.EqAt A s u v (aT d d'):=by
 have hu0:A.units < cLine:=by omega
 by_cases z:u=v
 ·subst z;have:x=y:=r1.inj r2;subst this;rw [m4 I fh d d' x h1 h2 e1 e2];exact SeqAt.EqAt.same u
 ·intro prog w E Q hq;unfold eqBool;refine wpAny_holding ?_;refine wpAny_ite_split (λhab=>absurd (eq_of_beq hab) z) (λ_=>?_)
  have nf:∀b t,u≠.float b t:=λb t w=>by
   subst w;cases x <;> first|(obtain⟨_,q⟩:=r1;cases q;done)|(cases r1;done)|skip
   cases d <;> simp only [Den] at e1 <;> first|(cases e1;done)|(obtain⟨_,_,z,_⟩:=e1;cases z;done)|(obtain⟨_,z,_⟩:=e1;cases z;done)
  cases u <;> cases v <;> first|exact absurd rfl (nf _ _)|exact Iw (k prog w E _ (wpAny_truthy_bool hq))
theorem Cj (I:Inv X pins σ H s) (fh:ak F H) (ds0:List D) (d d':D) (A:Around) (x y:V) (u v:Value) (hl:d=.tup ds0\/d=.lst ds0) (hu:A.units + dep d < cLine) (h1:dep d < 1000) (h2:dep d' < 1000) (e1:Den X.K F d x) (e2:Den X.K F d' y) (r1:RelV x u) (r2:RelV y v)
  (rec:∀(es:List D),(d'=.tup es\/d'=.lst es)->∀(vs1 vs:List V) (its1 its:List Value),ao X.K F ds0 vs1->ao X.K F es vs->Vals vs1 its1->Vals vs its->∀(j:Nat) (h1:j < its1.length) (h2:j < its.length),SeqAt.EqAt A.in1 s its1[j] its[j] (se ds0 es j)) :
  SeqAt.RcAt A s u v (aT d d')/\SeqAt.RcNeAt A s u v (!aT d d'):=by
 cases d with
 | non=>rcases hl with hl|hl <;> cases hl
 | bl _=>rcases hl with hl|hl <;> cases hl
 | int _=>rcases hl with hl|hl <;> cases hl
 | str _=>rcases hl with hl|hl <;> cases hl
 | ty _=>simp [dep] at h1
 | exc _=>simp [dep] at h1
 | cls _=>simp [dep] at h1
 | dct _ _=>simp [dep] at h1
 | obj _=>simp [dep] at h1
 | tup ds =>
  have z:ds=ds0:=by rcases hl with hl|hl <;> cases hl <;> rfl
  subst z;simp only [Den] at e1;obtain⟨a1,vs1,rfl,q1,g1⟩:=e1;cases r1;obtain⟨its1,rv1,ht1,hz1⟩:=I.tuple (ak.bt fh q1);simp only [dep] at hu h1;have hu0:A.units < cLine:=by omega
  cases d' with
  | ty _=>simp [dep] at h2
  | dct _ _=>simp [dep] at h2
  | obj _=>simp [dep] at h2
  | exc _=>simp [dep] at h2
  | cls _=>simp [dep] at h2
  | non=>simp only [Den] at e2;subst e2;cases r2;exact⟨SeqAt.RcAt.tuple_none ht1 hu0,SeqAt.RcNeAt.tuple_none ht1 hu0⟩
  | bl b=>simp only [Den] at e2;subst e2;cases r2;exact⟨SeqAt.RcAt.tuple_bool b ht1 hu0,SeqAt.RcNeAt.tuple_bool b ht1 hu0⟩
  | int b=>simp only [Den] at e2;subst e2;obtain⟨t,rfl⟩:=r2;exact⟨SeqAt.RcAt.tuple_int b t ht1 hu0,SeqAt.RcNeAt.tuple_int b t ht1 hu0⟩
  | str b=>simp only [Den] at e2;subst e2;obtain⟨t,rfl⟩:=r2;exact⟨SeqAt.RcAt.tuple_str b t ht1 hu0,SeqAt.RcNeAt.tuple_str b t ht1 hu0⟩
  | lst es =>
   simp only [Den] at e2;obtain⟨a,vs,rfl,q,r⟩:=e2;cases r2;obtain⟨its,rv,ht,hz⟩:=I.list (fh.seq q)
   exact⟨SeqAt.RcAt.tuple_list ht1 ht.isList hu0,SeqAt.RcNeAt.tuple_list ht1 ht.isList hu0⟩
  | tup es =>
   simp only [Den] at e2;obtain⟨a,vs,rfl,q,r⟩:=e2;cases r2;obtain⟨its,rv,ht,hz⟩:=I.tuple (ak.bt fh q);simp only [dep] at h2;have he:=rec es (.inl rfl) vs1 vs its1 its g1 r rv1 rv;have l1:its1.length=ds.length:=by rw [g1.length,rv1.length]
   have l2:its.length=es.length:=by rw [r.length,rv.length]
   have k1:=SeqAt.RcAt.tuples (e:=se ds es) ht1 ht hu0 (λj h1 h2=>he j (by simpa using h1) (by simpa using h2));have k2:=SeqAt.RcNeAt.tuples (e:=se ds es) ht1 ht hu0 (λj h1 h2=>he j (by simpa using h1) (by simpa using h2));rw [IV,IV,l1,l2,qN] at k1 k2
   exact⟨by simpa only [aT] using k1,by simpa only [aT] using k2⟩
 | lst ds =>
  have z:ds=ds0:=by rcases hl with hl|hl <;> cases hl <;> rfl
  subst z;simp only [Den] at e1;obtain⟨a1,vs1,rfl,q1,g1⟩:=e1;cases r1;obtain⟨its1,rv1,ht1,hz1⟩:=I.list (fh.seq q1);simp only [dep] at hu h1;have hu0:A.units < cLine:=by omega
  cases d' with
  | ty _=>simp [dep] at h2
  | dct _ _=>simp [dep] at h2
  | obj _=>simp [dep] at h2
  | exc _=>simp [dep] at h2
  | cls _=>simp [dep] at h2
  | non=>simp only [Den] at e2;subst e2;cases r2;exact⟨SeqAt.RcAt.list_none ht1.isList hu0,SeqAt.RcNeAt.list_none ht1.isList hu0⟩
  | bl b=>simp only [Den] at e2;subst e2;cases r2;exact⟨SeqAt.RcAt.list_bool b ht1.isList hu0,SeqAt.RcNeAt.list_bool b ht1.isList hu0⟩
  | int b=>simp only [Den] at e2;subst e2;obtain⟨t,rfl⟩:=r2;exact⟨SeqAt.RcAt.list_int b t ht1.isList hu0,SeqAt.RcNeAt.list_int b t ht1.isList hu0⟩
  | str b=>simp only [Den] at e2;subst e2;obtain⟨t,rfl⟩:=r2;exact⟨SeqAt.RcAt.list_str b t ht1.isList hu0,SeqAt.RcNeAt.list_str b t ht1.isList hu0⟩
  | tup es =>
   simp only [Den] at e2;obtain⟨a,vs,rfl,q,r⟩:=e2;cases r2;obtain⟨its,rv,ht,hz⟩:=I.tuple (ak.bt fh q)
   exact⟨SeqAt.RcAt.list_tuple ht1.isList ht hu0,SeqAt.RcNeAt.list_tuple ht1.isList ht hu0⟩
  | lst es =>
   simp only [Den] at e2;obtain⟨a,vs,rfl,q,r⟩:=e2;cases r2;obtain⟨its,rv,ht,hz⟩:=I.list (fh.seq q);simp only [dep] at h2;have he:=rec es (.inr rfl) vs1 vs its1 its g1 r rv1 rv;have l1:its1.length=ds.length:=by rw [g1.length,rv1.length]
   have l2:its.length=es.length:=by rw [r.length,rv.length]
   simp only [aT];rw [<- qN]
   by_cases hsz:ds.length=es.length
   ·have k1:=SeqAt.RcAt.lists (e:=se ds es) ht1.isList ht.isList (by simp [l1,l2,hsz]) hu0 (λj h1 h2=>he j (by simpa using h1) (by simpa using h2));have k2:=SeqAt.RcNeAt.lists (e:=se ds es) ht1.isList ht.isList (by simp [l1,l2,hsz]) hu0 (λj h1 h2=>he j (by simpa using h1) (by simpa using h2));rw [IV,l1] at k1 k2;have e:(ds.length == es.length)=true:=by simp [hsz]
    rw [e,JR,<- hsz,Nat.min_self];exact⟨k1,k2⟩
   ·have e:(ds.length == es.length)=false:=by simp [hsz]
    rw [e,Bool.and_false];have e2:(its1.toArray.size != its.toArray.size)=true:=by simp [l1,l2,hsz]
    exact⟨SeqAt.RcAt.lists_lengths ht1.isList ht.isList e2 hu0,SeqAt.RcNeAt.lists_lengths ht1.isList ht.isList e2 hu0⟩
mutual
theorem AJ (I:Inv X pins σ H s) (fh:ak F H):∀(d d':D) (A:Around) (x y:V) (u v:Value),A.units + dep d < cLine->dep d < 1000->dep d' < 1000->Den X.K F d x->Den X.K F d' y->RelV x u->RelV y v ->
  SeqAt.RcAt A s u v (aT d d')/\SeqAt.RcNeAt A s u v (!aT d d')
 | .ty _,d',A,x,y,u,v,hu,h1,h2,e1,e2,r1,r2=>by simp [dep] at h1
 | .exc _,d',A,x,y,u,v,hu,h1,h2,e1,e2,r1,r2=>by simp [dep] at h1
 | .cls _,d',A,x,y,u,v,hu,h1,h2,e1,e2,r1,r2=>by simp [dep] at h1
 | .dct _ _,d',A,x,y,u,v,hu,h1,h2,e1,e2,r1,r2=>by simp [dep] at h1
 | .obj _,d',A,x,y,u,v,hu,h1,h2,e1,e2,r1,r2=>by simp [dep] at h1
 | .non,d',A,x,y,u,v,hu,h1,h2,e1,e2,r1,r2=>rb I fh _ d' A x y u v rfl hu h2 e1 e2 r1 r2
 | .bl _,d',A,x,y,u,v,hu,h1,h2,e1,e2,r1,r2=>rb I fh _ d' A x y u v rfl hu h2 e1 e2 r1 r2
 | .int _,d',A,x,y,u,v,hu,h1,h2,e1,e2,r1,r2=>rb I fh _ d' A x y u v rfl hu h2 e1 e2 r1 r2
 | .str _,d',A,x,y,u,v,hu,h1,h2,e1,e2,r1,r2=>rb I fh _ d' A x y u v rfl hu h2 e1 e2 r1 r2
 | .tup ds,d',A,x,y,u,v,hu,h1,h2,e1,e2,r1,r2=>Cj I fh ds _ d' A x y u v (.inl rfl) hu h1 h2 e1 e2 r1 r2 λes z2 vs1 vs its1 its g1 r rv1 rv =>
  yN I fh ds es A.in1 vs1 vs its1 its (by rw [units_in1];simp only [dep] at hu;omega) (by simp only [dep] at h1;omega) (by rcases z2 with rfl|rfl <;> (simp only [dep] at h2;omega)) g1 r rv1 rv
 | .lst ds,d',A,x,y,u,v,hu,h1,h2,e1,e2,r1,r2=>Cj I fh ds _ d' A x y u v (.inr rfl) hu h1 h2 e1 e2 r1 r2 λes z2 vs1 vs its1 its g1 r rv1 rv =>
  yN I fh ds es A.in1 vs1 vs its1 its (by rw [units_in1];simp only [dep] at hu;omega) (by simp only [dep] at h1;omega) (by rcases z2 with rfl|rfl <;> (simp only [dep] at h2;omega)) g1 r rv1 rv
theorem yN (I:Inv X pins σ H s) (fh:ak F H):∀(ds es:List D) (A:Around) (xs ys:List V) (us vs:List Value),A.units + b8 ds < cLine->b8 ds < 1000->b8 es < 1000->ao X.K F ds xs->ao X.K F es ys->Vals xs us->Vals ys vs ->
  ∀(j:Nat) (h1:j < us.length) (h2:j < vs.length),SeqAt.EqAt A s us[j] vs[j] (se ds es j)
 | [],es,A,xs,ys,us,vs,hu,h1,h2,e1,e2,r1,r2,j,hj1,hj2=>by
  simp only [ao] at e1;subst e1;cases r1;simp at hj1
 | d :: ds,es,A,xs,ys,us,vs,hu,h1,h2,e1,e2,r1,r2,j,hj1,hj2=>by
  simp only [ao] at e1;obtain⟨x,xr,rfl,ax,bx⟩:=e1
  cases r1 with
  | cons rx rrx =>
  cases es with
  | nil=>simp only [ao] at e2;subst e2;cases r2;simp at hj2
  | cons e es =>
   simp only [ao] at e2;obtain⟨y,yr,rfl,ay,by'⟩:=e2
   cases r2 with
   | cons ry rry =>
   simp only [b8] at hu h1 h2
   cases j with
   | zero =>
    simp only [List.getElem_cons_zero];have e0:se (d :: ds) (e :: es) 0=aT d e:=by simp [se]
    rw [e0]
    exact v3 I fh d e A x y _ _ (by omega) (by omega) (by omega) ax ay rx ry (AJ I fh d e A x y _ _ (by omega) (by omega) (by omega) ax ay rx ry).1
   | succ j =>
    simp only [List.getElem_cons_succ];have e0:se (d :: ds) (e :: es) (j + 1)=se ds es j:=by simp [se]
    rw [e0];exact yN I fh ds es A xr yr _ _ (by omega) (by omega) (by omega) bx by' rrx rry j (by simpa using hj1) (by simpa using hj2)
end
theorem nY (I:Inv X pins σ H s) (fh:ak F H) (d d':D) (A:Around) (x y:V) (u v:Value) (hu:A.units + dep d < cLine) (h1:dep d < 1000) (h2:dep d' < 1000) (e1:Den X.K F d x) (e2:Den X.K F d' y) (r1:RelV x u) (r2:RelV y v) :
  SeqAt.EqAt A s u v (aT d d'):=v3 I fh d d' A x y u v hu h1 h2 e1 e2 r1 r2 (AJ I fh d d' A x y u v hu h1 h2 e1 e2 r1 r2).1
end
end L2.L3
namespace L2.L3
open PySem PySem.Spec PyProof.Rows
section
variable {X:Cx} {a b c e:Expr} {es:List Expr} {ta tb tc:TD} {tA tB':TB} {ts:d7} {pos:Pos} {rest:List Expr}
def B7 (K:IB):R2:=λx y H Q=>∃l b xs zs,x=.ref l/\y=.ref b/\fw K H l xs/\fw K H b zs/\xs.length + zs.length<=sizeLine/\∀p,H p=none->Q (.ref p) (upd H p (.lst (xs ++ zs)))
theorem BP:jm X (binaryOp .Add) (B7 X.K):=by
 intro pins s σ H x y v u Q I rx ry h;obtain⟨l,b,xs,zs,rfl,rfl,hH,hB,hz,q⟩:=h;cases rx;cases ry;obtain⟨its,r,⟨⟨cls,dd,data,sl⟩,n,ho,hc,hdd,hd⟩,z⟩:=I.list hH;obtain⟨its2,r2,⟨⟨cls2,dd2,data2,sl2⟩,n2,ho2,hc2,hdd2,hd2⟩,z2⟩:=I.list hB;simp only at hc hdd hd hc2 hdd2 hd2;subst hc hdd hd hc2 hdd2 hd2;have ea:its.toArray ++ its2.toArray=(its ++ its2).toArray:=by simp
 refine concat_meets ⟨_,ho,rfl⟩ ⟨_,ho2,rfl⟩ noFill_list_add seq_list_add PySem.F.slot_list_add PySem.F.entry_list_add (PySem.F.args_list_add_2 _ _)
  (list_addW l b its.toArray its2.toArray n n2 none none sl sl2 (by rw [IV,IV,<- r.length,<- r2.length];exact hz)) ⟨ho,ho2,?_⟩
 rw [ea];exact⟨.ref _,_,I.GZ (t':=s.toks) (r.append r2) (by rw [Jd];omega),rfl,q _ I.fresh⟩
def zX (K:IB):R2:=λx y H Q=>∃a b ys,x=.ref a/\y=.ref b/\fB K H a []/\fB K H b ys/\Q (.ref b) H
theorem zE:jm X (binaryOp .Add) (zX X.K):=by
 intro pins s σ H x y v u Q I rx ry h;obtain⟨l,b,zs,rfl,rfl,hH,hB,q⟩:=h;cases rx;cases ry;obtain⟨its,r,⟨⟨cls,dd,data,sl⟩,ho,hc,n,hd⟩,z⟩:=I.tuple hH;obtain⟨its2,r2,⟨⟨cls2,dd2,data2,sl2⟩,ho2,hc2,n2,hd2⟩,z2⟩:=I.tuple hB;cases r;simp only at hc hd hc2 hd2;subst hc hd hc2 hd2
 exact concat_meets ⟨_,ho,rfl⟩ ⟨_,ho2,rfl⟩ noFill_tuple_add seq_tuple_add PySem.F.slot_tuple_add PySem.F.entry_tuple_add (PySem.F.args_tuple_add_2 _ _)
  (tuple_addW0 l b _ _ n n2 dd dd2 sl sl2 (by simp)) ⟨ho,ho2,⟨.ref b,H,I,rfl,q⟩⟩
def dg (x y:D) (Q:D->Prop):Prop:=match x,y with
 | .int i,.int j=>Q (.int (i + j))
 | .str u,.str w=>u.length + w.length<=sizeLine/\Q (.str (u ++ w))
 | .lst u,.lst w=>u.length + w.length<=sizeLine/\Q (.lst (u ++ w))
 | .tup u,.tup w=>u.length + w.length<=sizeLine/\Q (.tup (u ++ w))
 | _,_=>False
def wC (K:IB):R2:=λx y H Q=>AA (λi j=>.int (i + j)) x y H Q\/(∃i j,x=.str i/\y=.str j/\i.length + j.length<=sizeLine/\Q (.str (i ++ j)) H)\/B7 K x y H Q\/Cy K x y H Q\/zX K x y H Q
theorem xH:jm X (binaryOp .Add) (wC X.K):=CH.or (vI.or (BP.or (A3.or zE)))
theorem EE:uN X (wC X.K) dg:=by
 intro B σ F H env Q d d' x y Z rp h1 h2 hz hf;unfold dg at hf
 split at hf
 ·simp only [Den] at h1 h2;subst h1 h2;exact .inl ⟨_,_,rfl,rfl,hz _ _ F _ rp (ak.refl _) bq hf⟩
 ·simp only [Den] at h1 h2;subst h1 h2;exact .inr (.inl ⟨_,_,rfl,rfl,hf.1,hz _ _ F _ rp (ak.refl _) gw hf.2⟩)
 ·simp only [Den] at h1 h2;obtain⟨p,vs,rfl,q,r⟩:=h1;obtain⟨p',vs',rfl,q',r'⟩:=h2;refine .inr (.inr (.inl ⟨p,p',vs,vs',rfl,rfl,rp.fh.seq q,rp.fh.seq q',by rw [<- r.length,<- r'.length];exact hf.1,λw hw=>?_⟩));obtain⟨r2,s2⟩:=rp.laid (o:=.lst (vs ++ vs')) hw;exact hz _ _ _ _ r2 s2 (gu (fw.of au) (ao.mono s2 _ _ (r.append r'))) hf.2
 ·simp only [Den] at h1 h2;obtain⟨p,vs,rfl,q,r⟩:=h1;obtain⟨p',vs',rfl,q',r'⟩:=h2
  cases vs with
  | nil =>
   rename_i u w
   cases u with
   | cons _ _=>simp only [ao] at r;obtain⟨_,_,z,_⟩:=r;cases z
   | nil =>
    exact .inr (.inr (.inr (.inr ⟨p,p',vs',rfl,rfl,ak.bt rp.fh q,ak.bt rp.fh q',hz _ _ F _ rp (ak.refl _) (fb q' r') (by simpa using hf.2)⟩)))
  | cons v0 vr =>
   refine .inr (.inr (.inr (.inl ⟨p,p',v0 :: vr,vs',rfl,rfl,ak.bt rp.fh q,ak.bt rp.fh q',by simp,by rw [<- r.length,<- r'.length];exact hf.1,λw=>?_,λw z hw=>?_⟩)))
   ·subst w
    rename_i w
    have e:w=[]:=by
     cases w with
     | nil=>rfl
     | cons _ _=>simp only [ao] at r';obtain⟨_,_,z,_⟩:=r';cases z
    subst e;exact hz _ _ F _ rp (ak.refl _) (fb q r) (by simpa using hf.2)
   ·obtain⟨r2,s2⟩:=rp.laid (o:=.tup (v0 :: vr ++ vs')) hw;exact hz _ _ _ _ r2 s2 (fb (fB.of au) (ao.mono s2 _ _ (r.append r'))) hf.2
 ·exact hf.elim
theorem c9 (ha:QE X a ta) (hb:QE X b tb):QE X (.BinOp a .Add b pos) (aH dg ta tb):=xC xH EE ha hb
def vm (C:Int->Int->Prop) (g:Int->Int->D) (x y:D) (Q:D->Prop):Prop:=match x,y with
 | .int i,.int j=>C i j/\Q (g i j)
 | _,_=>False
theorem wt {C:Int->Int->Prop} {g:Int->Int->Int}:uN X (rI C λi j=>.int (g i j)) (vm C λi j=>.int (g i j)):=by
 intro B σ F H env Q d d' x y Z rp h1 h2 hz hf;unfold vm at hf
 split at hf
 ·simp only [Den] at h1 h2;subst h1 h2;exact⟨_,_,rfl,rfl,hf.1,hz _ _ F _ rp (ak.refl _) bq hf.2⟩
 ·exact hf.elim
theorem Dg {g:Int->Int->Int}:uN X (AA λi j=>.int (g i j)) (vm (λ_ _=>True) λi j=>.int (g i j)):=by
 intro B σ F H env Q d d' x y Z rp h1 h2 hz hf;unfold vm at hf
 split at hf
 ·simp only [Den] at h1 h2;subst h1 h2;exact⟨_,_,rfl,rfl,hz _ _ F _ rp (ak.refl _) bq hf.2⟩
 ·exact hf.elim
theorem vq {g:Int->Int->Bool}:uN X (AA λi j=>.bl (g i j)) (vm (λ_ _=>True) λi j=>.bl (g i j)):=by
 intro B σ F H env Q d d' x y Z rp h1 h2 hz hf;unfold vm at hf
 split at hf
 ·simp only [Den] at h1 h2;subst h1 h2;exact⟨_,_,rfl,rfl,hz _ _ F _ rp (ak.refl _) gv hf.2⟩
 ·exact hf.elim
theorem AR:jm X (binaryOp .Mult) (rI IntMulOk λi j=>.int (i * j)):=GX λ_ _ _ _ _ _ _ hc q=>mul_int q hc
def v5 (_ j:Int):Prop:=j≠0/\j.natAbs.log2 < 9000
theorem zW:jm X (binaryOp .FloorDiv) (rI v5 λi j=>.int (i.fdiv j)):=GX λ_ _ _ _ _ _ _ hc q=>floordiv_int hc.1 q (.inl (PyProof.noPylong_of_log2 hc.2))
def Au (_ j:Int):Prop:=j≠0
abbrev lA:=vm (λ_ _=>True) λi j=>.int (i - j)
abbrev xI:=vm IntMulOk λi j=>.int (i * j)
abbrev Cu:=vm v5 λi j=>.int (i.fdiv j)
abbrev oD:=vm Au λi j=>.int (i.fmod j)
abbrev Dc:=vm Dw λi j=>.int (i ^ j.toNat)
abbrev Fm:=vm (λ_ _=>True) λi j=>.bl (decide (i < j))
abbrev E8:=vm (λ_ _=>True) λi j=>.bl (decide (j < i))
abbrev HP:=vm (λ_ _=>True) λi j=>.bl (decide (j<=i))
theorem ju (ha:QE X a ta) (hb:QE X b tb):QE X (.BinOp a .Sub b pos) (aH lA ta tb):=xC DD Dg ha hb
theorem sA (ha:QE X a ta) (hb:QE X b tb):QE X (.BinOp a .Mult b pos) (aH xI ta tb):=xC AR wt ha hb
theorem CM (ha:QE X a ta) (hb:QE X b tb):QE X (.BinOp a .FloorDiv b pos) (aH Cu ta tb):=xC zW wt ha hb
theorem jv (ha:QE X a ta) (hb:QE X b tb):QE X (.BinOp a .Mod b pos) (aH oD ta tb):=xC (r:=rI Au λi j=>.int (i.fmod j)) Bz wt ha hb
theorem Cs (ha:QE X a ta) (hb:QE X b tb):QE X (.BinOp a .Pow b pos) (aH Dc ta tb):=xC DG wt ha hb
theorem CK (ha:QE X a ta) (hb:QE X b tb):QT X (.Compare a [.Lt] [b] pos) (aN (aH Fm ta tb)):=hJ FK vq ha hb (fX _)
theorem A6 (ha:QE X a ta) (hb:QE X b tb):QT X (.Compare a [.Gt] [b] pos) (aN (aH E8 ta tb)):=hJ EU vq ha hb (fX _)
theorem Hl (ha:QE X a ta) (hb:QE X b tb):QT X (.Compare a [.GtE] [b] pos) (aN (aH HP ta tb)):=hJ FV vq ha hb (fX _)
def Im (X:Cx) (r:V->Hp->VK->Prop) (f:D->(D->Prop)->Prop):Prop:=∀(B:Base) (σ:St) (F H:Hp) (env:En) (Q:D->Prop) (d:D) (x:V) (Z:VK),Rep X.K B F H σ env->Den X.K F d x->Kont X B σ env F Q Z->f d Q->r x H Z
def x9 (f:D->(D->Prop)->Prop) (ta:TD):TD:=λenv Q=>ta env λx=>f x Q
theorem G8 {op:UnaryOp} {r:V->Hp->VK->Prop} {f:D->(D->Prop)->Prop} (ho:GJ X (unaryOp op) r) (hf:Im X r f) (ha:QE X a ta):QE X (.UnaryOp op a pos) (x9 f ta):=by
 refine⟨?_⟩;intro B σ F H env Q rp h;refine cj (E4 ho bB) ?_;refine aA (ha B σ F H env _ rp h) λx H1 hq0=>?_;obtain⟨F1,d,r1,s1,d1,q1⟩:=hq0;exact hf B σ F1 H1 env Q d x _ r1 d1 (λv H' F' d' r' s' hd q=>⟨F',d',r',s1.trans s',hd,q⟩) q1
def ve (x:D) (Q:D->Prop):Prop:=match x with
 | .int i=>Q (.int (-i))
 | _=>False
theorem Al (ha:QE X a ta):QE X (.UnaryOp .USub a pos) (x9 ve ta):=by
 refine G8 Ef ?_ ha;intro B σ F H env Q d x Z rp h1 hz hf;unfold ve at hf
 split at hf
 ·simp only [Den] at h1;subst h1;exact⟨_,rfl,hz _ _ F _ rp (ak.refl _) bq hf⟩
 ·exact hf.elim
def Bm (X:Cx) (neg:Bool):R2:=λx y H Q=>∃(F:Hp) (d d':D),ak F H/\Den X.K F d x/\Den X.K F d' y/\X.A.units + dep d < cLine/\dep d < 1000/\dep d' < 1000/\Q (.bl (if neg then !aT d d' else aT d d')) H
theorem yD:jm X (compareOp .Eq) (Bm X false):=by
 intro pins s σ H x y v u Q I rx ry h;obtain⟨F,d,d',fh,h1,h2,hu,hd,hd',q⟩:=h;exact (AJ I fh d d' X.A x y v u hu hd hd' h1 h2 rx ry).1 X.prog X.w X.xe _ ⟨.bl _,H,I,rfl,q⟩
theorem rh:jm X (compareOp .NotEq) (Bm X true):=by
 intro pins s σ H x y v u Q I rx ry h;obtain⟨F,d,d',fh,h1,h2,hu,hd,hd',q⟩:=h;exact (AJ I fh d d' X.A x y v u hu hd hd' h1 h2 rx ry).2 X.prog X.w X.xe _ ⟨.bl _,H,I,rfl,q⟩
def fS (x y:D):Prop:=dep x<=60/\dep y<=60
def gX (x y:D) (Q:D->Prop):Prop:=fS x y/\Q (.bl (aT x y))
def oS (x y:D) (Q:D->Prop):Prop:=fS x y/\Q (.bl (!aT x y))
theorem B1 (hu:X.A.units + 64 < cLine):uN X (Bm X false) gX:=by
 intro B σ F H env Q d d' x y Z rp h1 h2 hz hf;obtain⟨⟨l1,l2⟩,q⟩:=hf;exact⟨F,d,d',rp.fh,h1,h2,by omega,by omega,by omega,hz _ _ F _ rp (ak.refl _) gv q⟩
theorem y8 (hu:X.A.units + 64 < cLine):uN X (Bm X true) oS:=by
 intro B σ F H env Q d d' x y Z rp h1 h2 hz hf;obtain⟨⟨l1,l2⟩,q⟩:=hf;exact⟨F,d,d',rp.fh,h1,h2,by omega,by omega,by omega,hz _ _ F _ rp (ak.refl _) gv q⟩
theorem A1 (hu:X.A.units + 64 < cLine) (ha:QE X a ta) (hb:QE X b tb):QE X (.Compare a [.Eq] [b] pos) (aH gX ta tb):=B3 yD (B1 hu) ha hb (fX _)
theorem Hs (hu:X.A.units + 64 < cLine) (ha:QE X a ta) (hb:QE X b tb):QE X (.Compare a [.NotEq] [b] pos) (aH oS ta tb):=B3 rh (y8 hu) ha hb (fX _)
theorem lB (hu:X.A.units + 64 < cLine) (ha:QE X a ta) (hb:QE X b tb):QT X (.Compare a [.Eq] [b] pos) (aN (aH gX ta tb)):=hJ yD (B1 hu) ha hb (fX _)
theorem Dq (hu:X.A.units + 64 < cLine) (ha:QE X a ta) (hb:QE X b tb):QT X (.Compare a [.NotEq] [b] pos) (aN (aH oS ta tb)):=hJ rh (y8 hu) ha hb (fX _)
def cA (x y:D) (Q:D->Prop):Prop:=match x,y with
 | .lst xs,.int i=>∃v,jz xs i=some v/\Q v
 | .tup xs,.int i=>∃v,jz xs i=some v/\Q v
 | .str z,.int i=>z.length<=sizeLine/\∃c,jz z.cps.toList i=some c/\Q (.str ⟨#[c]⟩)
 | _,_=>False
theorem ao.jz {K:IB} {F:Hp} {ds:List D} {vs:List V} {i:Int} {d:D} (r:ao K F ds vs) (h:jz ds i=some d):∃v,L2.jz vs i=some v/\Den K F d v:=by
 unfold L2.jz at h ⊢;rw [<- r.length]
 cases e:rZ ds.length i with
 | none=>rw [e] at h;cases h
 | some j =>
  rw [e] at h;exact r.get h
theorem Cf:uN X (G9 X.K) cA:=by
 intro B σ F H env Q d d' x y Z rp h1 h2 hz hf;unfold cA at hf
 split at hf
 ·simp only [Den] at h1 h2;subst h2;obtain⟨p,vs,rfl,q,r⟩:=h1;obtain⟨v,hv,qv⟩:=hf;obtain⟨w,hw,dw⟩:=r.jz hv;exact .inl ⟨p,vs,_,w,rfl,rfl,rp.fh.seq q,hw,hz _ _ F _ rp (ak.refl _) dw qv⟩
 ·simp only [Den] at h1 h2;subst h2;obtain⟨p,vs,rfl,q,r⟩:=h1;obtain⟨v,hv,qv⟩:=hf;obtain⟨w,hw,dw⟩:=r.jz hv;exact .inr (.inl ⟨p,vs,_,w,rfl,rfl,ak.bt rp.fh q,hw,hz _ _ F _ rp (ak.refl _) dw qv⟩)
 ·simp only [Den] at h1 h2;subst h1 h2;obtain⟨hl,c,hc,qv⟩:=hf;exact .inr (.inr ⟨_,_,c,rfl,rfl,hl,hc,hz _ _ F _ rp (ak.refl _) gw qv⟩)
 ·exact hf.elim
theorem bF (ha:QE X a ta) (hb:QE X b tb) (hs:kA b):QE X (.Subscript a b pos) (aH cA ta tb):=⟨λB σ F H env Q rp h=>cj (wI zq bB bB hs) (two Cf ha hb rp GO h)⟩
abbrev GU:=En->(Option Int->Prop)->Prop
def kJ (t:TD):GU:=λenv Q=>t env λx=>∃i,x=.int i/\Q (some i)
def QO (X:Cx) (e:Option Expr) (t:GU):Prop:=∃to:TO,PO X e to/\∀(B:Base) (σ:St) (F H:Hp) (env:En) (Q:Option Int->Prop) (Z:Option Int->Hp->Prop),Rep X.K B F H σ env->(∀o H' F',Rep X.K B F' H' σ env->ak F F'->Q o->Z o H')->t env Q->to σ H Z
theorem w6 (h:QE X e ta):QO X (some e) (kJ ta):=by
 refine⟨_,Bl bB,λB σ F H env Q Z rp hz hq=>?_⟩;refine aA (h B σ F H env _ rp hq) λx H1 hq0=>?_;obtain⟨F1,d,r1,s1,d1,i,hi,q1⟩:=hq0;subst hi;simp only [Den] at d1;exact⟨i,d1,hz _ _ F1 r1 s1 q1⟩
def cutD (xs:List D) (lo hi:Option Int):List D:=(xs.drop (HT.dY xs.length 0 lo)).take (HT.dY xs.length xs.length hi - HT.dY xs.length 0 lo)
def Ha (x:D) (lo hi:Option Int) (Q:D->Prop):Prop:=match x with
 | .lst xs=>Q (.lst (cutD xs lo hi))
 | .tup xs=>¬ (HT.dY xs.length 0 lo=0/\HT.dY xs.length xs.length hi=xs.length)/\Q (.tup (cutD xs lo hi))
 | _=>False
def B8 (ta:TD) (tl th:GU):TD:=λenv Q=>ta env λx=>tl env λlo=>th env λhi=>Ha x lo hi Q
theorem Hj {lo hi:Option Expr} {tl th:GU} {p2:Pos} (ha:QE X a ta) (hl:QO X lo tl) (hh:QO X hi th):QE X (.Subscript a (.Slice lo hi none p2) pos) (B8 ta tl th):=by
 refine⟨?_⟩;intro B σ F H env Q rp h;obtain⟨tl',pl,ql⟩:=hl;obtain⟨th',ph,qh⟩:=hh;refine cj (Af (BZ.or BI Cz) bB pl ph) ?_;refine aA (ha B σ F H env _ rp h) λx H1 hq0=>?_;obtain⟨F1,d,r1,s1,d1,q1⟩:=hq0;refine ql B σ F1 H1 env _ _ r1 (λlo' H2 F2 r2 s2 q2=>?_) q1;refine qh B σ F2 H2 env _ _ r2 (λhi' H3 F3 r3 s3 q3=>?_) q2;have d3:=Den.mono (s2.trans s3) _ _ d1;unfold Ha at q3
 split at q3
 ·simp only [Den] at d3;obtain⟨p,vs,rfl,q,r⟩:=d3;refine .inl ⟨p,vs,rfl,r3.fh.seq q,λw hw=>?_⟩;obtain⟨r4,s4⟩:=r3.laid (o:=.lst (o3 vs lo' hi')) hw;refine⟨_,_,r4,((s1.trans s2).trans s3).trans s4,gu (fw.of au) ?_,q3⟩;unfold o3 cutD;rw [r.length];exact ao.mono s4 _ _ ((r.drop _).take _)
 ·simp only [Den] at d3;obtain⟨p,vs,rfl,q,r⟩:=d3;refine .inr ⟨p,vs,rfl,ak.bt r3.fh q,by rw [<- r.length];exact q3.1,λw hw=>?_⟩;obtain⟨r4,s4⟩:=r3.laid (o:=.tup (o3 vs lo' hi')) hw;refine⟨_,_,r4,((s1.trans s2).trans s3).trans s4,fb (fB.of au) ?_,q3.2⟩;unfold o3 cutD;rw [r.length];exact ao.mono s4 _ _ ((r.drop _).take _)
 ·exact q3.elim
def Call3 (X:Cx) (r:List V->Hp->VK->Prop) (f:List D->(D->Prop)->Prop):Prop:=∀(B:Base) (σ:St) (F H:Hp) (env:En) (Q:D->Prop) (ds:List D) (vs:List V) (Z:VK),Rep X.K B F H σ env->ao X.K F ds vs->Kont X B σ env F Q Z->f ds Q->r vs H Z
def aB (f:List D->(D->Prop)->Prop) (ts:d7):TD:=λenv Q=>ts env λxs=>f xs Q
theorem BY {r:List V->Hp->VK->Prop} {f:List D->(D->Prop)->Prop} (hf:Call3 X r f) (ha:QA X es ts) {B:Base} {σ:St} {F H:Hp} {env:En} {Q:D->Prop} (rp:Rep X.K B F H σ env) (h:aB f ts env Q):G7 r (wA X es) σ H (RV X B σ env F Q):=by
 refine cH (ha B σ F H env _ rp h) λvs H1 hq0=>?_;obtain⟨F1,ds,r1,s1,d1,q1⟩:=hq0;exact hf B σ F1 H1 env Q ds vs _ r1 d1 (λv H' F' d' r' s' hd q=>⟨F',d',r',s1.trans s',hd,q⟩) q1
theorem mZ {id:String} {r:List V->Hp->VK->Prop} {f:List D->(D->Prop)->Prop} {x:Str} {p:Pos} (hc:eQ X (.builtin id) r) (hf:Call3 X r f) (hg:Gl X x) (hm:X.mg x=none) (hv:bootBuiltins x=some (.builtin id)) (ha:QA X (e :: es) ts)
  (hn:x≠"__name__":=by decide) (hdb:(x == ("__debug__" : Str))=false:=by decide) (he:starEach (e :: es) X.env=(false,eval e X.env) :: starEach es X.env:=by exact aV rfl) (hpl:(backTo pos (starEach es X.env)).any (·.1)=false:=by rfl) :
  QE X (.Call (.Name x p) (e :: es) [] pos) (aB f ts):=⟨λB σ F H env Q rp h=>cj (uk hc hg hm hv ji hn hdb he hpl) (BY hf ha rp h)⟩
theorem tD {T:String} {r:List V->Hp->VK->Prop} {f:List D->(D->Prop)->Prop} {x:Str} {p:Pos} (hc:eQ X (.type T) r) (hf:Call3 X r f) (hg:Gl X x) (hm:X.mg x=none) (hv:bootBuiltins x=some (.type T)) (ha:QA X (e :: es) ts)
  (hn:x≠"__name__":=by decide) (hdb:(x == ("__debug__" : Str))=false:=by decide) (he:starEach (e :: es) X.env=(false,eval e X.env) :: starEach es X.env:=by exact aV rfl) (hpl:(backTo pos (starEach es X.env)).any (·.1)=false:=by rfl) :
  QE X (.Call (.Name x p) (e :: es) [] pos) (aB f ts):=⟨λB σ F H env Q rp h=>cj (kW hc hg hm hv ji hn hdb he hpl) (BY hf ha rp h)⟩
end
theorem xZ:bootBuiltins "abs" = some (.builtin "abs"):=by decide +kernel
theorem xM:bootBuiltins "max" = some (.builtin "max"):=by decide +kernel
theorem xB:bootBuiltins "min" = some (.builtin "min"):=by decide +kernel
theorem pS:bootBuiltins "len" = some (.builtin "len"):=by decide +kernel
theorem xf:bootBuiltins "int" = some (.type "int"):=by decide +kernel
theorem oG:bootBuiltins "list" = some (.type "list"):=by decide +kernel
theorem tZ:bootBuiltins "tuple" = some (.type "tuple"):=by decide +kernel
section
variable {X:Cx} {a b c e:Expr} {es:List Expr} {ta tb tc:TD} {tA tB':TB} {ts:d7} {pos:Pos} {rest:List Expr}
def ym (ds:List D) (Q:D->Prop):Prop:=match ds with
 | [.int i]=>Q (.int (if i < 0 then -i else i))
 | _=>False
theorem DK:Call3 X (λxs H Q=>∃i,xs=[.int i]/\Q (.int (if i < 0 then -i else i)) H) ym:=by
 intro B σ F H env Q ds vs Z rp h hz hf;unfold ym at hf
 split at hf
 ·simp only [ao,Den] at h;obtain⟨v,r,rfl,rfl,rfl⟩:=h;exact⟨_,rfl,hz _ _ F _ rp (ak.refl _) bq hf⟩
 ·exact hf.elim
def jj (ds:List D) (Q:D->Prop):Prop:=match ds with
 | [.lst xs]=>Q (.int xs.length)
 | [.tup xs]=>Q (.int xs.length)
 | [.str z]=>z.length<=sizeLine/\Q (.int z.length)
 | _=>False
theorem DJ:Call3 X (λxs H Q=>(∃p ys,xs=[.ref p]/\(fw X.K H p ys\/fB X.K H p ys)/\Q (.int ys.length) H)\/∃z,xs=[.str z]/\z.length<=sizeLine/\Q (.int z.length) H) jj:=by
 intro B σ F H env Q ds vs Z rp h hz hf;unfold jj at hf
 split at hf
 ·simp only [ao,Den] at h;obtain⟨v,r,rfl,⟨p,ys,rfl,q,r⟩,rfl⟩:=h;refine .inl ⟨p,ys,rfl,.inl (rp.fh.seq q),hz _ _ F _ rp (ak.refl _) bq ?_⟩;rw [<- r.length];exact hf
 ·simp only [ao,Den] at h;obtain⟨v,r,rfl,⟨p,ys,rfl,q,r⟩,rfl⟩:=h;refine .inl ⟨p,ys,rfl,.inr (ak.bt rp.fh q),hz _ _ F _ rp (ak.refl _) bq ?_⟩;rw [<- r.length];exact hf
 ·simp only [ao,Den] at h;obtain⟨v,r,rfl,rfl,rfl⟩:=h;exact .inr ⟨_,rfl,hf.1,hz _ _ F _ rp (ak.refl _) bq hf.2⟩
 ·exact hf.elim
def yW (ds:List D) (Q:D->Prop):Prop:=match ds with
 | [.int i,.int j]=>Q (.int (if j > i then j else i))
 | _=>False
def zQ (ds:List D) (Q:D->Prop):Prop:=match ds with
 | [.int i,.int j]=>Q (.int (if j < i then j else i))
 | _=>False
theorem CD:Call3 X (λxs H Q=>∃i j,xs=[.int i,.int j]/\Q (.int (if j > i then j else i)) H) yW:=by
 intro B σ F H env Q ds vs Z rp h hz hf;unfold yW at hf
 split at hf
 ·simp only [ao,Den] at h;obtain⟨v,r,rfl,rfl,v',r',rfl,rfl,rfl⟩:=h;exact⟨_,_,rfl,hz _ _ F _ rp (ak.refl _) bq hf⟩
 ·exact hf.elim
theorem Ei:Call3 X (λxs H Q=>∃i j,xs=[.int i,.int j]/\Q (.int (if j < i then j else i)) H) zQ:=by
 intro B σ F H env Q ds vs Z rp h hz hf;unfold zQ at hf
 split at hf
 ·simp only [ao,Den] at h;obtain⟨v,r,rfl,rfl,v',r',rfl,rfl,rfl⟩:=h;exact⟨_,_,rfl,hz _ _ F _ rp (ak.refl _) bq hf⟩
 ·exact hf.elim
def rd (ds:List D) (Q:D->Prop):Prop:=match ds with
 | [.int i]=>Q (.int i)
 | [.bl k]=>Q (.int (if k then 1 else 0))
 | _=>False
theorem Di:Call3 X (λxs H Q=>(∃i,xs=[.int i]/\Q (.int i) H)\/∃k,xs=[.bl k]/\Q (.int (if k then 1 else 0)) H) rd:=by
 intro B σ F H env Q ds vs Z rp h hz hf;unfold rd at hf
 split at hf
 ·simp only [ao,Den] at h;obtain⟨v,r,rfl,rfl,rfl⟩:=h;exact .inl ⟨_,rfl,hz _ _ F _ rp (ak.refl _) bq hf⟩
 ·simp only [ao,Den] at h;obtain⟨v,r,rfl,rfl,rfl⟩:=h;exact .inr ⟨_,rfl,hz _ _ F _ rp (ak.refl _) bq hf⟩
 ·exact hf.elim
def fH (ds:List D) (Q:D->Prop):Prop:=match ds with
 | [.lst xs]=>Q (.tup xs)
 | [.tup xs]=>Q (.tup xs)
 | _=>False
theorem zM:Call3 X (λxs H Q=>∃p ys,xs=[.ref p]/\((fw X.K H p ys/\∀l,H l=none->Q (.ref l) (upd H l (.tup ys)))\/(fB X.K H p ys/\Q (.ref p) H))) fH:=by
 intro B σ F H env Q ds vs Z rp h hz hf;unfold fH at hf
 split at hf
 ·simp only [ao,Den] at h;obtain⟨v,r,rfl,⟨p,ys,rfl,q,r⟩,rfl⟩:=h;refine⟨p,ys,rfl,.inl ⟨rp.fh.seq q,λw hw=>?_⟩⟩;obtain⟨r2,s2⟩:=rp.laid (o:=.tup ys) hw;exact hz _ _ _ _ r2 s2 (fb (fB.of au) (ao.mono s2 _ _ r)) hf
 ·simp only [ao,Den] at h;obtain⟨v,r,rfl,⟨p,ys,rfl,q,r⟩,rfl⟩:=h;exact⟨p,ys,rfl,.inr ⟨ak.bt rp.fh q,hz _ _ F _ rp (ak.refl _) (fb q r) hf⟩⟩
 ·exact hf.elim
end
section
variable {K:IB} {B:Base} {F H:Hp} {σ:St} {env:En}
theorem Rep.bare (r:Rep K B F H σ env):Rep K B F H [] [] :=
 ⟨r.f0,r.fh,r.h0,r.nf,λi x q=>by simp at q,λi x q=>by simp at q,λi j _ _ _ _ q=>by simp at q,λi x q=>by simp at q,λi j _ _ _ _ q=>by simp at q⟩
end
section
variable {X:Cx} {a b c e:Expr} {es:List Expr} {ta tb tc:TD} {tA tB':TB} {ts:d7} {pos:Pos} {rest:List Expr} {st:Stmt} {sts:List Stmt} {t u:bG}
def bM:bG:=λD env=>D.nx env
def aG (t u:bG):bG:=λD env=>t { D with nx:=u D } env
theorem bp:m7 X [] bM:=⟨λB σ F H env D rp h=>kU AY ⟨F,env,rp,h⟩⟩
theorem aq (h1:QS X st t):m7 X [st] t:=⟨λB σ F H env D rp h=>kU (qW zY) (h1 B σ F H env D rp h)⟩
theorem ah (h1:QS X st t) (h2:m7 X sts u):m7 X (st :: sts) (aG t u):=by
 refine⟨?_⟩;intro B σ F H env D rp h;refine kU (sk zY dI) ?_;exact wV (h1 B σ F H env _ rp h) (λσ' H' ⟨F',env',rp',q⟩=>h2 B σ' F' H' env' D rp' q) (λ_ _ q=>q) (λ_ _ q=>q) (λ_ _ q=>q)
def iw:bG:=λD env=>D.bk env
theorem zR:QS X (.Break pos) iw:=⟨λB σ F H env D rp h=>df zu ⟨F,env,rp,h⟩⟩
def b9 (te:TD):bG:=λD env=>te env D.rt
theorem aY (he:QE X e ta):QS X (.Return (some e) pos) (b9 ta):=by
 refine⟨?_⟩;intro B σ F H env D rp h;refine df (Ai bB) ?_;exact aA (he B σ F H env _ rp h) λv H' ⟨F',d,r',s',hd,q⟩=>⟨F',d,r'.bare,hd,q⟩
def gG (c:TB) (t u:bG):bG:=λD env=>c env λk=>if k=true then t D env else u D env
theorem cD {xs ys:List Stmt} (hc:QT X c tA) (ha:m7 X xs t) (hb:m7 X ys u):QS X (.If c xs ys pos) (gG tA t u):=by
 refine⟨?_⟩;intro B σ F H env D rp h;refine df (zz rK dI dI) ?_;refine gJ (hc B σ F H env _ rp h) λk H1 ⟨F1,r1,s1,q1⟩=>?_
 cases k with
 | true=>exact ha B σ F1 H1 env D r1 q1
 | false=>exact hb B σ F1 H1 env D r1 q1
abbrev mT:=D->En->(En->Prop)->Prop
abbrev rV:=List D->En->(En->Prop)->Prop
def wG (X:Cx) (tg:Expr):TG:=λv σ H Q=>∀(pins:List (Addr×Obj)) (s:Shared) (u:Value),Inv X pins σ H s->RelV v u ->
 wpAny (model X.prog X.w) X.A (assign tg X.env u) (λ_ s'=>∃σ' H',Inv X pins σ' H' s'/\Q σ' H') X.xe s
def ES (X:Cx) (tg:List Expr):AM:=λvs σ H Q=>∀(pins:List (Addr×Obj)) (s:Shared) (us:List Value),Inv X pins σ H s->Vals vs us ->
 wpAny (model X.prog X.w) X.A (assignInOrder ((assignEach tg X.env).map (·.2)) us) (λ_ s'=>∃σ' H',Inv X pins σ' H' s'/\Q σ' H') X.xe s
theorem uo {tg:Expr}:PG X tg (wG X tg):=λpins s σ H v u Q I r h=>h pins s u I r
theorem Cq {tg:List Expr}:EM X tg (ES X tg):=λpins s σ H v u Q I r h=>h pins s u I r
theorem Gi {tg:Expr} {g:TG} {v:V} {σ:St} {H:Hp} {Q:St->Hp->Prop} (h:PG X tg g) (q:g v σ H Q):wG X tg v σ H Q:=λpins s u I r=>h pins s σ H v u Q I r q
theorem Ax {tg:List Expr} {g:AM} {v:List V} {σ:St} {H:Hp} {Q:St->Hp->Prop} (h:EM X tg g) (q:g v σ H Q):ES X tg v σ H Q:=λpins s u I r=>h pins s σ H v u Q I r q
theorem gN {tg:Expr} {v:V} {σ:St} {H:Hp} {Q Q':St->Hp->Prop} (h:wG X tg v σ H Q) (i:∀σ H,Q σ H->Q' σ H):wG X tg v σ H Q':=λpins s u I r=>bQ (h pins s u I r) λ_ _ ⟨σ',H',I',q⟩=>⟨σ',H',I',i _ _ q⟩
theorem yc {tg:List Expr} {v:List V} {σ:St} {H:Hp} {Q Q':St->Hp->Prop} (h:ES X tg v σ H Q) (i:∀σ H,Q σ H->Q' σ H):ES X tg v σ H Q':=λpins s u I r=>bQ (h pins s u I r) λ_ _ ⟨σ',H',I',q⟩=>⟨σ',H',I',i _ _ q⟩
def RG (X:Cx) (B:Base) (F:Hp) (Q:En->Prop):St->Hp->Prop:=λσ' H'=>∃F' env',Rep X.K B F' H' σ' env'/\ak F F'/\Q env'
structure QG (X:Cx) (tg:Expr) (g:mT):Prop where
 of ::
 run:∀(B:Base) (σ:St) (F H:Hp) (env:En) (Q:En->Prop) (d:D) (v:V),Rep X.K B F H σ env->Den X.K F d v->g d env Q->wG X tg v σ H (RG X B F Q)
instance {X:Cx} {tg:Expr} {g:mT}:CoeFun (QG X tg g) (λ_=>∀(B:Base) (σ:St) (F H:Hp) (env:En) (Q:En->Prop) (d:D) (v:V),Rep X.K B F H σ env->Den X.K F d v->g d env Q->wG X tg v σ H (RG X B F Q)):=⟨QG.run⟩
structure EL (X:Cx) (tg:List Expr) (g:rV):Prop where
 of ::
 run:∀(B:Base) (σ:St) (F H:Hp) (env:En) (Q:En->Prop) (ds:List D) (vs:List V),Rep X.K B F H σ env->ao X.K F ds vs->g ds env Q->ES X tg vs σ H (RG X B F Q)
instance {X:Cx} {tg:List Expr} {g:rV}:CoeFun (EL X tg g) (λ_=>∀(B:Base) (σ:St) (F H:Hp) (env:En) (Q:En->Prop) (ds:List D) (vs:List V),Rep X.K B F H σ env->ao X.K F ds vs->g ds env Q->ES X tg vs σ H (RG X B F Q)):=⟨EL.run⟩
def aW (i:Nat):mT:=λx env Q=>Q (env.set i (some (.d x)))
theorem aL {x:Str} (i:Nat) (hN:X.N.Nodup) (hi:X.N[i]?=some x:=by rfl) (hx:Loc X.env.scope x:=by first|exact Or.inl rfl|exact Or.inr rfl) (hf:X.fn x=true\/X.env.scope.names.lookup x=some .local:=by first|exact .inl rfl|exact .inr rfl):QG X (.Name x pos) (aW i):=by
 refine⟨?_⟩;intro B σ F H env Q d v rp hd h pins s u I r;refine AK (i:=i) hN hi hx hf pins s σ H v u _ I r ?_;refine⟨F,_,rp.set hd ?_,ak.refl _,h⟩;rw [I.len];exact (Iy.mp hi).1
def gU:rV:=λxs env Q=>xs=[]/\Q env
def cw (g:mT) (gs:rV):rV:=λxs env Q=>∃x r,xs=x :: r/\g x env λenv'=>gs r env' Q
theorem fg:EL X [] gU:=by
 refine⟨?_⟩;intro B σ F H env Q ds vs rp hd h;obtain⟨rfl,q⟩:=h;simp only [ao] at hd;exact Ax BB ⟨hd,F,env,rp,ak.refl _,q⟩
theorem a7 {g:mT} {gs:rV} (h1:QG X e g) (h2:EL X es gs) (hs:(assignEach (e :: es) X.env).map (·.2)=assign e X.env :: (assignEach es X.env).map (·.2):=by rfl):EL X (e :: es) (cw g gs):=by
 refine⟨?_⟩;intro B σ F H env Q ds vs rp hd h;obtain⟨x,r,rfl,q⟩:=h;simp only [ao] at hd;obtain⟨v,vr,rfl,a1,b1⟩:=hd;refine Ax (Ak uo Cq hs) ⟨v,vr,rfl,?_⟩;refine gN (h1 B σ F H env _ x v rp a1 q) λσ1 H1 hq0=>?_;obtain⟨F1,env1,r1,s1,q1⟩:=hq0;exact yc (h2 B σ1 F1 H1 env1 Q r vr r1 (ao.mono s1 _ _ b1) q1) λσ2 H2 ⟨F2,env2,r2,s2,q2⟩=>⟨F2,env2,r2,s1.trans s2,q2⟩
def gV (n:Nat) (gs:rV):mT:=λx env Q=>∃xs,x=.tup xs/\xs.length=n/\gs xs env Q
theorem gC {k n:Nat} {gs:rV} (hc:X.calm=true) (h:EL X es gs) (hn:(assignEach es X.env).length=n:=by rfl) (hst:(assignEach es X.env).findIdx? (·.1)=none:=by rfl):QG X (.Tuple es k pos) (gV n gs):=by
 refine⟨?_⟩;intro B σ F H env Q d v rp hd hq;obtain⟨xs,rfl,hl,q⟩:=hq;simp only [Den] at hd;obtain⟨p,vs,rfl,hs,r⟩:=hd;refine Gi (Du hc Cq hn hst) ⟨p,vs,rfl,ak.bt rp.fh hs,by rw [<- r.length];exact hl,?_⟩;exact h B σ F H env Q xs vs rp r q
def mP (te:TD) (g:mT):bG:=λD env=>te env λx=>g x env D.nx
theorem oI {tg:Expr} {g:mT} (he:QE X e ta) (hg:QG X tg g) (hs:swapsWithSole [tg] e pos.line X.env=pure false:=by rfl) (hw:swappedStores [tg] e X.env=pure none:=by rfl)
  (h1:(assignEach [tg] X.env).map (·.2)=[assign tg X.env]:=by rfl):QS X (.Assign [tg] e pos) (mP ta g):=by
 refine⟨?_⟩;intro B σ F H env D rp h;refine df (vE bB uo hs hw h1) ?_;refine aA (he B σ F H env _ rp h) λv H1 hq0=>?_;obtain⟨F1,d,r1,s1,d1,q1⟩:=hq0;exact gN (hg B σ F1 H1 env _ d v r1 d1 q1) λσ2 H2 ⟨F2,env2,r2,s2,q2⟩=>⟨F2,env2,r2,q2⟩
def bH (i:Nat) (te:TD):bG:=λD env=>te env λx=>D.nx (env.set i (some (.d x)))
theorem aP {x:Str} {pos':Pos} (i:Nat) (hN:X.N.Nodup) (he:QE X e ta) (hi:X.N[i]?=some x:=by rfl) (hx:Loc X.env.scope x:=by first|exact Or.inl rfl|exact Or.inr rfl) (hs:swapsWith e (some (.Name x pos')) pos.line X.env=pure false:=by rfl)
  (hf:X.fn x=true\/X.env.scope.names.lookup x=some .local:=by first|exact .inl rfl|exact .inr rfl):QS X (.Assign [.Name x pos'] e pos) (bH i ta):=by
 refine⟨?_⟩;intro B σ F H env D rp h pins s I;refine lF (i:=i) hN hi hx bB hs hf pins s σ H _ I ?_;refine aA (he B σ F H env _ rp h) λv H1 ⟨F1,d,r1,s1,d1,q1⟩=>⟨F1,_,r1.set d1 ?_,q1⟩;rw [I.len];exact (Iy.mp hi).1
def gL (c:TB) (tb:bG):bG:=λD env=>∃(I:En->Prop) (μ:En->Nat),I env/\∀env,I env->c env λk=>if k=true then tb { D with nx:=λe'=>I e'/\μ e' < μ env,ct:=λe'=>I e'/\μ e' < μ env,bk:=D.nx } env else D.nx env
theorem kG {body:List Stmt} (hp:PassesOwn (model X.prog X.w) X.A X.env X.xe) (hc:QT X c tA) (hb:m7 X body t):QS X (.While c body [] pos) (gL tA t):=by
 refine⟨?_⟩;intro B σ F H env D rp h;obtain⟨I,μ,i0,turn⟩:=h;refine df (t9 hp rK dI) ?_;refine⟨λm σ H=>∃F env,Rep X.K B F H σ env/\I env/\μ env=m,⟨_,F,env,rp,i0,rfl⟩,?_⟩
 rintro m σ1 H1 ⟨F1,env1,r1,i1,rfl⟩;refine gJ (hc B σ1 F1 H1 env1 _ r1 (turn env1 i1)) λk H2 ⟨F2,r2,s2,q2⟩=>?_
 cases k with
 | false=>exact⟨F2,env1,r2,q2⟩
 | true =>
  refine⟨λσ' H'=>∃F' env',Rep X.K B F' H' σ' env'/\I env'/\μ env' < μ env1,λσ' H' ⟨F',env',r',i',l⟩=>⟨_,l,F',env',r',i',rfl⟩,?_⟩;exact hb B σ1 F2 H2 env1 _ r2 q2
def turns (g:mT) (tb:bG) (Z:Ends3):List D->En->Prop
 | [],env=>Z.nx env
 | x :: xs,env=>g x env λenv'=>tb { Z with nx:=turns g tb Z xs,ct:=turns g tb Z xs,bk:=Z.nx } env'
def eD (z:Str):List D:=z.cps.toList.map λc=>.str ⟨#[c]⟩
def dB:D->Option (List D)
 | .lst xs=>some xs
 | .tup xs=>some xs
 | .str z=>some (eD z)
 | _=>none
def GC (z:Str):It:=⟨λi _=>i < z.cps.size,λi H v H'=>H'=H/\∃c,z.cps[i]?=some c/\v=.str ⟨#[c]⟩,λi _=>z.cps.size<=i⟩
theorem sx {P:Program} {w:World} {K:IB} {tg:Expr} (it:Addr) (z:Str) (t:Tok) (nm:String) (hn:["enumerate","zip","dict_itemiterator","dict_reverseitemiterator","odict_iterator","itertools.zip_longest","itertools.pairwise"].contains nm=false)
  (W:∀A:Around,A.handled=none->Walks P w A it [it] [it] z.cps.size (SignAt z) (λi h=>h.IsStrIter it nm z t i)) (sf:∀(A:Around) (i:Nat) (s:Shared) (Q:Value->Shared->Prop) (E:Value->Shared->Prop),s.heap.IsStrIter it nm z t i->Q (.ref it) s->wpAny (model P w) A (pyIter (.ref it)) Q E s)
  (dn:∀(A:Around) (i:Nat) (s:Shared) (Q:Option Value->Shared->Prop) (E:Value->Shared->Prop),A.handled=none->s.heap.IsStrIter it nm z t i->z.cps[i]?=none->(∀h',Heap.ExtBut it s.heap h'->Q none { s with heap:=h' })->wpAny (model P w) A (pyNext (.ref it)) Q E s) :
  Turn P w K tg (GC z) [it] it (λi h=>h.IsStrIter it nm z t i) where
 mem:=by simp
 obj:=λi h st b hb=>by
  have e:b=it:=by simpa using hb
  subst e;obtain⟨o,e,c,d⟩:=st;exact⟨o,e,λv z=>by rw [d] at z;cases z⟩
 keep:=λi h h' st k=>by
  obtain⟨o,e,c,d⟩:=st;exact⟨o,k it (by simp) o e,c,d⟩
 item:=by
  intro X hP hw hK hc i pins s σ H E I hf st hg;subst hP hw hK;obtain⟨f0,f1,f2,f3,f4,f5⟩:=hf it (by simp);refine (W X.A (I.ok.hd hc)).item i s _ _ hg st λv h' tk hv st' kk=>?_;obtain⟨c,u,hc',rfl⟩:=hv;have I1:Inv X pins σ H { s with heap:=h',toks:=tk }:=I.turned (λb o hb e=>kk b o (by simpa using hb) e) f0 f1 f3 f4 f5;obtain⟨o,e,c',d⟩:=id st';exact⟨_,rfl,ug (s:={ s with heap:=h',toks:=tk }) e c' d hn ⟨.str ⟨#[c]⟩,H,I1,⟨u,rfl⟩,⟨rfl,c,hc',rfl⟩,st',λb hb=>(hf b hb).1⟩⟩
 done:=by
  intro X hP hw hK hc i pins s σ H E I hf st hg;subst hP hw hK;obtain⟨f0,f1,f2,f3,f4,f5⟩:=hf it (by simp);have hg':z.cps.size<=i:=hg;exact dn X.A i s _ _ (I.ok.hd hc) st (by simp;exact hg') λh' eb=>⟨rfl,I.turned (t':=s.toks) (λb o hb e=>eb b o hb e) f0 f1 f3 f4 f5⟩
 self:=λA i s Q E st h=>sf A i s Q E st h
def FH (K:IB) (tl:TE):TI:=λσ H R=>tl σ H λx H1=>(∃a,x=.ref a/\(((∃xs,fw K H1 a xs)/\R (GN K a) H1)\/((∃xs,fB K H1 a xs)/\R (GL K a) H1)))\/∃z,x=.str z/\R (GC z) H1
theorem yl {tg l:Expr} {tl:TE} (hl:PE X l tl):PI X tg l (FH X.K tl):=by
 intro pins s σ H R I h;refine bQ (hl pins s σ H _ I h) λv s1 hq0=>?_;obtain⟨x,H1,I1,r1,q1⟩:=hq0;rcases q1 with ⟨a,e,q⟩|⟨z,e,q⟩
 rotate_left
 ·subst e;obtain⟨t,rfl⟩:=r1
  have fin:∀(o:Obj) (nm:String),(∀v,o.data≠.cell v)->Turn X.prog X.w X.K tg (GC z) [s1.heap.objs.size] s1.heap.objs.size (λi h=>h.IsStrIter s1.heap.objs.size nm z t i)->(s1.heap.push o).IsStrIter s1.heap.objs.size nm z t 0 ->
    GI X pins σ tg R (.ref s1.heap.objs.size) { s1 with heap:=s1.heap.push o }:=λo nm hcell T st=>by
   refine⟨s1.heap.objs.size,[s1.heap.objs.size],_,_,H1,rfl,I1.kept (t':=s1.toks) λb o e=>IC _ e,T,st,λb hb=>?_,q⟩;have e:b=s1.heap.objs.size:=by simpa using hb
   subst e;exact I1.vy (II _) (I1.hok.fresh (II _))
  cases ha:z.cps.all (· < 128)
  ·exact wpAny_pyIter_wide ha (fin _ "str_iterator" (λv e=>by cases e) (sx _ z t "str_iterator" (by decide) (λA hA=>Walks.strWide hA _ z t) (λA i s Q E st h=>wpAny_pyIter_striter_wide st h) (λA i s Q E hh st hx h=>wpAny_pyNext_wide_end hh st hx h)) ⟨_,IS _ rfl,rfl,rfl⟩)
  ·exact wpAny_pyIter_ascii ha (fin _ "str_ascii_iterator" (λv e=>by cases e) (sx _ z t "str_ascii_iterator" (by decide) (λA hA=>Walks.strAscii hA _ z t) (λA i s Q E st h=>wpAny_pyIter_striter_ascii st h) (λA i s Q E hh st hx h=>wpAny_pyNext_ascii_end hh st hx h)) ⟨_,IS _ rfl,rfl,rfl⟩)
 subst e;cases r1;rcases q with ⟨⟨xs,hq⟩,q⟩|⟨⟨xs,hq⟩,q⟩
 ·obtain⟨its,rv,p,hz⟩:=I1.list hq;refine wpAny_pyIter_list p.isList ?_;refine⟨s1.heap.objs.size,[s1.heap.objs.size],_,_,H1,rfl,I1.kept (t':=s1.toks) λb o e=>IC _ e,xg a _,⟨_,IS _ rfl,rfl,rfl⟩,λb hb=>?_,q⟩;have e:b=s1.heap.objs.size:=by simpa using hb
  subst e;exact I1.vy (II _) (I1.hok.fresh (II _))
 ·obtain⟨its,rv,p,hz⟩:=I1.tuple hq;refine wpAny_pyIter_tuple (show s1.heap.IsTuple a its.toArray from p) ?_;refine⟨s1.heap.objs.size,[s1.heap.objs.size],_,_,H1,rfl,I1.kept (t':=s1.toks) λb o e=>IC _ e,vx a _,⟨_,IS _ rfl,rfl,rfl⟩,λb hb=>?_,q⟩;have e:b=s1.heap.objs.size:=by simpa using hb
  subst e;exact I1.vy (II _) (I1.hok.fresh (II _))
theorem vo {K:IB} {F:Hp} (z:Str):ao K F (eD z) (z.cps.toList.map λc=>V.str ⟨#[c]⟩):=by
 unfold eD
 induction z.cps.toList with
 | nil=>exact aJ
 | cons c r ih=>exact aF gw ih
def kE (te:TD) (g:mT) (tb:bG):bG:=λD env=>te env λx=>∃xs,dB x=some xs/\turns g tb D xs env
theorem drop_cons {α:Type} {xs:List α} {i:Nat} {x:α} (h:xs[i]?=some x):xs.drop i=x :: xs.drop (i + 1):=by
 obtain⟨hl,e⟩:=Iy.mp h;rw [List.drop_eq_getElem_cons hl,e]
theorem RS.same {B:Base} {G:Hp} {D:Ends3} (s:ak B.F G):(∀σ H,(RS X ⟨G,B.H,B.N,B.nb⟩ D).nx σ H->(RS X B D).nx σ H)/\(∀v H,(RS X ⟨G,B.H,B.N,B.nb⟩ D).rt v H->(RS X B D).rt v H) /\
  (∀σ H,(RS X ⟨G,B.H,B.N,B.nb⟩ D).bk σ H->(RS X B D).bk σ H)/\(∀σ H,(RS X ⟨G,B.H,B.N,B.nb⟩ D).ct σ H->(RS X B D).ct σ H) :=
 ⟨λ_ _ ⟨F',env',r,q⟩=>⟨F',env',r.back s,q⟩,λ_ _ ⟨F',d,r,hd,q⟩=>⟨F',d,r.back s,hd,q⟩,λ_ _ ⟨F',env',r,q⟩=>⟨F',env',r.back s,q⟩,λ_ _ ⟨F',env',r,q⟩=>⟨F',env',r.back s,q⟩⟩
theorem lD {tg iter:Expr} {body:List Stmt} {g:mT} (hp:PassesOwn (model X.prog X.w) X.A X.env X.xe) (hc:X.calm=true) (hi:QE X iter ta) (hg:QG X tg g) (hb:m7 X body t)
  (hs:∀x,Jt iter X.env x=pure x:=by intro _;rfl):QS X (.For tg iter body [] pos) (kE ta g t):=by
 refine⟨?_⟩;intro B σ F H env D rp h;refine df (lM hp hc (yl bB) uo dI hs) ?_;refine aA (hi B σ F H env _ rp h) λv H1 hq0=>?_;obtain⟨F1,d,r1,s1,d1,xs,hx,q1⟩:=hq0
 have core:∀(a:Addr) (vs:List V) (J:It),ao X.K F1 xs vs->(∀(i:Nat) (x:V) (G H':Hp),ak F1 G->ak G H'->vs[i]?=some x->J.go i H')->(∀(i:Nat) (x:V) (G H':Hp) (y:V) (H'':Hp),ak F1 G->ak G H'->vs[i]?=some x->J.yld i H' y H''->H''=H'/\y=x) ->
   (∀(G H':Hp),ak F1 G->ak G H'->J.stop vs.length H') ->
   ∃W:Nat->Nat->St->Hp->Prop,(∃m,W 0 m σ H1)/\∀i m σ H,W i m σ H->(J.stop i H/\(RS X B D).nx σ H)\/(J.go i H/\∃N:St->Hp->Prop,(∀σ' H',N σ' H'->∃m',m' < m/\W (i + 1) m' σ' H') /\
    ∀x H',J.yld i H x H'->wG X tg x σ H' λσ2 H2=>wSs X body { RS X B D with nx:=N,ct:=N,bk:=(RS X B D).nx } σ2 H2):=by
  intro a vs J dl go yld stop;have hlen:=dl.length;refine⟨λi m σ H=>m=vs.length - i/\i<=vs.length/\∃F env,Rep X.K ⟨F1,B.H,B.N,B.nb⟩ F H σ env/\turns g t D (xs.drop i) env,⟨vs.length,by simp,Ju _,F1,env,r1.now,by simpa using q1⟩,?_⟩
  rintro i m σ2 H2 ⟨rfl,hi2,F2,env2,r2,q2⟩
  by_cases hlt:i < vs.length
  ·have hv:vs[i]?=some vs[i]:=by simp [hlt]
   obtain⟨dx,hdx,ddx⟩:=dl.FR hv;rw [drop_cons hdx] at q2;refine .inr ⟨go i _ F2 H2 r2.f0 r2.fh hv,λσ' H'=>∃F env,Rep X.K ⟨F1,B.H,B.N,B.nb⟩ F H' σ' env/\turns g t D (xs.drop (i + 1)) env,λσ' H' ⟨F',env',r',q'⟩=>⟨vs.length - (i + 1),by omega,rfl,by omega,F',env',r',q'⟩,λy H' hy=>?_⟩;obtain⟨rfl,rfl⟩:=yld i _ F2 H2 y H' r2.f0 r2.fh hv hy;have st:=hg ⟨F1,B.H,B.N,B.nb⟩ σ2 F2 _ env2 _ dx _ r2 (Den.mono r2.f0 _ _ ddx) q2
   refine gN st λσ3 H3 hq0=>?_;obtain⟨F3,env3,r3,s3,q3⟩:=hq0;have bd:=hb ⟨F1,B.H,B.N,B.nb⟩ σ3 F3 H3 env3 _ r3 q3;obtain⟨z1,z2,z3,z4⟩:=RS.same (X:=X) (B:=B) (D:=D) (r1.f0);exact ib bd (λ_ _ q=>q) z2 z1 (λ_ _ q=>q)
  ·have e:i=vs.length:=by omega
   subst e;rw [JE (by omega)] at q2;exact .inl ⟨stop F2 H2 r2.f0 r2.fh,F2,env2,r2.back r1.f0,q2⟩
 cases d with
 | lst ys =>
  simp only [dB] at hx;cases hx;simp only [Den] at d1;obtain⟨a,vs,rfl,q,r⟩:=d1;refine .inl ⟨a,rfl,.inl ⟨⟨vs,r1.fh.seq q⟩,core a vs (GN X.K a) r (λi x G H' s1 s2 hv=>⟨vs,x,s2.seq (s1.seq q),hv⟩) (λi x G H' y H'' s1 s2 hv hy=>?_) (λG H' s1 s2=>⟨vs,s2.seq (s1.seq q),II _⟩)⟩⟩;obtain⟨e1,e2⟩:=hy;have:=e2 vs (s2.seq (s1.seq q));rw [hv] at this
  exact⟨e1,(IL this).symm⟩
 | tup ys =>
  simp only [dB] at hx;cases hx;simp only [Den] at d1;obtain⟨a,vs,rfl,q,r⟩:=d1;refine .inl ⟨a,rfl,.inr ⟨⟨vs,ak.bt r1.fh q⟩,core a vs (GL X.K a) r (λi x G H' s1 s2 hv=>⟨vs,x,ak.bt s2 (ak.bt s1 q),hv⟩) (λi x G H' y H'' s1 s2 hv hy=>?_) (λG H' s1 s2=>⟨vs,ak.bt s2 (ak.bt s1 q),II _⟩)⟩⟩;obtain⟨e1,e2⟩:=hy;have:=e2 vs (ak.bt s2 (ak.bt s1 q));rw [hv] at this
  exact⟨e1,(IL this).symm⟩
 | str z =>
  simp only [dB] at hx;cases hx;simp only [Den] at d1;subst d1;refine .inr ⟨z,rfl,core 0 (z.cps.toList.map λc=>V.str ⟨#[c]⟩) (GC z) (vo z) (λi x G H' s1 s2 hv=>?_) (λi x G H' y H'' s1 s2 hv hy=>?_) (λG H' s1 s2=>?_)⟩
  ·have:=(Iy.mp hv).1;show i < z.cps.size
   simpa using this
  ·obtain⟨e1,c,hc,rfl⟩:=hy;rw [IJ,JI,hc] at hv;exact⟨e1,IL hv⟩
  ·show z.cps.size<=_
   simp
 | _=>simp only [dB] at hx;cases hx
def aU (lo:Int) (n:Nat):List D:=(List.range n).map λ(i:Nat)=>D.int (lo + (i:Int))
def fG (f:List D->(Int->Nat->Prop)->Prop) (ts:d7) (g:mT) (tb:bG):bG:=λD env=>ts env λxs=>f xs λlo n=>turns g tb D (aU lo n) env
def jA (xs:List D) (Q:Int->Nat->Prop):Prop:=match xs with
 | [.int j]=>(-(2 ^ 62)<=j/\j < 2 ^ 62)/\Q 0 j.toNat
 | _=>False
def BR (xs:List D) (Q:Int->Nat->Prop):Prop:=match xs with
 | [.int i,.int j]=>(-(2 ^ 62)<=i/\i < 2 ^ 62/\-(2 ^ 62)<=j/\j < 2 ^ 62)/\Q i (j - i).toNat
 | _=>False
theorem uj {tg:Expr} {body:List Stmt} {g:mT} (hg:QG X tg g) (hb:m7 X body t) {B:Base} {D:Ends3} {lo:Int} {n:Nat} {σ:St} {F1 H1:Hp} {env:En} (r1:Rep X.K B F1 H1 σ env) (q1:turns g t D (aU lo n) env) :
  ∃W:Nat->Nat->St->Hp->Prop,(∃m,W 0 m σ H1)/\∀i m σ H,W i m σ H->((B4 lo n).stop i H/\(RS X B D).nx σ H)\/((B4 lo n).go i H/\∃N:St->Hp->Prop,(∀σ' H',N σ' H'->∃m',m' < m/\W (i + 1) m' σ' H') /\
    ∀x H',(B4 lo n).yld i H x H'->wG X tg x σ H' λσ2 H2=>wSs X body { RS X B D with nx:=N,ct:=N,bk:=(RS X B D).nx } σ2 H2):=by
 have hl:(aU lo n).length=n:=by simp [aU]
 refine⟨λi m σ H=>m=n - i/\i<=n/\∃F env,Rep X.K B F H σ env/\turns g t D ((aU lo n).drop i) env,⟨n,by simp,Ju _,F1,env,r1,by simpa using q1⟩,?_⟩
 rintro i m σ2 H2 ⟨rfl,hi2,F2,env2,r2,q2⟩
 by_cases hlt:i < n
 ·have hdx:(aU lo n)[i]?=some (L3.D.int (lo + (i:Int))):=by simp [aU,hlt]
  rw [drop_cons hdx] at q2;refine .inr ⟨hlt,λσ' H'=>∃F env,Rep X.K B F H' σ' env/\turns g t D ((aU lo n).drop (i + 1)) env,λσ' H' ⟨F',env',r',q'⟩=>⟨n - (i + 1),by omega,rfl,by omega,F',env',r',q'⟩,λy H' hy=>?_⟩;obtain⟨rfl,rfl⟩:=hy;refine gN (hg B σ2 F2 _ env2 _ _ _ r2 bq q2) λσ3 H3 hq0=>?_;obtain⟨F3,env3,r3,s3,q3⟩:=hq0;exact ib (hb B σ3 F3 H3 env3 _ r3 q3) (λ_ _ q=>q) (λ_ _ q=>q) (λ_ _ q=>q) (λ_ _ q=>q)
 ·have e:i=n:=by omega
  subst e;rw [JE (by omega)] at q2;exact .inl ⟨II _,F2,env2,r2,q2⟩
theorem gb {tg:Expr} {body:List Stmt} {g:mT} {p:Pos} {pos2:Pos} (hp:PassesOwn (model X.prog X.w) X.A X.env X.xe) (hc:X.calm=true) (hgl:Gl X "range") (hm:X.mg "range" = none) (ha:QA X [a] ts) (hg:QG X tg g) (hb:m7 X body t)
  (hst:starEach [a] X.env=[(false,eval a X.env)]:=by rfl) (hs:∀x,Jt (.Call (.Name "range" p) [a] [] pos2) X.env x=pure x:=by intro _;rfl):QS X (.For tg (.Call (.Name "range" p) [a] [] pos2) body [] pos) (fG jA ts g t):=by
 refine⟨?_⟩;intro B σ F H env D rp h;refine df (lM hp hc (kT hgl hm ji hst) uo dI hs) ?_;refine cH (ha B σ F H env _ rp h) λvs H1 hq0=>?_;obtain⟨F1,ds,r1,s1,d1,q1⟩:=hq0
 (try dsimp only at q1);unfold jA at q1
 split at q1
 ·simp only [ao,Den] at d1;obtain⟨v,r,rfl,rfl,rfl⟩:=d1;exact⟨_,rfl,q1.1.1,q1.1.2,uj hg hb r1 q1.2⟩
 ·exact q1.elim
theorem yt {tg:Expr} {body:List Stmt} {g:mT} {p:Pos} {pos2:Pos} (hp:PassesOwn (model X.prog X.w) X.A X.env X.xe) (hc:X.calm=true) (hgl:Gl X "range") (hm:X.mg "range" = none) (ha:QA X [a,b] ts) (hg:QG X tg g) (hb:m7 X body t)
  (hst:starEach [a,b] X.env=[(false,eval a X.env),(false,eval b X.env)]:=by rfl) (hst2:starEach [b] X.env=[(false,eval b X.env)]:=by rfl) (hs:∀x,Jt (.Call (.Name "range" p) [a,b] [] pos2) X.env x=pure x:=by intro _;rfl) :
  QS X (.For tg (.Call (.Name "range" p) [a,b] [] pos2) body [] pos) (fG BR ts g t):=by
 refine⟨?_⟩;intro B σ F H env D rp h;refine df (lM hp hc (xk hgl hm ji hst hst2) uo dI hs) ?_;refine cH (ha B σ F H env _ rp h) λvs H1 hq0=>?_;obtain⟨F1,ds,r1,s1,d1,q1⟩:=hq0
 (try dsimp only at q1);unfold BR at q1
 split at q1
 ·simp only [ao,Den] at d1;obtain⟨v,r,rfl,rfl,v',r',rfl,rfl,rfl⟩:=d1;exact⟨_,_,rfl,q1.1,uj hg hb r1 q1.2⟩
 ·exact q1.elim
def RF (X:Cx) (B:Base) (σ:St) (env:En) (F:Hp) (Q:List D->Prop):VK:=λv H'=>∃F' H1 p vs ds,v=.ref p/\H1 p=none/\H'=upd H1 p (.lst vs)/\Rep X.K B F' H1 σ env/\ak F F'/\ao X.K F' ds vs/\Q ds
structure QF (X:Cx) (e:Expr) (t:d7):Prop where
 of ::
 run:∀(B:Base) (σ:St) (F H:Hp) (env:En) (Q:List D->Prop),Rep X.K B F H σ env->t env Q->wE X e σ H (RF X B σ env F Q)
instance {X:Cx} {e:Expr} {t:d7}:CoeFun (QF X e t) (λ_=>∀(B:Base) (σ:St) (F H:Hp) (env:En) (Q:List D->Prop),Rep X.K B F H σ env->t env Q->wE X e σ H (RF X B σ env F Q)):=⟨QF.run⟩
def kd (ts:d7):d7:=λenv Q=>ts env λxs=>xs.length<=sizeLine/\Q xs
theorem jM (h:QA X es ts):QF X (.List es pos) (kd ts):=by
 refine⟨?_⟩;intro B σ F H env Q rp hq;refine cj (uL ji) ?_;exact cH (h B σ F H env _ rp hq) λvs H1 ⟨F1,ds,r1,s1,d1,z,q1⟩=>⟨by rw [<- d1.length];exact z,λp hp=>⟨F1,H1,p,vs,ds,rfl,hp,rfl,r1,s1,d1,q1⟩⟩
def bR (i:Nat) (ts:d7):bG:=λD env=>ts env λxs=>D.nx (env.set i (some (.own xs)))
theorem cU {x:Str} {pos':Pos} (i:Nat) (hN:X.N.Nodup) (he:QF X e ts) (hi:X.N[i]?=some x:=by rfl) (hx:Loc X.env.scope x:=by first|exact Or.inl rfl|exact Or.inr rfl) (hs:swapsWith e (some (.Name x pos')) pos.line X.env=pure false:=by rfl)
  (hf:X.fn x=true\/X.env.scope.names.lookup x=some .local:=by first|exact .inl rfl|exact .inr rfl):QS X (.Assign [.Name x pos'] e pos) (bR i ts):=by
 refine⟨?_⟩;intro B σ F H env D rp h pins s I;refine lF (i:=i) hN hi hx bB hs hf pins s σ H _ I ?_;refine aA (he B σ F H env _ rp h) λv H' hq0=>?_;obtain⟨F1,H1,p,vs,ds,e1,hp,e2,r1,s1,d1,q1⟩:=hq0;subst e1 e2;refine⟨F1,_,r1.yk hp d1 ?_,q1⟩;rw [I.len];exact (Iy.mp hi).1
def cW (i:Nat) (te:TD):bG:=λD env=>∃xs,env[i]?=some (some (.own xs))/\xs.length < sizeLine/\te env λx=>D.nx (env.set i (some (.own (xs ++ [x]))))
theorem fA {x:Str} {px apos cpos:Pos} (i:Nat) (he:QE X e ta) (hN:X.N[i]?=some x:=by rfl) (hv:rY X.env.scope x:=by first | exact Or.inl rfl | exact Or.inr (Or.inl rfl) | exact Or.inr (Or.inr rfl)) (hd:(x == ("__debug__" : Str))=false:=by decide) (hcd:(x == ("__classdict__" : Str))=false:=by decide)
  (hbase:attributeBase (.Name x px) "append" X.env (eval (.Name x px) X.env)=eval (.Name x px) X.env:=by rfl)
  (hfew:((backTo cpos (starEach [e] X.env)).all (λx=>!x.1) && (backToKw cpos (keywordEach [] X.env)).all (λx=>x.1.isSome)
   && decide (([e]:List Expr).length + ([]:List Keyword).length + (if ([]:List Keyword).isEmpty then 0 else 1) < 30))=true:=by rfl)
  (hline:(apos.endLine == cpos.line)=true:=by rfl) (hst:starEach [e] X.env=(false,eval e X.env) :: starEach [] X.env:=by exact aV rfl) (hplain:(backTo cpos (starEach ([]:List Expr) X.env)).any (·.1)=false:=by rfl)
  (hs:swapsWith (.Call (.Attribute (.Name x px) "append" apos) [e] [] cpos) none pos.line X.env=pure false:=by rfl) :
  QS X (.Expr (.Call (.Attribute (.Name x px) "append" apos) [e] [] cpos) pos) (cW i ta):=by
 refine⟨?_⟩;intro B σ F H env D rp h;refine df (rM (sI PySem.F.plainAttrs_list PySem.F.slot_list_append PySem.F.type_list_append pG (c4 hN hv hd hcd) (dO bB f6 hst) hbase hfew hline hst hplain) hs) ?_;obtain⟨xs,hx,hl,h⟩:=h;obtain⟨p,vs,h1,h2,h3,h4,h5⟩:=rp.ov i xs hx;refine⟨.ref p,h1,.inl ⟨rfl,vs,fw.of h2⟩,?_⟩;refine aA (he B σ F H env _ rp h) λy H1 hq0=>?_;obtain⟨F1,d,r1,s1,d1,q1⟩:=hq0;obtain⟨p',vs',g1,g2,g3,g4,g5⟩:=r1.ov i xs hx
 rw [h1] at g1;cases g1;exact⟨p,vs',y,rfl,rfl,g2,by rw [<- g5.length];exact hl,F1,_,r1.change hx h1 (g5.append (aF d1 aJ)),q1⟩
end
abbrev Fw:=List D->(D->Prop)->Prop
def ER (K:IB) (f:Fw):Sp:=λvs H Q _=>∃(F:Hp) (ds:List D) (P:D->Prop),ak F H/\ao K F ds vs/\f ds P /\
 ∀(d:D) (v:V) (F' H':Hp),ak F F'->ak H H'->ak F' H'->(∀p,H p≠none->F p=none->F' p=none)->Den K F' d v->P d->Q v H'
structure Known (P:Program) (w:World) (K:IB) (mg:Str->Option Value) (base:Heap) (k:Nat) (x:Str) (f:Fw):Prop where
 ex:∃(fa:Addr) (fd:FuncData) (ps:List Str),oq P w K mg base yb k fa fd ps (ER K f)/\mg x=some (.ref fa)/\PySem.W.keepIn K (.ref fa)=true/\Binds K fd ps []
def aE (N:List Str) (ds:List D):En:=ds.map (λd=>some (Lo.d d)) ++ List.replicate (N.length - ds.length) none
section
variable {X:Cx} {e:Expr} {es:List Expr} {ts:d7} {p pos:Pos} {x:Str} {k:Nat} {f:Fw}
theorem aM (h:Known X.prog X.w X.K X.mg X.base k x f) (hr:cQ k X.A) (ha:QA X (e :: es) ts) (hg:Gl X x:=by rfl) (hdb:(x == ("__debug__" : Str))=false:=by decide)
  (he:starEach (e :: es) X.env=(false,eval e X.env) :: starEach es X.env:=by exact aV rfl) (hpl:(backTo pos (starEach es X.env)).any (·.1)=false:=by rfl):QE X (.Call (.Name x p) (e :: es) [] pos) (aB f ts):=by
 refine⟨?_⟩;intro B σ F H env Q rp hq;obtain⟨fa,fd,ps,G,hm,hk,hb⟩:=h.ex;refine cj (Bb G hr hg hm hk hb .nil FZ ji hdb he hpl) ?_;refine cH (ha B σ F H env _ rp hq) λvs H1 hq0=>?_;obtain⟨F1,ds,r1,s1,d1,hf⟩:=hq0;rw [Jw];exact⟨F1,ds,Q,r1.fh,d1,hf,λd v F' H' a b c n hd q=>⟨F',d,r1.ext a c b n,s1.trans a,hd,q⟩⟩
end
theorem gr {K:IB} {F H:Hp} {N:List Str} {ds:List D} {vs:List V} (fh:ak F H) (hd:ao K F ds vs) :
  Rep K ⟨F,H,λp=>H p≠none/\F p=none,λ_ h=>h.1⟩ F H (start N vs) (aE N ds):=by
 have noown:∀(i:Nat) ys,(aE N ds)[i]?=some (some (.own ys))->False:=λi ys q=>by
  unfold aE at q
  by_cases hi:i < ds.length
  ·rw [IW (by simpa using hi),IJ] at q;rw [IE hi] at q;cases q
  ·rw [IQ (by simpa using hi),Jp] at q
   split at q <;> cases q
 have nodic:∀(i:Nat) ys,(aE N ds)[i]?=some (some (.dic ys))->False:=λi ys q=>by
  unfold aE at q
  by_cases hi:i < ds.length
  ·rw [IW (by simpa using hi),IJ] at q;rw [IE hi] at q;cases q
  ·rw [IQ (by simpa using hi),Jp] at q
   split at q <;> cases q
 refine⟨ak.refl _,fh,ak.refl _,λp h=>h.2,λi x q=>?_,λi ys q=>(noown i ys q).elim,λi j xs ys p _ q=>(noown i xs q).elim,λi ys q=>(nodic i ys q).elim,λi j xs ys p _ q=>(nodic i xs q).elim⟩;unfold aE at q
 by_cases hi:i < ds.length
 ·rw [IW (by simpa using hi),IJ] at q;rw [IE hi] at q;cases q;obtain⟨v,h1,h2⟩:=hd.get (IE hi);refine⟨v,?_,h2⟩;unfold start;rw [IW (by rw [IK,<- hd.length];exact hi),IJ,h1];rfl
 ·rw [IQ (by simpa using hi),Jp] at q
  split at q <;> cases q
section
variable {P:Program} {w:World} {K:IB} {mg:Str->Option Value} {base:Heap}
theorem rD.EY {x qual:Str} {st:Stmt} {fa:Addr} {fd:FuncData} {N ps:List Str} {k:Nat} {f:Fw} (F:rD K x qual st fa fd) (S:aK N ps (ar st))
  (hl:∀ds Q,f ds Q->ds.length=ps.length)
  (hbody:∀(cdv:Value) (A:Around) (outer:List Env) (s:Shared) (H:Hp) (E:XK),cQ k (A.deeper (envOfC qual (ar st) s.heap.objs.size fa cdv)) ->
   ∃t,m7 (jc yb P w K mg base N qual (ar st) fa cdv A outer s H E).pE (bT st) t/\∀ds (Q:D->Prop),f ds Q->t { nx:=λ_=>Q .non,rt:=Q } (aE N ds)) :
  oq P w K mg base yb (k + 1) fa fd ps (ER K f):=by
 refine F.ok S (λvs H Q E h=>?_) (λcdv A outer s H vs Q E hr h=>?_)
 ·obtain⟨F0,ds,P,_,hd,hf,_⟩:=h;rw [<- hd.length];exact hl ds _ hf
 ·obtain⟨F0,ds,P,fh,hd,hf,kk⟩:=h;obtain⟨t,ht,hq⟩:=hbody cdv A outer s H E hr;refine⟨_,dI,?_⟩;have core:=ht _ (start N vs) F0 H (aE N ds) _ (gr fh hd) (hq ds P hf);refine ib core (λσ' H' ⟨F',env',r,q⟩=>?_) (λv H' ⟨F',d',r,dd,q⟩=>?_) (λ_ _ ⟨_,_,_,q⟩=>q) (λ_ _ ⟨_,_,_,q⟩=>q)
  ·exact kk .non .non F' H' r.f0 r.h0 r.fh (λp h1 h2=>r.nf p ⟨h1,h2⟩) mW q
  ·exact kk d' v F' H' r.f0 r.h0 r.fh (λp h1 h2=>r.nf p ⟨h1,h2⟩) dd q
theorem rD.known {x qual:Str} {st:Stmt} {fa:Addr} {fd:FuncData} {N ps:List Str} {k:Nat} {f:Fw} (F:rD K x qual st fa fd) (S:aK N ps (ar st)) (hmg:mg x=some (.ref fa)) (hb:Binds K fd ps [])
  (hl:∀ds Q,f ds Q->ds.length=ps.length)
  (hbody:∀(cdv:Value) (A:Around) (outer:List Env) (s:Shared) (H:Hp) (E:XK),cQ k (A.deeper (envOfC qual (ar st) s.heap.objs.size fa cdv)) ->
   ∃t,m7 (jc yb P w K mg base N qual (ar st) fa cdv A outer s H E).pE (bT st) t/\∀ds (Q:D->Prop),f ds Q->t { nx:=λ_=>Q .non,rt:=Q } (aE N ds)) :
  Known P w K mg base (k + 1) x f:=⟨fa,fd,ps,rD.EY F S hl hbody,hmg,F.kp,hb⟩
def xE (n:Nat):Fw:=λds Q=>∃ns:List Int,ds=[.lst (ns.map D.int)]/\ns.length<=n/\Q (.bl true)
theorem DO {K:IB} {H:Hp} {a:Addr} {ns:List Int} {n:Nat} (hl:ns.length<=n) (hS:fw K H a (ns.map V.int)):ER K (xE n) [.ref a] H (λv _=>v=.bl true) λ_ _ _=>False:=by
 refine⟨H,[.lst (ns.map D.int)],λd=>d=.bl true,ak.refl _,aF (gu hS (pL ns)) aJ,⟨ns,rfl,hl,rfl⟩,λd v F' H' _ _ _ _ hd q=>?_⟩;subst q
 simpa only [Den] using hd
end
section
variable {X:Cx} {a b c e:Expr} {es:List Expr} {ta tb tc:TD} {ts:d7} {pos:Pos} {st:Stmt} {sts:List Stmt} {t u:bG}
def cX (i:Nat) (t:bG):bG:=λD env=>∃xs,env[i]?=some (some (.own xs))/\t D (env.set i (some (.d (.lst xs))))
theorem fq (i:Nat) (h:QS X st t):QS X st (cX i t):=by
 refine⟨?_⟩;intro B σ F H env D rp hq;obtain⟨xs,hx,q⟩:=hq;obtain⟨F',s',r'⟩:=rp.freeze hx;exact h B σ F' H _ D r' q
def cL (i:Nat) (tj:TD):TD:=λenv Q=>∃xs,env[i]?=some (some (.own xs))/\tj env λy=>∃j v,y=.int j/\jz xs j=some v/\Q v
theorem dU {x:Str} {px:Pos} (i:Nat) (hb:QE X b tb) (hs:kA b) (hN:X.N[i]?=some x:=by rfl) (hv:rY X.env.scope x:=by first | exact Or.inl rfl | exact Or.inr (Or.inl rfl) | exact Or.inr (Or.inr rfl)) (hd:(x == ("__debug__" : Str))=false:=by decide)
  (hcd:(x == ("__classdict__" : Str))=false:=by decide):QE X (.Subscript (.Name x px) b pos) (cL i tb):=by
 refine⟨?_⟩;intro B σ F H env Q rp h;refine cj (wI wY (c4 hN hv hd hcd) bB hs) ?_;obtain⟨xs,hx,h⟩:=h;obtain⟨p,vs,h1,h2,h3,h4,h5⟩:=rp.ov i xs hx;refine⟨.ref p,h1,?_⟩;refine aA (hb B σ F H env _ rp h) λy H1 hq0=>?_;obtain⟨F1,d,r1,s1,d1,j,v,hj,hv,q1⟩:=hq0;subst hj;simp only [Den] at d1;obtain⟨p',vs',g1,g2,g3,g4,g5⟩:=r1.ov i xs hx;rw [h1] at g1;cases g1;obtain⟨w,hw,dw⟩:=g5.jz hv;exact⟨p,vs',j,w,rfl,d1,fw.of g2,hw,F1,v,r1,s1,dw,q1⟩
def oY (i:Nat) (tj te:TD):bG:=λD env=>te env λx=>∃xs,env[i]?=some (some (.own xs))/\tj env λy=>∃(j:Int) (k:Nat),y=.int j/\rZ xs.length j=some k/\D.nx (env.set i (some (.own (xs.set k x))))
theorem uZ {x:Str} {px p2:Pos} (i:Nat) (hb:QE X b tb) (he:QE X e ta) (hN:X.N[i]?=some x:=by rfl) (hv:rY X.env.scope x:=by first | exact Or.inl rfl | exact Or.inr (Or.inl rfl) | exact Or.inr (Or.inr rfl)) (hd:(x == ("__debug__" : Str))=false:=by decide)
  (hcd:(x == ("__classdict__" : Str))=false:=by decide) (hs:swapsWithSole [.Subscript (.Name x px) b p2] e pos.line X.env=pure false:=by rfl) (hw:swappedStores [.Subscript (.Name x px) b p2] e X.env=pure none:=by rfl)
  (h1:(assignEach [.Subscript (.Name x px) b p2] X.env).map (·.2)=[assign (.Subscript (.Name x px) b p2) X.env]:=by rfl)
  (ha:∀v,assign (.Subscript (.Name x px) b p2) X.env v=(do
   let ov <- holding [v] (eval (.Name x px) X.env)
   let iv <- holding [v,ov] (eval b X.env)
   standAt p2
   holding [v,ov,iv] (setItem ov iv v)
   release [v,ov,iv] []):=by intro _;rfl):QS X (.Assign [.Subscript (.Name x px) b p2] e pos) (oY i tb ta):=by
 refine⟨?_⟩;intro B σ F H env D rp h;refine df (vE bB (Ah (c4 hN hv hd hcd) bB set_list ha) hs hw h1) ?_;refine aA (he B σ F H env _ rp h) λy H1 hq0=>?_;obtain⟨F1,d,r1,s1,d1,xs,hx,q1⟩:=hq0;obtain⟨p,vs,g1,g2,g3,g4,g5⟩:=r1.ov i xs hx;refine⟨.ref p,g1,?_⟩;refine aA (hb B σ F1 H1 env _ r1 q1) λz H2 hq0=>?_;obtain⟨F2,d2,r2,s2,dd2,j,k,hj,hk,q2⟩:=hq0;subst hj;simp only [Den] at dd2;obtain⟨p',vs',e1,e2,e3,e4,e5⟩:=r2.ov i xs hx
 rw [g1] at e1;cases e1;exact⟨p,vs',j,k,rfl,dd2,e2,by rw [<- e5.length];exact hk,F2,_,r2.change hx g1 (e5.set (Den.mono s2 _ _ d1) k),q2⟩
end
def gh (names:List (Str×NameKind)) (cells:List (Str×Addr)) (acc:List (Str×Addr)):List (Str×Addr):=match names with
 | []=>acc
 | (n,k) :: r=>if k=.free then (match cells.lookup n with|some c=>gh r cells ((n,c) :: acc)|none=>gh r cells acc) else gh r cells acc
theorem eY {env:Env}:∀(names:List (Str×NameKind)) (acc:List (Str×Addr)),(∀y∈names,y.2=.free->∃c,env.cells.lookup y.1=some c) ->
  (forIn names acc λ(x:Str×NameKind) r=>if (x.2 == NameKind.free)=true then (do let a <- cellOf env x.1;pure (ForInStep.yield ((x.1,a) :: r))) else pure (ForInStep.yield r):Sem (List (Str×Addr)))=pure (gh names env.cells acc)
 | [],acc,_=>rfl
 | (n,k) :: r,acc,h=>by
  rw [List.forIn_cons]
  by_cases hk:k=.free
  ·subst hk;obtain⟨c,hc⟩:=h (n,.free) Jb rfl;have hc':env.cells.lookup n=some c:=hc;have ih:=eY r ((n,c) :: acc) λy hy=>h y (IT _ hy);simp only [beq_self_eq_true,if_true,cellOf,hc',gh];exact ih
  ·have ih:=eY r acc λy hy=>h y (IT _ hy);have hb:(k == NameKind.free)=false:=by simpa using hk
   simp only [hb,IF,if_false,gh,if_neg hk];exact ih
theorem pg {scope:Scope} {env:Env} (h:∀y∈scope.names,y.2=.free->∃c,env.cells.lookup y.1=some c):closureFor scope env=pure (gh scope.names env.cells []):=by
 have e:=eY (env:=env) scope.names [] h;have e2:closureFor scope env=((forIn scope.names ([]:List (Str×Addr)) λ(x:Str×NameKind) r=>if (x.2 == NameKind.free)=true then (do let a <- cellOf env x.1;pure (ForInStep.yield ((x.1,a) :: r))) else pure (ForInStep.yield r)) >>= λcs=>pure cs):=rfl
 rw [e2,e];rfl
theorem ir {cells:List (Str×Addr)}:∀(names:List (Str×NameKind)) (acc:List (Str×Addr)),(∀x c,acc.lookup x=some c->cells.lookup x=some c)->∀x c,(gh names cells acc).lookup x=some c->cells.lookup x=some c
 | [],acc,h,x,c,q=>h x c q
 | (n,k) :: r,acc,h,x,c,q=>by
  unfold gh at q
  split at q
  ·split at q
   ·rename_i c' e;refine ir r _ (λy d w=>?_) x c q;rw [List.lookup_cons] at w
    split at w
    ·rename_i z;have:y=n:=by simpa using z
     subst this;cases w;exact e
    ·exact h y d w
   ·exact ir r _ h x c q
  ·exact ir r _ h x c q
theorem jW {cells:List (Str×Addr)}:∀(names:List (Str×NameKind)) (acc:List (Str×Addr)) (x:Str),(acc.lookup x).isSome=true->((gh names cells acc).lookup x).isSome=true
 | [],acc,x,q=>q
 | (n,k) :: r,acc,x,q=>by
  unfold gh
  split
  ·split
   ·refine jW r _ x ?_;rw [List.lookup_cons]
    split
    ·rfl
    ·exact q
   ·exact jW r _ x q
  ·exact jW r _ x q
theorem kb {cells:List (Str×Addr)}:∀(names:List (Str×NameKind)) (acc:List (Str×Addr)) (x:Str),(x,NameKind.free)∈names->(cells.lookup x).isSome=true->((gh names cells acc).lookup x).isSome=true
 | [],acc,x,h,_=>by simp at h
 | (n,k) :: r,acc,x,h,q=>by
  rcases IZ.mp h with e|h
  ·cases e;unfold gh;rw [if_pos rfl]
   split
   ·exact jW r _ _ (by rw [List.lookup_cons];simp)
   ·rename_i e;rw [e] at q;cases q
  ·unfold gh
   split
   ·split <;> exact kb r _ x h q
   ·exact kb r _ x h q
def bU (X:Cx) (N':List Str) (scope:Scope) (C:Addr) (s:Shared) (H:Hp) (fp:List Addr) (pins:List (Addr×Obj)):Cx :=
 { X with N:=N',s₀:=s,H₀:=H,env:=compEnvC scope (gh scope.names X.env.cells []) C X.env,outer:=X.stack,stack:=X.stack,ex:=fp,fn:=λ_=>false,pn:=X.pn ++ pins,xe:=λ_ _=>False }
structure c5 (X:Cx) (N':List Str) (nt:Nat) (ix:List Nat) (scope:Scope):Prop where
 kind:scope.kind=.function
 nocell:∀x∈scope.names,x.2≠.cell
 names:∀x∈scope.names,x.2=.local->scope.names.lookup x.1=some .local
 free:∀x∈scope.names,x.2=.free->X.env.scope.names.lookup x.1=some .cell
 caps:∀(j:Nat) (i:Nat),ix[j]?=some i->∃x,N'[nt + j]?=some x/\X.N[i]?=some x/\(x,NameKind.free)∈scope.names/\(relabel scope X.env).names.lookup x=some .cell
 len:N'.length=nt + ix.length
section
variable {prog:Program} {w:World} {A:Around} {R:Result->Shared->Prop} {s:Shared}
theorem rA {elt target iter:Expr} {ifs:List Expr} {scope:Scope} {pos:Pos} {it acc:Value} {env:Env} (I:Nat->Shared->Prop)
  (turn:∀n s,I n s->wpAny (model prog w) A (pyNext it) (λr s₁=>match r with
   | none=>R (.ok .next) s₁
   | some v=>wpAny (model prog w) A (letOwnedTupleGo target it v) (λ_ s₁'=>wpAny (model prog w) A (assign target env v) (λ_ s₂ =>
     wpAny (model prog w) A (forIn ifs true λc r=>if r=true then do let ok <- isTrue c env (eval c env);pure (ForInStep.yield ok) else pure (ForInStep.yield r)) (λok s₃ =>
      if ok=true then wpAny (model prog w) A (eval elt env) (λx s₄ =>
       wpAny (model prog w) A (call (.builtin "list.append") [acc,x]) (λ_ s₅=>∃m,m < n/\I m s₅) (λ_ _=>False) s₄) (λ_ _=>False) s₃
      else ∃m,m < n/\I m s₃) (λ_ _=>False) s₂) (λ_ _=>False) s₁') (λ_ _=>False) s₁) (λ_ _=>False) s)
  (n:Nat) (h:I n s) :
  codeAny (model prog w) A (.compLoop (.ListComp elt [⟨target,iter,ifs,0⟩] scope pos) 0 it acc env) R s:=by
 refine codeAny_loop rfl I (λn s hI=>?_) n h;show wpAny _ A ((compTurn (.ListComp elt [⟨target,iter,ifs,0⟩] scope pos) 0 it acc env).onRaise (λx=>do noteFrame x env;theTreesLotGoes x)) _ _ s
 refine wpAny_noted ?_;rw [compTurn_list];refine Iw (wpAny_standAt (Iw (Jh (turn n s hI) (λr s₁ h₁=>?_) λ_ _ h'=>h'.elim)))
 cases r with
 | none=>exact ID h₁
 | some v =>
  refine Iw (Jh h₁ (λ_ s₁' h₁'=>?_) λ_ _ h'=>h'.elim);refine Iw (Jh h₁' (λ_ s₂ h₂=>Iw (Jh h₂ (λok s₃ h₃=>?_) λ_ _ h'=>h'.elim)) λ_ _ h'=>h'.elim)
  cases ok with
  | false=>exact ID ⟨rfl,h₃⟩
  | true =>
   exact Iw (Iw (Jh h₃ (λx s₄ h₄=>Iw (Jh h₄ (λ_ s₅ h₅=>ID (ID ⟨rfl,h₅⟩)) λ_ _ h'=>h'.elim)) λ_ _ h'=>h'.elim))
end
def sM (nt:Nat) (ix:List Nat) (σ:St):St:=List.replicate nt none ++ ix.map λi=>(σ[i]?).join
theorem lookup_mem {α β:Type} [BEq α] [LawfulBEq α] {l:List (α×β)} {x:α} {y:β} (h:l.lookup x=some y):(x,y)∈l:=by
 induction l with
 | nil=>simp at h
 | cons p r ih =>
  obtain⟨a,b⟩:=p;rw [List.lookup_cons] at h
  split at h
  ·rename_i e;have:x=a:=by simpa using e
   subst this;cases h;exact Jb
  ·exact IT _ (ih h)
section
variable {X:Cx} {pins:List (Addr×Obj)} {σ:St} {H:Hp} {s:Shared} {N':List Str} {nt:Nat} {ix:List Nat} {scope:Scope}
theorem mD {x:Str} {k:NameKind} (h:(x,k)∈(relabel scope X.env).names):(x,k)∈scope.names\/((x,NameKind.free)∈scope.names/\k=.cell):=by
 unfold relabel at h;obtain⟨⟨n,k'⟩,hm,e⟩:=Jn.mp h;dsimp only at e
 split at e
 ·rename_i hc;cases e;simp only [Bool.and_eq_true,beq_iff_eq] at hc;exact .inr ⟨by rw [<- hc.1.1];exact hm,rfl⟩
 ·cases e;exact .inl hm
theorem vQ (I:Inv X pins σ H s) (O:c5 X N' nt ix scope) {fp:List Addr} (hf:∀b∈fp,lN X pins H b) (hlt:∀b∈fp,b < s.heap.objs.size) {h1:Heap} {tk:Nat}
  (hns:h1.Ns s.heap.objs.size (λ_=>none)) (hsb:∀b o,s.heap.get? b=some o->h1.get? b=some o) :
  Inv (bU X N' scope s.heap.objs.size s H fp pins) [] (sM nt ix σ) H { s with heap:=h1,toks:=tk }:=by
 have cellsAt:∀x c,(gh scope.names X.env.cells []).lookup x=some c->X.env.cells.lookup x=some c:=λx c q=>ir scope.names [] (λy d w=>by simp at w) x c q;have clt:∀x c,X.env.cells.lookup x=some c->c < s.heap.objs.size:=λx c e=>let ⟨_,q⟩:=I.cell x c e;q.lt
 refine⟨⟨I.ok.mod,O.kind,I.ok.glob,I.ok.blt,II _,λx y c h1 h2=>I.ok.inj x y c (cellsAt _ _ h1) (cellsAt _ _ h2),λx hx=>?_,λx c h=>(by cases h),I.ok.hd,I.ok.frames,.inl rfl,λb hb=>⟨Jj (hlt b hb),λx c e=>(hf b hb).2.2.2.2.1 x c (cellsAt _ _ e)⟩,I.bs,
   Jz I.ok.bsz I.sz,λb o e hb=>?_,λb hb z=>?_,I.stack,⟨I.m9,I.tb⟩⟩,
  rfl,I.bare,Un.kept hsb,⟨_,hns,λj x v e1 e2 e3=>?_⟩,λx c e=>?_,I.hok.fresh (II _),λx c e=>I.freeC x c (cellsAt _ _ e),λp hp=>?_,I.hok.kept hsb,?_⟩
 ·
  have hx':((relabel scope X.env).names.lookup x=some .cell\/(relabel scope X.env).names.lookup x=some .free):=hx
  have key:(x,NameKind.free)∈scope.names:=by
   rcases hx' with h|h
   ·rcases mD (lookup_mem h) with q|q
    ·exact absurd rfl (O.nocell _ q)
    ·exact q.1
   ·rcases mD (lookup_mem h) with q|q
    ·exact q
    ·exact q.1
  obtain⟨c,hc⟩:=I.ok.has x (.inl (O.free _ key rfl));exact Option.isSome_iff_exists.mp (kb scope.names [] x key (by rw [hc];rfl))
 ·rcases (hf b hb).2.2.2.1 with z|z
  ·exact I.ok.noex b o e z
  ·exact absurd (IP (IU (I.ok.bs b o e).1) z) (Nat.lt_irrefl _)
 ·rcases IZ.mp (I.lS b z) with e|e
  ·exact (hf b hb).2.1 e
  ·exact (hf b hb).2.2.1 e
 ·
  unfold sM at e2
  by_cases hj:j < nt
  ·rw [IW (by simpa using hj),Jp] at e2
   split at e2 <;> cases e2
  ·rw [IQ (by simpa using hj),IJ,List.length_replicate] at e2
   cases hi:ix[j - nt]? with
   | none=>rw [hi] at e2;cases e2
   | some i =>
    rw [hi] at e2
    have hs:σ[i]?=some (some v):=by
     simp only [Option.map_some,Option.some.injEq] at e2
     cases q:σ[i]? with
     | none=>rw [q] at e2;cases e2
     | some o=>rw [q] at e2;simp only [Option.join] at e2;rw [show o=some v from e2]
    obtain⟨y,n1,n2,n3,n4⟩:=O.caps (j - nt) i hi;have hjj:nt + (j - nt)=j:=by omega
    rw [hjj] at n1;have e1':N'[j]?=some x:=e1;rw [n1] at e1';cases e1';obtain⟨m,hn,hl⟩:=I.loc;have hk:X.env.scope.names.lookup x=some .cell:=O.free _ n3 rfl;obtain⟨u,r,l⟩:=hl i x v n2 hs (.inr (.inl hk));refine⟨u,r,?_⟩;rcases l with ⟨k,_⟩|⟨_,c,ec,z⟩
    ·have k':X.env.scope.names.lookup x=some .local:=k;rw [hk] at k';cases k'
    ·have hc2:=Option.isSome_iff_exists.mp (kb (cells:=X.env.cells) scope.names [] x n3 (by rw [ec];rfl));obtain⟨c2,hc2⟩:=hc2;have:=cellsAt x c2 hc2;rw [ec] at this;cases this;exact .inr ⟨.inl n4,c,hc2,z.keeps hsb⟩
 ·obtain⟨v,z⟩:=I.cell x c (cellsAt _ _ e);exact⟨v,z.keeps hsb⟩
 ·rw [Jw] at hp;obtain⟨e,n,ne,nf,d⟩:=I.pin p hp;refine⟨hsb _ _ e,n,Jj (IU e),λz=>?_,d⟩;rcases IZ.mp (I.lS p.1 z) with q|q
  ·exact ne q
  ·exact nf q
 ·unfold sM;show _=N'.length
  rw [O.len,Jd,List.length_replicate,IK]
theorem yv (I:Inv X pins σ H s) {fp:List Addr} (hf:∀b∈fp,lN X pins H b) {σ':St} {H':Hp} {s':Shared} (J:Inv (bU X N' scope s.heap.objs.size s H fp pins) [] σ' H' s') {h':Heap} (hs:Heap.SameBut s.heap.objs.size s'.heap h') :
  Inv X pins σ H' { s' with heap:=h' }:=by
 have ne:∀b o,s.heap.get? b=some o->b≠s.heap.objs.size:=λb o e=>Jj (IU e);have jb:=J.base;refine I.yB (ch:=fp) J.os ⟨λb o e n h1 h2=>(hs.2 b (ne b o e)).trans (jb.keep b o e n h1 h2),λb o e n h1 h2=>?_,jb.free,λb o e h2=>?_,jb.tups,jb.frzs,jb.tbls⟩ (λb o e=>?_) J.bare λb hb=>?_
 ·obtain⟨sl,q⟩:=jb.slot b o e n h1 h2;exact⟨sl,(hs.2 b (ne b o e)).trans q⟩
 ·obtain⟨o',q⟩:=jb.there b o e h2;exact⟨o',(hs.2 b (ne b o e)).trans q⟩
 ·have jf:H' s.heap.objs.size=none:=J.free;refine (J.hok b o e).nG (λc u hc q=>(hs.2 c ?_).trans q) (λ_ q=>q) (λ_ _ q=>q) λ_ _ _ q=>q;intro z;subst z;rcases hc with z|z
  ·rw [<- z,jf] at e;cases e
  ·rw [jf] at z;cases z
 ·obtain⟨f0,f1,f2,f3,f4,f5⟩:=hf b hb;exact⟨f3,f1,f4,f5⟩
end
def y2 (X:Cx) (ifs:List Expr):TT:=λσ H Q=>∀(pins:List (Addr×Obj)) (s:Shared),Inv X pins σ H s ->
 wpAny (model X.prog X.w) X.A (forIn ifs true λc r=>if r=true then do let ok <- isTrue c X.env (eval c X.env);pure (ForInStep.yield ok) else pure (ForInStep.yield r)) (TP X pins σ Q) (λ_ _=>False) s
def B0 (X:Cx) (N':List Str) (nt:Nat) (ix:List Nat) (scope:Scope) (elt target:Expr) (ifs:List Expr) (wi:TI):TE:=λσ H Q=>wi σ H λJ H1=>∀(a C:Addr) (s:Shared) (fp:List Addr) (pins:List (Addr×Obj)),H1 a=none ->
 ∃W:Nat->Nat->St->Hp->Prop,(∃m,W 0 m (sM nt ix σ) (upd H1 a (.lst [])))/\∀i m σ' H',W i m σ' H'->(J.stop i H'/\Q (.ref a) H')\/(J.go i H'/\∀x H2,J.yld i H' x H2 ->
  wG (bU X N' scope C s (upd H1 a (.lst [])) fp pins) target x σ' H2 λσ2 H3=>y2 (bU X N' scope C s (upd H1 a (.lst [])) fp pins) ifs σ2 H3 λok H4=>if ok=true then
   wE (bU X N' scope C s (upd H1 a (.lst [])) fp pins) elt σ2 H4 λy H5=>∃ys,H5 a=some (.lst ys)/\ys.length < sizeLine/\∃m',m' < m/\W (i + 1) m' σ2 (upd H5 a (.lst (ys ++ [y])))
   else ∃m',m' < m/\W (i + 1) m' σ2 H4)
section
variable {X:Cx} {N':List Str} {nt:Nat} {ix:List Nat} {scope:Scope}
theorem c5.cg {pins:List (Addr×Obj)} {σ:St} {H:Hp} {s:Shared} (O:c5 X N' nt ix scope) (I:Inv X pins σ H s):closureFor scope X.env=pure (gh scope.names X.env.cells []) :=
 pg λy hy hk=>I.ok.has y.1 (.inl (O.free y hy hk))
theorem sO {elt target iter:Expr} {ifs:List Expr} {pos:Pos} {pins:List (Addr×Obj)} {σ:St} {s2:Shared} {Q:VK} {R:It->Hp->Prop} {itv:Value} {RR:Value->Addr->Result->Shared->Prop} (hc:X.calm=true) (O:c5 X N' nt ix scope)
  (h2:GI X pins σ target R itv s2)
  (hR:∀J H1,R J H1->∀(a C:Addr) (s:Shared) (fp:List Addr) (pins:List (Addr×Obj)),H1 a=none ->
   ∃W:Nat->Nat->St->Hp->Prop,(∃m,W 0 m (sM nt ix σ) (upd H1 a (.lst [])))/\∀i m σ' H',W i m σ' H'->(J.stop i H'/\Q (.ref a) H')\/(J.go i H'/\∀x H2,J.yld i H' x H2 ->
    wG (bU X N' scope C s (upd H1 a (.lst [])) fp pins) target x σ' H2 λσ2 H3=>y2 (bU X N' scope C s (upd H1 a (.lst [])) fp pins) ifs σ2 H3 λok H4=>if ok=true then
     wE (bU X N' scope C s (upd H1 a (.lst [])) fp pins) elt σ2 H4 λy H5=>∃ys,H5 a=some (.lst ys)/\ys.length < sizeLine/\∃m',m' < m/\W (i + 1) m' σ2 (upd H5 a (.lst (ys ++ [y])))
     else ∃m',m' < m/\W (i + 1) m' σ2 H4))
  (hRR:∀(a C:Addr) (H':Hp) (s6:Shared) (m:Str->Option Value),Q (.ref a) H'->s6.heap.Ns C m->H' C=none->C≠X.env.locals->X.s₀.heap.objs.size<=C->(∀x c,X.env.cells.lookup x=some c->c≠C)->(∀p∈X.pn ++ pins,p.1≠C) ->
   (∀h',Heap.SameBut C s6.heap h'->Inv X pins σ H' { s6 with heap:=h' })->RR (.ref a) C (.ok .next) s6) :
  wpAny (model X.prog X.w) X.A (newList []) (λacc s3=>wpAny (model X.prog X.w) X.A (newFunctionEnv scope X.env.globals (gh scope.names X.env.cells []) [] X.env.qual none .none (some X.env)) (λcenv s4 =>
   codeAny (model X.prog X.w) X.A (.compStart (.ListComp elt [⟨target,iter,ifs,0⟩] scope pos) 0 itv acc { cenv with scope:=relabel scope X.env }) (RR acc cenv.locals) s4) X.xe s3) X.xe s2:=by
 obtain⟨it,fp,tn,J,H2,e,I2,T,st2,f2,hq0⟩:=h2;have hq:=hR J H2 hq0;subst e;have hlt2:∀b∈fp,b < s2.heap.objs.size:=λb hb=>let ⟨o,e,_⟩:=T.obj _ _ st2 b hb;IU e
 refine wpAny_newObj_type ?_;generalize hs3:({ s2 with heap:=s2.heap.push { cls:=.type "list",dict:=none,data:=.seq ([]:List Value).toArray } }:Shared)=s3
 have k3:∀b o,s2.heap.get? b=some o->s3.heap.get? b=some o:=λb o e=>by rw [<- hs3];exact IC _ e
 have ha:H2 s2.heap.objs.size=none:=I2.hok.fresh (II _)
 have I3:Inv X pins σ (upd H2 s2.heap.objs.size (.lst [])) s3:=by
  rw [<- hs3];exact I2.laid (t':=s2.toks) (λb u e=>IC _ e) (II _) ⟨Ju _,[],0,.nil,IS _ rfl⟩
 have f3:∀b∈fp,lN X pins (upd H2 s2.heap.objs.size (.lst [])) b:=λb hb=>⟨by rw [av (Jj (hlt2 b hb))];exact (f2 b hb).1,(f2 b hb).2⟩;have st3:tn 0 s3.heap:=T.keep _ _ _ st2 λb hb o e=>k3 b o e;have hlt3:∀b∈fp,b < s3.heap.objs.size:=λb hb=>let ⟨o,e,_⟩:=T.obj _ _ st3 b hb;IU e
 refine wpAny_newFunctionEnv O.nocell (by intro y hy;simp at hy) (λh1 hns hsb=>?_) O.kind;have k4:∀b o,s3.heap.get? b=some o->h1.get? b=some o:=λb o e=>(hsb.2 b (Jj (IU e))).trans (IC _ e);have I4:=vQ (tk:=s3.toks + ([]:List (Str×Value)).length) I3 O f3 hlt3 hns k4;have st4:tn 0 h1:=T.keep _ _ _ st3 λb hb o e=>k4 b o e;obtain⟨W,⟨m0,w0⟩,turn⟩:=hq s2.heap.objs.size s3.heap.objs.size s3 fp pins ha
 have fr3:∀b∈fp,(upd H2 s2.heap.objs.size (.lst [])) b=none:=λb hb=>(f3 b hb).1
 have stat:∀{H':Hp},(∀b∈fp,H' b=none)->∀b∈fp,lN (bU X N' scope s3.heap.objs.size s3 (upd H2 s2.heap.objs.size (.lst [])) fp pins) [] H' b:=λ{H'} hn b hb=>by
  refine⟨hn b hb,Jj (hlt3 b hb),λz=>?_,.inl hb,λx c e=>(f3 b hb).2.2.2.2.1 x c (ir scope.names [] (λy d w=>by simp at w) x c e),λp hp=>?_⟩
  ·rcases IZ.mp (I3.lS b z) with q|q
   ·exact (f3 b hb).2.1 q
   ·exact (f3 b hb).2.2.1 q
  ·rw [Jw] at hp;exact (f3 b hb).2.2.2.2.2 p hp
 generalize hX:bU X N' scope s3.heap.objs.size s3 (upd H2 s2.heap.objs.size (.lst [])) fp pins=X' at I4 turn stat;have eP:X'.prog=X.prog:=by rw [<- hX];rfl
 have eW:X'.w=X.w:=by rw [<- hX];rfl
 have eK:X'.K=X.K:=by rw [<- hX];rfl
 have eA:X'.A=X.A:=by rw [<- hX];rfl
 have eC:X'.calm=true:=by rw [<- hX];exact hc
 have eE:X'.env=compEnvC scope (gh scope.names X.env.cells []) s3.heap.objs.size X.env:=by rw [<- hX];rfl
 have eX:X'.xe=λ_ _=>False:=by rw [<- hX];rfl
 have loop:codeAny (model X.prog X.w) X.A (.compLoop (.ListComp elt [⟨target,iter,ifs,0⟩] scope pos) 0 (.ref it) (.ref s2.heap.objs.size) (compEnvC scope (gh scope.names X.env.cells []) s3.heap.objs.size X.env))
   (RR (.ref s2.heap.objs.size) s3.heap.objs.size) { s3 with heap:=h1,toks:=s3.toks + ([]:List (Str×Value)).length }:=by
  refine rA (λn s'=>∃i σ' H',Inv X' [] σ' H' s'/\tn i s'.heap/\(∀b∈fp,H' b=none)/\W i n σ' H') ?_ m0 ⟨0,_,_,I4,st4,fr3,w0⟩
  rintro n s5 ⟨i,σ5,H5,I5,st5,fr5,w5⟩;rcases turn i n σ5 H5 w5 with ⟨stop,q⟩|⟨go,step⟩
  ·have:=T.done X' eP eW eK eC i [] s5 σ5 H5 (λ_ _=>False) I5 (stat fr5) st5 stop;rw [eA] at this;refine bQ this λr s6 ⟨hr,I6⟩=>?_;subst hr;obtain⟨m,hm,_⟩:=id I6.loc;rw [eE] at hm;have fre:H5 s3.heap.objs.size=none:=by have z:=I6.free;rw [eE] at z;exact z
   refine hRR _ _ H5 s6 m q hm fre (Nat.ne_of_gt I3.lt) I3.sz (λx c e z=>?_) (λp hp z=>?_) λh' hsb'=>?_
   ·obtain⟨v,w⟩:=I3.cell x c e;exact absurd w.lt (by rw [z];exact Nat.lt_irrefl _)
   ·exact absurd (IU (I3.pin p hp).1) (by rw [z];exact Nat.lt_irrefl _)
   ·rw [<- hX] at I6;exact yv I3 f3 I6 hsb'
  ·have:=T.item X' eP eW eK eC i [] s5 σ5 H5 (λ_ _=>False) I5 (stat fr5) st5 go;rw [eA] at this;refine bQ this λr s6 ⟨u,hr,h6⟩=>?_;subst hr;refine bQ h6 λ_ s7 hq0=>?_;obtain⟨x,H7,I7,r7,y7,st7,fr7⟩:=hq0;have I7':=I7.pinned (stat fr7) (T.obj _ _ st7);have g7:=step x H7 y7 _ s7 u I7' r7;rw [eP,eW,eA,eE,eX] at g7;refine bQ g7 λ_ s8 ⟨σ8,H8,I8,q8⟩=>?_;have t8:=q8 _ s8 I8;rw [eP,eW,eA,eE] at t8;refine bQ t8 λok s9 ⟨H9,I9,q9⟩=>?_
   have back:∀{σz:St} {Hz:Hp} {sz:Shared} {m':Nat},Inv X' ([] ++ oh fp s7.heap) σz Hz sz->m' < n->W (i + 1) m' σz Hz->∃m,m < n/\∃i σ' H',Inv X' [] σ' H' sz/\tn i sz.heap/\(∀b∈fp,H' b=none)/\W i m σ' H':=λ{σz Hz sz m'} Iz hm wz=>by
    refine⟨m',hm,i + 1,σz,Hz,Iz.kI,T.keep _ _ _ st7 λb hb o e=>(Iz.pin (b,o) (Jr _ (Jr _ (gK hb e)))).1,λb hb=>?_,wz⟩;obtain⟨o,e,d⟩:=T.obj _ _ st7 b hb;exact (Iz.pin (b,o) (Jr _ (Jr _ (gK hb e)))).2.1
   cases ok with
   | false =>
    obtain⟨m',hm,w9⟩:=q9
    exact back I9 hm w9
   | true =>
    have e9:=q9 _ s9 I9;rw [eP,eW,eA,eE,eX] at e9;refine bQ e9 λuy s10 hq0=>?_;obtain⟨y,H10,I10,r10,ys,hys,hl,m',hm,w10⟩:=hq0;have ap:=pG (X:=X') _ s10 σ8 H10 (.ref s2.heap.objs.size) [y] (.ref s2.heap.objs.size) [uy] (λ_ H'=>H'=upd H10 s2.heap.objs.size (.lst (ys ++ [y]))) I10 rfl (.cons r10 .nil) ⟨_,ys,y,rfl,rfl,hys,hl,rfl⟩;rw [eP,eW,eA,eX] at ap;refine bQ ap λ_ s11 hq0=>?_;obtain⟨_,H11,I11,_,q11⟩:=hq0
    have q11':H11=upd H10 s2.heap.objs.size (.lst (ys ++ [y])):=q11;subst q11';exact back I11 hm w10
 exact codeAny_compStart_list loop (T.self _ _ _ _ _ st4 loop)
theorem wJ {elt target iter:Expr} {ifs:List Expr} {pos:Pos} {wi:TI} (hc:X.calm=true) (hi:PI X target iter wi) (O:c5 X N' nt ix scope) (hs:∀x,Jt iter X.env x=pure x:=by intro _;rfl) :
  PE X (.ListComp elt [⟨target,iter,ifs,0⟩] scope pos) (B0 X N' nt ix scope elt target ifs wi):=by
 intro pins s σ H Q I h;rw [eval_ListComp];refine wpAny_comprehension_free (use:=none) rfl hs (O.cg I) O.kind O.names ?_;refine bQ (hi pins s σ H _ I h) λv s1 h1=>bQ h1 λitv s2 h2=>?_;refine sO (Q:=Q) (RR:=λacc C=>compPost (model X.prog X.w) X.A X.xe none (EP X pins σ Q) acc C) hc O h2 (λJ H1 z=>z) ?_;intro a C H' s6 m q hm _ _ _ _ _ hI;exact⟨m,hm,λh' hsb=>⟨.ref a,H',hI h' hsb,rfl,q⟩⟩
theorem vj {elt target iter:Expr} {ifs:List Expr} {pos spos py:Pos} {y:Str} {i:Nat} {wi:TI} (hc:X.calm=true) (hi:PI X target iter wi) (O:c5 X N' nt ix scope) (hN:X.N.Nodup) (hy:X.N[i]?=some y) (hx:Loc X.env.scope y)
  (hsw:swapsWith (.ListComp elt [⟨target,iter,ifs,0⟩] scope pos) (some (.Name y py)) spos.line X.env=pure true)
  (hf:X.fn y=true\/X.env.scope.names.lookup y=some .local) (hs:∀x,Jt iter X.env x=pure x:=by intro _;rfl) :
  PS X (.Assign [.Name y py] (.ListComp elt [⟨target,iter,ifs,0⟩] scope pos) spos) (λD=>λσ H=>B0 X N' nt ix scope elt target ifs wi σ H λv H'=>D.nx (σ.set i (some v)) H'):=by
 intro pins s σ H D I h;rw [exec_Assign_Name_used _ _ _ _ hsw];refine Iw (wpAny_standAt (Iw ?_));show wpAny _ X.A (do let _ <- comprehension (.ListComp elt [⟨target,iter,ifs,0⟩] scope pos) scope X.env _ (newList []) false (eval iter X.env) (some (assign (.Name y py) X.env))) _ _ s
 refine Iw (Jh (wpAny_comprehension_free (use:=some (assign (.Name y py) X.env)) (Q:=λ_ s'=>SP X pins D .next s') rfl hs (O.cg I) O.kind O.names ?_) (λ_ s' hq=>ID (ID hq)) λ_ _ e=>e);refine bQ (hi pins s σ H _ I h) λv s1 h1=>bQ h1 λitv s2 h2=>?_;refine sO (Q:=λv H'=>D.nx (σ.set i (some v)) H') (RR:=λacc C=>compPost (model X.prog X.w) X.A X.xe (some (assign (.Name y py) X.env)) (λ_ s'=>SP X pins D .next s') acc C) hc O h2 (λJ H1 z=>z) ?_
 intro a C H' s6 m q hm hC n1 n2 n3 n4 hI;have I6:Inv X pins σ H' s6:=hI s6.heap (.refl ..);show wpAny _ X.A (assign (.Name y py) X.env (.ref a)) _ _ _
 refine wpAny_assign_Name (qa I6 hN hy hx (v:=.ref a) rfl (λs7 I7 hsame=>?_) hf);obtain⟨b,hb,hbx⟩:=hsame
 have hne:C≠b:=by
  rcases hbx with e|e
  ·rw [e];exact n1
  ·exact Ne.symm (n3 y b e)
 refine⟨m,hm.sameBut hb hne,λh' hsb=>⟨_,H',?_,q⟩⟩;exact I7.turned (t':=s7.toks) (λc o hc' e=>(hsb.2 c hc').trans e) hC n1 (.inr n2) n3 n4
end
def e8 (nt:Nat) (ix:List Nat) (env:En):En:=List.replicate nt none ++ ix.map λi=>match env[i]? with
 | some (some (.d x))=>some (.d x)
 | _=>none
theorem ef {nt:Nat} {ix:List Nat} {env:En} (i:Nat) (ys:List D):(e8 nt ix env)[i]?≠some (some (.own ys)):=λq=>by
 unfold e8 at q
 by_cases hj:i < nt
 ·rw [IW (by simpa using hj),Jp] at q
  split at q <;> cases q
 ·rw [IQ (by simpa using hj),IJ] at q
  cases e:ix[i - (List.replicate nt (none:Option Lo)).length]? with
  | none=>rw [e] at q;cases q
  | some k =>
   rw [e] at q;simp only [Option.map_some,Option.some.injEq] at q
   split at q <;> cases q
theorem eB {nt:Nat} {ix:List Nat} {env:En} (i:Nat) (ys:List (D×D)):(e8 nt ix env)[i]?≠some (some (.dic ys)):=λq=>by
 unfold e8 at q
 by_cases hj:i < nt
 ·rw [IW (by simpa using hj),Jp] at q
  split at q <;> cases q
 ·rw [IQ (by simpa using hj),IJ] at q
  cases e:ix[i - (List.replicate nt (none:Option Lo)).length]? with
  | none=>rw [e] at q;cases q
  | some k =>
   rw [e] at q;simp only [Option.map_some,Option.some.injEq] at q
   split at q <;> cases q
def Base.here (F H:Hp):Base:=⟨F,H,λp=>H p≠none/\F p=none,λ_ h=>h.1⟩
theorem AQ {K:IB} {B:Base} {F H:Hp} {σ:St} {env:En} {nt:Nat} {ix:List Nat} {a:Addr} {o:HO} (r:Rep K B F H σ env) (ha:H a=none):Rep K (Base.here F H) F (upd H a o) (sM nt ix σ) (e8 nt ix env):=by
 refine⟨ak.refl _,r.fh.trans (a8 ha),a8 ha,λp h=>h.2,λj x q=>?_,λj ys q=>(ef j ys q).elim,λi j xs ys p _ q=>(ef i xs q).elim,λj ys q=>(eB j ys q).elim,λi j xs ys p _ q=>(eB i xs q).elim⟩;unfold e8 at q
 by_cases hj:j < nt
 ·rw [IW (by simpa using hj),Jp] at q
  split at q <;> cases q
 ·rw [IQ (by simpa using hj),IJ,List.length_replicate] at q
  cases e:ix[j - nt]? with
  | none=>rw [e] at q;cases q
  | some k =>
   rw [e] at q;simp only [Option.map_some,Option.some.injEq] at q
   split at q
   ·rename_i x' h';cases q;obtain⟨v,h1,h2⟩:=r.dv k x h';refine⟨v,?_,h2⟩;unfold sM;rw [IQ (by simpa using hj),IJ,List.length_replicate,e];simp only [Option.map_some,h1,Option.join];rfl
   ·cases q
theorem Rep.here {K:IB} {B:Base} {F H:Hp} {σ:St} {env:En} (r:Rep K B F H σ env) (no:∀(i:Nat) ys,env[i]?≠some (some (.own ys))) (no':∀(i:Nat) ys,env[i]?≠some (some (.dic ys))):Rep K (Base.here F H) F H σ env :=
 ⟨ak.refl _,r.fh,ak.refl _,λp h=>h.2,r.dv,λi ys q=>(no i ys q).elim,λi j xs ys p _ q=>(no i xs q).elim,λi ys q=>(no' i ys q).elim,λi j xs ys p _ q=>(no' i xs q).elim⟩
theorem Rep.there {K:IB} {B:Base} {F H F' H':Hp} {σ:St} {env gD:En} (r:Rep K (Base.here F H) F' H' σ env) (f0:ak B.F F) (h0:ak B.H H) (nf:∀p,B.N p->F p=none) (he:∀(i:Nat) l,gD[i]?=some (some l)->env[i]?=some (some l)) (no:∀(i:Nat) ys,gD[i]?≠some (some (.own ys))) (no':∀(i:Nat) ys,gD[i]?≠some (some (.dic ys))):Rep K B F' H' σ gD:=by
 refine⟨f0.trans r.f0,r.fh,h0.trans r.h0,λp hp=>?_,λi x q=>r.dv i x (he i _ q),λi ys q=>(no i ys q).elim,λi j xs ys p _ q=>(no i xs q).elim,λi ys q=>(no' i ys q).elim,λi j xs ys p _ q=>(no' i xs q).elim⟩;refine r.nf p ⟨λz=>?_,nf p hp⟩;have q:=B.nb p hp
 cases w:B.H p with
 | none=>exact q w
 | some o=>rw [h0 _ _ w] at z;cases z
structure pV (K:IB) (J:It) (F1:Hp) (xs:List D):Prop where
 go:∀(i:Nat) (G H':Hp),ak F1 G->ak G H'->i < xs.length->J.go i H'
 yld:∀(i:Nat) (G H':Hp) (y:V) (H'':Hp) (x:D),ak F1 G->ak G H'->xs[i]?=some x->J.yld i H' y H''->H''=H'/\Den K G x y
 stop:∀(G H':Hp),ak F1 G->ak G H'->J.stop xs.length H'
theorem vp {K:IB} {F1:Hp} {a:Addr} {vs:List V} {xs:List D} (q:fw K F1 a vs) (r:ao K F1 xs vs):pV K (GN K a) F1 xs where
 go:=λi G H' s1 s2 hi=>by
  have:i < vs.length:=by rw [<- r.length];exact hi
  exact⟨vs,vs[i],s2.seq (s1.seq q),by simp [this]⟩
 yld:=λi G H' y H'' x s1 s2 hx hy=>by
  obtain⟨v,h1,h2⟩:=r.get hx;obtain⟨e1,e2⟩:=hy;have:=e2 vs (s2.seq (s1.seq q));rw [h1] at this;cases this;exact⟨e1,Den.mono s1 _ _ h2⟩
 stop:=λG H' s1 s2=>⟨vs,s2.seq (s1.seq q),by rw [r.length];exact II _⟩
theorem xV {K:IB} {F1:Hp} {a:Addr} {vs:List V} {xs:List D} (q:fB K F1 a vs) (r:ao K F1 xs vs):pV K (GL K a) F1 xs where
 go:=λi G H' s1 s2 hi=>by
  have:i < vs.length:=by rw [<- r.length];exact hi
  exact⟨vs,vs[i],ak.bt s2 (ak.bt s1 q),by simp [this]⟩
 yld:=λi G H' y H'' x s1 s2 hx hy=>by
  obtain⟨v,h1,h2⟩:=r.get hx;obtain⟨e1,e2⟩:=hy;have:=e2 vs (ak.bt s2 (ak.bt s1 q));rw [h1] at this;cases this;exact⟨e1,Den.mono s1 _ _ h2⟩
 stop:=λG H' s1 s2=>⟨vs,ak.bt s2 (ak.bt s1 q),by rw [r.length];exact II _⟩
theorem xm {K:IB} {F1:Hp} {z:Str}:pV K (GC z) F1 (eD z) where
 go:=λi G H' s1 s2 hi=>by
  show i < z.cps.size
  simpa [eD] using hi
 yld:=λi G H' y H'' x s1 s2 hx hy=>by
  obtain⟨e1,c,hc,rfl⟩:=hy;unfold eD at hx;rw [IJ,JI,hc] at hx;cases hx;exact⟨e1,gw⟩
 stop:=λG H' s1 s2=>by
  show z.cps.size<=_
  simp [eD]
theorem mB {K:IB} {F1:Hp} {lo:Int} {n:Nat}:pV K (B4 lo n) F1 (aU lo n) where
 go:=λi G H' s1 s2 hi=>by
  have:i < n:=by simpa [aU] using hi
  exact this
 yld:=λi G H' y H'' x s1 s2 hx hy=>by
  obtain⟨e1,e2⟩:=hy
  have hi:i < n:=by
   have:=(Iy.mp hx).1
   simpa [aU] using this
  have:(aU lo n)[i]?=some (D.int (lo + (i:Int))):=by simp [aU,hi]
  rw [this] at hx;cases hx;exact⟨e1,by rw [e2];exact bq⟩
 stop:=λG H' s1 s2=>by
  have:(aU lo n).length=n:=by simp [aU]
  rw [this];exact II n
def comps (tt:TB) (te:TD) (gD:En) (Q:List D->Prop):List D->List D->Prop
 | [],acc=>Q acc
 | x :: xs,acc=>tt (gD.set 0 (some (.d x))) λok=>if ok=true then te (gD.set 0 (some (.d x))) λy=>acc.length < sizeLine/\comps tt te gD Q xs (acc ++ [y]) else comps tt te gD Q xs acc
structure vn (X:Cx) (ifs:List Expr) (t:TB):Prop where
 of ::
 run:∀(B:Base) (σ:St) (F H:Hp) (env:En) (Q:Bool->Prop),Rep X.K B F H σ env->t env Q->y2 X ifs σ H (RB X B σ env F Q)
instance {X:Cx} {ifs:List Expr} {t:TB}:CoeFun (vn X ifs t) (λ_=>∀(B:Base) (σ:St) (F H:Hp) (env:En) (Q:Bool->Prop),Rep X.K B F H σ env->t env Q->y2 X ifs σ H (RB X B σ env F Q)):=⟨vn.run⟩
def eT:TB:=λ_ Q=>Q true
section
variable {X:Cx}
theorem hV:vn X [] eT:=⟨λB σ F H env Q rp h pins s I=>wpAny_tests_nil ⟨H,I,F,rp,ak.refl _,h⟩⟩
variable {N':List Str} {nt:Nat} {ix:List Nat} {scope:Scope} {elt iter a b:Expr} {ifs:List Expr} {x:Str} {px pos:Pos} {tt:TB} {te ti:TD} {ts:d7}
theorem lX (hN:N'.Nodup) (h0:N'[0]?=some x) (hx:(relabel scope X.env).names.lookup x=some .local)
  (ht:∀C s H fp pins,vn (bU X N' scope C s H fp pins) ifs tt) (he:∀C s H fp pins,QE (bU X N' scope C s H fp pins) elt te)
  {B:Base} {σ:St} {F F1 H1:Hp} {env:En} {Q:List D->Prop} {J:It} {xs:List D} (sF:ak F F1) (r1:Rep X.K B F1 H1 σ env) (S:pV X.K J F1 xs) (q1:comps tt te (e8 1 ix env) Q xs []) :
  ∀(a C:Addr) (s:Shared) (fp:List Addr) (pins:List (Addr×Obj)),H1 a=none ->
   ∃W:Nat->Nat->St->Hp->Prop,(∃m,W 0 m (sM 1 ix σ) (upd H1 a (.lst [])))/\∀i m σ' H',W i m σ' H'->(J.stop i H'/\RF X B σ env F Q (.ref a) H')\/(J.go i H'/\∀y H2,J.yld i H' y H2 ->
    wG (bU X N' scope C s (upd H1 a (.lst [])) fp pins) (.Name x px) y σ' H2 λσ2 H3=>y2 (bU X N' scope C s (upd H1 a (.lst [])) fp pins) ifs σ2 H3 λok H4=>if ok=true then
     wE (bU X N' scope C s (upd H1 a (.lst [])) fp pins) elt σ2 H4 λy H5=>∃ys,H5 a=some (.lst ys)/\ys.length < sizeLine/\∃m',m' < m/\W (i + 1) m' σ2 (upd H5 a (.lst (ys ++ [y])))
     else ∃m',m' < m/\W (i + 1) m' σ2 H4):=by
 intro a C s fp pins ha;have hF1a:F1 a=none:=r1.mG ha
 refine⟨λi m σ' H'=>m=xs.length - i/\i<=xs.length/\∃(F':Hp) (acc:List D) (ys:List V),Rep X.K (Base.here F1 H1) F' H' σ' (e8 1 ix env)/\H' a=some (.lst ys)/\F' a=none/\ao X.K F' acc ys/\comps tt te (e8 1 ix env) Q (xs.drop i) acc,
  ⟨xs.length,by simp,Ju _,F1,[],[],AQ r1 ha,au,hF1a,aJ,by simpa using q1⟩,?_⟩
 rintro i m σ2 H2 ⟨rfl,hi2,F2,acc,ys,r2,hys,hFa,hd,q2⟩;have sH:ak H1 H2:=r2.h0
 by_cases hlt:i < xs.length
 ·have hxi:xs[i]?=some xs[i]:=by simp [hlt]
  rw [drop_cons hxi] at q2;refine .inr ⟨S.go i F2 H2 r2.f0 r2.fh hlt,λy H3 hy=>?_⟩;obtain⟨eH,dy⟩:=S.yld i F2 H2 y H3 xs[i] r2.f0 r2.fh hxi hy;subst eH;have r2':=r2.here ef eB;have g:=aL (X:=bU X N' scope C s (upd H1 a (.lst [])) fp pins) (pos:=px) 0 hN h0 (.inl hx) (.inr hx);refine gN (g (Base.here F2 H3) σ2 F2 H3 (e8 1 ix env) (λe=>e=(e8 1 ix env).set 0 (some (.d xs[i]))) xs[i] y r2' dy rfl) λσ3 H4 hq0=>?_
  obtain⟨F4,env4,r4,s4,q4⟩:=hq0;subst q4;intro pins' s' I';refine Jh (ht C s (upd H1 a (.lst [])) fp pins (Base.here F2 H3) σ3 F4 H4 _ _ r4 q2 pins' s' I') (λok s5 ⟨H5,I5,F5,r5,s5',q5⟩=>⟨H5,I5,?_⟩) λ_ _ e=>e
  have weak':∀(j:Nat) l,(e8 1 ix env)[j]?=some (some l)->((e8 1 ix env).set 0 (some (.d xs[i])))[j]?=some (some l):=λj l hj=>by
   have hj0:j≠0:=λz=>by
    subst z;simp [e8] at hj
   rw [IA (Ne.symm hj0)];exact hj
  cases ok with
  | false =>
   have q5':comps tt te (e8 1 ix env) Q (xs.drop (i + 1)) acc:=q5
   refine⟨xs.length - (i + 1),by omega,rfl,by omega,F5,acc,ys,r5.there r2.f0 sH (λp hp=>r2.nf p hp) weak' ef eB,r5.h0 _ _ hys,r5.nf a ⟨by rw [hys];simp,hFa⟩,ao.mono r5.f0 _ _ hd,q5'⟩
  | true =>
   have q5':te ((e8 1 ix env).set 0 (some (.d xs[i]))) λy=>acc.length < sizeLine/\comps tt te (e8 1 ix env) Q (xs.drop (i + 1)) (acc ++ [y]):=q5;refine aA (he C s (upd H1 a (.lst [])) fp pins (Base.here F2 H3) σ3 F5 H5 _ _ r5 q5') λz H6 hq0=>?_;obtain⟨F6,d,r6,s6,d6,hl,q6⟩:=hq0;have ha6:H6 a=some (.lst ys):=r6.h0 _ _ hys;have hF6:F6 a=none:=r6.nf a ⟨by rw [hys];simp,hFa⟩;refine⟨ys,ha6,by rw [<- hd.length];exact hl,xs.length - (i + 1),by omega,rfl,by omega,F6,acc ++ [d],ys ++ [z],?_,au,hF6,(ao.mono r6.f0 _ _ hd).append (aF d6 aJ),q6⟩
   have r7:Rep X.K (Base.here F1 H1) F6 H6 σ3 (e8 1 ix env):=r6.there r2.f0 sH (λp hp=>r2.nf p hp) weak' ef eB;refine⟨r7.f0,λb o hb=>?_,λb o hb=>?_,r7.nf,r7.dv,λj zs q=>(ef j zs q).elim,r7.ne,λj zs q=>(eB j zs q).elim,r7.nm⟩
   ·have:b≠a:=λw=>by subst w;rw [hF6] at hb;cases hb
    rw [av this];exact r7.fh _ _ hb
   ·have:b≠a:=λw=>by subst w;have hb':H1 b=some o:=hb;rw [ha] at hb';cases hb'
    rw [av this];exact r7.h0 _ _ hb
 ·have e:i=xs.length:=by omega
  subst e;rw [JE (II _)] at q2;refine .inl ⟨S.stop F2 H2 r2.f0 r2.fh,F2,λb=>if b=a then none else H2 b,a,ys,acc,rfl,if_pos rfl,?_,?_,sF.trans r2.f0,hd,q2⟩
  ·funext b;unfold upd
   by_cases z:b=a
   ·rw [if_pos z,z];exact hys
   ·rw [if_neg z];show H2 b=if b=a then none else H2 b
    rw [if_neg z]
  ·refine r1.ext r2.f0 (λb o hb=>?_) (λb o hb=>?_) λp h1 h2=>r2.nf p ⟨h1,h2⟩
   ·have:b≠a:=λw=>by subst w;rw [hFa] at hb;cases hb
    show (if b=a then none else H2 b)=_
    rw [if_neg this];exact r2.fh _ _ hb
   ·have:b≠a:=λw=>by subst w;rw [ha] at hb;cases hb
    show (if b=a then none else H2 b)=_
    rw [if_neg this];exact sH _ _ hb
theorem RF.rv {B:Base} {σ:St} {env:En} {F:Hp} {Q:D->Prop} {v:V} {H:Hp} (h:RF X B σ env F (λds=>Q (.lst ds)) v H):RV X B σ env F Q v H:=by
 obtain⟨F',H1,p,vs,ds,rfl,hp,rfl,r,s,hd,q⟩:=h;exact (RV.yy r hd q p hp).weaken s
def fL (ts:d7):TD:=λenv Q=>ts env λds=>Q (.lst ds)
theorem QF.e {e:Expr} {ts:d7} (h:QF X e ts):QE X e (fL ts):=⟨λB σ F H env Q rp hq=>aA (h B σ F H env _ rp hq) λv H' z=>z.rv⟩
def js (ix:List Nat) (ti:TD) (tt:TB) (te:TD):d7:=λenv Q=>ti env λd=>∃xs,dB d=some xs/\comps tt te (e8 1 ix env) Q xs []
theorem yu {B:Base} {σ:St} {F H:Hp} {env:En} {P:List D->Prop} {R:It->Hp->Prop} (hi:QE X iter ti) (rp:Rep X.K B F H σ env) (h:ti env λd=>∃xs,dB d=some xs/\P xs)
  (hR:∀(J:It) (F1 H1:Hp) (xs:List D),Rep X.K B F1 H1 σ env->ak F F1->pV X.K J F1 xs->P xs->R J H1):FH X.K (wE X iter) σ H R:=by
 refine aA (hi B σ F H env _ rp h) λv H1 hq0=>?_;obtain⟨F1,d,r1,s1,d1,xs,hx,q1⟩:=hq0
 cases d with
 | lst ys =>
  simp only [dB] at hx;cases hx;simp only [Den] at d1;obtain⟨a,vs,rfl,q,r⟩:=d1
  exact .inl ⟨a,rfl,.inl ⟨⟨vs,r1.fh.seq q⟩,hR _ F1 H1 _ r1 s1 (vp q r) q1⟩⟩
 | tup ys =>
  simp only [dB] at hx;cases hx;simp only [Den] at d1;obtain⟨a,vs,rfl,q,r⟩:=d1
  exact .inl ⟨a,rfl,.inr ⟨⟨vs,ak.bt r1.fh q⟩,hR _ F1 H1 _ r1 s1 (xV q r) q1⟩⟩
 | str z =>
  simp only [dB] at hx;cases hx;simp only [Den] at d1;subst d1
  exact .inr ⟨z,rfl,hR _ F1 H1 _ r1 s1 xm q1⟩
 | _=>simp only [dB] at hx;cases hx
theorem rj (hc:X.calm=true) (O:c5 X N' 1 ix scope) (hN:N'.Nodup) (h0:N'[0]?=some x) (hx:(relabel scope X.env).names.lookup x=some .local) (hi:QE X iter ti)
  (ht:∀C s H fp pins,vn (bU X N' scope C s H fp pins) ifs tt) (he:∀C s H fp pins,QE (bU X N' scope C s H fp pins) elt te) (hs:∀x,Jt iter X.env x=pure x:=by intro _;rfl) :
  QF X (.ListComp elt [⟨.Name x px,iter,ifs,0⟩] scope pos) (js ix ti tt te):=by
 refine⟨?_⟩;intro B σ F H env Q rp h;refine cj (wJ hc (yl bB) O hs) ?_;exact yu hi rp h λJ F1 H1 xs r1 s1 S q=>lX hN h0 hx ht he s1 r1 S q
def fZ (f:List D->(Int->Nat->Prop)->Prop) (ix:List Nat) (ts:d7) (tt:TB) (te:TD):d7:=λenv Q=>ts env λxs=>f xs λlo n=>comps tt te (e8 1 ix env) Q (aU lo n) []
theorem xN {p pos2:Pos} (hc:X.calm=true) (O:c5 X N' 1 ix scope) (hN:N'.Nodup) (h0:N'[0]?=some x) (hx:(relabel scope X.env).names.lookup x=some .local) (hgl:Gl X "range") (hm:X.mg "range" = none) (ha:QA X [a] ts)
  (ht:∀C s H fp pins,vn (bU X N' scope C s H fp pins) ifs tt) (he:∀C s H fp pins,QE (bU X N' scope C s H fp pins) elt te) (hst:starEach [a] X.env=[(false,eval a X.env)]:=by rfl)
  (hs:∀x,Jt (.Call (.Name "range" p) [a] [] pos2) X.env x=pure x:=by intro _;rfl) :
  QF X (.ListComp elt [⟨.Name x px,.Call (.Name "range" p) [a] [] pos2,ifs,0⟩] scope pos) (fZ jA ix ts tt te):=by
 refine⟨?_⟩;intro B σ F H env Q rp h;refine cj (wJ hc (kT hgl hm ji hst) O hs) ?_;refine cH (ha B σ F H env _ rp h) λvs H1 hq0=>?_;obtain⟨F1,ds,r1,s1,d1,q1⟩:=hq0
 (try dsimp only at q1);unfold jA at q1
 split at q1
 ·simp only [ao,Den] at d1;obtain⟨v,r,rfl,rfl,rfl⟩:=d1;exact⟨_,rfl,q1.1.1,q1.1.2,lX hN h0 hx ht he s1 r1 mB q1.2⟩
 ·exact q1.elim
end
section
variable {X:Cx} {a b c e:Expr} {es:List Expr} {ta tb tc:TD} {tA tB':TB} {ts:d7} {p p2 pos:Pos} {rest:List Expr}
theorem FN (hm:X.mg "abs" = none) (ha:QA X [e] ts) (hg:Gl X "abs":=by rfl) (he:starEach [e] X.env=(false,eval e X.env) :: starEach [] X.env:=by exact aV rfl):QE X (.Call (.Name "abs" p) [e] [] pos) (aB ym ts) :=
 mZ yn DK hg hm xZ ha (he:=he)
theorem l8 (hm:X.mg "len" = none) (ha:QA X [e] ts) (hg:Gl X "len":=by rfl) (he:starEach [e] X.env=(false,eval e X.env) :: starEach [] X.env:=by exact aV rfl):QE X (.Call (.Name "len" p) [e] [] pos) (aB jj ts) :=
 mZ (jR.or qz) DJ hg hm pS ha (he:=he)
theorem Gg (hm:X.mg "max" = none) (ha:QA X [a,b] ts) (hg:Gl X "max":=by rfl) (hc:X.calm=true:=by rfl) (he:starEach [a,b] X.env=(false,eval a X.env) :: starEach [b] X.env:=by exact aV rfl) (hpl:(backTo pos (starEach [b] X.env)).any (·.1)=false:=by rfl):QE X (.Call (.Name "max" p) [a,b] [] pos) (aB yW ts) :=
 mZ (xP hc) CD hg hm xM ha (he:=he) (hpl:=hpl)
theorem E7 (hm:X.mg "min" = none) (ha:QA X [a,b] ts) (hg:Gl X "min":=by rfl) (hc:X.calm=true:=by rfl) (he:starEach [a,b] X.env=(false,eval a X.env) :: starEach [b] X.env:=by exact aV rfl) (hpl:(backTo pos (starEach [b] X.env)).any (·.1)=false:=by rfl):QE X (.Call (.Name "min" p) [a,b] [] pos) (aB zQ ts) :=
 mZ (xG hc) Ei hg hm xB ha (he:=he) (hpl:=hpl)
theorem wk (hm:X.mg "int" = none) (ha:QA X [e] ts) (hg:Gl X "int":=by rfl) (he:starEach [e] X.env=(false,eval e X.env) :: starEach [] X.env:=by exact aV rfl):QE X (.Call (.Name "int" p) [e] [] pos) (aB rd ts) :=
 tD xK Di hg hm xf ha (he:=he)
theorem fv (hm:X.mg "tuple" = none) (ha:QA X [e] ts) (hg:Gl X "tuple":=by rfl) (he:starEach [e] X.env=(false,eval e X.env) :: starEach [] X.env:=by exact aV rfl):QE X (.Call (.Name "tuple" p) [e] [] pos) (aB fH ts) :=
 tD oZ zM hg hm tZ ha (he:=he)
variable {N':List Str} {nt:Nat} {ix:List Nat} {scope:Scope} {elt iter:Expr} {ifs:List Expr} {x:Str} {px py spos:Pos} {tt:TB} {te ti:TD}
theorem c5.of (sc:Scope) (hsc:X.env.scope=sc) (kind:scope.kind=.function) (nocell:∀x∈scope.names,x.2≠.cell) (names:∀x∈scope.names,x.2=.local->scope.names.lookup x.1=some .local)
  (free:∀x∈scope.names,x.2=.free->sc.names.lookup x.1=some .cell)
  (caps:∀(j:Nat) (i:Nat),ix[j]?=some i->∃x,N'[nt + j]?=some x/\X.N[i]?=some x/\(x,NameKind.free)∈scope.names/\(relabel scope X.env).names.lookup x=some .cell) (len:N'.length=nt + ix.length):c5 X N' nt ix scope :=
 ⟨kind,nocell,names,by rw [hsc];exact free,caps,len⟩
end
def Base.guard (B:Base) (p:Addr) (o:HO):Base:=⟨B.F,upd B.H p o,λa=>a=p\/B.N a,λa h=>by
 by_cases e:a=p
 ·subst e;rw [au];simp
 ·rw [av e];exact B.nb a (h.resolve_left e)⟩
section
variable {K:IB} {B:Base} {F H:Hp} {σ:St} {env:En} {p:Addr} {o o':HO}
theorem Rep.guarded (r:Rep K B F H σ env) (hp:H p=none):Rep K (B.guard p o) F (upd H p o) σ env where
 f0:=r.f0
 fh:=r.fh.trans (a8 hp)
 h0:=λb u q=>by
  by_cases e:b=p
  ·subst e;rw [au];have q':upd B.H b o b=some u:=q;rw [au] at q';exact q'
  ·rw [av e];have q':upd B.H p o b=some u:=q;rw [av e] at q';exact r.h0 _ _ q'
 nf:=λa h=>by
  rcases h with rfl|h
  ·exact r.mG hp
  ·exact r.nf a h
 dv:=r.dv
 ov:=λi xs h=>by
  obtain⟨q,vs,h1,h2,h3,h4,h5⟩:=r.ov i xs h;have ne:q≠p:=λe=>by subst e;rw [hp] at h2;cases h2
  exact⟨q,vs,h1,by rw [av ne];exact h2,h3,by show upd B.H p o q=none;rw [av ne];exact h4,h5⟩
 ne:=r.ne
 mv:=λi xs h=>by
  obtain⟨q,ep,us,vs,h1,h2,h3,h4,h5⟩:=r.mv i xs h;have ne:q≠p:=λe=>by subst e;rw [hp] at h2;cases h2
  exact⟨q,ep,us,vs,h1,by rw [av ne];exact h2,h3,by show upd B.H p o q=none;rw [av ne];exact h4,h5⟩
 nm:=r.nm
theorem Rep.kD (r:Rep K (B.guard p o) F H σ env) (hb:B.H p=none):Rep K B F H σ env/\H p=some o/\F p=none:=by
 refine⟨⟨r.f0,r.fh,λb u q=>r.h0 b u ?_,λa h=>r.nf a (.inr h),r.dv,λi xs h=>?_,r.ne,λi xs h=>?_,r.nm⟩,r.h0 p o au,r.nf p (.inl rfl)⟩
 ·show upd B.H p o b=some u
  have:b≠p:=λe=>by subst e;rw [hb] at q;cases q
  rw [av this];exact q
 ·obtain⟨q,vs,h1,h2,h3,h4,h5⟩:=r.ov i xs h;have h4':upd B.H p o q=none:=h4;have ne:q≠p:=λe=>by subst e;rw [au] at h4';cases h4'
  rw [av ne] at h4';exact⟨q,vs,h1,h2,h3,h4',h5⟩
 ·obtain⟨q,ep,us,vs,h1,h2,h3,h4,h5⟩:=r.mv i xs h;have h4':upd B.H p o q=none:=h4;have ne:q≠p:=λe=>by subst e;rw [au] at h4';cases h4'
  rw [av ne] at h4';exact⟨q,ep,us,vs,h1,h2,h3,h4',h5⟩
theorem Rep.settle (r:Rep K B F H σ env) (hp:H p=some o) (hf:F p=none) (hb:B.H p=none) (hk:∀vs,o≠.lst vs) (hx:∀φ,o≠.ext φ:=by intro φ e;cases e):Rep K B (upd F p o') (upd H p o') σ env/\ak F (upd F p o'):=by
 have s1:ak F (upd F p o'):=a8 hf;refine⟨⟨r.f0.trans s1,kY r.fh,λb u q=>?_,λa h=>?_,λi x h=>?_,λi xs h=>?_,r.ne,λi xs h=>?_,r.nm⟩,s1⟩
 ·have:b≠p:=λe=>by subst e;rw [hb] at q;cases q
  rw [av this];exact r.h0 _ _ q
 ·have:a≠p:=λe=>by subst e;exact B.nb a h hb
  rw [av this];exact r.nf a h
 ·obtain⟨v,h1,h2⟩:=r.dv i x h;exact⟨v,h1,Den.mono s1 _ _ h2⟩
 ·obtain⟨q,vs,h1,h2,h3,h4,h5⟩:=r.ov i xs h;have ne:q≠p:=λe=>by subst e;rw [hp] at h2;cases h2;exact hk vs rfl
  exact⟨q,vs,h1,by rw [av ne];exact h2,by rw [av ne];exact h3,h4,ao.mono s1 _ _ h5⟩
 ·obtain⟨q,ep,us,vs,h1,h2,h3,h4,h5,h6⟩:=r.mv i xs h;have ne:q≠p:=λe=>by subst e;rw [hp] at h2;cases h2;exact hx _ rfl
  exact⟨q,ep,us,vs,h1,by rw [av ne];exact h2,by rw [av ne];exact h3,h4,ao.mono s1 _ _ h5,ao.mono s1 _ _ h6⟩
end
def r9 (ks:List Key) (xs:List D) (k:Key):Option D:=match ks,xs with
 | k' :: ks,x :: xs=>if k'=k then some x else r9 ks xs k
 | _,_=>none
theorem pY {K:IB} {F:Hp}:∀{ks:List Key} {xs:List D} {vs:List V} {k:Key} {d:D},ao K F xs vs->r9 ks xs k=some d->∃v,jV (ks.zip vs) k=some v/\Den K F d v
 | [],xs,vs,k,d,h,e=>by cases xs <;> cases e
 | k' :: ks,[],vs,k,d,h,e=>by cases e
 | k' :: ks,x :: xs,vs,k,d,h,e=>by
  simp only [ao] at h;obtain⟨v,r,rfl,a,b⟩:=h;unfold r9 at e;rw [List.zip_cons_cons]
  split at e
  ·rename_i z;cases e;exact⟨v,j8 (p:=(k',v)) z,a⟩
  ·rename_i z;rw [kn (p:=(k',v)) z];exact pY b e
theorem kH:∀(kvs acc:List (Key×V)),(acc ++ kvs).map (·.1) |>.Nodup->fV acc kvs=acc ++ kvs
 | [],acc,_=>by simp [fV]
 | (k,v) :: r,acc,h=>by
  have hn:jV acc k=none:=by
   rw [<- Option.not_isSome_iff_eq_none,<- oE];intro z;rw [List.any_eq_true] at z;obtain⟨x,hx,e⟩:=z;have e':x.1=k:=by simpa using e
   rw [List.map_append,JJ] at h;exact h.2.2 k (by rw [<- e'];exact List.mem_map_of_mem hx) k (by simp) rfl
  show fV (putK acc k v) r=_
  rw [zJ v hn,kH r (acc ++ [(k,v)]) (by simpa using h)];simp
section
variable {X:Cx} {a b:Expr} {ta tb:TD} {pos:Pos}
structure QD (X:Cx) (pos:Pos) (ks:List Key) (keys:List (Option Expr)) (values:List Expr) (t:d7):Prop where
 of ::
 run:∃trs,Fs X pos keys values trs/\∀(B:Base) (σ:St) (F H:Hp) (env:En) (Q:List D->Prop) (Z:List (V×V)->Hp->Prop),Rep X.K B F H σ env->t env Q ->
  (∀F' H' vs ds,Rep X.K B F' H' σ env->ak F F'->ao X.K F' ds vs->vs.length=ks.length->Q ds->Z ((ks.zip vs).map λkv=>(kV kv.1,kv.2)) H')->lH trs σ H Z
theorem DU:QD X pos [] [] [] aw:=⟨[],qU,λB σ F H env Q Z r h k=>k F H [] [] r (ak.refl _) aJ rfl h⟩
theorem BD {k:Key} {ke v:Expr} {ks:List Key} {keys:List (Option Expr)} {values:List Expr} {tv:TD} {ts:d7} (hk:PE X ke (tC (kV k))) (hv:QE X v tv) (hr:QD X pos ks keys values ts):QD X pos (k :: ks) (some ke :: keys) (v :: values) (af tv ts):=by
 obtain⟨trs,hp,hq⟩:=hr.run;refine⟨(tC (kV k),wE X v) :: trs,nX hk bB hp,λB σ F H env Q Z r h z=>?_⟩;show tC (kV k) σ H λx H1=>wE X v σ H1 λy H2=>lH trs σ H2 λps H3=>Z ((x,y) :: ps) H3
 show wE X v σ H λy H2=>lH trs σ H2 λps H3=>Z ((kV k,y) :: ps) H3
 refine aA (hv B σ F H env _ r h) λy H1 hq0=>?_;obtain⟨F1,d,r1,s1,d1,q1⟩:=hq0;refine hq B σ F1 H1 env _ _ r1 q1 λF' H' vs ds r' s' dl hl q=>?_;exact z F' H' (y :: vs) (d :: ds) r' (s1.trans s') (aF (Den.mono s' _ _ d1) dl) (by simp [hl]) q
theorem DV {x:Str} {j:Nat} {p:Pos} {v:Expr} {ks:List Key} {keys:List (Option Expr)} {values:List Expr} {tv:TD} {ts:d7} (hv:QE X v tv) (hr:QD X pos ks keys values ts):QD X pos (.inr x :: ks) (some (.Constant (.str x) j p) :: keys) (v :: values) (af tv ts):=BD yM hv hr
def mi (ks:List Key) (ts:d7):TD:=λenv Q=>ts env λxs=>Q (.dct ks xs)
theorem CJ {ks:List Key} {keys:List (Option Expr)} {values:List Expr} {ts:d7} (h:QD X pos ks keys values ts) (hall:keys.all (·.isSome)=true:=by rfl) (hl:keys.length=values.length:=by rfl) (h0:keys≠[]:=by simp) (h15:keys.length<=15:=by decide)
  (hkl:ks.length=keys.length:=by rfl) (nd:ks.Nodup:=by decide +kernel):QE X (.Dict keys values pos) (mi ks ts):=by
 obtain⟨trs,hp,hq⟩:=h.run;refine⟨λB σ F H env Q r hh=>cj (v8 hp hall hl h0 h15) λp hpn=>?_⟩;have hb:B.H p=none:=r.h0.free hpn;refine hq (B.guard p (.dK [])) σ F _ env _ _ (r.guarded hpn) hh λF' H' vs ds r' s' dl hlen q=>?_;obtain⟨r2,e2,f2⟩:=r'.kD hb;refine⟨e2,ks.zip vs,rfl,by rw [List.length_zip,hlen,Nat.min_self,hkl];exact h15,?_⟩
 have em:fV [] (ks.zip vs)=ks.zip vs:=by
  rw [kH]
  ·simp
  ·rw [List.nil_append,List.map_fst_zip (by omega)];exact nd
 rw [em];obtain⟨r3,s3⟩:=r2.settle (o':=.dK (ks.zip vs)) e2 f2 hb (λvs z=>by cases z);refine⟨_,.dct ks ds,r3,s'.trans s3,?_,q⟩;simp only [Den];exact⟨p,vs,rfl,au,hlen,ao.mono s3 _ _ dl⟩
def A0:D->Option Key
 | .str x=>some (.inr x)
 | .int i=>some (.inl i)
 | _=>none
theorem Ap {K:IB} {F:Hp} {d:D} {v:V} {k:Key} (h:Den K F d v) (e:A0 d=some k):v=kV k:=by
 cases d <;> simp only [A0,Option.some.injEq] at e <;> first|cases e|skip
 all_goals (simp only [Den] at h;subst h;rfl)
def GR (x y:D) (Q:D->Prop):Prop:=match x with
 | .dct ks xs=>∃k v,A0 y=some k/\r9 ks xs k=some v/\Q v
 | _=>False
theorem FD (hu:X.A.units + 64 < cLine) (ha:QE X a ta) (hb:QE X b tb) (hs:yY b):QE X (.Subscript a b pos) (aH GR ta tb):=by
 refine⟨λB σ F H env Q r h=>cj (BL (by omega) bB bB hs) ?_⟩;refine aA (ha B σ F H env _ r h) λx H1 hq0=>?_;obtain⟨F1,d,r1,s1,d1,q1⟩:=hq0;refine aA (hb B σ F1 H1 env _ r1 q1) λy H2 hq0=>?_;obtain⟨F2,d',r2,s2,d2,q2⟩:=hq0;have d1':=Den.mono s2 _ _ d1;unfold GR at q2
 split at q2
 ·obtain⟨k,v,hk,hv,q⟩:=q2;simp only [Den] at d1';obtain⟨p,vs,rfl,hp,hl,dl⟩:=d1';obtain⟨w,hw,dw⟩:=pY dl hv;have:=Ap d2 hk;subst this;exact⟨p,w,rfl,by rw [<- hw];exact .k (r2.fh _ _ hp),F2,v,r2,s1.trans s2,dw,q⟩
 ·exact q2.elim
end
theorem bC.at {P:Program} {w:World} {H:Hp} {h:Heap} {a:Addr} {o:HO} (x:bC P w H h a o):∃ob,h.get? a=some ob:=by
 cases o with
 | lst xs=>obtain⟨_,_,_,_,e⟩:=x;exact⟨_,e⟩
 | tup xs=>obtain⟨_,_,_,ob,e,_⟩:=x;exact⟨_,e⟩
 | dK kvs=>obtain⟨_,_,_,_,o,_,_,e,_⟩:=x;exact⟨_,e⟩
 | dT kvs=>obtain⟨_,_,_,_,o,_,_,e,_⟩:=x;exact⟨_,e⟩
 | set S n=>obtain⟨o,_,_,_,e,_⟩:=x;exact⟨_,e⟩
 | ins C dx fs=>obtain⟨_,_,_,e,_⟩:=x;exact⟨_,e⟩
 | own y=>exact x
 | xd fs=>obtain⟨_,⟨_,_,_,e,_⟩,_⟩:=x;exact⟨_,e⟩
 | rng lo hi=>obtain⟨_,_,_,e⟩:=x;exact⟨_,e⟩
 | frz ob u=>obtain⟨e,_⟩:=x;exact⟨_,e⟩
 | m8 ps=>obtain⟨_,e,_⟩:=x;exact⟨_,e⟩
 | cdr c q=>exact x.1
 | met f y=>exact⟨_,(show h.get? a=some _ from x)⟩
 | ext φ=>obtain⟨_,⟨_,e⟩,_⟩:=x;exact⟨_,e⟩
def g9 (H:Hp) (h0 h:Heap) (a:Addr) (cls:Value) (dd:Option Addr):Prop:=h0.get? a=none/\H a=none/\∃oe vs,h.get? a=some oe/\oe.cls=cls/\oe.dict=dd/\oe.data=.fields vs /\
 (vs[1]?=some .none\/∃T oT ts,vs[1]?=some (.ref T)/\h0.get? T=none/\H T=none/\T≠a/\h.get? T=some oT/\oT.data=.fields ts/\ts[3]?=some .none)
abbrev yJ (H:Hp) (h0 h:Heap) (a:Addr) (cls:Value):Prop:=g9 H h0 h a cls none
theorem g9.Cv {H:Hp} {g h0 h:Heap} {a:Addr} {cls:Value} {dd:Option Addr} (x:g9 H h0 h a cls dd) (k:∀b o,g.get? b=some o->∃o',h0.get? b=some o'):g9 H g h a cls dd:=by
 have none_:∀b,h0.get? b=none->g.get? b=none:=λb e=>by
  cases q:g.get? b with
  | none=>rfl
  | some o=>obtain⟨o',e'⟩:=k b o q;rw [e] at e';cases e'
 obtain⟨n,f,oe,vs,he,hc,hdc,hd,z⟩:=x;refine⟨none_ a n,f,oe,vs,he,hc,hdc,hd,?_⟩;rcases z with z|⟨T,oT,ts,h1,h2,h3⟩
 ·exact .inl z
 ·exact .inr ⟨T,oT,ts,h1,none_ T h2,h3⟩
def B5 (P:Program) (w:World):zN:=λouter H s E e s'=>∃(a:Addr) (C:Value) (dd:Option Addr) (H':Hp),e=.ref a/\s'.os=s.os/\AllBare s'.gens/\Un (jP outer) [] H H' s.heap s'.heap/\jk P w H' s'.heap/\g9 H' s.heap s'.heap a C dd/\E C dd H'
theorem oo {M:Model} {A:Around} {E:Value->Shared->Prop} {s:Shared} {base:Heap} {env:Env} {outer:List Env} {L x:Addr} {ox:Obj} {fs:Array Value} {hd0:Value} {nx0:Bool} {Q:Unit->Shared->Prop}
  (hA:A.frames=some (env :: outer)) (ff:s.heap.FunFrames base (env :: outer)) (hL:env.frame=some L) (hx:s.heap.get? x=some ox) (hdx:ox.data=.fields fs) (h2:1 < fs.size)
  (k:∀h' T oT ts,(∀b o,s.heap.get? b=some o->b≠x->b∉jP (env :: outer)->h'.get? b=some o)->(∀b o,s.heap.get? b=some o->b∈jP (env :: outer)->∃sl,h'.get? b=some { o with slots:=sl }) ->
   h'.get? x=some (ox.mapFields (·.setIfInBounds 1 (.ref T)))->s.heap.get? T=none->T≠x->h'.get? T=some oT->oT.data=.fields ts->ts[3]?=some .none->Q () { s with heap:=h' }) :
  wpAny M A (do let a <- frameOf env;let pl <- entryPlaceOf L nx0;let b <- EntryCells.newEntry hd0 a .none (rawInt L) .none pl;setField (.ref x) 1 b) (λ_ s'=>wpAny M A (setFlight (.ref x) none) Q E s') E s:=by
 have xnf:x∉jP (env :: outer):=λz=>by
  obtain⟨_,o,e,nf⟩:=ff.mem z;rw [hx] at e;cases e;exact nf fs hdx
 refine Iw (wpAny_frameOf_fun hA ff hL λg so=>?_);refine Iw (wpAny_entryPlaceOf λpl ipl=>?_);unfold EntryCells.newEntry newFields;refine Iw (wpAny_newObj_type ?_ (ipl.sizeOk5 _ _ _ _ _));have gx:g.get? x=some ox:=(so.2.1 x xnf).trans hx;generalize hno:({ cls:=.type "traceback",dict:=none,data:=.fields ([hd0,.ref L,.none,rawInt L,.none] ++ (if pl.isEmpty then List.replicate 6 Value.none else pl)).toArray }:Obj)=no
 have nod:no.data=.fields ([hd0,.ref L,.none,rawInt L,.none] ++ (if pl.isEmpty then List.replicate 6 Value.none else pl)).toArray:=by rw [<- hno]
 have nofree:no.isFreed=false:=Obj.isFreed_of_fields nod;have gx1:(g.push no).get? x=some ox:=IC no gx;have gT1:(g.push no).get? g.objs.size=some no:=IS g nofree;have Tx:g.objs.size≠x:=λz=>absurd (IU gx) (by rw [z];exact Nat.lt_irrefl _);refine wpAny_setField gx1 hdx h2 ?_;have dx2:=Obj.data_mapFields hdx (·.setIfInBounds 1 (Value.ref g.objs.size));have gx2:=Heap.get?_update_self (Obj.mapFields (·.setIfInBounds 1 (Value.ref g.objs.size))) gx1 (Obj.isFreed_of_fields dx2)
 have gT2:((g.push no).update x (Obj.mapFields (·.setIfInBounds 1 (Value.ref g.objs.size)))).get? g.objs.size=some no:=(Heap.get?_update_other _ _ (Ne.symm Tx)).trans gT1;unfold setFlight;refine Iw (wpAny_field gx2 dx2 (x:=.ref g.objs.size) (by simp [h2]) ?_);rw [if_pos (show (Value.ref g.objs.size != Value.none)=true from by simp)]
 have sz3:3 < ([hd0,.ref L,.none,rawInt L,.none] ++ (if pl.isEmpty then List.replicate 6 Value.none else pl)).toArray.size:=by
  simp only [IV,Jd,Jo,JF];omega
 refine wpAny_setField gT2 nod sz3 ?_
 have oth:∀b,b≠x->b≠g.objs.size->(((g.push no).update x (Obj.mapFields (·.setIfInBounds 1 (Value.ref g.objs.size)))).update g.objs.size (Obj.mapFields (·.setIfInBounds 3 ((none:Option Addr).elim Value.none λf=>rawInt f)))).get? b=(g.push no).get? b:=λb b1 b2=>by
  rw [Heap.get?_update_other _ _ (Ne.symm b2),Heap.get?_update_other _ _ (Ne.symm b1)]
 have ne_g:∀b o,g.get? b=some o->b≠g.objs.size:=λb o e z=>absurd (IU e) (by rw [z];exact Nat.lt_irrefl _);have Tn:s.heap.get? g.objs.size=none:=Heap.get?_none_of_le (by rw [so.1];exact II _);refine k _ g.objs.size _ _ (λb o e b1 b2=>?_) (λb o e b2=>?_) ?_ Tn Tx (Heap.get?_update_self _ gT2 (Obj.isFreed_of_fields (Obj.data_mapFields nod _))) (Obj.data_mapFields nod _) ?_
 ·have e1:g.get? b=some o:=(so.2.1 b b2).trans e;rw [oth b b1 (ne_g b o e1)];exact IC no e1
 ·obtain⟨sl,e1⟩:=so.2.2 b o e;have b1:b≠x:=λz=>xnf (z▸b2);exact⟨sl,by rw [oth b b1 (ne_g b _ e1)];exact IC no e1⟩
 ·rw [Heap.get?_update_other _ _ Tx];exact gx2
 ·simp [Array.getElem?_setIfInBounds]
theorem nS (o:Obj) (f:Array Value->Array Value):(o.mapFields f).dict=o.dict:=by
 obtain⟨c,d,dt,sl⟩:=o;cases dt <;> rfl
theorem Ae {M:Model} {P:Program} {w:World} {A:Around} {env:Env} {outer:List Env} {base:Heap} {H0 H1:Hp} {h0:Heap} {s1:Shared} {a:Addr} {C:Value} {dd:Option Addr} {L:Addr} {Q:Unit->Shared->Prop} {E:Value->Shared->Prop}
  (hfr:A.frames=some (env :: outer)) (hf:env.frame=some L) (FF:s1.heap.FunFrames base (env :: outer)) (ff:∀b∈jP (env :: outer),H1 b=none) (hok:jk P w H1 s1.heap)
  (un:Un (jP (env :: outer)) [] H0 H1 h0 s1.heap) (Fl:g9 H1 h0 s1.heap a C dd)
  (h:∀h',Un (jP (env :: outer)) [] H0 H1 h0 h'->jk P w H1 h'->g9 H1 h0 h' a C dd->Q () { s1 with heap:=h' }) :
  wpAny M A (noteFrame (.ref a) env) (λ_ s'=>wpAny M A (setFlight (.ref a) none) Q E s') E s1:=by
 obtain⟨n0,na,oe,vs,he,hc,hdc,hd,z⟩:=Fl
 have hsz:1 < vs.size:=by
  rcases z with z|⟨T,oT,ts,h1,_⟩
  ·exact (JC.mp z).1
  ·exact (JC.mp h1).1
 have core:∀(hid:List Addr) (h1:Heap),a∈hid->(∀b∈hid,h0.get? b=none/\H1 b=none)->(∀b o,s1.heap.get? b=some o->b∉hid->h1.get? b=some o)->(∀b,h1.get? b=none->s1.heap.get? b=none) ->
   ∀h' T oT ts,(∀b o,h1.get? b=some o->b≠a->b∉jP (env :: outer)->h'.get? b=some o)->(∀b o,h1.get? b=some o->b∈jP (env :: outer)->∃sl,h'.get? b=some { o with slots:=sl }) ->
   h'.get? a=some (oe.mapFields (·.setIfInBounds 1 (.ref T)))->h1.get? T=none->T≠a->h'.get? T=some oT->oT.data=.fields ts->ts[3]?=some .none->Q () { s1 with heap:=h' }:=by
  intro hid h1 ha hids hkeep hnone h' T oT ts k1 k2 k3 hTn hTa hT hdT h3;have keepN:∀b o,s1.heap.get? b=some o->b∉hid->b∉jP (env :: outer)->h'.get? b=some o:=λb o e nb nf=>k1 b o (hkeep b o e nb) (λz=>nb (z▸ha)) nf;have frn:∀b∈jP (env :: outer),∀o,h0.get? b=some o->b∉hid:=λb _ o e z=>by rw [(hids b z).1] at e;cases e
  have hs:=hnone T hTn;refine h h' ⟨λb o e n hb hx=>?_,λb o e n hb hx=>?_,un.free,λb o e hx=>?_,un.tups,un.frzs,un.tbls⟩ (λb u e=>?_) ?_
  ·exact keepN b o (un.keep b o e n hb hx) (λz=>by rw [(hids b z).1] at e;cases e) hb
  ·obtain⟨s2,e2⟩:=un.slot b o e n hb hx;obtain⟨s3,e3⟩:=k2 b _ (hkeep b _ e2 (frn b hb o e)) hb;exact⟨s3,e3⟩
  ·obtain⟨o',e'⟩:=un.there b o e hx;have nb:b∉hid:=λz=>by rw [(hids b z).1] at e;cases e
   by_cases hb:b∈jP (env :: outer)
   ·obtain⟨s3,e3⟩:=k2 b o' (hkeep b o' e' nb) hb;exact⟨_,e3⟩
   ·exact⟨o',keepN b o' e' nb hb⟩
  ·refine (hok b u e).nG (λc v hc q=>?_) (λ_ q=>q) (λ_ _ q=>q) λ_ _ _ q=>q
   have hcn:H1 c≠none:=by
    rcases hc with z|z
    ·rw [z,e];simp
    ·rw [z];simp
   exact keepN c v q (λz=>hcn (hids c z).2) (λz=>hcn (ff c z))
  ·refine⟨n0,na,_,_,k3,(Obj.cls_mapFields _ _).trans hc,(nS _ _).trans hdc,Obj.data_mapFields hd _,.inr ⟨T,oT,ts,by simp [hsz],?_,?_,hTa,hT,hdT,h3⟩⟩
   ·cases q:h0.get? T with
    | none=>rfl
    | some o=>obtain⟨o',e'⟩:=un.there T o q (by simp);rw [hs] at e';cases e'
   ·cases q:H1 T with
    | none=>rfl
    | some u=>obtain⟨ob,e'⟩:=bC.at (hok T u q);rw [hs] at e';cases e'
 rcases z with z|⟨T,oT,ts,h1,hT0,hTn,hTa,hT,hdT,h3⟩
 ·
  unfold noteFrame;simp only [hf];refine Iw (wpAny_field he hd z ?_);rw [if_neg (by decide)];exact oo hfr FF hf he hd hsz (core [a] s1.heap (by simp) (λb hb=>by rw [IY.mp hb];exact⟨n0,na⟩) (λb o e _=>e) (λb e=>e))
 ·
  unfold noteFrame;simp only [hf];refine Iw (wpAny_field he hd h1 ?_);rw [if_pos (show (Value.ref T != Value.none)=true from by simp)];refine Iw (wpAny_field hT hdT h3 ?_);rw [if_neg (show ¬ ((Value.none == rawInt L)=true) from by simp [rawInt])];refine Iw (wpAny_setField hT hdT (JC.mp h3).1 ?_);have other:∀b,b≠T->(s1.heap.update T (Obj.mapFields (·.setIfInBounds 3 Value.none))).get? b=s1.heap.get? b:=λb hb=>Heap.get?_update_other _ _ (Ne.symm hb)
  have noRec:∀b o,s1.heap.get? b=some o->(∀vs,o.data≠.fields vs)->b≠T:=λb o hb hnf q=>by
   subst q;rw [hT] at hb;cases hb;exact hnf ts hdT
  refine oo (s:={ s1 with heap:=s1.heap.update T (Obj.mapFields (·.setIfInBounds 3 Value.none)) }) hfr (FF.of_keeps λb o hb hnf=>⟨o,(other b (noRec b o hb hnf)).trans hb,rfl⟩) hf ((other a (Ne.symm hTa)).trans he) hd hsz ?_;refine core [a,T] _ (by simp) (λb hb=>?_) (λb o e nb=>?_) (λb e=>?_)
  ·rcases IZ.mp hb with z|hb
   ·subst z;exact⟨n0,na⟩
   ·rw [IY.mp hb];exact⟨hT0,hTn⟩
  ·rwa [other b (λz=>nb (by simp [z]))]
  ·by_cases z:b=T
   ·subst z;have:=Heap.get?_update_self (Obj.mapFields (·.setIfInBounds 3 Value.none)) hT (Obj.isFreed_of_fields (Obj.data_mapFields hdT _));rw [this] at e;cases e
   ·rwa [other b z] at e
def dj (X:Cx) (pins:List (Addr×Obj)) (σ:St) (H':Hp) (a:Addr) (C:Value) (dd:Option Addr) (s':Shared):Prop:=∃(Hc:Hp) (sc:Shared),Inv X pins σ Hc sc/\s'.os=sc.os/\AllBare s'.gens/\Un (jP X.stack) [] Hc H' sc.heap s'.heap/\jk X.prog X.w H' s'.heap/\g9 H' sc.heap s'.heap a C dd
abbrev hW (X:Cx) (pins:List (Addr×Obj)) (σ:St) (H':Hp) (a:Addr) (C:Value) (s':Shared):Prop:=dj X pins σ H' a C none s'
section
variable {X:Cx} {pins:List (Addr×Obj)} {σ:St} {H H':Hp} {a:Addr} {C:Value} {dd:Option Addr} {s s':Shared}
theorem dj.inv (t:dj X pins σ H' a C dd s'):Inv X pins σ H' s':=by
 obtain⟨Hc,sc,I,os,bare,un,hok,fl⟩:=t;exact I.yB os un hok bare λb z=>absurd z (by simp)
theorem hW.made {vs:List Value} {h':Heap} {e:Addr} (I:Inv X pins σ H s) (m:Heap.MadeExcOf s.heap h' e C vs):hW X pins σ H e C { s with heap:=h' }:=by
 obtain⟨t,ht,_⟩:=m.there
 have hn:H e=none:=by
  cases q:H e with
  | none=>rfl
  | some u=>obtain⟨ob,z⟩:=bC.at (I.hok e u q);rw [m.new] at z;cases z
 exact⟨H,s,I,rfl,I.bare,Un.kept m.keeps,I.hok.kept m.keeps,m.new,hn,_,_,ht,rfl,rfl,rfl,.inl rfl⟩
theorem dj.note {Q:Unit->Shared->Prop} {E:Value->Shared->Prop} (t:dj X pins σ H' a C dd s') (hst:X.stack=X.env :: X.outer) (hf:X.env.frame=some X.env.locals)
  (h:∀s'',dj X pins σ H' a C dd s''->Q () s''):wpAny (model X.prog X.w) X.A (noteFrame (.ref a) X.env) (λ_ s=>wpAny (model X.prog X.w) X.A (setFlight (.ref a) none) Q E s) E s':=by
 have I':=t.inv;obtain⟨Hc,sc,I,os,bare,un,hok,fl⟩:=t;have hfr:=I'.ok.frames;have FF:=I'.stack;have ff:=I'.m9;rw [hst] at hfr FF ff un;refine Ae hfr hf FF ff hok un fl λh' un' hok' fl'=>h _ ⟨Hc,sc,I,os,bare,by rw [hst];exact un',hok',fl'⟩
theorem dj.leave {P:Program} {w:World} {K:IB} {mg:Str->Option Value} {base:Heap} {N:List Str} {qual:Str} {scope:Scope} {f:Addr} {cd:Value} {A:Around} {outer:List Env} {s0:Shared} {H0:Hp} {E:XK}
  (t:dj (jc (B5 P w) P w K mg base N qual scope f cd A outer s0 H0 E) pins σ H' a C dd s') (q:E C dd H'):(jc (B5 P w) P w K mg base N qual scope f cd A outer s0 H0 E).xe (.ref a) s':=by
 show wpAny (model P w) _ (leaving _ (.ref a)) _ _ s'
 unfold leaving;refine Iw (t.note rfl rfl λs'' t''=>?_);have I:=t''.inv;obtain⟨Hc,sc,Ic,os,bare,un,hok,fl⟩:=t'';refine⟨a,C,dd,H',rfl,I.os,I.bare,I.base,I.hok,fl.Cv λb o e=>?_,q⟩;exact Ic.base.there b o e (by show b∉([]:List Addr);simp)
end
structure t6 extends Ends3 where
 xc:Str->Prop
abbrev ui:=t6->En->Prop
def XZ (X:Cx) (B:Base) (xc:Str->Prop):Value->Shared->Prop:=λex s'=>∃(pins:List (Addr×Obj)) (a:Addr) (c:Str) (C:Value) (σ':St) (H' F':Hp) (env':En),ex=.ref a/\hW X pins σ' H' a C s'/\Rep X.K B F' H' σ' env'/\X.mg c=some C/\xc c
structure QZ (X:Cx) (st:Stmt) (t:ui):Prop where
 of ::
 run:∀(B:Base) (σ:St) (F H:Hp) (env:En) (D:t6),Rep X.K B F H σ env->t D env->wS (X.cm (XZ X B D.xc)) st (RS X B D.toEnds3) σ H
structure FI (X:Cx) (st:List Stmt) (t:ui):Prop where
 of ::
 run:∀(B:Base) (σ:St) (F H:Hp) (env:En) (D:t6),Rep X.K B F H σ env->t D env->wSs (X.cm (XZ X B D.xc)) st (RS X B D.toEnds3) σ H
section
variable {X:Cx} {c e:Expr} {es:List Expr} {st:Stmt} {sts xs ys:List Stmt} {t u:bG} {p q:ui} {tc:TB} {te:TD} {ts:d7} {pos:Pos}
theorem SP.vk {E E':Value->Shared->Prop} {pins:List (Addr×Obj)} {D:Ends} {f:Flow} {s':Shared} (h:SP (X.cm E) pins D f s'):SP (X.cm E') pins D f s':=by
 cases f with
 | next=>obtain⟨σ',H',I,q⟩:=h;exact⟨σ',H',I.bo.cm _,q⟩
 | brk=>obtain⟨σ',H',I,q⟩:=h;exact⟨σ',H',I.bo.cm _,q⟩
 | cont=>obtain⟨σ',H',I,q⟩:=h;exact⟨σ',H',I.bo.cm _,q⟩
 | ret u=>obtain⟨v,σ',H',I,r,q⟩:=h;exact⟨v,σ',H',I.bo.cm _,r,q⟩
theorem Dr {E:Value->Shared->Prop} {D:Ends} {σ:St} {H:Hp} (h:wS X.pE st D σ H):wS (X.cm E) st D σ H:=λpins s I =>
 Jh (h pins s (I.bo.cm _)) (λ_ _ q=>SP.vk q) λ_ _ z=>False.elim z
theorem BN {E:Value->Shared->Prop} {D:Ends} {σ:St} {H:Hp} (h:wSs X.pE sts D σ H):wSs (X.cm E) sts D σ H:=λpins s I =>
 Jh (h pins s (I.bo.cm _)) (λ_ _ q=>SP.vk q) λ_ _ z=>False.elim z
theorem Ac {E:Value->Shared->Prop} {Q:Bool->Hp->Prop} {σ:St} {H:Hp} (h:wT X.pE c σ H Q):wT (X.cm E) c σ H Q:=λpins s I =>
 Jh (h pins s (I.bo.cm _)) (λ_ _ ⟨H',I',q⟩=>⟨H',I'.bo.cm _,q⟩) λ_ _ z=>False.elim z
theorem Dm {E:Value->Shared->Prop} {Q:VK} {σ:St} {H:Hp} (h:wE X.pE e σ H Q):wE (X.cm E) e σ H Q:=λpins s I =>
 Jh (h pins s (I.bo.cm _)) (λ_ _ ⟨v,H',I',r,q⟩=>⟨v,H',I'.bo.cm _,r,q⟩) λ_ _ z=>False.elim z
theorem zm {E:Value->Shared->Prop} {Q:List V->Hp->Prop} {σ:St} {H:Hp} (h:wA X.pE es σ H Q):wA (X.cm E) es σ H Q:=λpos pins s I =>
 Jh (h pos pins s (I.bo.cm _)) (λ_ _ ⟨v,H',I',r,q⟩=>⟨v,H',I'.bo.cm _,r,q⟩) λ_ _ z=>False.elim z
def uE (t:bG):ui:=λD env=>t D.toEnds3 env
theorem jZ (h:QS X.pE st t):QZ X st (uE t):=⟨λB σ F H env D r hq=>Dr (h B σ F H env D.toEnds3 r hq)⟩
theorem Dk (h:m7 X.pE sts t):FI X sts (uE t):=⟨λB σ F H env D r hq=>BN (h B σ F H env D.toEnds3 r hq)⟩
def kN (t u:ui):ui:=λD env=>t { D with nx:=u D } env
theorem vX (h:QZ X st p):FI X [st] p:=⟨λB σ F H env D rp hq=>kU (qW zY) (h.run B σ F H env D rp hq)⟩
def EH (c:TB) (t u:ui):ui:=λD env=>c env λk=>if k=true then t D env else u D env
theorem Fb (hc:QT X.pE c tc) (ha:FI X xs p) (hb:FI X ys q):QZ X (.If c xs ys pos) (EH tc p q):=by
 refine⟨λB σ F H env D rp h=>df (zz rK dI dI) ?_⟩;refine gJ (Ac (hc B σ F H env _ rp h)) λk H1 ⟨F1,r1,s1,q1⟩=>?_
 cases k with
 | true=>exact ha.run B σ F1 H1 env D r1 q1
 | false=>exact hb.run B σ F1 H1 env D r1 q1
theorem A4 {K:IB} {h:Heap} {C:Addr} {bmB:List Value} {newId:String} (X:K.In h) (q:PySem.W.excIn K C bmB newId=true) :
  ∃bm N nm qn bs hdct sn sub ab col dd k0 k1 k2 k3 k5 mN,h.get? C=some (excClassObj nm qn C N bs bm hdct sn sub ab col dd k0 k1 k2 k3 k5 newId)/\h.Ns N mN/\mN "__init__" = none/\OwnTail h bmB bm:=by
 unfold PySem.W.excIn at q
 split at q
 ·rename_i dd cd sl ho
  split at q
  ·rename_i C' bm k0 k1 k2 k3 n k5 hm hs;simp only [Bool.and_eq_true,beq_iff_eq,Bool.not_eq_true'] at q;obtain⟨⟨⟨⟨⟨rfl,rfl⟩,hdel⟩,ht⟩,hok⟩,hni⟩:=q;obtain⟨nm,bs,mro,ns,qn,hd,sn,sub,ab,col,del⟩:=cd;dsimp only at hm hdel hok hni;subst hm hdel
   have hsl:sl=#[k0,k1,k2,k3,some (.builtin n),k5]:=by
    obtain⟨l⟩:=sl;simp only at hs;rw [hs]
   subst hsl;exact⟨bm,ns,nm,qn,bs,hd,sn,sub,ab,col,dd,k0,k1,k2,k3,k5,_,X _ _ ho,.of_isNs (PySem.W.isNs_of_in X hok),PySem.W.nsMap_none_of_in X hok hni,PySem.W.tail_of_in X ht⟩
  ·cases q
 ·cases q
abbrev B9 (K:IB) (C:Addr):Bool:=PySem.W.excIn K C [.type "ValueError",.type "Exception",.type "BaseException",.type "object"] "ValueError.__new__"
def jE (cx:Str) (ts:d7):ui:=λD env=>ts env λxs=>xs.length<=sizeLine/\D.xc cx
theorem yq {cx:Str} {C:Addr} {np cpos:Pos} (hC:X.mg cx=some (.ref C)) (hq:B9 X.K C=true) (hc:X.calm=true) (ha:QA X.pE [e] ts) (hg:Gl X cx:=by rfl) (hdb:(cx == ("__debug__" : Str))=false:=by decide)
  (he:starEach [e] X.env=(false,eval e X.env) :: starEach [] X.env:=by exact aV rfl) (hplain:(backTo cpos (starEach ([]:List Expr) X.env)).any (·.1)=false:=by rfl) :
  QZ X (.Raise (some (.Call (.Name cx np) [e] [] cpos)) none pos) (jE cx ts):=by
 refine⟨λB σ F H env D rp h pins s I=>?_⟩;have I0:=I.bo;obtain⟨bm,N,nm,qn,bs,hdct,sn,sub,ab,col,dd,k0,k1,k2,k3,k5,mN,hCo,hN,hni,T⟩:=A4 I0.ok.mod.kin hq
 refine wpAny_Raise_call_subT (C:=C) (nm:=nm) (q:=qn) (N:=N) (bs:=bs) (bm:=bm) (hdct:=hdct) (sn:=sn) (sub:=sub) (ab:=ab) (col:=col) (dd:=dd) (k0:=k0) (k1:=k1) (k2:=k2) (k3:=k3) (k5:=k5)
  PySem.F.excBase_ValueError (mN:=mN) (T.hasType (by decide +kernel)) (I0.ok.hd hc) (by rw [he];show (false || (backTo cpos (starEach [] X.env)).any (·.1))=false;rw [hplain];rfl) hni (iU I hg hC ⟨rfl,?_⟩ hdb)
 have hw:=zm (E:=XZ X B D.xc) (ha B σ F H env _ rp h) cpos pins s I;rw [he] at hw ⊢;refine Calls.evalArgs_plain (Jh hw (λus s2 ⟨vs,H2,I2,rv,F2,ds,r2,s2',d2,hl,q2⟩=>⟨rfl,?_,?_,?_,?_,λh' e' m=>?_⟩) λ_ _ y=>y)
 ·show us.length<=sizeLine
  rw [<- rv.length,<- d2.length];exact hl
 ·exact I2.bk _ _ hCo
 ·exact hN.keeps I2.bk
 ·exact T.keeps I2.bk
 ·exact⟨pins,e',cx,.ref C,σ,H2,F2,env,rfl,hW.made I2.bo m,r2,hC,q2⟩
end
abbrev x8:=List D->(D->Prop)->(Str->Prop)->Prop
def Hy (K:IB) (mg:Str->Option Value) (f:x8):Sp:=λvs H Q E=>∃(F:Hp) (ds:List D) (P:D->Prop) (R:Str->Prop),ak F H/\ao K F ds vs/\f ds P R /\
 (∀(d:D) (v:V) (F' H':Hp),ak F F'->ak H H'->ak F' H'->(∀p,H p≠none->F p=none->F' p=none)->Den K F' d v->P d->Q v H') /\
 ∀(c:Str) (C:Value) (F' H':Hp),ak F F'->ak H H'->ak F' H'->(∀p,H p≠none->F p=none->F' p=none)->mg c=some C->R c->E C none H'
structure gA (P:Program) (w:World) (K:IB) (mg:Str->Option Value) (base:Heap) (k:Nat) (x:Str) (f:x8):Prop where
 ex:∃(fa:Addr) (fd:FuncData) (ps:List Str),oq P w K mg base (B5 P w) k fa fd ps (Hy K mg f)/\mg x=some (.ref fa)/\PySem.W.keepIn K (.ref fa)=true/\Binds K fd ps []
abbrev TX:=En->(D->Prop)->(Str->Prop)->Prop
def XX (X:Cx) (pins:List (Addr×Obj)) (σ:St) (B:Base) (env:En) (R:Str->Prop):Value->Shared->Prop:=λex s'=>∃(a:Addr) (c:Str) (C:Value) (H' F':Hp),ex=.ref a/\hW X pins σ H' a C s'/\Rep X.K B F' H' σ env/\X.mg c=some C/\R c
structure QX (X:Cx) (e:Expr) (t:TX):Prop where
 of ::
 run:∀(B:Base) (σ:St) (F H:Hp) (env:En) (Q:D->Prop) (R:Str->Prop),Rep X.K B F H σ env->t env Q R->∀(pins:List (Addr×Obj)) (s:Shared),Inv X pins σ H s ->
  wpAny (model X.prog X.w) X.A (eval e X.env) (EP X pins σ (RV X B σ env F Q)) (XX X pins σ B env R) s
def lR (f:x8) (ts:d7):TX:=λenv Q R=>ts env λxs=>f xs Q R
section
variable {X:Cx} {e:Expr} {es:List Expr} {ts:d7} {tx:TX} {p pos:Pos} {x:Str} {k:Nat} {f:x8}
theorem AV (h:gA X.prog X.w X.K X.mg X.base k x f) (hr:cQ k X.A) (ha:QA X.pE (e :: es) ts) (hg:Gl X x:=by rfl) (hdb:(x == ("__debug__" : Str))=false:=by decide)
  (he:starEach (e :: es) X.env=(false,eval e X.env) :: starEach es X.env:=by exact aV rfl) (hpl:(backTo pos (starEach es X.env)).any (·.1)=false:=by rfl):QX X (.Call (.Name x p) (e :: es) [] pos) (lR f ts):=by
 refine⟨λB σ F H env Q R rp hq pins s I=>?_⟩;obtain⟨fa,fd,ps,G,hm,hk,hb⟩:=h.ex;refine wpAny_Call_Name_kw (iU I hg hm ?_ hdb);have hw:=zm (E:=XX X pins σ B env R) (ha B σ F H env _ rp hq) pos pins s (I.cm _);refine PySem.W.callWith_K (h₀:=X.base) I.ok.mod.kin hk (bQ hw λus s1 ⟨vs,H1,I1,r,F1,ds,r1,s1',d1,hf⟩=>⟨I1.zH,?_⟩) he hpl;have I1':=I1.bo
 have hsp:Hy X.K X.mg f (vs ++ []) H1 (RV X B σ env F Q) (λC dd H'=>dd=none/\∃(c:Str) (F':Hp),Rep X.K B F' H' σ env/\X.mg c=some C/\R c):=by
  rw [Jw];exact⟨F1,ds,Q,R,r1.fh,d1,hf,λd v F' H' a b c n hd q=>⟨F',d,r1.ext a c b n,s1'.trans a,hd,q⟩,λc C F' H' a b c' n hm hx=>⟨rfl,c,F',r1.ext a c' b n,hm,hx⟩⟩
 have hl:(us ++ []).length=ps.length:=by
  have:=G.len _ _ _ _ hsp;rw [Jw] at this ⊢;rw [<- r.length];exact this
 refine wpAny_call (codeAny_mono (G.run X.A X.stack s1 H1 ⟨us,[]⟩ (us ++ []) (vs ++ []) _ _ hr I1'.gD (hb s1 us I1'.zH hl) (by simpa using r) hsp) λrs s' hq'=>?_)
 cases rs with
 | error ex =>
  obtain⟨a,C,dd,H',rfl,os,bare,un,hok,fl,rfl,c,F',r',hm',hx⟩:=hq'
  exact⟨a,c,C,H',F',rfl,⟨H1,s1,I1',os,bare,un,hok,fl⟩,r',hm',hx⟩
 | ok fl =>
  cases fl with
  | ret u=>exact I1'.after hq'
  | next=>exact False.elim hq'
  | brk=>exact False.elim hq'
  | cont=>exact False.elim hq'
theorem QX.w (h:QX X e tx) {B:Base} {σ:St} {F H:Hp} {env:En} {Q:D->Prop} {R:Str->Prop} (rp:Rep X.K B F H σ env) (hq:tx env Q R):wE (X.cm (XZ X B R)) e σ H (RV X B σ env F Q):=λpins s I =>
 Jh (h.run B σ F H env Q R rp hq pins s I.bo) (λ_ _ ⟨v,H',I',r,q⟩=>⟨v,H',I'.cm _,r,q⟩) λex s' ⟨a,c,C,H',F',e,t,r,m,x⟩=>⟨pins,a,c,C,σ,H',F',env,e,t,r,m,x⟩
def xp (tx:TX):ui:=λD env=>tx env D.rt D.xc
theorem C7 (h:QX X e tx):QZ X (.Return (some e) pos) (xp tx):=by
 refine⟨λB σ F H env D rp hq=>df (Ai bB) ?_⟩;exact aA (h.w rp hq) λv H' ⟨F',d,r',s',hd,q⟩=>⟨F',d,r'.bare,hd,q⟩
end
section
variable {X:Cx} {pins:List (Addr×Obj)} {σ:St} {H H':Hp} {a:Addr} {s s':Shared}
theorem yJ.ext {a C:Addr} {h:Heap} {H:Hp} {h0:Heap} (f:yJ H h0 h a (.ref C)):excAt a C h:=by
 obtain⟨_,_,oe,vs,he,hc,hdc,hdt,_⟩:=f;exact⟨oe,vs,he,hc,hdc,hdt⟩
end
section
variable {X:Cx} {pins:List (Addr×Obj)} {σ:St} {H H':Hp} {a C:Addr} {s s':Shared}
theorem hW.C6 (t:hW X pins σ H' a (.ref C) s'):H' a=none/\Inv X pins σ (upd H' a (.ext (excAt a C))) s':=by
 obtain⟨Hc,sc,I,os,bare,un,hok,fl⟩:=t;have x:=yJ.ext fl;obtain⟨n0,na,_⟩:=fl;refine⟨na,I.yB os ⟨un.keep,un.slot,λb o e n hx=>?_,un.there,λb xs e=>?_,λb o u e=>?_,λb ps e=>?_⟩ (λb u e=>?_) bare λb z=>absurd z (by simp)⟩
 ·have:b≠a:=λz=>by subst z;rw [n0] at e;cases e
  rw [av this];exact un.free b o e n hx
 ·have q:=un.tups b xs e;rw [av (bz q na)];exact q
 ·have q:=un.frzs b o u e;rw [av (bz q na)];exact q
 ·have q:=un.tbls b ps e;rw [av (bz q na)];exact q
 ·by_cases z:b=a
  ·subst z;rw [au] at e;cases e;obtain⟨o,vs,h1,h2⟩:=x;exact⟨⟨o,vs,h1,h2⟩,⟨o,h1⟩,λh h' ⟨o,vs,h1,h2⟩ k=>⟨o,vs,k o h1,h2⟩⟩
  ·rw [av z] at e;exact (hok b u e).nG (λ_ _ _ q=>q) (λc q=>by rw [av (bz q na)];exact q) (λc xs q=>by rw [av (bz q na)];exact q) λc o xs q=>by rw [av (bz q na)];exact q
theorem dj.land {M:Model} {A:Around} {C:Value} {dd:Option Addr} {Q:Unit->Shared->Prop} {E:Value->Shared->Prop} (t:dj X pins σ H' a C dd s') (h:∀s'',dj X pins σ H' a C dd s''->Q () s''):wpAny M A (setFlight (.ref a) none) Q E s':=by
 obtain⟨Hc,sc,I,os,bare,un,hok,n0,na,oe,vs,he,hc,hdc,hd,z⟩:=t;rcases z with z|⟨T,oT,ts,h1,hT0,hTn,hTa,hT,hdT,h3⟩
 ·unfold setFlight;refine Iw (wpAny_field he hd z ?_);rw [if_neg (by decide)];exact ID (h _ ⟨Hc,sc,I,os,bare,un,hok,n0,na,oe,vs,he,hc,hdc,hd,.inl z⟩)
 ·refine wpAny_setFlight_none he hd h1 hT hdT (JC.mp h3).1 (h _ ?_);have other:∀b,b≠T->(s'.heap.update T (Obj.mapFields (·.setIfInBounds 3 Value.none))).get? b=s'.heap.get? b:=λb hb=>Heap.get?_update_other _ _ (Ne.symm hb);have old:∀b o,sc.heap.get? b=some o->b≠T:=λb o e z=>by subst z;rw [hT0] at e;cases e
  have C9:∀b u,H' b=some u->b≠T:=λb u e z=>by subst z;rw [hTn] at e;cases e
  refine⟨Hc,sc,I,os,bare,⟨λb o e n hb hx=>(other b (old b o e)).trans (un.keep b o e n hb hx),λb o e n hb hx=>?_,un.free,λb o e hx=>?_,un.tups,un.frzs,un.tbls⟩,λb u e=>?_,n0,na,oe,vs,(other a (Ne.symm hTa)).trans he,hc,hdc,hd,.inr ⟨T,_,_,h1,hT0,hTn,hTa,Heap.get?_update_self _ hT (Obj.isFreed_of_fields (Obj.data_mapFields hdT _)),Obj.data_mapFields hdT _,?_⟩⟩
  ·obtain⟨sl,q⟩:=un.slot b o e n hb hx;exact⟨sl,(other b (old b o e)).trans q⟩
  ·obtain⟨o',q⟩:=un.there b o e hx;exact⟨o',(other b (old b o e)).trans q⟩
  ·refine (hok b u e).nG (λc v hc q=>?_) (λ_ q=>q) (λ_ _ q=>q) λ_ _ _ q=>q;refine (other c ?_).trans q;rcases hc with z|z
   ·subst z;exact C9 c u e
   ·exact C9 c _ z
  ·have:=(JC.mp h3).1;simp [Array.getElem?_setIfInBounds,this]
end
abbrev Cx.hand (X:Cx) (a:Addr):Cx:={ X with A:=X.A.mark (some (.ref a)),calm:=false,xe:=λ_ _=>False }
theorem Inv.hand {X:Cx} {pins:List (Addr×Obj)} {σ:St} {H:Hp} {s:Shared} (I:Inv X pins σ H s) (a:Addr):Inv (Cx.hand X a) pins σ H s :=
 ⟨⟨I.ok.mod,I.ok.kind,I.ok.glob,I.ok.blt,I.ok.above,I.ok.inj,I.ok.has,I.ok.cab,(λz=>by cases z),I.ok.frames,I.ok.stk,I.ok.exf,I.ok.bs,I.ok.bsz,I.ok.noex,I.ok.exfs,I.ok.kP,I.ok.frf⟩,I.os,I.bare,I.base,I.loc,I.cell,I.free,I.freeC,I.pin,I.hok,I.len⟩
theorem Inv.D0 {X:Cx} {a:Addr} {pins:List (Addr×Obj)} {σ:St} {H:Hp} {s:Shared} (ok:X.Ok) (I:Inv (Cx.hand X a) pins σ H s):Inv X pins σ H s :=
 ⟨ok,I.os,I.bare,I.base,I.loc,I.cell,I.free,I.freeC,I.pin,I.hok,I.len⟩
theorem By {K:IB} {C:Addr} (h:PySem.W.hasDictIn K C=true):∃c d cd sl,K.lookup C=some ⟨c,d,.cls cd,sl⟩:=by
 obtain⟨_,q,_⟩:=PySem.W.any_some h;unfold PySem.W.clsIn at q
 split at q
 ·exact⟨_,_,_,_,‹_›⟩
 ·cases q
section
variable {X:Cx} {a b e:Expr} {ta tb:TD} {ts:d7} {pos:Pos}
theorem xD {cx:Str} {C:Addr} {np cpos:Pos} (ac:PySem.W.nsIn X.K mainGlobals cx=some (some (.ref C))) (hq:B9 X.K C=true) (ha:QA X.pE [e] ts) (hc:X.calm=true:=by rfl) (hg:Gl X cx:=by rfl) (hdb:(cx == ("__debug__" : Str))=false:=by decide)
  (he:starEach [e] X.env=(false,eval e X.env) :: starEach [] X.env:=by exact aV rfl) (hplain:(backTo cpos (starEach ([]:List Expr) X.env)).any (·.1)=false:=by rfl) :
  QZ X (.Raise (some (.Call (.Name cx np) [e] [] cpos)) none pos) (jE cx ts) :=
 ⟨λB σ F H env D rp h pins s I=>(yq (X:=X) (pos:=pos) (np:=np) (cpos:=cpos) (JM I.ok.mod.kin I.ok.mod.glob ac) hq hc ha hg hdb he hplain).run B σ F H env D rp h pins s I⟩
end
section
variable {X:Cx} {e:Expr} {ts:d7} {p pos:Pos}
def j3 (ds:List D) (Q:List D->Prop):Prop:=match ds with
 | [.lst xs]=>Q xs
 | [.tup xs]=>Q xs
 | _=>False
theorem pJ {xs:List D} {Q:List D->Prop}:j3 [.lst xs] Q=Q xs:=rfl
theorem p6 {xs:List D} {Q:List D->Prop}:j3 [.tup xs] Q=Q xs:=rfl
def iT (ts:d7):d7:=λenv Q=>ts env λds=>j3 ds Q
theorem xn (hm:X.mg "list" = none) (ha:QA X [e] ts) (hg:Gl X "list":=by rfl) (he:starEach [e] X.env=(false,eval e X.env) :: starEach [] X.env:=by exact aV rfl) (hpl:(backTo pos (starEach ([]:List Expr) X.env)).any (·.1)=false:=by rfl) :
  QF X (.Call (.Name "list" p) [e] [] pos) (iT ts):=by
 refine⟨λB σ F H env Q rp h=>cj (kW rq hg hm oG ji (by decide) (by decide) he hpl) ?_⟩;refine cH (ha B σ F H env _ rp h) λvs H1 hq0=>?_;obtain⟨F1,ds,r1,s1,d1,q1⟩:=hq0
 replace q1:j3 ds Q:=q1
 unfold j3 at q1
 split at q1
 ·simp only [ao,Den] at d1;obtain⟨v,r,rfl,⟨p,ys,rfl,q,r⟩,rfl⟩:=d1;exact⟨p,ys,rfl,.inl (r1.fh.seq q),λw hw=>⟨F1,H1,w,ys,_,rfl,hw,rfl,r1,s1,r,q1⟩⟩
 ·simp only [ao,Den] at d1;obtain⟨v,r,rfl,⟨p,ys,rfl,q,r⟩,rfl⟩:=d1;exact⟨p,ys,rfl,.inr (ak.bt r1.fh q),λw hw=>⟨F1,H1,w,ys,_,rfl,hw,rfl,r1,s1,r,q1⟩⟩
 ·exact q1.elim
end
section
variable {X:Cx} {a b c e:Expr} {ta tb tc:TD} {ts:d7} {pos:Pos}
theorem Io {x:Str} {n:Int} {t:Tok} {p:Pos} (ac:PySem.W.nsIn X.K mainGlobals x=some (some (.int n t))) (hg:Gl X x:=by rfl) (hdb:(x == ("__debug__" : Str))=false:=by decide):QE X (.Name x p) (cC (.int n)):=by
 refine⟨λB σ F H env Q rp hq pins s I=>?_⟩;refine iU I hg (JM I.ok.mod.kin I.ok.mod.glob ac) ?_ hdb;exact⟨.int n,H,I,⟨t,rfl⟩,F,.int n,rp,ak.refl _,bq,hq⟩
def rJoin (K:IB):V->List V->Hp->VK->Prop:=λx xs H Q=>∃z p ys,x=.str z/\xs=[.ref p]/\fw K H p (ys.map V.str)/\z.length<=16/\(ys.map (·.length)).sum + ys.length<=1048576/\Q (.str (Txt.join z ys)) H
theorem sh:∀{ys:List Str} {us:List Value},Vals (ys.map V.str) us->StrsAre us ys
 | [],us,h=>by cases h;exact .nil
 | y :: ys,us,h=>by
  cases h with
  | cons h1 h2 =>
   obtain⟨t,rfl⟩:=h1;exact .cons y t (sh h2)
theorem BW:HV X "str.join" (rJoin X.K):=by
 intro pins s σ H x xs v us Q I rx rs h;obtain⟨z,p,ys,rfl,rfl,hq,hz,hw,q⟩:=h;obtain⟨t,rfl⟩:=rx;obtain⟨u,rfl,ru⟩:=vals1 rs;cases ru;obtain⟨its,vz,pl,_⟩:=I.list hq;exact join_listW pl.isList (sh vz) hz hw λt' k=>⟨.str _,H,I.tok k,⟨t',rfl⟩,q⟩
def joinR (z:Str) (ds:List D) (Q:D->Prop):Prop:=∃ys:List Str,ds=[.lst (ys.map D.str)]/\z.length<=16/\(ys.map (·.length)).sum + ys.length<=1048576/\Q (.str (Txt.join z ys))
def zx (ta:TD) (ts:d7):TD:=λenv Q=>ta env λx=>∃z,x=.str z/\ts env λds=>joinR z ds Q
theorem pT {K:IB} {F:Hp}:∀{ys:List Str} {vs:List V},ao K F (ys.map D.str) vs->vs=ys.map V.str
 | [],vs,h=>by simpa only [List.map_nil,ao] using h
 | y :: ys,vs,h=>by
  simp only [Ji,ao,Den] at h;obtain⟨v,r,rfl,rfl,h⟩:=h;rw [pT h];rfl
theorem CB {apos cpos:Pos} (ha:QE X a ta) (hb:QA X [b] ts) (hbase:attributeBase a "join" X.env (eval a X.env)=eval a X.env:=by rfl)
  (hfew:((backTo cpos (starEach [b] X.env)).all (λx=>!x.1) && (backToKw cpos (keywordEach [] X.env)).all (λx=>x.1.isSome)
   && decide ([b].length + ([]:List Keyword).length + (if ([]:List Keyword).isEmpty then 0 else 1) < 30))=true:=by rfl)
  (hline:(apos.endLine == cpos.line)=true:=by rfl) (hs:starEach [b] X.env=(false,eval b X.env) :: starEach [] X.env:=by exact aV rfl) (hplain:(backTo cpos (starEach ([]:List Expr) X.env)).any (·.1)=false:=by rfl) :
  QE X (.Call (.Attribute a "join" apos) [b] [] cpos) (zx ta ts):=by
 refine⟨λB σ F H env Q rp h=>cj (sI PySem.F.plainAttrs_str PySem.F.slot_str_join PySem.F.type_str_join BW bB ji hbase hfew hline hs hplain) ?_⟩;refine aA (ha B σ F H env _ rp h) λx H1 hq0=>?_;obtain⟨F1,d,r1,s1,d1,z,e,q1⟩:=hq0;subst e;simp only [Den] at d1;subst d1;refine⟨rfl,?_⟩;refine cH (hb B σ F1 H1 env _ r1 q1) λvs H2 hq0=>?_;obtain⟨F2,ds,r2,s2,d2,ys,e2,h1,h2,q2⟩:=hq0
 ·subst e2;simp only [ao,Den] at d2;obtain⟨v,r,rfl,⟨p,ws,rfl,hq,hl⟩,rfl⟩:=d2;have:=pT hl;subst this;exact⟨z,p,ys,rfl,rfl,r2.fh.seq hq,h1,h2,F2,_,r2,s1.trans s2,gw,q2⟩
end
section
variable {X:Cx} {p pos:Pos}
def cp (i:Nat):TD:=λenv Q=>∃xs,env[i]?=some (some (.own xs))/\Q (.int xs.length)
theorem cO {x:Str} {px:Pos} (i:Nat) (hm:X.mg "len" = none) (hg:Gl X "len":=by rfl) (hN:X.N[i]?=some x:=by rfl) (hv:rY X.env.scope x:=by first | exact Or.inl rfl | exact Or.inr (Or.inl rfl) | exact Or.inr (Or.inr rfl)) (hd:(x == ("__debug__" : Str))=false:=by decide)
  (hcd:(x == ("__classdict__" : Str))=false:=by decide) (he:starEach [.Name x px] X.env=(false,eval (.Name x px) X.env) :: starEach [] X.env:=by exact aV rfl) (hpl:(backTo pos (starEach ([]:List Expr) X.env)).any (·.1)=false:=by rfl) :
  QE X (.Call (.Name "len" p) [.Name x px] [] pos) (cp i):=by
 refine⟨λB σ F H env Q rp h=>cj (uk jR hg hm pS (dO (c4 hN hv hd hcd) f6 he) (by decide) (by decide) he hpl) ?_⟩;obtain⟨xs,hx,q⟩:=h;obtain⟨p,vs,h1,h2,h3,h4,h5⟩:=rp.ov i xs hx;refine⟨.ref p,h1,p,vs,rfl,.inl (fw.of h2),F,.int xs.length,rp,ak.refl _,?_,q⟩;rw [h5.length];exact bq
end
def rJ (z:Str):Str:=⟨((Builtin.Str.strSliceIndices none none (-1) z.length).filterMap (z.cps[·]?)).toArray⟩
section
variable {X:Cx} {a e:Expr} {ta te:TD} {pos p2:Pos}
theorem CT {t1 t2:TE} (he:PE X a t1) (hst:PE X e t2):PE X (.Subscript a (.Slice none none (some e) p2) pos) (λσ H Q=>t1 σ H λx H1=>t2 σ H1 λy H2=>∃z,x=.str z/\y=.int (-1)/\(rJ z).length<=sizeLine/\Q (.str (rJ z)) H2):=by
 intro pins s σ H Q I h;refine Subscript_ (bQ (he pins s σ H _ I h) λv s1 hq0=>?_);obtain⟨x,H1,I1,r1,q1⟩:=hq0;refine wpAny_Slice ?_;rw [evalPart_none];refine ID (ID ?_);rw [evalPart_some];refine bQ (hst pins s1 σ H1 _ I1 q1) λu s2 hq0=>?_;obtain⟨y,H2,I2,r2,z,e1,e2,hl,q⟩:=hq0;subst e1 e2;obtain⟨t,rfl⟩:=r1;obtain⟨t',rfl⟩:=r2;have I3:Inv X pins σ H2 { s2 with heap:=s2.heap.push { cls:=.type "slice",data:=.fields #[.none,.none,.int (-1) t'] } }:=I2.kept (t':=s2.toks) λb ob q=>IC _ q
 show wpAny (model X.prog X.w) X.A (subscriptTail a (.Slice none none (some e) p2) (.str z t) (.ref s2.heap.objs.size)) (EP X pins σ Q) X.xe { s2 with heap:=s2.heap.push { cls:=.type "slice",data:=.fields #[.none,.none,.int (-1) t'] } }
 refine tail_any (ops:=[.ref s2.heap.objs.size,.str z t]) (typeIs_str _ z t) F.slot_str_getitem.lookup ?_ (by with_unfolding_all rfl);refine wpAny_getItem_str_slice (l:=none) (u:=none) (st:=some (-1,t')) ⟨_,IS _ rfl,rfl,rfl⟩ rfl ?_;show (if ((-1:Int) == 1 && (slicePicked z none none (some (-1,t'))).length == z.length)=true then Made.val (.str z t) else Made.str ⟨((slicePicked z none none (some (-1,t'))).filterMap (z.cps[·]?)).toArray⟩).post _ _
 rw [if_neg (by simp)];exact⟨hl,⟨.str _,H2,I3.tok _,⟨_,rfl⟩,q⟩⟩
def Eh (ta te:TD):TD:=λenv Q=>ta env λx=>te env λy=>∃z,x=.str z/\y=.int (-1)/\(rJ z).length<=sizeLine/\Q (.str (rJ z))
theorem Fq (ha:QE X a ta) (he:QE X e te):QE X (.Subscript a (.Slice none none (some e) p2) pos) (Eh ta te):=by
 refine⟨λB σ F H env Q rp h=>cj (CT bB bB) ?_⟩;refine aA (ha B σ F H env _ rp h) λx H1 hq0=>?_;obtain⟨F1,d,r1,s1,d1,q1⟩:=hq0;refine aA (he B σ F1 H1 env _ r1 q1) λy H2 hq0=>?_;obtain⟨F2,d',r2,s2,d2,z,e1,e2,hl,q⟩:=hq0;subst e1 e2;simp only [Den] at d1 d2;subst d1 d2;exact⟨z,rfl,rfl,hl,F2,_,r2,s1.trans s2,gw,q⟩
theorem nz:∀ys:List Nat,(List.range ys.length).filterMap (ys[·]?)=ys
 | []=>rfl
 | y :: r=>by
  have ih:=nz r;rw [Jo,List.range_succ_eq_map,List.filterMap_cons];simp only [Jf,List.filterMap_map];rw [show ((λx=>(y :: r)[x]?)∘Nat.succ)=(r[·]?) from funext λk=>by simp];rw [ih]
theorem sN {f g:Nat->Option Nat}:∀l:List Nat,(∀k∈l,f k=g k)->l.filterMap f=l.filterMap g
 | [],_=>rfl
 | k :: l,h=>by
  rw [List.filterMap_cons,List.filterMap_cons,h k Jb,sN l λj hj=>h j (IT _ hj)]
theorem rT (z:Str):rJ z=⟨z.cps.toList.reverse.toArray⟩:=by
 have e1:Builtin.Str.strSliceIndices none none (-1) z.length=(List.range z.length).map λk=>z.length - 1 - k:=by
  unfold Builtin.Str.strSliceIndices sliceRange;simp only [show ¬ ((-1:Int) > 0) by decide,if_false]
  have hc:(if ((z.length:Int) - 1 > -1) then (((z.length:Int) - 1 - -1 - -1 - 1) / (- -1)) else 0).toNat=z.length:=by
   split
   ·rw [show ((z.length:Int) - 1 - -1 - -1 - 1)=z.length by omega,show (- -1:Int)=1 by decide,Int.ediv_one];omega
   ·omega
  rw [hc];refine List.map_congr_left λk hk=>?_;have:=JB.mp hk;omega
 unfold rJ;rw [e1,List.filterMap_map]
 have e2:(List.range z.length).filterMap ((z.cps[·]?)∘λk=>z.length - 1 - k)=(List.range z.cps.toList.reverse.length).filterMap (z.cps.toList.reverse[·]?):=by
  have hl:z.cps.toList.reverse.length=z.length:=by simp [Str.length]
  rw [hl];refine sN _ λk hk=>?_;have hk':=JB.mp hk;have hz:z.length=z.cps.toList.length:=by simp [Str.length]
  rw [List.getElem?_reverse (by omega),<- hz];simp
 rw [e2,nz]
end
open PySem
section
variable {Q:D->Prop} {i j:Int} {xs ys:List D} {z z':Str} {C:Int->Int->Prop} {g:Int->Int->D} {k:Bool}
theorem nQ:vm C g (.int i) (.int j) Q=(C i j/\Q (g i j)):=rfl
theorem gF:dg (.int i) (.int j) Q=Q (.int (i + j)):=rfl
theorem i8:dg (.lst xs) (.lst ys) Q=(xs.length + ys.length<=sizeLine/\Q (.lst (xs ++ ys))):=rfl
theorem iK:dg (.tup xs) (.tup ys) Q=(xs.length + ys.length<=sizeLine/\Q (.tup (xs ++ ys))):=rfl
theorem eG:dg (.str z) (.str z') Q=(z.length + z'.length<=sizeLine/\Q (.str (z ++ z'))):=rfl
theorem lG:ve (.int i) Q=Q (.int (-i)):=rfl
theorem l4:gX (.int i) (.int j) Q=Q (.bl (decide (i=j))):=by
 unfold gX fS;simp only [dep,aT,Ju,and_self,true_and];rw [Bool.beq_eq_decide_eq]
theorem oA:oS (.int i) (.int j) Q=Q (.bl (!decide (i=j))):=by
 unfold oS fS;simp only [dep,aT,Ju,and_self,true_and];rw [Bool.beq_eq_decide_eq]
theorem vJ:gX (.str z) (.str z') Q=Q (.bl (z == z')):=by
 unfold gX fS;simp only [dep,aT,Ju,and_self,true_and]
theorem vg {k':Bool}:gX (.bl k) (.bl k') Q=Q (.bl (k == k')):=by
 unfold gX fS;simp only [dep,aT,Ju,and_self,true_and]
theorem uW:ym [.int i] Q=Q (.int i.natAbs):=by
 show Q _=Q _
 congr 2
 split <;> omega
theorem l7:jj [.lst xs] Q=Q (.int xs.length):=rfl
theorem iH:jj [.tup xs] Q=Q (.int xs.length):=rfl
theorem l6:jj [.str z] Q=(z.length<=sizeLine/\Q (.int z.length)):=rfl
theorem qM:yW [.int i,.int j] Q=Q (.int (max i j)):=by
 show Q _=Q _
 congr 2
 split <;> omega
theorem rB:zQ [.int i,.int j] Q=Q (.int (min i j)):=by
 show Q _=Q _
 congr 2
 split <;> omega
theorem kZ:rd [.int i] Q=Q (.int i):=rfl
theorem lZ:rd [.bl k] Q=Q (.int (if k then 1 else 0)):=rfl
theorem fE:fH [.lst xs] Q=Q (.tup xs):=rfl
theorem gn:fH [.tup xs] Q=Q (.tup xs):=rfl
theorem nD:dB (.lst xs)=some xs:=rfl
theorem nM:dB (.tup xs)=some xs:=rfl
theorem zV {lo hi:Option Int}:Ha (.lst xs) lo hi Q=Q (.lst (cutD xs lo hi)):=rfl
theorem vG {R:Int->Nat->Prop}:jA [.int j] R=((-(2 ^ 62)<=j/\j < 2 ^ 62)/\R 0 j.toNat):=rfl
theorem uU {R:Int->Nat->Prop}:BR [.int i,.int j] R=((-(2 ^ 62)<=i/\i < 2 ^ 62/\-(2 ^ 62)<=j/\j < 2 ^ 62)/\R i (j - i).toNat):=rfl
end
def wK (xs:List D) (R:D->List D->Prop):Prop:=match xs with|x :: r=>R x r|_=>False
theorem oy {x:D} {r:List D} {R:D->List D->Prop}:wK (x :: r) R=R x r:=rfl
theorem oJ (g:mT) (gs:rV) (xs:List D) (env:En) (Q:En->Prop):cw g gs xs env Q=wK xs λx r=>g x env λenv'=>gs r env' Q:=by
 unfold cw wK;apply propext
 constructor
 ·rintro⟨x,y,rfl,h⟩;exact h
 ·intro h;split at h
  ·exact⟨_,_,rfl,h⟩
  ·exact h.elim
theorem bY {g:mT} {tb:bG} {Z:Ends3} {xs:List D} (I:Nat->En->Prop)
  (step:∀(i:Nat) (x:D) (env:En) (N:En->Prop),xs[i]?=some x->I i env->(∀e,I (i + 1) e->N e)->g x env λe=>tb { Z with nx:=N,ct:=N,bk:=Z.nx } e)
  (done:∀env,I xs.length env->Z.nx env) {env:En} (h0:I 0 env):turns g tb Z xs env:=by
 have go:∀(n k:Nat) (env:En),k + n=xs.length->I k env->turns g tb Z (xs.drop k) env:=by
  intro n
  induction n with
  | zero =>
   intro k env hk h;rw [JE (by omega)]
   exact done env (by rw [<- hk];exact h)
  | succ n ih =>
   intro k env hk h;have hx:xs[k]?=some (xs[k]'(by omega)):=by simp
   rw [drop_cons hx];exact step k _ env _ hx h λe he=>ih (k + 1) e (by omega) he
 simpa using go xs.length 0 env (by omega) h0
theorem iS {te:TD} {gD:En} {Q:List D->Prop} (f:D->D):∀(xs acc:List D),(∀x∈xs,∀N:D->Prop,N (f x)->te (gD.set 0 (some (.d x))) N)->acc.length + xs.length<=sizeLine->Q (acc ++ xs.map f)->comps eT te gD Q xs acc
 | [],acc,_,_,q=>by simpa [comps] using q
 | x :: xs,acc,h,hl,q=>by
  simp only [comps,eT,if_true];refine h x Jb _ ⟨by simp at hl;omega,iS f xs _ (λy hy=>h y (IT _ hy)) (by simp at hl ⊢;omega) (by simpa using q)⟩
theorem pP {te:TD} {gD:En} {Q:List D->Prop} (R:D->D->Prop):∀(xs acc:List D),(∀x∈xs,∀N:D->Prop,(∀y,R x y->N y)->te (gD.set 0 (some (.d x))) N)->acc.length + xs.length<=sizeLine->(∀ys,ys.length=xs.length->(∀(i:Nat) (x y:D),xs[i]?=some x->ys[i]?=some y->R x y)->Q (acc ++ ys))->comps eT te gD Q xs acc
 | [],acc,_,_,q=>by simpa [comps] using q [] rfl (by simp)
 | x :: xs,acc,h,hl,q=>by
  simp only [comps,eT,if_true];refine h x Jb _ λy hy=>⟨by simp at hl;omega,pP R xs _ (λy hy=>h y (IT _ hy)) (by simp at hl ⊢;omega) λys hl2 hr=>?_⟩;rw [List.append_assoc];refine q (y :: ys) (by simpa using hl2) λi a b ha hb=>?_
  cases i with
  | zero=>simp at ha hb;subst ha hb;exact hy
  | succ i=>exact hr i a b (by simpa using ha) (by simpa using hb)
theorem qJ {α:Type} {xs:List α} {i:Int} (h0:0<=i) (h1:i < xs.length):jz xs i=xs[i.toNat]?:=by
 unfold L2.jz rZ;rw [if_pos h0,if_pos h1];rfl
theorem C0 {Q:D->Prop} {xs:List D} {i:Int} (h0:0<=i) (h1:i < xs.length) (q:∀v,v∈xs->Q v):cA (.lst xs) (.int i) Q:=by
 have hl:i.toNat < xs.length:=by omega
 exact⟨xs[i.toNat],by rw [qJ h0 h1];simp,q _ (JK hl)⟩
theorem jD {a b:Int} (h:0 < b):0<=a.fmod b/\a.fmod b < b:=⟨Int.fmod_nonneg_of_pos a h,Int.fmod_lt_of_pos a h⟩
def jh (n:Nat) (a:Int):Prop:=a.natAbs < 2 ^ n
theorem bits_le {n m:Nat} {a:Int} (h:jh n a) (hm:n<=m):jh m a:=IP h (Nat.pow_le_pow_right (by decide) hm)
theorem ou {n:Nat} {a:Int} (h:jh n a):Builtin.Int.intBits a<=n:=by
 unfold Builtin.Int.intBits
 by_cases e:a=0
 ·subst e;simp
 ·rw [if_neg (by simpa using e)];have:a.natAbs≠0:=by omega
  exact (Nat.log2_lt this).mpr h
theorem As {n m:Nat} {a b:Int} (ha:jh n a) (hb:jh m b) (h:n + m<=1000000):IntMulOk a b:=by
 have h1:=ou ha;have h2:=ou hb;unfold IntMulOk Builtin.Int.intTooBig
 have:¬ ((Builtin.Int.intBits a:Int) + (Builtin.Int.intBits b:Int) > (bitsLine:Int)):=by
  have:(1000000:Int)<=(bitsLine:Int):=by decide
  omega
 simp only [Bool.and_eq_true,decide_eq_true_eq]
 rintro⟨_,h3⟩;exact this h3
theorem bits_add {n m:Nat} {a b:Int} (ha:jh n a) (hb:jh m b):jh (max n m + 1) (a + b):=by
 unfold jh at *;have h1:(2:Nat) ^ n<=2 ^ max n m:=Nat.pow_le_pow_right (by decide) (Nat.le_max_left _ _);have h2:(2:Nat) ^ m<=2 ^ max n m:=Nat.pow_le_pow_right (by decide) (Nat.le_max_right _ _);rw [Nat.pow_succ];omega
theorem Ek {n:Nat} {a b:Int} (hb:jh n b) (h0:b≠0) (hn:n<=9000):v5 a b:=by
 refine⟨h0,?_⟩;have:b.natAbs≠0:=by omega
 exact IP ((Nat.log2_lt this).mpr hb) hn
theorem sP {a b:Int} (h1:-(2 ^ 64) < a) (h2:a < 2 ^ 64):IntMulOk a b:=.of_left (intBits_le_64 h1 h2)
theorem nJ {a b:Int} (h1:-(2 ^ 64) < b) (h2:b < 2 ^ 64):IntMulOk a b:=.of_right (intBits_le_64 h1 h2)
theorem Gn {c:Int} (j:Int) (h:j≠0/\j.natAbs < 2 ^ 256):v5 c j:=Ek (n:=256) h.2 h.1 (by decide)
theorem DM (i j:Int) (h:0<=j/\j<=1000000/\i.natAbs < 2 ^ 64):Dw i j:=h
theorem t5 {c:Int} (j:Int) (h:j≠0):Au c j:=h
theorem wH (n:Nat) (a:Int) (h:a.natAbs < 2 ^ n):jh n a:=h
def zG (i:Nat) (e:En):Nat:=match e[i]? with|some (some (.own xs))=>xs.length|_=>0
def Gj (i:Nat) (e:En):Nat:=match e[i]? with|some (some (.d (.int j)))=>j.toNat|_=>0
end L2.L3
local macro_rules | `(tactic| simp_all_arith only [$ls,*]) => `(tactic| ((try dsimp only [$(⟨ls.elemsAndSeps⟩),*, L2.L3.aG, L2.L3.gG, L2.L3.b9, L2.L3.bM, L2.L3.iw, L2.L3.bH, L2.L3.mP, L2.L3.kE, L2.L3.fG, L2.L3.bR, L2.L3.cW, L2.L3.cX, L2.L3.oY, L2.L3.ag, L2.L3.cC, L2.L3.aH, L2.L3.x9, L2.L3.aN, L2.L3.pb, L2.L3.mL, L2.L3.Ck, L2.L3.mr, L2.L3.aB, L2.L3.af, L2.L3.aw, L2.L3.cf, L2.L3.iy, L2.L3.fL, L2.L3.kd, L2.L3.B8, L2.L3.kJ, L2.L3.cL, L2.L3.aW, L2.L3.gV, L2.L3.mi, L2.L3.gU, L2.L3.eT, L2.L3.aE, Ji, List.map_nil, Jo, JF, List.cons_append, List.nil_append, Jf, Je, List.set_cons_zero, List.set_cons_succ, L2.L3.js, L2.L3.fZ, L2.L3.nQ, L2.L3.gF, L2.L3.i8, L2.L3.iK, L2.L3.eG, L2.L3.lG, L2.L3.l7, L2.L3.iH, L2.L3.l6, L2.L3.kZ, L2.L3.lZ, L2.L3.fE, L2.L3.gn]); (try simp only [$ls,*, L2.L3.aG, L2.L3.gG, L2.L3.b9, L2.L3.bM, L2.L3.iw, L2.L3.bH, L2.L3.mP, L2.L3.kE, L2.L3.fG, L2.L3.bR, L2.L3.cW, L2.L3.cX, L2.L3.oY, L2.L3.ag, L2.L3.cC, L2.L3.aH, L2.L3.x9, L2.L3.aN, L2.L3.pb, L2.L3.mL, L2.L3.Ck, L2.L3.mr, L2.L3.aB, L2.L3.af, L2.L3.aw, L2.L3.cf, L2.L3.iy, L2.L3.fL, L2.L3.kd, L2.L3.B8, L2.L3.kJ, L2.L3.cL, L2.L3.aW, L2.L3.gV, L2.L3.oJ, L2.L3.oy, L2.L3.mi, L2.L3.gU, L2.L3.eT, L2.L3.aE, Ji, List.map_nil, Jo, JF, List.cons_append, List.nil_append, Jw, Jf, Je, List.getElem?_nil, List.set_cons_zero, List.set_cons_succ, Option.some.injEq, L2.L3.Lo.d.injEq, L2.L3.Lo.own.injEq, L2.L3.D.bl.injEq, L2.L3.D.int.injEq, exists_eq_left', exists_eq_left, Nat.reduceAdd, Nat.reduceSub, Nat.sub_self, Nat.add_one_sub_one, List.replicate_succ, List.replicate_zero, L2.L3.D.tup.injEq, List.cons.injEq, and_assoc, L2.L3.js, L2.L3.fZ, L2.L3.nQ, L2.L3.gF, L2.L3.i8, L2.L3.iK, L2.L3.eG, L2.L3.lG, L2.L3.l4, L2.L3.oA, L2.L3.vJ, L2.L3.vg, L2.L3.uW, L2.L3.l7, L2.L3.iH, L2.L3.l6, L2.L3.qM, L2.L3.rB, L2.L3.kZ, L2.L3.lZ, L2.L3.fE, L2.L3.gn, L2.L3.nD, L2.L3.nM, L2.L3.zV, L2.L3.vG, L2.L3.uU, decide_eq_true_eq, true_and, and_true, if_true, if_false, IF, Bool.not_eq_true', decide_eq_false_iff_not, IX, Int.reduceToNat, Int.reducePow, Int.reduceMul, Int.reduceAdd, Int.reduceNeg, Int.reduceSub, Int.reduceLT, Int.reduceLE, Int.reduceEq, Nat.reduceEqDiff, decide_true, decide_false, Nat.reduceLeDiff, Nat.reduceLT, Bool.true_eq_false, Bool.not_true, Bool.not_false, Bool.not_not])))
local macro_rules | `(tactic| simp_arith! only [$ls,*] $[$loc]?) => `(tactic| ((try dsimp only [$(⟨ls.elemsAndSeps⟩),*, L2.L3.aG, L2.L3.gG, L2.L3.b9, L2.L3.bM, L2.L3.iw, L2.L3.bH, L2.L3.mP, L2.L3.kE, L2.L3.fG, L2.L3.bR, L2.L3.cW, L2.L3.cX, L2.L3.oY, L2.L3.ag, L2.L3.cC, L2.L3.aH, L2.L3.x9, L2.L3.aN, L2.L3.pb, L2.L3.mL, L2.L3.Ck, L2.L3.mr, L2.L3.aB, L2.L3.af, L2.L3.aw, L2.L3.cf, L2.L3.iy, L2.L3.fL, L2.L3.kd, L2.L3.B8, L2.L3.kJ, L2.L3.cL, L2.L3.aW, L2.L3.gV, L2.L3.mi, L2.L3.gU, L2.L3.eT, L2.L3.aE, Ji, List.map_nil, Jo, JF, List.cons_append, List.nil_append, Jf, Je, List.set_cons_zero, List.set_cons_succ, L2.L3.js, L2.L3.fZ, L2.L3.nQ, L2.L3.gF, L2.L3.i8, L2.L3.iK, L2.L3.eG, L2.L3.lG, L2.L3.l7, L2.L3.iH, L2.L3.l6, L2.L3.kZ, L2.L3.lZ, L2.L3.fE, L2.L3.gn, L2.L3.lR, L2.L3.jE, L2.L3.EH, L2.L3.uE, L2.L3.kN, L2.L3.xp, L2.L3.iT, L2.L3.cp] $[$loc]?); (try simp only [$ls,*, L2.L3.aG, L2.L3.gG, L2.L3.b9, L2.L3.bM, L2.L3.iw, L2.L3.bH, L2.L3.mP, L2.L3.kE, L2.L3.fG, L2.L3.bR, L2.L3.cW, L2.L3.cX, L2.L3.oY, L2.L3.ag, L2.L3.cC, L2.L3.aH, L2.L3.x9, L2.L3.aN, L2.L3.pb, L2.L3.mL, L2.L3.Ck, L2.L3.mr, L2.L3.aB, L2.L3.af, L2.L3.aw, L2.L3.cf, L2.L3.iy, L2.L3.fL, L2.L3.kd, L2.L3.B8, L2.L3.kJ, L2.L3.cL, L2.L3.aW, L2.L3.gV, L2.L3.oJ, L2.L3.oy, L2.L3.mi, L2.L3.gU, L2.L3.eT, L2.L3.aE, Ji, List.map_nil, Jo, JF, List.cons_append, List.nil_append, Jw, Jf, Je, List.getElem?_nil, List.set_cons_zero, List.set_cons_succ, Option.some.injEq, L2.L3.Lo.d.injEq, L2.L3.Lo.own.injEq, L2.L3.D.bl.injEq, L2.L3.D.int.injEq, exists_eq_left', exists_eq_left, Nat.reduceAdd, Nat.reduceSub, Nat.sub_self, Nat.add_one_sub_one, List.replicate_succ, List.replicate_zero, L2.L3.D.tup.injEq, List.cons.injEq, and_assoc, L2.L3.js, L2.L3.fZ, L2.L3.nQ, L2.L3.gF, L2.L3.i8, L2.L3.iK, L2.L3.eG, L2.L3.lG, L2.L3.l4, L2.L3.oA, L2.L3.vJ, L2.L3.vg, L2.L3.uW, L2.L3.l7, L2.L3.iH, L2.L3.l6, L2.L3.qM, L2.L3.rB, L2.L3.kZ, L2.L3.lZ, L2.L3.fE, L2.L3.gn, L2.L3.nD, L2.L3.nM, L2.L3.zV, L2.L3.vG, L2.L3.uU, decide_eq_true_eq, true_and, and_true, if_true, if_false, IF, Bool.not_eq_true', decide_eq_false_iff_not, IX, Int.reduceToNat, Int.reducePow, Int.reduceMul, Int.reduceAdd, Int.reduceNeg, Int.reduceSub, Int.reduceLT, Int.reduceLE, Int.reduceEq, Nat.reduceEqDiff, decide_true, decide_false, Nat.reduceLeDiff, Nat.reduceLT, Bool.true_eq_false, Bool.not_true, Bool.not_false, Bool.not_not, L2.L3.lR, L2.L3.jE, L2.L3.EH, L2.L3.uE, L2.L3.kN, L2.L3.xp, L2.L3.iT, L2.L3.pJ, L2.L3.p6, L2.L3.D.lst.injEq, L2.L3.cp] $[$loc]?)))
namespace L2.L3
open PySem
def F1 (P:D->(D->Prop)->Prop):Fw:=λds Q=>∃x,ds=[x]/\P x Q
def F2 (P:D->D->(D->Prop)->Prop):Fw:=λds Q=>∃x y,ds=[x,y]/\P x y Q
def F3 (P:D->D->D->(D->Prop)->Prop):Fw:=λds Q=>∃x y z,ds=[x,y,z]/\P x y z Q
def F4 (P:D->D->D->D->(D->Prop)->Prop):Fw:=λds Q=>∃x y z u,ds=[x,y,z,u]/\P x y z u Q
theorem sV {P}:∀ds Q,F1 P ds Q->ds.length=1:=by rintro ds Q ⟨x,rfl,_⟩;rfl
theorem jo {P}:∀ds Q,F2 P ds Q->ds.length=2:=by rintro ds Q ⟨x,y,rfl,_⟩;rfl
theorem wd {P}:∀ds Q,F3 P ds Q->ds.length=3:=by rintro ds Q ⟨x,y,z,rfl,_⟩;rfl
theorem FW {P}:∀ds Q,F4 P ds Q->ds.length=4:=by rintro ds Q ⟨x,y,z,u,rfl,_⟩;rfl
theorem w8 {P} {x:D} {Q}:F1 P [x] Q=P x Q:=by
 unfold F1;apply propext;constructor
 ·rintro⟨x',e,h⟩;cases e;exact h
 ·intro h;exact⟨_,rfl,h⟩
theorem gj {P} {x y:D} {Q}:F2 P [x,y] Q=P x y Q:=by
 unfold F2;apply propext;constructor
 ·rintro⟨x',y',e,h⟩;cases e;exact h
 ·intro h;exact⟨_,_,rfl,h⟩
theorem tO {P} {x y z:D} {Q}:F3 P [x,y,z] Q=P x y z Q:=by
 unfold F3;apply propext;constructor
 ·rintro⟨x',y',z',e,h⟩;cases e;exact h
 ·intro h;exact⟨_,_,_,rfl,h⟩
theorem Gw {P} {x y z u:D} {Q}:F4 P [x,y,z,u] Q=P x y z u Q:=by
 unfold F4;apply propext;constructor
 ·rintro⟨x',y',z',u',e,h⟩;cases e;exact h
 ·intro h;exact⟨_,_,_,_,rfl,h⟩
def wy (ns:List Int) (k:Int):Int:=if k < ns.length then ns.getD k.toNat 0 else 0
def wB (x y:D) (Q:D->Prop):Prop:=∃(ns:List Int) (k:Int),x=.lst (ns.map D.int)/\y=.int k/\0<=k/\Q (.int (wy ns k))
def uT:Fw:=F2 wB
def oz:bG:=(aG (gG (aN (aH Fm (ag 1) (aB jj (af (ag 0) aw)))) (b9 (aH cA (ag 0) (ag 1))) bM) (b9 (cC (.int 0))))
theorem tP:∀ds (Q:D->Prop),uT ds Q->oz { nx:=λ_=>Q .non,rt:=Q } (aE ["_law_script","_law_k"] ds):=by
 rintro ds Q ⟨x,y,rfl,ns,k,rfl,rfl,hk,h⟩
 simp_all_arith only [oz,IK]
 unfold wy at h
 by_cases hl:k < ns.length
 ·rw [if_pos hl] at h ⊢;have hn:k.toNat < ns.length:=by omega
  refine⟨.int (ns.getD k.toNat 0),?_,h⟩;rw [qJ hk (by simpa using hl)];simp [hn]
 ·rw [if_neg hl] at h ⊢;exact h
open PySem PySem.Spec PyProof.Rows
end L2.L3
namespace L2
open PySem PySem.Spec PyProof.Rows
theorem Inv.qA {X:Cx} {pins:List (Addr×Obj)} {σ:St} {H:Hp} {s:Shared} {h':Heap} {t':Nat} {ch:List Addr} (I:Inv X pins σ H s) (k:∀b o,b∉ch->s.heap.get? b=some o->h'.get? b=some o) (hf:∀b∈ch,lN X pins H b) :
  Inv X pins σ H { s with heap:=h',toks:=t' }:=by
 have far:∀b u,H b=some u->b∉ch:=λb u e z=>by rw [(hf b z).1] at e;cases e
 refine I.step (g':=s.gens) (d':=s.drawn) (ch:=ch) (λb hb=>⟨(hf b hb).2.2.2.1,(hf b hb).2.1,(hf b hb).2.2.2.2.1,(hf b hb).2.2.2.2.2⟩) (λb o _ _ hc e _=>k b o hc e) (λb o _ _ hc e _=>⟨o.slots,k b o hc e⟩)
  (λ_ _ _ _ n=>n) (λb o hc e=>⟨o,k b o hc e⟩) (λ_ _ e=>e) (λ_ _ _ e=>e) (λ_ _ e=>e) (λm hm=>?_) (λb u e=>?_) I.bare
 ·obtain⟨o,es,ep,ho,r⟩:=hm;exact⟨o,es,ep,k _ o (λz=>(hf _ z).2.1 rfl) ho,r⟩
 ·refine (I.hok b u e).nG (λc v hc q=>k c v ?_ q) (λ_ q=>q) (λ_ _ q=>q) λ_ _ _ q=>q;rcases hc with z|z
  ·rw [z];exact far b u e
  ·exact far c _ z
section
variable {prog:Program} {w:World} {A:Around} {E:Value->Shared->Prop} {s:Shared}
theorem uX {j l:Addr} {k:Nat} {its:Array Value} {y:Value} {Q:Value->Shared->Prop} (hj:s.heap.IsTupleIter j l k) (hl:s.heap.IsTuple l its) (hy:its[k]?=some y)
  (q:∀h1,h1.IsTupleIter j l (k + 1)->Heap.SameBut j s.heap h1->Q y { s with heap:=h1 }):wpAny (model prog w) A (Builtin.SmallTypes.nextOf (.ref j)) Q E s:=by
 obtain⟨oj,e1,c1,d1⟩:=id hj;obtain⟨ot,e2,_,_,d2⟩:=hl;unfold Builtin.SmallTypes.nextOf;refine Iw (Jq (name:=Str.ofString "__next__") hj.typeIs F.slot_tuple_iterator_next (wpAny_call_entry F.slot_tuple_iterator_next hj.typeIs F.entry_tuple_iterator_next ?_ (F.args_tuple_iterator_next_1 _)))
 show wpAny _ _ (field (.ref j) 0 >>= _) _ _ s
 refine Iw (wpAny_field e1 d1 (x:=.ref l) rfl ?_);show wpAny _ _ (if (Value.ref l == Value.none)=true then _ else _) _ _ s
 rw [if_neg (show ¬ ((Value.ref l == Value.none)=true) from Bool.false_ne_true)];show wpAny _ _ (field (.ref j) 1 >>= _) _ _ s
 refine Iw (wpAny_field e1 d1 (x:=.int k 0) rfl ?_);show wpAny _ _ (seqItems? (.ref l) >>= _) _ _ s
 refine Iw (wpAny_seqItems e2 d2 ?_);simp only [Int.toNat_natCast,hy];refine Iw (wpAny_setField e1 d1 (by simp) (ID ⟨y,rfl,ID (q _ ?_ (Heap.SameBut.update ..))⟩));exact⟨_,Heap.get?_update_self _ e1 (Obj.isFreed_of_fields (Obj.data_mapFields d1 _)),(Obj.cls_mapFields ..).trans c1,by rw [Obj.data_mapFields d1];simp [rawInt]⟩
theorem oQ {j l:Addr} {k:Nat} {its:Array Value} {Q:Value->Shared->Prop} (hh:A.handled=none) (hj:s.heap.IsTupleIter j l k) (hl:s.heap.IsTuple l its) (hy:its[k]?=none)
  (q:∀h1 e,Heap.ExtBut j s.heap h1->(∃o,h1.get? e=some o/\o.cls=.type "StopIteration")->E (.ref e) { s with heap:=h1 }):wpAny (model prog w) A (Builtin.SmallTypes.nextOf (.ref j)) Q E s:=by
 obtain⟨oj,e1,c1,d1⟩:=id hj;obtain⟨ot,e2,_,_,d2⟩:=hl;unfold Builtin.SmallTypes.nextOf;refine Iw (Jq (name:=Str.ofString "__next__") hj.typeIs F.slot_tuple_iterator_next (wpAny_call_entry F.slot_tuple_iterator_next hj.typeIs F.entry_tuple_iterator_next ?_ (F.args_tuple_iterator_next_1 _)))
 show wpAny _ _ (field (.ref j) 0 >>= _) _ _ s
 refine Iw (wpAny_field e1 d1 (x:=.ref l) rfl ?_);show wpAny _ _ (if (Value.ref l == Value.none)=true then _ else _) _ _ s
 rw [if_neg (show ¬ ((Value.ref l == Value.none)=true) from Bool.false_ne_true)];show wpAny _ _ (field (.ref j) 1 >>= _) _ _ s
 refine Iw (wpAny_field e1 d1 (x:=.int k 0) rfl ?_);show wpAny _ _ (seqItems? (.ref l) >>= _) _ _ s
 refine Iw (wpAny_seqItems e2 d2 ?_);simp only [Int.toNat_natCast,hy];refine Iw (wpAny_rule (Iw (wpAny_setField e1 d1 (by simp) (show wpAny _ _ (newExc (.type "StopIteration") [] >>= _) _ _ _ from Iw ?_))))
 simp only [newExc,newTuple];refine Iw (wpAny_newObj_type (Iw (m:=firstArgMember _ _) (wpAny_of_eq (a:=Value.none) (by first|rfl|(simp only [firstArgMember];rfl)) (wpAny_newObj_type ?_ (by size_fits)))) (by size_fits));simp only [raiseNew];refine Iw (wpAny_handled ?_)
 first|rw [show A.in1.handled=none from hh]|rw [hh]
 exact Iw (ID (wpAny_throw (q _ _ (((Heap.SameBut.update ..).extBut.push _).push _) ⟨_,IS _ rfl,rfl⟩)))
theorem Bj {e j:Addr} {k:Nat} {y z:Value} {T:Heap->Prop} {Q:Value->Shared->Prop} (he:IsEnum s.heap e j k z) (ne:e≠j)
  (nx:∀R:Value->Shared->Prop,(∀h1,T h1->Heap.SameBut j s.heap h1->R y { s with heap:=h1 })->wpAny (model prog w) A (Builtin.SmallTypes.nextOf (.ref j)) R E s)
  (mv:∀h1 h2:Heap,T h1->(∀o,h1.get? j=some o->h2.get? j=some o)->T h2) (hj:∀h1,T h1->∃o,h1.get? j=some o)
  (q:∀h1,IsEnumOut h1 e j ((k:Int) + 1) y s.heap.objs.size->T h1->h1.get? s.heap.objs.size=some { cls:=.type "tuple",data:=.seq #[.int k s.toks,y] }->(∀b o,b≠e->b≠j->s.heap.get? b=some o->h1.get? b=some o) ->
   Q (.ref s.heap.objs.size) { s with heap:=h1,toks:=s.toks + 1 }) :
  wpAny (model prog w) A (Builtin.«enumerate.__next__» ⟨[.ref e],[]⟩) (λfin s'=>∃v,fin=.done (.ret v)/\Q v s') E s:=by
 obtain⟨hp,g,d,tk,os⟩:=s;show wpAny _ _ (field (.ref e) 2 >>= _) _ _ _
 refine Iw (wpAny_field he rfl (x:=.ref j) rfl (Iw (nx _ λg1 t1 b1=>?_)))
 replace b1:Heap.SameBut j hp g1:=b1
 have i1:IsEnum g1 e j k z:=(b1.2 e ne).trans he;show wpAny _ _ (field (.ref e) 3 >>= _) _ _ ⟨g1,g,d,tk,os⟩
 refine Iw (wpAny_field i1 rfl (x:=rawInt k) rfl ?_);show wpAny _ _ (field (.ref e) 4 >>= _) _ _ ⟨g1,g,d,tk,os⟩
 refine Iw (wpAny_field i1 rfl (x:=.none) rfl ?_);show wpAny _ _ (mkInt k >>= _) _ _ ⟨g1,g,d,tk,os⟩
 refine Iw (wpAny_mkInt ?_);show wpAny _ _ (setField (.ref e) 3 (rawInt ((k:Int) + 1)) >>= _) _ _ ⟨g1,g,d,tk + 1,os⟩
 refine Iw (wpAny_setField_rec i1 (by simp) λg2 i2 b2=>?_)
 replace b2:Heap.SameBut e g1 g2:=b2
 replace i2:IsEnum g2 e j ((k:Int) + 1) z:=i2
 show wpAny _ _ (setField (.ref e) 4 .none >>= _) _ _ ⟨g2,g,d,tk + 1,os⟩
 refine Iw (wpAny_setField_rec i2 (by simp) λg3 i3 b3=>?_)
 replace b3:Heap.SameBut e g2 g3:=b3
 replace i3:IsEnum g3 e j ((k:Int) + 1) z:=i3
 show wpAny _ _ (newTuple [.int k tk,y] >>= _) _ _ ⟨g3,g,d,tk + 1,os⟩
 refine Iw (wpAny_newTuple ?_);have i4:IsEnum (g3.push { cls:=.type "tuple",data:=.seq #[.int k tk,y] }) e j ((k:Int) + 1) z:=IC _ i3
 generalize eg:g3.push { cls:=.type "tuple",data:=.seq #[.int k tk,y] }=g4 at i4
 have sz:g3.objs.size=hp.objs.size:=by rw [b3.1,b2.1,b1.1]
 have lt:e < hp.objs.size:=IU he;have t4:g4.get? hp.objs.size=some { cls:=.type "tuple",data:=.seq #[.int k tk,y] }:=by rw [<- eg,<- sz];exact IS _ rfl
 have k4:∀b o,b≠e->b≠j->hp.get? b=some o->g4.get? b=some o:=λb o n1 n2 hb=>by
  rw [<- eg];exact IC _ (b3.extBut b o n1 (b2.extBut b o n1 (b1.extBut b o n2 hb)))
 have T4:T g4:=mv g1 g4 t1 λo ho=>by rw [<- eg];exact IC _ (b3.extBut j o (Ne.symm ne) (b2.extBut j o (Ne.symm ne) ho))
 show wpAny _ _ (Builtin.SmallTypes.ownedTupleIsFree (.ref e) >>= _) _ _ ⟨g4,g,d,tk + 1,os⟩
 rw [sz];clear eg i3 b3 i2 b2 i1 b1 t1 sz g3 g2 g1;refine Iw ?_;unfold Builtin.SmallTypes.ownedTupleIsFree;refine Iw (wpAny_field i4 rfl (x:=.none) rfl (ID ?_));simp only [if_true];refine Iw (wpAny_rule (Iw (wpAny_field i4 rfl (x:=z) rfl (Iw (wpAny_setField_rec i4 (by simp) λg5 i5 b5=>?_)))))
 replace b5:Heap.SameBut e g4 g5:=b5
 replace i5:IsEnum g5 e j ((k:Int) + 1) y:=i5
 show wpAny _ _ (Builtin.SmallTypes.ownedTupleHandOut (.ref e) (.ref hp.objs.size) >>= _) _ _ ⟨g5,g,d,tk + 1,os⟩
 refine Iw ?_;unfold Builtin.SmallTypes.ownedTupleHandOut;refine Iw (wpAny_setField_rec i5 (by simp) λg6 i6 b6=>?_)
 replace b6:Heap.SameBut e g5 g6:=b6
 replace i6:IsEnumOut g6 e j ((k:Int) + 1) y hp.objs.size:=i6
 refine wpAny_setField_rec i6 (by simp) λg7 i7 b7=>?_
 replace b7:Heap.SameBut e g6 g7:=b7
 replace i7:IsEnumOut g7 e j ((k:Int) + 1) y hp.objs.size:=i7
 have far:∀b o,b≠e->g4.get? b=some o->g7.get? b=some o:=λb o n hb=>b7.extBut _ _ n (b6.extBut _ _ n (b5.extBut _ _ n hb));refine Iw (wpAny_letGo (ID ⟨_,rfl,q g7 i7 (mv g4 g7 T4 λo ho=>far j o (Ne.symm ne) ho) (far _ _ (Nat.ne_of_gt lt) t4) λb o n1 n2 hb=>far b o n1 (k4 b o n1 n2 hb)⟩))
theorem wg {e j:Addr} {k:Nat} {y z:Value} {T:Heap->Prop} {Q:Option Value->Shared->Prop} (he:IsEnum s.heap e j k z) (ne:e≠j)
  (nx:∀(A':Around) (E':Value->Shared->Prop) (R:Value->Shared->Prop),(∀h1,T h1->Heap.SameBut j s.heap h1->R y { s with heap:=h1 })->wpAny (model prog w) A' (Builtin.SmallTypes.nextOf (.ref j)) R E' s)
  (mv:∀h1 h2:Heap,T h1->(∀o,h1.get? j=some o->h2.get? j=some o)->T h2) (hj:∀h1,T h1->∃o,h1.get? j=some o)
  (q:∀h1,IsEnumOut h1 e j ((k:Int) + 1) y s.heap.objs.size->T h1->h1.get? s.heap.objs.size=some { cls:=.type "tuple",data:=.seq #[.int k s.toks,y] }->(∀b o,b≠e->b≠j->s.heap.get? b=some o->h1.get? b=some o) ->
   Q (some (.ref s.heap.objs.size)) { s with heap:=h1,toks:=s.toks + 1 }):wpAny (model prog w) A (pyNext (.ref e)) Q E s:=by
 have ty:s.TypeIs (.ref e) "enumerate":=⟨_,he,rfl⟩
 unfold pyNext
 exact Iw (wpAny_attempt (Jq (name:=Str.ofString "__next__") ty F.slot_enumerate_next (wpAny_call_entry F.slot_enumerate_next ty F.entry_enumerate_next
  (Bj he ne (λR hR=>nx _ _ R hR) mv hj λh1 a b c d=>ID (q h1 a b c d)) (F.args_enumerate_next_1 _))))
theorem yF {e j:Addr} {k:Nat} {z:Value} {Q:Option Value->Shared->Prop} (he:IsEnum s.heap e j k z)
  (nx:∀(A':Around) (E':Value->Shared->Prop),A'.handled=A.handled->(∀h1 x,Heap.ExtBut j s.heap h1->(∃o,h1.get? x=some o/\o.cls=.type "StopIteration")->E' (.ref x) { s with heap:=h1 })->wpAny (model prog w) A' (Builtin.SmallTypes.nextOf (.ref j)) (λ_ _=>False) E' s)
  (q:∀h1,Heap.ExtBut j s.heap h1->Q none { s with heap:=h1 }):wpAny (model prog w) A (pyNext (.ref e)) Q E s:=by
 have ty:s.TypeIs (.ref e) "enumerate":=⟨_,he,rfl⟩
 unfold pyNext;refine Iw (wpAny_attempt (Jq (name:=Str.ofString "__next__") ty F.slot_enumerate_next (wpAny_call_entry F.slot_enumerate_next ty F.entry_enumerate_next ?_ (F.args_enumerate_next_1 _))))
 show wpAny _ _ (field (.ref e) 2 >>= _) _ _ _
 refine Iw (wpAny_field he rfl (x:=.ref j) rfl (Iw (Jh (nx _ _ rfl λh1 x b1 c1=>?_) (λ_ _ f=>f.elim) λ_ _ u=>u)));obtain⟨o,ho,hc⟩:=c1;exact Iw (wpAny_isInstance (T:="StopIteration") (b:=true) ⟨o,ho,hc⟩ isSubtype_stop (ID (q _ b1)))
end
end L2
namespace L2.L3
open PySem PySem.Spec PyProof.Rows
def Gf (S:Hp->List V->Prop):It :=
 ⟨λi H=>∃xs x,S H xs/\xs[i]?=some x,λi H y H'=>∃p x,(∀xs,S H xs->xs[i]?=some x)/\H p=none/\y=.ref p/\H'=upd H p (.tup [.int i,x]),λi H=>∃xs,S H xs/\xs.length<=i⟩
theorem zL {X:Cx} {pins:List (Addr×Obj)} {σ:St} {H:Hp} {s:Shared} {e j:Addr} {i:Nat} {x:V} {u:Value} {h2:Heap} (I:Inv X pins σ H s) (hf:∀b∈[e,j],lN X pins H b) (ru:RelV x u)
  (lt:e < s.heap.objs.size) (lj:j < s.heap.objs.size) (t1:h2.get? s.heap.objs.size=some { cls:=.type "tuple",data:=.seq #[.int i s.toks,u] }) (fr:∀b o,b≠e->b≠j->s.heap.get? b=some o->h2.get? b=some o) :
  Inv X pins σ (upd H s.heap.objs.size (.tup [.int i,x])) { s with heap:=h2,toks:=s.toks + 1 }/\H s.heap.objs.size=none:=by
 have hn:H s.heap.objs.size=none:=I.hok.fresh (II _);refine⟨?_,hn⟩
 have I1:Inv X pins σ (upd H s.heap.objs.size (.tup [.int i,x])) { s with heap:=s.heap.push { cls:=.type "tuple",data:=.seq #[.int i s.toks,u] },toks:=s.toks } :=
  I.laid (t':=s.toks) (λb o e=>IC _ e) (II _) (show bC X.prog X.w _ _ _ (.tup [.int i,x]) from ⟨by simp [IX],[.int i s.toks,u],.cons ⟨_,rfl⟩ (.cons ru .nil),pz.new _ _⟩)
 refine Inv.qA (s:={ s with heap:=s.heap.push { cls:=.type "tuple",data:=.seq #[.int i s.toks,u] },toks:=s.toks }) (h':=h2) (t':=s.toks + 1) (ch:=[e,j]) I1 (λb o hb hg=>?_) λb hb=>?_
 ·have nb1:b≠e:=λz=>hb (by simp [z]);have nb2:b≠j:=λz=>hb (by simp [z]);rcases Heap.get?_push_cases hg with ⟨rfl,rfl⟩|hg
  ·exact t1
  ·exact fr b o nb1 nb2 hg
 ·obtain⟨f0,f⟩:=hf b hb;refine⟨?_,f⟩;rw [av];exact f0;rcases IZ.mp hb with rfl|hb
  ·exact Jj lt
  ·rw [IY.mp hb];exact Jj lj
theorem y0 {P:Program} {w:World} {K:IB} {elts:List Expr} {x1:Nat} {tp:Pos} (a e j:Addr) (ne:e≠j):Turn P w K (.Tuple elts x1 tp) (Gf λH xs=>fw K H a xs) [e,j] e (λi h=>(∃z,IsEnum h e j i z)/\h.IsListIter j a i) where
 mem:=by simp
 obj:=λi h st b hb=>by
  obtain⟨⟨z,e1⟩,o,e2,c,d⟩:=st;rcases IZ.mp hb with rfl|hb
  ·exact⟨_,e1,λv q=>by
    have q':Data.fields _=Data.cell v:=q
    cases q'⟩
  ·rw [IY.mp hb];exact⟨o,e2,λv q=>by rw [d] at q;cases q⟩
 keep:=λi h h' st k=>⟨⟨st.1.choose,k e (by simp) _ st.1.choose_spec⟩,st.2.at λo q=>k j (by simp) o q⟩
 item:=by
  intro X hP hw hK hc i pins s σ H E I hf st hg;subst hP hw hK;obtain⟨⟨z,he⟩,hj⟩:=st;obtain⟨xs,x,hq,hx⟩:=hg;obtain⟨its,rv,p,hz⟩:=I.list hq;obtain⟨u,hu,ru⟩:=rv.get hx;have lt:e < s.heap.objs.size:=IU he;have lj:j < s.heap.objs.size:=by obtain⟨_,q,_⟩:=hj;exact IU q
  refine wg (T:=λh=>h.IsListIter j a (i + 1)) he ne (λA' E' R hR=>wpAny_nextOf_list_item hj p.isList (x:=u) (by simpa using hu) hR) (λh1 h2 t k=>t.at λo q=>k o q) (λh1 t=>let ⟨o,q,_⟩:=t;⟨o,q⟩) λh1 o1 t1 n1 fr=>?_
  refine⟨_,rfl,wpAny_letOwnedTupleGo_enum o1 λh2 e2 b2=>?_⟩;have n2:h2.get? s.heap.objs.size=some { cls:=.type "tuple",data:=.seq #[.int i s.toks,u] }:=(b2.2 _ (Nat.ne_of_gt lt)).trans n1
  obtain⟨I2,hn⟩:=zL (h2:=h2) I hf ru lt lj n2 λb o q1 q2 q3=>(b2.2 b q1).trans (fr b o q1 q2 q3);refine⟨.ref s.heap.objs.size,_,I2,rfl,⟨_,x,λys hy=>by rw [I.oO hy hq];exact hx,hn,rfl,rfl⟩,⟨⟨u,by simpa using e2⟩,t1.at λo q=>(b2.2 j (Ne.symm ne)).trans q⟩,λb hb=>?_⟩;rw [av];exact (hf b hb).1;rcases IZ.mp hb with rfl|hb
  ·exact Jj lt
  ·rw [IY.mp hb];exact Jj lj
 done:=by
  intro X hP hw hK hc i pins s σ H E I hf st hg;subst hP hw hK;obtain⟨⟨z,he⟩,hj⟩:=st;obtain⟨xs,hq,hx⟩:=hg;obtain⟨its,rv,p,hz⟩:=I.list hq;have hl:=rv.length;refine yF he (λA' E' hA hE=>wpAny_nextOf_list_end (hA.trans (I.ok.hd hc)) hj p.isList (by simp;omega) hE) λh1 b1=>⟨rfl,?_⟩;obtain⟨f0,f1,f2,f3,f4,f5⟩:=hf j (by simp);exact I.turned (t':=s.toks) (λb o hb e=>b1 b o hb e) f0 f1 f3 f4 f5
 self:=λ_ _ _ _ _ st h=>wpAny_pyIter_enum st.1.choose_spec h
theorem zo {P:Program} {w:World} {K:IB} {elts:List Expr} {x1:Nat} {tp:Pos} (a e j:Addr) (ne:e≠j):Turn P w K (.Tuple elts x1 tp) (Gf λH xs=>fB K H a xs) [e,j] e (λi h=>(∃z,IsEnum h e j i z)/\h.IsTupleIter j a i) where
 mem:=by simp
 obj:=λi h st b hb=>by
  obtain⟨⟨z,e1⟩,o,e2,c,d⟩:=st;rcases IZ.mp hb with rfl|hb
  ·exact⟨_,e1,λv q=>by
    have q':Data.fields _=Data.cell v:=q
    cases q'⟩
  ·rw [IY.mp hb];exact⟨o,e2,λv q=>by rw [d] at q;cases q⟩
 keep:=λi h h' st k=>⟨⟨st.1.choose,k e (by simp) _ st.1.choose_spec⟩,st.2.at λo q=>k j (by simp) o q⟩
 item:=by
  intro X hP hw hK hc i pins s σ H E I hf st hg;subst hP hw hK;obtain⟨⟨z,he⟩,hj⟩:=st;obtain⟨xs,x,hq,hx⟩:=hg;obtain⟨its,rv,p,hz⟩:=I.tuple hq;obtain⟨u,hu,ru⟩:=rv.get hx;have lt:e < s.heap.objs.size:=IU he;have lj:j < s.heap.objs.size:=by obtain⟨_,q,_⟩:=hj;exact IU q
  refine wg (T:=λh=>h.IsTupleIter j a (i + 1)) he ne (λA' E' R hR=>uX hj (show s.heap.IsTuple a its.toArray from p) (y:=u) (by simpa using hu) hR) (λh1 h2 t k=>t.at λo q=>k o q) (λh1 t=>let ⟨o,q,_⟩:=t;⟨o,q⟩) λh1 o1 t1 n1 fr=>?_
  refine⟨_,rfl,wpAny_letOwnedTupleGo_enum o1 λh2 e2 b2=>?_⟩;have n2:h2.get? s.heap.objs.size=some { cls:=.type "tuple",data:=.seq #[.int i s.toks,u] }:=(b2.2 _ (Nat.ne_of_gt lt)).trans n1
  obtain⟨I2,hn⟩:=zL (h2:=h2) I hf ru lt lj n2 λb o q1 q2 q3=>(b2.2 b q1).trans (fr b o q1 q2 q3);refine⟨.ref s.heap.objs.size,_,I2,rfl,⟨_,x,λys hy=>by rw [I.gd hy hq];exact hx,hn,rfl,rfl⟩,⟨⟨u,by simpa using e2⟩,t1.at λo q=>(b2.2 j (Ne.symm ne)).trans q⟩,λb hb=>?_⟩;rw [av];exact (hf b hb).1;rcases IZ.mp hb with rfl|hb
  ·exact Jj lt
  ·rw [IY.mp hb];exact Jj lj
 done:=by
  intro X hP hw hK hc i pins s σ H E I hf st hg;subst hP hw hK;obtain⟨⟨z,he⟩,hj⟩:=st;obtain⟨xs,hq,hx⟩:=hg;obtain⟨its,rv,p,hz⟩:=I.tuple hq;have hl:=rv.length;refine yF he (λA' E' hA hE=>oQ (hA.trans (I.ok.hd hc)) hj (show s.heap.IsTuple a its.toArray from p) (by simp;omega) hE) λh1 b1=>⟨rfl,?_⟩;obtain⟨f0,f1,f2,f3,f4,f5⟩:=hf j (by simp);exact I.turned (t':=s.toks) (λb o hb e=>b1 b o hb e) f0 f1 f3 f4 f5
 self:=λ_ _ _ _ _ st h=>wpAny_pyIter_enum st.1.choose_spec h
section
variable {prog:Program} {w:World} {A:Around} {E:Value->Shared->Prop} {s:Shared}
open AutoSeq1 (wpAny_loadPart') in
theorem DC (l:Addr) (its:Array Value) (o:Obj) (c:o.cls=.type "tuple") (n:Nat) (dd:o.data=.seq its n) :
  Meets (Builtin.«enumerate.__new__» ⟨[.type "enumerate",.ref l],[]⟩) (λ_ R s=>s.heap.get? l=some o /\
   R (.ok (.ret (.ref (s.heap.push { cls:=.type "tuple_iterator",data:=.fields #[.ref l,.int 0 0] }).objs.size)))
    { s with heap:=(s.heap.push { cls:=.type "tuple_iterator",data:=.fields #[.ref l,.int 0 0] }).push { cls:=.type "enumerate",data:=.fields #[.none,.bool false,.ref s.heap.objs.size,rawInt 0,.none,.none] } }) :=
 .of_wp λprog w A R s hh=>by
  obtain⟨oc,od,odt,osl⟩:=o
  replace c:oc=.type "tuple":=c
  replace dd:odt=.seq its n:=dd
  subst c dd;obtain⟨hp,gg,dr,tk,os⟩:=s;obtain⟨hl,q⟩:=hh;have hsub:=sub_enumerate;have hT:Heap.IsTuple (Shared.heap ⟨hp,gg,dr,tk,os⟩) l its:=⟨_,hl,rfl,n,rfl⟩
  wp_walk using wpAny_loadPart' hl
  refine wpAny_stack_any λst=>ID ?_
  split
  ·rename_i cc _ _ _ _ _;cases (cc == Value.type "enumerate") <;> (wp_walk using wpAny_loadPart' hl,wpAny_pyIter_tuple hT;exact⟨_,rfl,q⟩)
  ·wp_walk using wpAny_loadPart' hl,wpAny_pyIter_tuple hT
   exact⟨_,rfl,q⟩
theorem yj {l:Addr} {its:Array Value} {Q:Value->Shared->Prop} (hl:s.heap.IsTuple l its)
  (q:∀h1,IsEnum h1 (s.heap.objs.size + 1) s.heap.objs.size 0 .none->h1.IsTupleIter s.heap.objs.size l 0->(∀b o,s.heap.get? b=some o->h1.get? b=some o)->Q (.ref (s.heap.objs.size + 1)) { s with heap:=h1 }):wpAny (model prog w) A (call (.type "enumerate") [.ref l]) Q E s:=by
 obtain⟨o,e1,c1,n,d1⟩:=hl;refine callType_new F.called_enumerate (by decide) (F.typeCall_enumerate_1 _) (F.newCall_enumerate_1 _) (λob=>F.args_object_init_2 ob _) F.entry_enumerate_new (DC l its o c1 n d1) ⟨e1,?_⟩;have z:(s.heap.push { cls:=.type "tuple_iterator",data:=.fields #[.ref l,.int 0 0] }).objs.size=s.heap.objs.size + 1:=Heap.size_push ..
 show _/\_
 rw [z]
 have i1:IsEnum ((s.heap.push { cls:=.type "tuple_iterator",data:=.fields #[.ref l,.int 0 0] }).push { cls:=.type "enumerate",data:=.fields #[.none,.bool false,.ref s.heap.objs.size,rawInt 0,.none,.none] }) (s.heap.objs.size + 1) s.heap.objs.size 0 .none:=by
  have y:=IS (s.heap.push { cls:=.type "tuple_iterator",data:=.fields #[.ref l,.int 0 0] }) (o:={ cls:=.type "enumerate",data:=.fields #[.none,.bool false,.ref s.heap.objs.size,rawInt 0,.none,.none] }) rfl
  rw [z] at y;exact y
 exact⟨⟨_,i1,rfl⟩,q _ i1 ⟨_,IC _ (IS _ rfl),rfl,rfl⟩ λb o x=>IC _ (IC _ x)⟩
end
section
variable {X:Cx}
def HW (K:IB) (ta:TA):TI:=λσ H R=>ta σ H λvs H1=>∃a,vs=[.ref a]/\(((∃xs,fw K H1 a xs)/\R (Gf λH xs=>fw K H a xs) H1)\/((∃xs,fB K H1 a xs)/\R (Gf λH xs=>fB K H a xs) H1))
theorem GA {elts:List Expr} {x1:Nat} {tp:Pos} {a:Expr} {ta:TA} {p pos:Pos} (hg:Gl X "enumerate") (hm:X.mg "enumerate" = none) (ha:PA X [a] ta) (hs:starEach [a] X.env=[(false,eval a X.env)]:=by rfl) :
  PI X (.Tuple elts x1 tp) (.Call (.Name "enumerate" p) [a] [] pos) (HW X.K ta):=by
 intro pins s σ H R I h;refine Call_ (jB I hg hm boot_enumerate (PyProof.Rows.callWith_type1 (bQ (ha pos pins s σ H _ I h) λus s1 ⟨vs,H1,I1,r1,q1⟩=>?_) hs rfl));obtain⟨l,e,q⟩:=q1;subst e
 cases r1 with
 | cons r rr =>
  cases rr;cases r
  have fin:∀b∈[s1.heap.objs.size + 1,s1.heap.objs.size],lN X pins H1 b:=λb hb=>by
   have hb':s1.heap.objs.size<=b:=by
    rcases IZ.mp hb with rfl|hb
    ·omega
    ·rw [IY.mp hb];exact II _
   exact I1.vy hb' (I1.hok.fresh hb')
  rcases q with ⟨⟨xs,hq⟩,q⟩|⟨⟨xs,hq⟩,q⟩
  ·obtain⟨its,rv,pl,hz⟩:=I1.list hq;refine call_enumerate_list pl.isList λh1 i1 j1 _ k1=>?_;refine wpAny_pyIter_enum i1 ⟨_,[s1.heap.objs.size + 1,s1.heap.objs.size],_,_,H1,rfl,I1.kept (t':=s1.toks) k1,y0 l (s1.heap.objs.size + 1) s1.heap.objs.size (Nat.succ_ne_self _),⟨⟨_,i1⟩,j1⟩,fin,q⟩
  ·obtain⟨its,rv,pl,hz⟩:=I1.tuple hq;refine yj (show s1.heap.IsTuple l its.toArray from pl) λh1 i1 j1 k1=>?_;refine wpAny_pyIter_enum i1 ⟨_,[s1.heap.objs.size + 1,s1.heap.objs.size],_,_,H1,rfl,I1.kept (t':=s1.toks) k1,zo l (s1.heap.objs.size + 1) s1.heap.objs.size (Nat.succ_ne_self _),⟨⟨_,i1⟩,j1⟩,fin,q⟩
end
structure qV (K:IB) (J:It) (F1:Hp) (xs:List D):Prop where
 go:∀(i:Nat) (G H':Hp),ak F1 G->ak G H'->i < xs.length->J.go i H'
 yld:∀(i:Nat) (G H':Hp) (y:V) (H'':Hp) (x:D) (B:Base) (σ:St) (env:En),ak F1 G->Rep K B G H' σ env->xs[i]?=some x->J.yld i H' y H''->∃G',Rep K B G' H'' σ env/\ak G G'/\Den K G' x y
 stop:∀(G H':Hp),ak F1 G->ak G H'->J.stop xs.length H'
def mC (xs:List D):List D:=xs.mapIdx λi x=>.tup [.int (i:Int),x]
theorem tM {xs:List D} {i:Nat} {y:D} (h:(mC xs)[i]?=some y):∃x,xs[i]?=some x/\y=.tup [.int (i:Int),x]:=by
 unfold mC at h;rw [List.getElem?_mapIdx] at h
 cases e:xs[i]? with
 | none=>rw [e] at h;cases h
 | some x=>rw [e] at h;cases h;exact⟨x,rfl,rfl⟩
theorem lC {xs:List D}:(mC xs).length=xs.length:=by simp [mC]
theorem sC {K:IB} {F1:Hp} {vs:List V} {xs:List D} {S:Hp->List V->Prop} (hS:∀G H',ak F1 G->ak G H'->S H' vs) (r:ao K F1 xs vs):qV K (Gf S) F1 (mC xs) where
 go:=λi G H' s1 s2 hi=>by
  rw [lC] at hi;have:i < vs.length:=by rw [<- r.length];exact hi
  exact⟨vs,vs[i],hS G H' s1 s2,by simp [this]⟩
 yld:=λi G H' y H'' x B σ env s1 rp hx hy=>by
  obtain⟨x',hx',rfl⟩:=tM hx;obtain⟨v,h1,h2⟩:=r.get hx';obtain⟨p,u,q1,q3,rfl,rfl⟩:=hy;have q2:=q1 vs (hS G H' s1 rp.fh);rw [h1] at q2;cases q2;obtain⟨r2,s2⟩:=rp.laid (o:=.tup [.int i,v]) q3;exact⟨_,r2,s2,fb (fB.of au) (aF bq (aF (Den.mono (s1.trans s2) _ _ h2) aJ))⟩
 stop:=λG H' s1 s2=>⟨vs,hS G H' s1 s2,by rw [lC,r.length];exact II _⟩
section
variable {X:Cx} {N':List Str} {ix:List Nat} {scope:Scope} {elt iter a b:Expr} {ifs:List Expr} {x y:Str} {px py tp pos:Pos} {c:Nat} {tt:TB} {te ti:TD} {ts:d7}
def AF (d:D):Option (List D):=match d with|.lst xs=>some xs|.tup xs=>some xs|_=>none
theorem Dn {B:Base} {σ:St} {F H:Hp} {env:En} {P:List D->Prop} {R:It->Hp->Prop} (hi:QA X [a] ts) (rp:Rep X.K B F H σ env) (h:ts env λds=>∃d xs,ds=[d]/\AF d=some xs/\P (mC xs))
  (hR:∀(J:It) (F1 H1:Hp) (xs:List D),Rep X.K B F1 H1 σ env->ak F F1->qV X.K J F1 xs->P xs->R J H1) :
  HW X.K (wA X [a]) σ H R:=by
 refine cH (hi B σ F H env _ rp h) λvs H1 hq0=>?_;obtain⟨F1,ds,r1,s1,d1,d,xs,hx,hd,q1⟩:=hq0;subst hx;simp only [ao] at d1;obtain⟨v,r,rfl,dv,rfl⟩:=d1
 cases d with
 | lst ys =>
  simp only [AF] at hd;cases hd;simp only [Den] at dv;obtain⟨l,vs,rfl,q,r⟩:=dv
  exact⟨l,rfl,.inl ⟨⟨vs,r1.fh.seq q⟩,hR _ F1 H1 _ r1 s1 (sC (λG H' z1 z2=>z2.seq (z1.seq q)) r) q1⟩⟩
 | tup ys =>
  simp only [AF] at hd;cases hd;simp only [Den] at dv;obtain⟨l,vs,rfl,q,r⟩:=dv
  exact⟨l,rfl,.inr ⟨⟨vs,ak.bt r1.fh q⟩,hR _ F1 H1 _ r1 s1 (sC (λG H' z1 z2=>ak.bt z2 (ak.bt z1 q)) r) q1⟩⟩
 | _=>simp only [AF] at hd;cases hd
def qg (ts:d7) (g:mT) (tb:bG):bG:=λD env=>ts env λds=>∃d xs,ds=[d]/\AF d=some xs/\turns g tb D (mC xs) env
theorem qb {tg:Expr} {body:List Stmt} {g:mT} {t:bG} (hg:QG X tg g) (hb:m7 X body t) {B:Base} {σ:St} {F1 H1:Hp} {env:En} {D:Ends3} {J:It} {xs:List L3.D} (r1:Rep X.K B F1 H1 σ env) (S:qV X.K J F1 xs) (q1:turns g t D xs env) :
  ∃W:Nat->Nat->St->Hp->Prop,(∃m,W 0 m σ H1)/\∀i m σ H,W i m σ H->(J.stop i H/\(RS X B D).nx σ H)\/(J.go i H/\∃N:St->Hp->Prop,(∀σ' H',N σ' H'->∃m',m' < m/\W (i + 1) m' σ' H') /\
    ∀x H',J.yld i H x H'->wG X tg x σ H' λσ2 H2=>wSs X body { RS X B D with nx:=N,ct:=N,bk:=(RS X B D).nx } σ2 H2):=by
 have sm:=RS.same (X:=X) (B:=B) (D:=D) r1.f0;refine⟨λi m σ H=>m=xs.length - i/\i<=xs.length/\∃F env,Rep X.K ⟨F1,B.H,B.N,B.nb⟩ F H σ env/\turns g t D (xs.drop i) env,⟨xs.length,by simp,Ju _,F1,env,r1.now,by simpa using q1⟩,?_⟩
 rintro i m σ2 H2 ⟨rfl,hi2,F2,env2,r2,q2⟩
 by_cases hlt:i < xs.length
 ·have hxi:xs[i]?=some xs[i]:=by simp [hlt]
  rw [drop_cons hxi] at q2;refine .inr ⟨S.go i F2 H2 r2.f0 r2.fh hlt,λσ' H'=>∃F env,Rep X.K ⟨F1,B.H,B.N,B.nb⟩ F H' σ' env/\turns g t D (xs.drop (i + 1)) env,λσ' H' ⟨F',env',r',q'⟩=>⟨xs.length - (i + 1),by omega,rfl,by omega,F',env',r',q'⟩,λz H' hz=>?_⟩;obtain⟨G,rG,sG,dz⟩:=S.yld i F2 H2 z H' xs[i] _ σ2 env2 r2.f0 r2 hxi hz;refine gN (hg _ σ2 G _ env2 _ _ _ rG dz q2) λσ3 H3 hq0=>?_;obtain⟨F3,env3,r3,s3,q3⟩:=hq0
  exact ib (hb _ σ3 F3 H3 env3 _ r3 q3) (λ_ _ q=>q) (λv H q=>sm.2.1 v H q) (λv H q=>sm.1 v H q) (λ_ _ q=>q)
 ·have e:i=xs.length:=by omega
  subst e;rw [JE (II _)] at q2;exact .inl ⟨S.stop F2 H2 r2.f0 r2.fh,sm.1 _ _ ⟨F2,env2,r2,q2⟩⟩
theorem AH {elts:List Expr} {x1:Nat} {body:List Stmt} {g:mT} {t:bG} {p pos2:Pos} (hp:PassesOwn (model X.prog X.w) X.A X.env X.xe) (hc:X.calm=true) (hgl:Gl X "enumerate") (hm:X.mg "enumerate" = none) (ha:QA X [a] ts) (hg:QG X (.Tuple elts x1 tp) g) (hb:m7 X body t)
  (hst:starEach [a] X.env=[(false,eval a X.env)]:=by rfl) (hs:∀x,Jt (.Call (.Name "enumerate" p) [a] [] pos2) X.env x=pure x:=by intro _;rfl):QS X (.For (.Tuple elts x1 tp) (.Call (.Name "enumerate" p) [a] [] pos2) body [] pos) (qg ts g t):=by
 refine⟨λB σ F H env D rp h=>df (lM hp hc (GA hgl hm ji hst) uo dI hs) ?_⟩;exact Dn (P:=λxs=>turns g t D xs env) ha rp h λJ F1 H1 xs r1 s1 S q=>qb hg hb r1 S q
end
mutual
theorem wm:∀(a b c:D),aT a b=true->aT a c=aT b c:=by
 intro a b c h;cases a <;> cases b <;> first|(simp only [aT,IF] at h;done)|skip
 all_goals cases c <;> first|rfl|(simp only [aT,beq_iff_eq] at h ⊢;subst h;rfl)|skip
 all_goals first
  | (simp only [aT] at h ⊢;exact sL _ _ _ h)
  | (simp only [aT,beq_iff_eq] at h ⊢;rw [Bool.eq_iff_iff];simp only [beq_iff_eq];split at h <;> split <;> simp_all <;> omega)
  | (simp only [aT,beq_iff_eq] at h ⊢;rw [Bool.eq_iff_iff];simp only [beq_iff_eq];split at h <;> simp_all)
  | (simp only [aT,beq_iff_eq] at h ⊢;subst h;rw [Bool.eq_iff_iff];simp only [beq_iff_eq];split <;> simp_all)
  | (simp only [aT,beq_iff_eq] at h ⊢;subst h;split <;> simp_all)
theorem sL:∀(a b c:List D),cZ a b=true->cZ a c=cZ b c:=by
 intro a b c h
 cases a with
 | nil=>cases b with
  | nil=>rfl
  | cons y r=>simp only [cZ,IF] at h
 | cons x r=>cases b with
  | nil=>simp only [cZ,IF] at h
  | cons y t =>
   simp only [cZ,Bool.and_eq_true] at h
   cases c with
   | nil=>rfl
   | cons z u=>simp only [cZ];rw [wm x y z h.1,sL r t u h.2]
end
section
variable {X:Cx} {pins:List (Addr×Obj)} {σ:St} {H F:Hp} {s:Shared}
open Classical in
noncomputable def ja (us:List Value) (ds:List D) (d:D) (u:Value):Bool:=decide (∃(i:Nat) (x:D),us[i]?=some u/\ds[i]?=some x/\aT x d=true)
open Classical in
theorem mV (I:Inv X pins σ H s) (fh:ak F H) {ds:List D} {vs:List V} {us:List Value} {d:D} (hd:b8 ds < 1000) (dl:ao X.K F ds vs) (rv:Vals vs us) {j:Nat} {x:D} {u:Value} (hx:ds[j]?=some x) (hu:us[j]?=some u):ja us ds d u=aT x d:=by
 unfold ja
 have dle:∀(k:Nat) (y:D),ds[k]?=some y->dep y < 1000:=λk y hy=>by
  clear dl rv hx hu
  induction ds generalizing k with
  | nil=>simp at hy
  | cons z r ih =>
   simp only [b8] at hd
   cases k with
   | zero=>simp at hy;subst hy;omega
   | succ k=>exact ih (by omega) k (by simpa using hy)
 cases hb:aT x d with
 | true=>exact decide_eq_true ⟨j,x,hu,hx,hb⟩
 | false =>
  refine decide_eq_false λhq0=>?_;obtain⟨i,y,h1,h2,h3⟩:=hq0;obtain⟨v1,e1,d1⟩:=dl.get hx;obtain⟨v2,e2,d2⟩:=dl.get h2;obtain⟨w1,g1,r1⟩:=rv.get e1;obtain⟨w2,g2,r2⟩:=rv.get e2;rw [hu] at g1;cases g1;rw [h1] at g2;cases g2;have:=r1.inj r2;subst this;have k:=m4 I fh y x _ (dle _ _ h2) (dle _ _ hx) d2 d1;rw [wm y x d k,hb] at h3;cases h3
theorem oi (I:Inv X pins σ H s) (fh:ak F H) {ds:List D} {vs:List V} {us:List Value} {d:D} (hd:b8 ds < 1000) (dl:ao X.K F ds vs) (rv:Vals vs us):us.map (ja us ds d)=ds.map λx=>aT x d:=by
 have l1:=dl.length;have l2:=rv.length;apply List.ext_getElem?
 intro i;rw [IJ,IJ]
 by_cases hi:i < ds.length
 ·have h1:ds[i]?=some ds[i]:=by simp [hi]
  have h2:us[i]?=some (us[i]'(by omega)):=IE _;rw [h1,h2];simp only [Option.map_some];rw [mV I fh hd dl rv h1 h2]
 ·rw [Ja (by omega),Ja (by omega)];rfl
end
section
variable {X:Cx} {a b:Expr} {ta tb:TD} {pos:Pos}
def FT (X:Cx) (neg:Bool):R2:=λx y H Q=>∃(F:Hp) (d:D) (ds:List D) (vs:List V) (p:Addr),ak F H/\Den X.K F d x/\y=.ref p/\(fw X.K F p vs\/fB X.K F p vs)/\ao X.K F ds vs/\X.A.units + 64 < cLine/\b8 ds<=60/\dep d<=60/\Q (.bl (if neg then !ds.any (λe=>aT e d) else ds.any λe=>aT e d)) H
theorem any_map' {α:Type} (f:α->Bool) (l:List α):l.any f=(l.map f).any id:=by rw [List.any_map];rfl
theorem nT {X:Cx} {pins:List (Addr×Obj)} {σ:St} {H F:Hp} {s:Shared} (I:Inv X pins σ H s) (fh:ak F H) {ds:List D} {vs:List V} {us:List Value} {d:D} {x:V} {v:Value} (hu:X.A.units + 64 < cLine) (hds:b8 ds<=60) (hd:dep d<=60) (dl:ao X.K F ds vs) (rv:Vals vs us) (dx:Den X.K F d x) (rx:RelV x v) :
  ∀u∈us,SeqAt.EqAt X.A.in1 s u v (ja us ds d u):=by
 intro u hu';obtain⟨j,hj,e⟩:=List.getElem_of_mem hu';have h2:us[j]?=some u:=by rw [<- e];simp [hj]
 have l1:=dl.length;have l2:=rv.length;have h1:ds[j]?=some (ds[j]'(by omega)):=IE _;rw [mV I fh (by omega) dl rv h1 h2];obtain⟨w,g1,g2⟩:=dl.get h1;obtain⟨u',g3,g4⟩:=rv.get g1;rw [h2] at g3;cases g3
 have dle:dep (ds[j]'(by omega))<=60:=by
  have go:∀(l:List D) (n:Nat),b8 l<=n->∀y∈l,dep y<=n:=by
   intro l
   induction l with
   | nil=>intro n _ y hy;cases hy
   | cons z r ih =>
    intro n hn y hy;simp only [b8] at hn;rcases IZ.mp hy with rfl|hy
    ·omega
    ·exact ih n (by omega) y hy
  exact go ds 60 hds _ (JK _)
 exact nY I fh _ d X.A.in1 _ x u v (by rw [units_in1];omega) (by omega) (by omega) g2 dx g4 rx
theorem BH:jm X (compareOp .NotIn) (FT X true):=by
 intro pins s σ H x y v u Q I rx ry h;obtain⟨F,d,ds,vs,p,fh,dx,rfl,hq,dl,hu,h1,h2,q⟩:=h;cases ry;rcases hq with hq|hq
 ·obtain⟨its,r,pl,hz⟩:=I.list (fh.seq hq);refine SeqAt.notIn_listAt (ja its ds d) pl.isList (λw hw=>nT I fh hu h1 h2 dl r dx rx w (by simpa using hw)) ⟨.bl _,H,I,rfl,?_⟩;rw [show its.toArray.any (ja its ds d)=its.any (ja its ds d) by simp,any_map',oi I fh (by omega) dl r,<- any_map'];exact q
 ·obtain⟨its,r,pl,hz⟩:=I.tuple (ak.bt fh hq);refine SeqAt.notIn_tupleAt (ja its ds d) pl (λw hw=>nT I fh hu h1 h2 dl r dx rx w (by simpa using hw)) ⟨.bl _,H,I,rfl,?_⟩;rw [show its.toArray.any (ja its ds d)=its.any (ja its ds d) by simp,any_map',oi I fh (by omega) dl r,<- any_map'];exact q
def DN (neg:Bool) (x y:D) (Q:D->Prop):Prop:=∃ds,AF y=some ds/\b8 ds<=60/\dep x<=60/\Q (.bl (if neg then !ds.any (λe=>aT e x) else ds.any λe=>aT e x))
theorem Ea (hu:X.A.units + 64 < cLine) (neg:Bool):uN X (FT X neg) (DN neg):=by
 intro B σ F H env Q d d' x y Z rp h1 h2 hz hf;obtain⟨ds,e,l1,l2,q⟩:=hf
 cases d' with
 | lst xs =>
  simp only [AF] at e;cases e;simp only [Den] at h2;obtain⟨p,vs,rfl,hq,dl⟩:=h2
  exact⟨F,d,_,vs,p,rp.fh,h1,rfl,.inl hq,dl,hu,l1,l2,hz _ H F _ rp (ak.refl _) gv q⟩
 | tup xs =>
  simp only [AF] at e;cases e;simp only [Den] at h2;obtain⟨p,vs,rfl,hq,dl⟩:=h2
  exact⟨F,d,_,vs,p,rp.fh,h1,rfl,.inr hq,dl,hu,l1,l2,hz _ H F _ rp (ak.refl _) gv q⟩
 | _=>simp only [AF] at e;cases e
theorem DH (hu:X.A.units + 64 < cLine) (ha:QE X a ta) (hb:QE X b tb) (hm:behindInMarks .NotIn b=false:=by rfl):QT X (.Compare a [.NotIn] [b] pos) (aN (aH (DN true) ta tb)):=hJ BH (Ea hu true) ha hb hm
def qG (neg:Bool) (x:D):D:=.bl (match x with|.non=>!neg|_=>neg)
theorem tJ {K:IB} {F:Hp} {d:D} {v:V} (h:Den K F d v):decide (v=.non)=(match d with|.non=>true|_=>false):=by
 cases d <;> simp only [Den] at h <;> first|(subst h;rfl)|(obtain⟨_,_,rfl,_⟩:=h;rfl)|(obtain⟨_,rfl,_⟩:=h;rfl)
def iO (neg:Bool) (x y:D) (Q:D->Prop):Prop:=y=.non/\Q (qG neg x)
theorem A7:uN X (λx y H Q=>y=.non/\Q (.bl (!decide (x=.non))) H) (iO true):=by
 intro B σ F H env Q d d' x y Z rp h1 h2 hz hf;obtain⟨rfl,q⟩:=hf;simp only [Den] at h2;refine⟨h2,hz _ H F _ rp (ak.refl _) ?_ q⟩;rw [tJ h1];unfold qG;cases d <;> exact gv
theorem vd (ha:QE X a ta) (hb:QE X b tb):QT X (.Compare a [.IsNot] [b] pos) (aN (aH (iO true) ta tb)):=hJ Bk A7 ha hb (fX _)
end
end L2.L3
namespace L2
open PySem PySem.Spec PyProof.Rows
section
variable {X:Cx}
theorem Vals.insertAt {xs:List V} {us:List Value} {x:V} {u:Value} (h:Vals xs us) (r:RelV x u) (k:Nat):Vals (xs.take k ++ x :: xs.drop k) (us.take k ++ u :: us.drop k):=by
 induction h generalizing k with
 | nil=>simp;exact .cons r .nil
 | @cons y w ys ws q t ih =>
  cases k with
  | zero=>exact .cons r (.cons q t)
  | succ k=>exact .cons q (ih k)
def AG:V->List V->Hp->VK->Prop:=λx vs H Q=>∃l xs i y,x=.ref l/\vs=[.int i,y]/\H l=some (.lst xs)/\0<=i/\i<=xs.length/\xs.length < sizeLine/\Q .non (upd H l (.lst (xs.take i.toNat ++ y :: xs.drop i.toNat)))
theorem xq:Hn X "list.insert" AG:=by
 intro pins s σ H x vs v us Q I rx rv h;obtain⟨l,xs,i,y,rfl,rfl,hH,h0,h1,h2,q⟩:=h;cases rx;obtain⟨u,w,rfl,ru,rw'⟩:=rv.two;obtain⟨t,rfl⟩:=ru;obtain⟨z,its,n,r,hl,e⟩:=I.DR hH;have hs:xs.length<=2 ^ 62:=by rw [sizeLine_eq] at h2;omega
 have hfit:¬ (!Builtin.List.listFitsIndex i)=true:=by
  rw [fitsIndex_both (by omega) (by omega)];exact Bool.false_ne_true
 refine call_meets F.slot_list_insert ⟨_,e,rfl⟩ F.entry_list_insert (F.args_list_insert_3 _ _ _) (AutoSeq1.list_insert_list_int_val_1 l its.toArray n i t w hfit (by rw [IV];omega)) ⟨e,?_⟩;refine⟨.non,_,I.DL (its':=its.take i.toNat ++ w :: its.drop i.toNat) hH e ?_ (r.insertAt rw' i.toNat) ?_,rfl,q⟩
 ·apply Array.toList_inj.mp
  have c1:¬ i < 0:=by omega
  have c2:min i.toNat its.toArray.size=i.toNat:=by rw [IV];omega
  simp only [c1,if_false,c2];simp;exact JL (by simp)
 ·simp;omega
end
end L2
namespace L2.L3
open PySem PySem.Spec PyProof.Rows
section
variable {X:Cx} {e f:Expr} {te tf:TD} {ts:d7} {pos:Pos}
def m3 (i:Nat) (te tf:TD):bG:=λD env=>∃xs,env[i]?=some (some (.own xs))/\te env λy=>tf env λx=>∃k:Int,y=.int k/\0<=k/\k<=xs.length/\xs.length < sizeLine/\D.nx (env.set i (some (.own (xs.take k.toNat ++ x :: xs.drop k.toNat))))
theorem xo {x:Str} {px apos cpos:Pos} (i:Nat) (he:QE X e te) (hf:QE X f tf) (hN:X.N[i]?=some x:=by rfl) (hv:rY X.env.scope x:=by first | exact Or.inl rfl | exact Or.inr (Or.inl rfl) | exact Or.inr (Or.inr rfl)) (hd:(x == ("__debug__" : Str))=false:=by decide) (hcd:(x == ("__classdict__" : Str))=false:=by decide)
  (hbase:attributeBase (.Name x px) "insert" X.env (eval (.Name x px) X.env)=eval (.Name x px) X.env:=by rfl)
  (hfew:((backTo cpos (starEach [e,f] X.env)).all (λx=>!x.1) && (backToKw cpos (keywordEach [] X.env)).all (λx=>x.1.isSome)
   && decide (([e,f]:List Expr).length + ([]:List Keyword).length + (if ([]:List Keyword).isEmpty then 0 else 1) < 30))=true:=by rfl)
  (hline:(apos.endLine == cpos.line)=true:=by rfl) (hst:starEach [e,f] X.env=(false,eval e X.env) :: starEach [f] X.env:=by exact aV rfl) (hst2:starEach [f] X.env=(false,eval f X.env) :: starEach [] X.env:=by exact aV rfl) (hplain:(backTo cpos (starEach ([f]:List Expr) X.env)).any (·.1)=false:=by rfl)
  (hs:swapsWith (.Call (.Attribute (.Name x px) "insert" apos) [e,f] [] cpos) none pos.line X.env=pure false:=by rfl) :
  QS X (.Expr (.Call (.Attribute (.Name x px) "insert" apos) [e,f] [] cpos) pos) (m3 i te tf):=by
 refine⟨?_⟩;intro B σ F H env D rp h;refine df (rM (sI PySem.F.plainAttrs_list PySem.F.slot_list_insert PySem.F.type_list_insert xq (c4 hN hv hd hcd) (dO bB (dO bB f6 hst2) hst) hbase hfew hline hst hplain) hs) ?_;obtain⟨xs,hx,h⟩:=h;obtain⟨p,vs,h1,h2,h3,h4,h5⟩:=rp.ov i xs hx;refine⟨.ref p,h1,.inl ⟨rfl,vs,fw.of h2⟩,?_⟩;refine aA (he B σ F H env _ rp h) λy H1 hq0=>?_;obtain⟨F1,d,r1,s1,d1,q1⟩:=hq0;refine aA (hf B σ F1 H1 env _ r1 q1) λz H2 hq0=>?_
 obtain⟨F2,d',r2,s2,d2,k,e1,k0,k1,k2,q2⟩:=hq0;subst e1;simp only [Den] at d1;subst d1;obtain⟨p',vs',g1,g2,g3,g4,g5⟩:=r2.ov i xs hx;rw [h1] at g1;cases g1;have hl:=g5.length;exact⟨p,vs',k,z,rfl,rfl,g2,k0,by omega,by omega,F2,_,r2.change hx h1 ((g5.take _).append (aF d2 (g5.drop _))),q2⟩
def oF (i:Nat):TB:=λenv Q=>∃xs,env[i]?=some (some (.own xs))/\b8 xs<=50/\Q (!xs.isEmpty)
theorem wZ {x:Str} {px pl:Pos} (i:Nat) (hu:X.A.units + 64 < cLine) (hN:X.N[i]?=some x:=by rfl) (hv:rY X.env.scope x:=by first | exact Or.inl rfl | exact Or.inr (Or.inl rfl) | exact Or.inr (Or.inr rfl)) (hd:(x == ("__debug__" : Str))=false:=by decide)
  (hcd:(x == ("__classdict__" : Str))=false:=by decide):QT X (.Compare (.Name x px) [.NotEq] [.List [] pl] pos) (oF i):=by
 refine⟨λB σ F H env Q rp h=>p8 (kO rh (c4 hN hv hd hcd) (uL f6) (fX _)) ?_⟩;obtain⟨xs,hx,hdep,q⟩:=h;obtain⟨p,vs,h1,h2,h3,h4,h5⟩:=rp.ov i xs hx;refine⟨.ref p,h1,by simp [IX],λw hw=>?_⟩;have ne:p≠w:=λz=>by subst z;rw [h2] at hw;cases hw
 have s1:ak F (upd F p (.lst vs)):=a8 h3;refine⟨upd (upd F p (.lst vs)) w (.lst []),.lst xs,.lst [],?_,?_,?_,by simp only [dep];omega,by simp only [dep];omega,by decide,!xs.isEmpty,?_,F,rp.loose hw,ak.refl _,q⟩
 ·refine kY λb o hb=>?_
  by_cases z:b=p
  ·subst z;rw [au] at hb;cases hb;exact h2
  ·rw [av z] at hb;exact rp.fh _ _ hb
 ·have s2:ak (upd F p (.lst vs)) (upd (upd F p (.lst vs)) w (.lst [])):=a8 (by rw [av (Ne.symm ne)];exact rp.mG hw);exact gu (fw.of (by rw [av ne];exact au)) (ao.mono (s1.trans s2) _ _ h5)
 ·exact gu (fw.of au) aJ
 ·cases xs <;> rfl
def iY (j i:Nat) (te:TD):bG:=λZ env=>∃xs,env[i]?=some (some (.own xs))/\te env λy=>∃(k:Nat) (x:D),y=.int k/\xs[k]?=some x/\k < 2 ^ 62/\Z.nx ((env.set i (some (.own (xs.eraseIdx k)))).set j (some (.d x)))
theorem ao.eraseIdx {K:IB} {F:Hp}:∀{ds:List D} {vs:List V} (k:Nat),ao K F ds vs->ao K F (ds.eraseIdx k) (vs.eraseIdx k)
 | [],vs,k,h=>by simp only [ao] at h;subst h;simpa using aJ
 | d :: ds,vs,0,h=>by
  simp only [ao] at h;obtain⟨v,r,rfl,a,b⟩:=h
  exact b
 | d :: ds,vs,k + 1,h=>by
  simp only [ao] at h;obtain⟨v,r,rfl,a,b⟩:=h;exact aF a (ao.eraseIdx k b)
theorem lY {x y:Str} {px py apos cpos:Pos} (j i:Nat) (nd:X.N.Nodup) (he:QE X e te) (hN:X.N[i]?=some x:=by rfl) (hv:rY X.env.scope x:=by first | exact Or.inl rfl | exact Or.inr (Or.inl rfl) | exact Or.inr (Or.inr rfl)) (hd:(x == ("__debug__" : Str))=false:=by decide) (hcd:(x == ("__classdict__" : Str))=false:=by decide)
  (hj:X.N[j]?=some y:=by rfl) (hy:Loc X.env.scope y:=by first|exact Or.inl rfl|exact Or.inr rfl)
  (hbase:attributeBase (.Name x px) "pop" X.env (eval (.Name x px) X.env)=eval (.Name x px) X.env:=by rfl)
  (hfew:((backTo cpos (starEach [e] X.env)).all (λx=>!x.1) && (backToKw cpos (keywordEach [] X.env)).all (λx=>x.1.isSome)
   && decide (([e]:List Expr).length + ([]:List Keyword).length + (if ([]:List Keyword).isEmpty then 0 else 1) < 30))=true:=by rfl)
  (hline:(apos.endLine == cpos.line)=true:=by rfl) (hst:starEach [e] X.env=(false,eval e X.env) :: starEach [] X.env:=by exact aV rfl) (hplain:(backTo cpos (starEach ([]:List Expr) X.env)).any (·.1)=false:=by rfl)
  (hs:swapsWith (.Call (.Attribute (.Name x px) "pop" apos) [e] [] cpos) (some (.Name y py)) pos.line X.env=pure false:=by rfl) (hf:X.fn y=true\/X.env.scope.names.lookup y=some .local:=by first | exact .inl rfl | exact .inr rfl) :
  QS X (.Assign [.Name y py] (.Call (.Attribute (.Name x px) "pop" apos) [e] [] cpos) pos) (iY j i te):=by
 refine⟨λB σ F H env D rp h pins s I=>?_⟩;refine lF (i:=j) nd hj hy (sI PySem.F.plainAttrs_list PySem.F.slot_list_pop PySem.F.type_list_pop sq (c4 hN hv hd hcd) (dO bB f6 hst) hbase hfew hline hst hplain) hs hf pins s σ H _ I ?_;obtain⟨xs,hx,h⟩:=h;obtain⟨p,vs,h1,h2,h3,h4,h5⟩:=rp.ov i xs hx;refine⟨.ref p,h1,.inl ⟨rfl,vs,fw.of h2⟩,?_⟩;refine aA (he B σ F H env _ rp h) λw H1 hq0=>?_;obtain⟨F1,d,r1,s1,d1,k,x',e1,hk,hk2,q1⟩:=hq0
 subst e1;simp only [Den] at d1;subst d1;obtain⟨p',vs',g1,g2,g3,g4,g5⟩:=r1.ov i xs hx;rw [h1] at g1;cases g1;obtain⟨u,hu,du⟩:=g5.get hk;have hl:=g5.length;have hkl:=(Iy.mp hk).1;have hix:seqIndex? (k:Int) vs'.length=some k:=(mX (n:=vs'.length) (i:=(k:Int)) (j:=k) (by unfold rZ;rw [if_pos (by omega),if_pos (by omega)];simp)).1;refine⟨p,vs',k,k,u,rfl,rfl,g2,by omega,by omega,hix,hu,F1,_,(r1.change hx h1 (g5.eraseIdx k)).set du ?_,q1⟩
 rw [I.len];exact (Iy.mp hj).1
theorem xi {a:Expr} {ta:TA} {p:Pos} (hg:Gl X "range") (hm:X.mg "range" = none) (ha:PA X [a] ta) (hs:starEach [a] X.env=[(false,eval a X.env)]:=by rfl) :
  PE X (.Call (.Name "range" p) [a] [] pos) (λσ H Q=>ta σ H λvs H1=>∃n:Int,vs=[.int n]/\∀r,H1 r=none->Q (.ref r) (upd H1 r (.rng 0 n))):=by
 intro pins s σ H Q I h;refine Call_ (jB I hg hm boot_range (PyProof.Rows.callWith_type1 (bQ (ha pos pins s σ H _ I h) λus s1 ⟨vs,H1,I1,r1,q1⟩=>?_) hs rfl));obtain⟨n,rfl,q⟩:=q1;obtain⟨u,rfl,ru⟩:=r1.one;obtain⟨t,rfl⟩:=ru;refine call_range_1 ⟨.ref s1.heap.objs.size,_,I1.laid (λb o e=>IC _ e) (II _) (show bC X.prog X.w _ _ _ (.rng 0 n) from ⟨_,_,_,IS _ rfl⟩),rfl,q _ (I1.hok.fresh (II _))⟩
theorem iL {n:Nat} {acc:Array Value} (h:ItemsOf (λi v=>∃t,v=.int ((0:Int) + i * 1) t) acc n):Vals ((List.range n).map λ(i:Nat)=>V.int (i:Int)) acc.toList:=by
 have hl:acc.toList.length=n:=by simpa using h.1
 have go:∀(l:List Value) (k:Nat),(∀(j:Nat) (v:Value),l[j]?=some v->∃t,v=.int ((k + j:Nat):Int) t)->Vals ((List.range' k l.length).map λ(i:Nat)=>V.int (i:Int)) l:=by
  intro l
  induction l with
  | nil=>intro k _;exact .nil
  | cons v r ih =>
   intro k hk;obtain⟨t,e⟩:=hk 0 v rfl;refine .cons ⟨t,by simpa using e⟩ (ih (k + 1) λj w hw=>?_);obtain⟨t',e'⟩:=hk (j + 1) w (by simpa using hw);exact⟨t',by rw [e'];congr 1;omega⟩
 have:=go acc.toList 0 λj v hv=>by
  obtain⟨t,e⟩:=h.2 j v (by simpa using hv);exact⟨t,by rw [e];congr 1;omega⟩
 rw [hl,<- List.range_eq_range'] at this;exact this
theorem vA (hc:X.calm=true):eQ X (.type "list") (λxs H Q=>∃r n,xs=[.ref r]/\H r=some (.rng 0 n)/\(-(2 ^ 62)<=n/\n<=16777216)/\∀l,H l=none->Q (.ref l) (upd H l (.lst ((List.range n.toNat).map λ(i:Nat)=>V.int (i:Int))))):=by
 intro pins s σ H xs us Q I r h;obtain⟨a,n,rfl,hr,⟨n1,n2⟩,q⟩:=h;obtain⟨u,rfl,rx⟩:=vals1 r;cases rx;obtain⟨t,u,v,e⟩:=(show bC X.prog X.w H s.heap a (.rng 0 n) from I.hok a _ hr);have hsz:Builtin.Range.rangeSize 0 n 1=(n.toNat:Int):=by rw [rangeSize_one];split <;> omega
 refine call_list_range (I.ok.hd hc) e (small_one (by decide) (by decide) n1 (by omega)) hsz (by omega) λh' tk acc c kp e' it=>?_;refine⟨.ref s.heap.objs.size,_,I.laid (t':=tk) kp (II _) (show bC X.prog X.w _ h' _ (.lst ((List.range n.toNat).map λ(i:Nat)=>V.int (i:Int))) from ⟨by simp [IX];omega,acc.toList,c,iL it,by simpa using e'⟩),rfl,q _ (I.hok.fresh (II _))⟩
def qH (ts:d7):d7:=λenv Q=>ts env λds=>∃n:Int,ds=[.int n]/\(-(2 ^ 62)<=n/\n<=16777216)/\Q (aU 0 n.toNat)
theorem vc {K:IB} {F:Hp} (n:Nat):ao K F (aU 0 n) ((List.range n).map λ(i:Nat)=>V.int (i:Int)):=by
 have e:aU 0 n=((List.range n).map λ(i:Nat)=>(i:Int)).map D.int:=by unfold aU;rw [List.map_map];congr 1;funext i;simp
 have e2:((List.range n).map λ(i:Nat)=>V.int (i:Int))=((List.range n).map λ(i:Nat)=>(i:Int)).map V.int:=by rw [List.map_map];rfl
 rw [e,e2];exact pL _
theorem zt {a:Expr} {p p2 pos2:Pos} (hm:X.mg "list" = none) (hm2:X.mg "range" = none) (ha:QA X [a] ts) (hc:X.calm=true:=by rfl) (hg:Gl X "list":=by rfl) (hg2:Gl X "range":=by rfl) (hs:starEach [a] X.env=[(false,eval a X.env)]:=by rfl)
  (he:starEach [.Call (.Name "range" p2) [a] [] pos2] X.env=(false,eval (.Call (.Name "range" p2) [a] [] pos2) X.env) :: starEach [] X.env:=by exact aV rfl) (hpl:(backTo pos (starEach ([]:List Expr) X.env)).any (·.1)=false:=by rfl) :
  QF X (.Call (.Name "list" p) [.Call (.Name "range" p2) [a] [] pos2] [] pos) (qH ts):=by
 refine⟨λB σ F H env Q rp h=>cj (kW (vA hc) hg hm oG (dO (xi hg2 hm2 ji hs) f6 he) (by decide) (by decide) he hpl) ?_⟩;refine cH (ha B σ F H env _ rp h) λvs H1 hq0=>?_;obtain⟨F1,ds,r1,s1,d1,n,e1,hn,q1⟩:=hq0;subst e1;simp only [ao,Den] at d1;obtain⟨v,r,rfl,rfl,rfl⟩:=d1;refine⟨n,rfl,λr hr=>?_⟩;obtain⟨r2,s2⟩:=r1.laid (o:=.rng 0 n) hr;exact⟨r,n,rfl,au,hn,λw hw=>⟨_,_,w,_,_,rfl,hw,rfl,r2,s1.trans s2,vc _,q1⟩⟩
end
section
variable {X:Cx} {N':List Str} {ix:List Nat} {scope:Scope} {elt a:Expr} {ifs:List Expr} {x:Str} {px py pos spos p pos2:Pos} {tt:TB} {te:TD} {ts:d7}
theorem mR {y:Str} (i:Nat) (hNd:X.N.Nodup) (hc:X.calm=true) (O:c5 X N' 1 ix scope) (hN:N'.Nodup) (h0:N'[0]?=some x) (hx:(relabel scope X.env).names.lookup x=some .local) (hgl:Gl X "range") (hm:X.mg "range" = none) (ha:QA X [a] ts)
  (ht:∀C s H fp pins,vn (bU X N' scope C s H fp pins) ifs tt) (he:∀C s H fp pins,QE (bU X N' scope C s H fp pins) elt te) (hy:X.N[i]?=some y:=by rfl) (hl:Loc X.env.scope y:=by first|exact Or.inl rfl|exact Or.inr rfl)
  (hsw:swapsWith (.ListComp elt [⟨.Name x px,.Call (.Name "range" p) [a] [] pos2,ifs,0⟩] scope pos) (some (.Name y py)) spos.line X.env=pure true:=by rfl) (hf:X.fn y=true\/X.env.scope.names.lookup y=some .local:=by first | exact .inl rfl | exact .inr rfl)
  (hst:starEach [a] X.env=[(false,eval a X.env)]:=by rfl) (hs:∀x,Jt (.Call (.Name "range" p) [a] [] pos2) X.env x=pure x:=by intro _;rfl) :
  QS X (.Assign [.Name y py] (.ListComp elt [⟨.Name x px,.Call (.Name "range" p) [a] [] pos2,ifs,0⟩] scope pos) spos) (bR i (fZ jA ix ts tt te)):=by
 refine⟨λB σ F H env D rp h pins s I=>?_⟩;refine vj hc (kT hgl hm ji hst) O hNd hy hl hsw hf hs pins s σ H _ I ?_;refine cH (ha B σ F H env _ rp h) λvs H1 hq0=>?_;obtain⟨F1,ds,r1,s1,d1,q1⟩:=hq0
 (try dsimp only at q1);unfold jA at q1
 split at q1
 ·simp only [ao,Den] at d1;obtain⟨v,r,rfl,rfl,rfl⟩:=d1;refine⟨_,rfl,q1.1.1,q1.1.2,?_⟩;intro a' C s fp pins ha';obtain⟨W,w0,step⟩:=lX (X:=X) (px:=px) hN h0 hx ht he s1 r1 mB q1.2 a' C s fp pins ha';refine⟨W,w0,λi' m σ' H' w=>?_⟩;rcases step i' m σ' H' w with ⟨st,z⟩|z
  ·refine .inl ⟨st,?_⟩;obtain⟨F',H2,p,vs,ds,e1,hp,e2,r',s',hd,q'⟩:=z;cases e1;subst e2;refine⟨F',_,r'.yk hp hd ?_,q'⟩;rw [I.len];exact (Iy.mp hy).1
  ·exact .inr z
 ·exact q1.elim
end
section
variable {X:Cx} {o e:Expr} {to te:TD} {apos cpos:Pos}
theorem xT {X:Cx} {pins:List (Addr×Obj)} {σ:St} {H F:Hp} {s:Shared} (I:Inv X pins σ H s) (fh:ak F H) {ds:List D} {vs:List V} {us:List Value} {d:D} {x:V} {v:Value} (A:Around) (hu:A.units + 62 < cLine) (hds:b8 ds<=60) (hd:dep d<=60) (dl:ao X.K F ds vs) (rv:Vals vs us) (dx:Den X.K F d x) (rx:RelV x v) :
  ∀u∈us,SeqAt.EqAt A s u v (ja us ds d u):=by
 intro u hu';obtain⟨j,hj,e⟩:=List.getElem_of_mem hu';have h2:us[j]?=some u:=by rw [<- e];simp [hj]
 have l1:=dl.length;have l2:=rv.length;have h1:ds[j]?=some (ds[j]'(by omega)):=IE _;rw [mV I fh (by omega) dl rv h1 h2];obtain⟨w,g1,g2⟩:=dl.get h1;obtain⟨u',g3,g4⟩:=rv.get g1;rw [h2] at g3;cases g3
 have dle:dep (ds[j]'(by omega))<=60:=by
  have go:∀(l:List D) (n:Nat),b8 l<=n->∀y∈l,dep y<=n:=by
   intro l
   induction l with
   | nil=>intro n _ y hy;cases hy
   | cons z r ih =>
    intro n hn y hy;simp only [b8] at hn;rcases IZ.mp hy with rfl|hy
    ·omega
    ·exact ih n (by omega) y hy
  exact go ds 60 hds _ (JK _)
 exact nY I fh _ d A _ x u v (by omega) (by omega) (by omega) g2 dx g4 rx
end
section
variable {X:Cx} {a b e:Expr} {ta te:TD} {pos p2:Pos}
abbrev Gq:=En->(D->En->Prop)->Prop
def Ig (X:Cx) (B:Base) (σ:St) (F:Hp) (Q:D->En->Prop):VK:=λv H'=>∃F' d env',Rep X.K B F' H' σ env'/\ak F F'/\Den X.K F' d v/\Q d env'
structure EK (X:Cx) (e:Expr) (t:Gq):Prop where
 of ::
 run:∀(B:Base) (σ:St) (F H:Hp) (env:En) (Q:D->En->Prop),Rep X.K B F H σ env->t env Q->wE X e σ H (Ig X B σ F Q)
def FA (t:TD):Gq:=λenv Q=>t env λd=>Q d env
theorem EK.up {t:TD} (h:QE X e t):EK X e (FA t):=⟨λB σ F H env Q rp q=>aA (h B σ F H env _ rp q) λv H' ⟨F',d,r,s,dv,q'⟩=>⟨F',d,env,r,s,dv,q'⟩⟩
end
end L2.L3
local macro_rules | `(tactic| simp_arith only [$ls,*] $[$loc]?) => `(tactic| ((try dsimp only [$(⟨ls.elemsAndSeps⟩),*, L2.L3.aG, L2.L3.gG, L2.L3.b9, L2.L3.bM, L2.L3.iw, L2.L3.bH, L2.L3.mP, L2.L3.kE, L2.L3.fG, L2.L3.bR, L2.L3.cW, L2.L3.cX, L2.L3.oY, L2.L3.ag, L2.L3.cC, L2.L3.aH, L2.L3.x9, L2.L3.aN, L2.L3.pb, L2.L3.mL, L2.L3.Ck, L2.L3.mr, L2.L3.aB, L2.L3.af, L2.L3.aw, L2.L3.cf, L2.L3.iy, L2.L3.fL, L2.L3.kd, L2.L3.B8, L2.L3.kJ, L2.L3.cL, L2.L3.aW, L2.L3.gV, L2.L3.mi, L2.L3.gU, L2.L3.eT, L2.L3.aE, Ji, List.map_nil, Jo, JF, List.cons_append, List.nil_append, Jf, Je, List.set_cons_zero, List.set_cons_succ, L2.L3.js, L2.L3.fZ, L2.L3.nQ, L2.L3.gF, L2.L3.i8, L2.L3.iK, L2.L3.eG, L2.L3.lG, L2.L3.l7, L2.L3.iH, L2.L3.l6, L2.L3.kZ, L2.L3.lZ, L2.L3.fE, L2.L3.gn, L2.L3.lR, L2.L3.jE, L2.L3.EH, L2.L3.uE, L2.L3.kN, L2.L3.xp, L2.L3.iT, L2.L3.cp, L2.L3.m3, L2.L3.iY, L2.L3.oF, L2.L3.qH, L2.L3.qg, L2.L3.FA] $[$loc]?); (try simp only [$ls,*, L2.L3.aG, L2.L3.gG, L2.L3.b9, L2.L3.bM, L2.L3.iw, L2.L3.bH, L2.L3.mP, L2.L3.kE, L2.L3.fG, L2.L3.bR, L2.L3.cW, L2.L3.cX, L2.L3.oY, L2.L3.ag, L2.L3.cC, L2.L3.aH, L2.L3.x9, L2.L3.aN, L2.L3.pb, L2.L3.mL, L2.L3.Ck, L2.L3.mr, L2.L3.aB, L2.L3.af, L2.L3.aw, L2.L3.cf, L2.L3.iy, L2.L3.fL, L2.L3.kd, L2.L3.B8, L2.L3.kJ, L2.L3.cL, L2.L3.aW, L2.L3.gV, L2.L3.oJ, L2.L3.oy, L2.L3.mi, L2.L3.gU, L2.L3.eT, L2.L3.aE, Ji, List.map_nil, Jo, JF, List.cons_append, List.nil_append, Jw, Jf, Je, List.getElem?_nil, List.set_cons_zero, List.set_cons_succ, Option.some.injEq, L2.L3.Lo.d.injEq, L2.L3.Lo.own.injEq, L2.L3.D.bl.injEq, L2.L3.D.int.injEq, exists_eq_left', exists_eq_left, Nat.reduceAdd, Nat.reduceSub, Nat.sub_self, Nat.add_one_sub_one, List.replicate_succ, List.replicate_zero, L2.L3.D.tup.injEq, List.cons.injEq, and_assoc, L2.L3.js, L2.L3.fZ, L2.L3.nQ, L2.L3.gF, L2.L3.i8, L2.L3.iK, L2.L3.eG, L2.L3.lG, L2.L3.l4, L2.L3.oA, L2.L3.vJ, L2.L3.vg, L2.L3.uW, L2.L3.l7, L2.L3.iH, L2.L3.l6, L2.L3.qM, L2.L3.rB, L2.L3.kZ, L2.L3.lZ, L2.L3.fE, L2.L3.gn, L2.L3.nD, L2.L3.nM, L2.L3.zV, L2.L3.vG, L2.L3.uU, decide_eq_true_eq, true_and, and_true, if_true, if_false, IF, Bool.not_eq_true', decide_eq_false_iff_not, IX, Int.reduceToNat, Int.reducePow, Int.reduceMul, Int.reduceAdd, Int.reduceNeg, Int.reduceSub, Int.reduceLT, Int.reduceLE, Int.reduceEq, Nat.reduceEqDiff, decide_true, decide_false, Nat.reduceLeDiff, Nat.reduceLT, Bool.true_eq_false, Bool.not_true, Bool.not_false, Bool.not_not, L2.L3.lR, L2.L3.jE, L2.L3.EH, L2.L3.uE, L2.L3.kN, L2.L3.xp, L2.L3.iT, L2.L3.pJ, L2.L3.p6, L2.L3.D.lst.injEq, L2.L3.cp, L2.L3.m3, L2.L3.iY, L2.L3.oF, L2.L3.qH, L2.L3.qg, L2.L3.AF, L2.L3.FA] $[$loc]?)))
namespace L2.L3
open PySem PySem.Spec PyProof.Rows
def XY (X:Cx) (B:Base) (xc:Str->Prop):Value->Shared->Prop:=λe s'=>wpAny (model X.prog X.w) X.A (noteFrame e X.env) (λ_ s2=>wpAny (model X.prog X.w) X.A (setFlight e none) (λ_ s3=>XZ X B xc e s3) (λ_ _=>False) s2) (λ_ _=>False) s'
theorem XZ.Ir {X:Cx} {B:Base} {xc:Str->Prop} {e:Value} {s':Shared} (hst:X.stack=X.env :: X.outer) (hf:X.env.frame=some X.env.locals) (h:XZ X B xc e s'):XY X B xc e s':=by
 obtain⟨pins,a,c,C,σ',H',F',env',rfl,th,r,hm,hx⟩:=h;exact th.note hst hf λs'' t''=>⟨pins,a,c,C,σ',H',F',env',rfl,t'',r,hm,hx⟩
structure QY (X:Cx) (st:Stmt) (t:ui):Prop where
 of ::
 run:∀(B:Base) (σ:St) (F H:Hp) (env:En) (D:t6),Rep X.K B F H σ env->t D env->wS (X.cm (XY X B D.xc)) st (RS X B D.toEnds3) σ H
structure EN (X:Cx) (st:List Stmt) (t:ui):Prop where
 of ::
 run:∀(B:Base) (σ:St) (F H:Hp) (env:En) (D:t6),Rep X.K B F H σ env->t D env->wSs (X.cm (XY X B D.xc)) st (RS X B D.toEnds3) σ H
section
variable {X:Cx} {c e:Expr} {es:List Expr} {st:Stmt} {sts xs ys body:List Stmt} {p q:ui} {tc:TB} {pos:Pos}
theorem jn (h:QZ X st p) (hst:X.stack=X.env :: X.outer:=by rfl) (hf:X.env.frame=some X.env.locals:=by rfl):QY X st p:=⟨λB σ F H env D rp hq pins s I =>
 Jh (h.run B σ F H env D rp hq pins s (I.bo.cm _)) (λ_ _ q=>SP.vk q) λ_ _ z=>XZ.Ir hst hf z⟩
theorem wo (h:QY X st p):EN X [st] p:=⟨λB σ F H env D rp hq=>kU (qW zY) (h.run B σ F H env D rp hq)⟩
theorem dW (h1:QY X st p) (h2:EN X sts q):EN X (st :: sts) (kN p q):=by
 refine⟨λB σ F H env D rp h=>kU (sk zY dI) ?_⟩;exact wV (h1.run B σ F H env { D with nx:=q D } rp h) (λσ' H' ⟨F',env',rp',q⟩=>h2.run B σ' F' H' env' D rp' q) (λ_ _ q=>q) (λ_ _ q=>q) (λ_ _ q=>q)
def vR (c:TB) (tb:ui):ui:=λD env=>∃(I:En->Prop) (μ:En->Nat),I env/\∀env,I env->c env λk=>if k=true then tb { D with nx:=λe'=>I e'/\μ e' < μ env,ct:=λe'=>I e'/\μ e' < μ env,bk:=D.nx } env else D.nx env
theorem zA (hc:QT X.pE c tc) (hb:EN X body p):QY X (.While c body [] pos) (vR tc p):=by
 refine⟨λB σ F H env D rp h=>?_⟩;obtain⟨I,μ,i0,turn⟩:=h;refine df (t9 (X:=X.cm (XY X B D.xc)) PassesOwn.looking rK dI) ?_;refine⟨λm σ H=>∃F env,Rep X.K B F H σ env/\I env/\μ env=m,⟨_,F,env,rp,i0,rfl⟩,?_⟩
 rintro m σ1 H1 ⟨F1,env1,r1,i1,rfl⟩;refine gJ (Ac (hc B σ1 F1 H1 env1 _ r1 (turn env1 i1))) λk H2 ⟨F2,r2,s2,q2⟩=>?_
 cases k with
 | false=>exact⟨F2,env1,r2,q2⟩
 | true =>
  refine⟨λσ' H'=>∃F' env',Rep X.K B F' H' σ' env'/\I env'/\μ env' < μ env1,λσ' H' ⟨F',env',r',i',l⟩=>⟨_,l,F',env',r',i',rfl⟩,?_⟩;exact hb.run B σ1 F2 H2 env1 _ r2 q2
end
section
variable {P:Program} {w:World} {K:IB} {mg:Str->Option Value} {base:Heap}
theorem XY.leave {N:List Str} {qual:Str} {scope:Scope} {f:Addr} {cd:Value} {A:Around} {outer:List Env} {s0:Shared} {H0:Hp} {E:XK} {B:Base} {xc:Str->Prop} {e:Value} {s':Shared}
  (t:XY (jc (B5 P w) P w K mg base N qual scope f cd A outer s0 H0 E) B xc e s') (q:∀(c:Str) (C:Value) (σ':St) (H' F':Hp) (env':En),Rep K B F' H' σ' env'->mg c=some C->xc c->E C none H') :
  (jc (B5 P w) P w K mg base N qual scope f cd A outer s0 H0 E).xe e s':=by
 show wpAny (model P w) _ (leaving _ e) _ _ s'
 unfold leaving;refine Iw (Jh t (λ_ s2 z=>Jh z (λ_ s3 y=>?_) λ_ _ y=>y.elim) λ_ _ y=>y.elim);obtain⟨pins,a,c,C,σ',H',F',env',rfl,t'',r,hm,hx⟩:=y;have I:=t''.inv;obtain⟨Hc,sc,Ic,os,bare,un,hok,fl⟩:=t'';refine⟨a,C,none,H',rfl,I.os,I.bare,I.base,I.hok,fl.Cv λb o e=>?_,q c C σ' H' F' env' r hm hx⟩;exact Ic.base.there b o e (by show b∉([]:List Addr);simp)
theorem rD.uY {x qual:Str} {st:Stmt} {fa:Addr} {fd:FuncData} {N ps:List Str} {k:Nat} {f:x8} (F:rD K x qual st fa fd) (S:aK N ps (ar st)) (hmg:mg x=some (.ref fa)) (hb:Binds K fd ps [])
  (hl:∀ds Q R,f ds Q R->ds.length=ps.length)
  (hbody:∀(cdv:Value) (A:Around) (outer:List Env) (s:Shared) (H:Hp) (E:XK),cQ k (A.deeper (envOfC qual (ar st) s.heap.objs.size fa cdv)) ->
   ∃t,EN (jc (B5 P w) P w K mg base N qual (ar st) fa cdv A outer s H E) (bT st) t/\∀ds (Q:D->Prop) (R:Str->Prop),f ds Q R->t { nx:=λ_=>Q .non,rt:=Q,xc:=R } (aE N ds)) :
  gA P w K mg base (k + 1) x f:=by
 refine⟨fa,fd,ps,?_,hmg,F.kp,hb⟩;obtain⟨oc,od,kV,doc,pm,an,cdv,ct,osl,rfl,lk,hcd⟩:=F.ex;refine Ag lk hcd S (λvs H Q E h=>?_) λA outer s H vs Q E hr h=>?_
 ·obtain⟨F0,ds,P,R,_,hd,hf,_⟩:=h;rw [<- hd.length];exact hl ds _ _ hf
 ·obtain⟨F0,ds,P',R,fh,hd,hf,kk,kx⟩:=h;obtain⟨t,ht,hq⟩:=hbody cdv A outer s H E hr;refine⟨_,dI,?_⟩;have core:=ht.run _ (start N vs) F0 H (aE N ds) _ (gr fh hd) (hq ds P' R hf);intro pins s1 I;refine Jh (core pins s1 (I.cm _)) (λfl s2 z=>?_) λex s2 z=>?_
  ·refine mY (SP.bo z) (λσ' H' ⟨F',env',r,q⟩=>?_) (λv H' ⟨F',d',r,dd,q⟩=>?_) (λ_ _ ⟨_,_,_,q⟩=>q) (λ_ _ ⟨_,_,_,q⟩=>q)
   ·exact kk .non .non F' H' r.f0 r.h0 r.fh (λp h1 h2=>r.nf p ⟨h1,h2⟩) mW q
   ·exact kk d' v F' H' r.f0 r.h0 r.fh (λp h1 h2=>r.nf p ⟨h1,h2⟩) dd q
  ·exact XY.leave z λc C σ' H' F' env' r hm hx=>kx c C F' H' r.f0 r.h0 r.fh (λp h1 h2=>r.nf p ⟨h1,h2⟩) hm hx
end
section
variable {X:Cx} {a b c e:Expr} {ta tb te:TD} {pos:Pos} {st:Stmt} {t:bG}
def uq (i:Nat) (te:TD):bG:=λZ env=>∃xs,env[i]?=some (some (.own xs))/\te env λy=>∃(k:Nat),y=.int k/\k < xs.length/\k < 2 ^ 62/\Z.nx (env.set i (some (.own (xs.eraseIdx k))))
theorem BJ {x:Str} {px apos cpos:Pos} (i:Nat) (he:QE X e te) (hN:X.N[i]?=some x:=by rfl) (hv:rY X.env.scope x:=by first | exact Or.inl rfl | exact Or.inr (Or.inl rfl) | exact Or.inr (Or.inr rfl)) (hd:(x == ("__debug__" : Str))=false:=by decide) (hcd:(x == ("__classdict__" : Str))=false:=by decide)
  (hbase:attributeBase (.Name x px) "pop" X.env (eval (.Name x px) X.env)=eval (.Name x px) X.env:=by rfl)
  (hfew:((backTo cpos (starEach [e] X.env)).all (λx=>!x.1) && (backToKw cpos (keywordEach [] X.env)).all (λx=>x.1.isSome)
   && decide (([e]:List Expr).length + ([]:List Keyword).length + (if ([]:List Keyword).isEmpty then 0 else 1) < 30))=true:=by rfl)
  (hline:(apos.endLine == cpos.line)=true:=by rfl) (hst:starEach [e] X.env=(false,eval e X.env) :: starEach [] X.env:=by exact aV rfl) (hplain:(backTo cpos (starEach ([]:List Expr) X.env)).any (·.1)=false:=by rfl)
  (hs:swapsWith (.Call (.Attribute (.Name x px) "pop" apos) [e] [] cpos) none pos.line X.env=pure false:=by rfl) :
  QS X (.Expr (.Call (.Attribute (.Name x px) "pop" apos) [e] [] cpos) pos) (uq i te):=by
 refine⟨λB σ F H env D rp h=>df (rM (sI PySem.F.plainAttrs_list PySem.F.slot_list_pop PySem.F.type_list_pop sq (c4 hN hv hd hcd) (dO bB f6 hst) hbase hfew hline hst hplain) hs) ?_⟩;obtain⟨xs,hx,h⟩:=h;obtain⟨p,vs,h1,h2,h3,h4,h5⟩:=rp.ov i xs hx;refine⟨.ref p,h1,.inl ⟨rfl,vs,fw.of h2⟩,?_⟩;refine aA (he B σ F H env _ rp h) λw H1 hq0=>?_;obtain⟨F1,d,r1,s1,d1,k,e1,hk,hk2,q1⟩:=hq0;subst e1;simp only [Den] at d1
 subst d1;obtain⟨p',vs',g1,g2,g3,g4,g5⟩:=r1.ov i xs hx;rw [h1] at g1;cases g1;have hl:=g5.length;obtain⟨u,hu,du⟩:=g5.get (IE hk);have hix:seqIndex? (k:Int) vs'.length=some k:=(mX (n:=vs'.length) (i:=(k:Int)) (j:=k) (by unfold rZ;rw [if_pos (by omega),if_pos (by omega)];simp)).1;exact⟨p,vs',k,k,u,rfl,rfl,g2,by omega,by omega,hix,hu,F1,_,r1.change hx h1 (g5.eraseIdx k),q1⟩
end
section
variable {prog:Program} {w:World} {A:Around} {E:Value->Shared->Prop} {s:Shared}
def iP (prog:Program) (w:World) (A:Around) (s:Shared) (v:Value):Prop:=∀(E:Value->Shared->Prop) (Q:Bool->Shared->Prop),Q true s->wpAny (model prog w) A (eqIsQuiet 8 v) Q E s
def eU (prog:Program) (w:World) (A:Around) (s:Shared) (v:Value) (h:Int) (n:Nat):Prop:=∀(E:Value->Shared->Prop) (Q:Int->Shared->Prop),Q h { s with toks:=s.toks + n }->wpAny (model prog w) A (PySem.pyHash v) Q E s
theorem tL {key:Value} {stored:List Value} {Q:Bool->Shared->Prop} (hkey:iP prog w A s key)
  (hst:∀v∈stored,iP prog w A s v) (h:Q false s):wpAny (model prog w) A (tableMayTell key stored) Q E s:=by
 unfold tableMayTell
 split
 ·exact ID h
 ·refine Iw (hkey _ _ ?_);simp only [Bool.not_true,IF,if_false];refine Iw ?_;refine wpAny_forIn_list _ (λrest r s'=>s'=s/\r=(none,())/\∀v∈rest,iP prog w A s v) _ ?_ ?_ _ _ ⟨rfl,rfl,hst⟩
  ·rintro x rest r s' ⟨rfl,rfl,hr⟩;refine Iw (hr x Jb _ _ ?_);simp only [Bool.not_true,IF,if_false];exact ID ⟨rfl,rfl,λv hv=>hr v (IT _ hv)⟩
  ·rintro r s' ⟨rfl,rfl,_⟩;exact ID h
structure gB (prog:Program) (w:World) (A:Around) (s:Shared) (es:Array DictEntry) (key:Value) (h:Int) (m:Nat->Bool):Prop where
 eq:∀(j:Nat) (hj:j < es.size),SeqAt.EqAt A s es[j].key key (m j)
 mh:∀(j:Nat) (hj:j < es.size),m j=true->es[j].hash=h
 mu:∀(i j:Nat),i < es.size->j < es.size->m i=true->m j=true->i=j
 same:∀(j:Nat) (hj:j < es.size),es[j].key=key->es[j].hash=h
 qk:iP prog w A s key
 qs:∀(j:Nat) (hj:j < es.size),iP prog w A s es[j].key
 ns:(∃i t,key=.int i t)\/(∃a,key=.ref a)\/key=.none
theorem xt {M:Model} {A:Around} {E:Value->Shared->Prop} {s:Shared} {α β:Type} {c:Prop} [Decidable c] {t1 t2:Sem β} {k:β->Sem α} {v:β} {Q:α->Shared->Prop} (h1:∀{R:β->Shared->Prop},R v s->wpAny M A t1 R E s) (h2:∀{R:β->Shared->Prop},R v s->wpAny M A t2 R E s)
  (h:wpAny M A (k v) Q E s):wpAny M A (if c then t1 >>= k else t2 >>= k) Q E s:=by
 split
 ·exact Iw (h1 h)
 ·exact Iw (h2 h)
theorem lJ {d:Addr} {o:Obj} {es:Array DictEntry} {ep} {key:Value} {h:Int} {m:Nat->Bool} {Q:Option Nat->Shared->Prop} (f:gB prog w A s es key h m)
  (ho:s.heap.get? d=some o) (hd:o.data=.dict es ep)
  (hnone:(∀j,j < es.size->m j=false)->Q none s) (hsome:∀j,j < es.size->m j=true->Q (some j) s) :
  wpAny (model prog w) A (dictFind d key h) Q E s:=by
 have hask:∀(j:Nat),j < es.size->m j=true->((es[j]?.map (·.hash)) == some h)=true:=by
  intro j hj hm;rw [Array.getElem?_eq_getElem hj,Option.map_some,f.mh j hj hm];simp
 have hst:∀v∈(placesWithHash es.size (λi=>es[i]?.map (·.hash)) h).filterMap (λi=>es[i]?.map (·.key)),iP prog w A s v:=by
  intro v hv;obtain⟨i,_,hi⟩:=List.mem_filterMap.mp hv
  cases hei:es[i]? with
  | none=>rw [hei] at hi;cases hi
  | some e =>
   rw [hei] at hi;obtain rfl:e.key=v:=by simpa using hi
   obtain⟨hl,rfl⟩:=JC.mp hei;exact f.qs i hl
 have hany:¬ (es.any λe=>e.key == key && e.hash != h)=true:=by
  rw [<- Array.any_toList,List.any_eq_true]
  rintro⟨e,hin,hc⟩;obtain⟨i,hi,rfl⟩:=Array.mem_iff_getElem.mp (Array.mem_toList_iff.mp hin);simp only [Bool.and_eq_true,beq_iff_eq,bne_iff_ne,ne_eq] at hc;exact hc.2 (f.same i hi hc.1)
 have plain:wpAny (model prog w) A (dictWalkPlain d key h es (placesWithHash es.size (λi=>es[i]?.map (·.hash)) h)) Q E s:=by
  refine Iw ?_
  refine wpAny_forIn_list _
   (λrest b s'=>s'=s/\b=(none,())/\∃i,rest=(List.range' i (es.size - i)).filter (λi=>(es[i]?.map (·.hash)) == some h)/\i<=es.size /\
    ∀j,j < i->m j=false) _ ?_ ?_ _ _
   ⟨rfl,rfl,0,by rw [placesWithHash,List.range_eq_range',Nat.sub_zero],Ju _,λ_ h=>absurd h (JA _)⟩
  ·rintro x rest b s' ⟨rfl,rfl,i,hr,hi,hno⟩;obtain⟨hix,hxn,hpx,hskip,hrest⟩:=filter_range'_cons _ _ _ _ _ hr.symm;have hlt:x < es.size:=by omega
   have before:∀j,j < x->m j=false:=λj hjx=>by
    rcases JG j i with c|c
    ·exact hno j c
    ·cases hmj:m j with
     | false=>rfl
     | true=>have q:=hskip j c hjx;rw [hask j (by omega) hmj] at q;cases q
   have hnext:m x=false->∃i,rest=(List.range' i (es.size - i)).filter (λi=>(es[i]?.map (·.hash)) == some h)/\i<=es.size/\∀j,j < i->m j=false:=λhne =>
    ⟨x + 1,by rw [hrest];congr 2;omega,hlt,λj hji=>by
     rcases JG j x with c|c
     ·exact before j c
     ·have:j=x:=by omega
      subst this;exact hne⟩
   simp only [Array.getElem?_eq_getElem hlt]
   by_cases hh:(es[x].hash == h)=true
   ·rw [if_pos hh];refine Iw (wpAny_dictEpoch ho hd (Iw (f.eq x hlt prog w _ _ (Iw (wpAny_dictEpoch ho hd ?_)))));show wpAny _ _ (if (ep != ep)=true then _ else _) _ E _
    rw [if_neg (by simp)]
    cases hm:m x with
    | true=>exact Iw (wpAny_rule (ID (ID (hsome x hlt hm))))
    | false=>exact Iw (wpAny_rule (ID ⟨rfl,rfl,hnext hm⟩))
   ·rw [if_neg hh];refine ID ⟨rfl,rfl,hnext ?_⟩
    cases hm:m x with
    | false=>rfl
    | true=>exact absurd (beq_iff_eq.mpr (f.mh x hlt hm)) hh
  ·rintro b s' ⟨rfl,rfl,i,hr,hi,hno⟩;refine ID (hnone λj hj=>?_);rcases JG j i with c|c
   ·exact hno j c
   ·have:=List.filter_eq_nil_iff.mp hr.symm j (List.mem_range'_1.mpr ⟨c,by omega⟩)
    cases hmj:m j with
    | false=>rfl
    | true=>rw [hask j hj hmj] at this;exact absurd rfl this
 have ns:=f.ns;unfold dictFind
 try with_reducible refine wpAny_holding ?_
 refine Iw (wpAny_dictEntries ho hd ?_)
 extract_lets places stored hit jp2 jp1 jp0
 have h1:wpAny (model prog w) A (jp1 ()) Q E s:=by
  refine xt (v:=false) (λq=>ID q) (λq=>tL f.qk hst q) ?_;dsimp only [jp2,stored,places,hit]
  (
   rw [if_neg (by simp)];refine Iw ?_
   refine wpAny_forIn_list _
    (λrest b s'=>s'=s/\∃i hit,b=(none,hit)/\rest=(List.range' i (es.size - i)).filter (λi=>(es[i]?.map (·.hash)) == some h)/\i<=es.size /\
     ((hit=none/\∀j,j < i->m j=false)\/∃j,hit=some j/\j < i/\m j=true)) _ ?_ ?_ _ _
    ⟨rfl,0,none,rfl,by rw [placesWithHash,List.range_eq_range',Nat.sub_zero],Ju _,.inl ⟨rfl,λ_ h=>absurd h (JA _)⟩⟩
   ·rintro x rest b s' ⟨rfl,i,hit,rfl,hr,hi,hH⟩;obtain⟨hix,hxn,hpx,hskip,hrest⟩:=filter_range'_cons _ _ _ _ _ hr.symm;have hlt:x < es.size:=by omega
    have hrest':rest=(List.range' (x + 1) (es.size - (x + 1))).filter (λi=>(es[i]?.map (·.hash)) == some h):=by rw [hrest];congr 2;omega
    have hHx:(hit=none/\∀j,j < x->m j=false)\/∃j,hit=some j/\j < x/\m j=true:=by
     rcases hH with ⟨h0,hno⟩|⟨j,h1,hji,hj⟩
     ·refine .inl ⟨h0,λj hjx=>?_⟩;rcases JG j i with c|c
      ·exact hno j c
      ·cases hmj:m j with
       | false=>rfl
       | true=>have q:=hskip j c hjx;rw [hask j (by omega) hmj] at q;cases q
     ·exact .inr ⟨j,h1,by omega,hj⟩
    have hstay:m x=false->((hit=none/\∀j,j < x + 1->m j=false)\/∃j,hit=some j/\j < x + 1/\m j=true):=by
     intro hne;rcases hHx with ⟨h0,hno⟩|⟨j,h1,hjx,hj⟩
     ·refine .inl ⟨h0,λj hjx=>?_⟩;rcases JG j x with c|c
      ·exact hno j c
      ·have:j=x:=by omega
       subst this;exact hne
     ·exact .inr ⟨j,h1,by omega,hj⟩
    rw [Array.getElem?_eq_getElem hlt];dsimp only
    by_cases hh:(es[x].hash == h)=true
    ·rw [if_pos hh];refine Iw (wpAny_dictEpoch ho hd (Iw (f.eq x hlt prog w _ _ (Iw (wpAny_dictEpoch ho hd ?_)))));show wpAny _ _ (if (ep != ep)=true then _ else _) _ E _
     rw [if_neg (by simp)]
     cases hm:m x with
     | true =>
      rcases hHx with ⟨rfl,_⟩|⟨j,_,hjx,hj⟩
      ·first|rw [if_pos rfl]|skip
       simp only [Option.isSome_none,IF,if_false]
       first|refine Iw (ID ?_)|skip
       refine Iw (wpAny_rule ?_)
       split
       ·exact ID (ID (hsome x hlt hm))
       ·exact ID ⟨rfl,x + 1,some x,rfl,hrest',hlt,.inr ⟨x,rfl,Nat.lt_succ_self x,hm⟩⟩
      ·exact absurd (f.mu j x (by omega) hlt hj hm) (by omega)
     | false =>
      simp only [IF,if_false];refine Iw (wpAny_rule ?_)
      first|rw [if_neg (by simp)]|skip
      first
       | exact ID ⟨rfl,x + 1,hit,rfl,hrest',hlt,hstay hm⟩
       | exact Iw (ID (ID ⟨rfl,x + 1,hit,rfl,hrest',hlt,hstay hm⟩))
    ·rw [if_neg hh];refine ID ⟨rfl,x + 1,hit,rfl,hrest',hlt,hstay ?_⟩
     cases hm:m x with
     | false=>rfl
     | true=>exact absurd (beq_iff_eq.mpr (f.mh x hlt hm)) hh
   ·rintro b s' ⟨rfl,i,hit,rfl,hr,hi,hH⟩;rcases hH with ⟨rfl,hno⟩|⟨j,rfl,hji,hj⟩
    ·refine ID (hnone λj hj=>?_);rcases JG j i with c|c
     ·exact hno j c
     ·have:=List.filter_eq_nil_iff.mp hr.symm j (List.mem_range'_1.mpr ⟨c,by omega⟩)
      cases hmj:m j with
      | false=>rfl
      | true=>rw [hask j hj hmj] at this;exact absurd rfl this
    ·exact ID (hsome j (by omega) hj))
 rcases ns with ⟨ki,kt,rfl⟩|⟨ka,rfl⟩|rfl
 ·exact wpAny_ite_split (λ_=>plain) λ_=>h1
 ·exact wpAny_ite_split (λ_=>plain) λ_=>wpAny_ite_split (λz=>absurd z hany) λ_=>h1
 ·exact wpAny_ite_split (λ_=>plain) λ_=>h1
theorem aZ.typeIs {d:Addr} {es:Array DictEntry} {ep:Nat} (x:aZ s.heap d es ep):s.TypeIs (.ref d) "dict":=let ⟨o,ho,hc,_⟩:=x;⟨o,ho,hc.1⟩
theorem aZ.new (h:Heap):aZ (h.push { cls:=.type "dict",data:=.dict #[] }) h.objs.size #[] 0:=⟨_,IS _ rfl,⟨rfl,rfl,rfl⟩,rfl⟩
theorem sv {d:Addr} {es:Array DictEntry} {ep:Nat} {key:Value} {h:Int} {n:Nat} {m:Nat->Bool} {Q:Option Value->Shared->Prop} (hh:eU prog w A s key h n) (f:gB prog w A { s with toks:=s.toks + n } es key h m) (x:aZ s.heap d es ep)
  (hnone:(∀j,j < es.size->m j=false)->Q none { s with toks:=s.toks + n }) (hsome:∀j (hj:j < es.size),m j=true->Q (some es[j].val) { s with toks:=s.toks + n }) :
  wpAny (model prog w) A (dictGet d key) Q E s:=by
 obtain⟨o,ho,_,hd⟩:=x;unfold dictGet
 try with_reducible refine wpAny_holding ?_
 refine Iw (hh _ _ (Iw (lJ (s:={ s with toks:=s.toks + n }) f ho hd ?_ ?_)))
 ·intro hno;exact ID (hnone hno)
 ·intro j hj hm;refine Iw (wpAny_dictEntries (s:={ s with toks:=s.toks + n }) ho hd ?_);rw [Array.getElem?_eq_getElem hj];exact ID (hsome j hj hm)
theorem ub {d:Addr} {es:Array DictEntry} {ep:Nat} {key v:Value} {h:Int} {n:Nat} {m:Nat->Bool} {Q:Unit->Shared->Prop} (hh:eU prog w A s key h n) (f:gB prog w A { s with toks:=s.toks + n } es key h m) (x:aZ s.heap d es ep) (hz:es.size<=sizeLine)
  (hnone:(∀j,j < es.size->m j=false)->∀h',aZ h' d (es.push ⟨h,key,v⟩) (ep + 1)->Heap.SameBut d s.heap h'->Q () { s with heap:=h',toks:=s.toks + n })
  (hsome:∀j (hj:j < es.size),m j=true->∀h',aZ h' d (es.modify j λe=>{ e with val:=v }) ep->Heap.SameBut d s.heap h'->Q () { s with heap:=h',toks:=s.toks + n }) :
  wpAny (model prog w) A (dictSet d key v) Q E s:=by
 obtain⟨o,ho,hc,hd⟩:=x;unfold dictSet
 try with_reducible refine wpAny_holding ?_
 refine Iw (hh _ _ ?_);unfold dictSetHashed
 try with_reducible refine wpAny_holding ?_
 refine Iw (lJ (s:={ s with toks:=s.toks + n }) f ho hd ?_ ?_)
 ·intro hno;exact Iw (wpAny_rule (wpAny_updateDictKeys (hz:=hz) (s:={ s with toks:=s.toks + n }) ho hd (hnone hno _ ⟨_,Heap.get?_update_self _ ho (Obj.isFreed_of_dict (Obj.data_mapDictKeys hd _)),hc.mapDictKeys _,Obj.data_mapDictKeys hd _⟩ (Heap.SameBut.update ..))))
 ·intro j hj hm;exact Iw (wpAny_rule (Iw (wpAny_updateDict (s:={ s with toks:=s.toks + n }) ho hd (wpAny_point (hsome j hj hm _ ⟨_,Heap.get?_update_self _ ho (Obj.isFreed_of_dict (Obj.data_mapDict hd _)),hc.mapDict _,Obj.data_mapDict hd _⟩ (Heap.SameBut.update ..))))))
theorem uu {d:Addr} {es:Array DictEntry} {ep:Nat} {key:Value} {h:Int} {n j:Nat} {m:Nat->Bool} {Q:Value->Shared->Prop} (hh:eU prog w A.in1 s key h n) (f:gB prog w A.in1 { s with toks:=s.toks + n } es key h m) (x:aZ s.heap d es ep)
  (hj:j < es.size) (hm:m j=true) (hq:Q es[j].val { s with toks:=s.toks + n }):wpAny (model prog w) A (getItem (.ref d) key) Q E s:=by
 unfold getItem
 try with_reducible refine wpAny_holding ?_
 refine Iw (wpAny_sequenceKey x.typeIs (by decide) ?_)
 refine Iw (Jq (name:=Str.ofString "__getitem__") x.typeIs slot_dict_getitem
  (wpAny_call_entry slot_dict_getitem x.typeIs entry_dict_getitem ?_ (args_dict_getitem _ _)))
 show wpAny _ _ (dictGet d key >>= _) _ _ s
 refine Iw (sv hh f x (λhno=>by rw [hno j hj] at hm;cases hm) λi hi hmi=>?_);have:=f.mu i j hi hj hmi hm;subst this;exact ID ⟨_,rfl,ID hq⟩
theorem tw {d:Addr} {es:Array DictEntry} {ep:Nat} {key v:Value} {h:Int} {n:Nat} {m:Nat->Bool} {Q:Unit->Shared->Prop} (hh:eU prog w A.in1 s key h n) (f:gB prog w A.in1 { s with toks:=s.toks + n } es key h m) (x:aZ s.heap d es ep) (hz:es.size<=sizeLine)
  (hnone:(∀j,j < es.size->m j=false)->∀h',aZ h' d (es.push ⟨h,key,v⟩) (ep + 1)->Heap.SameBut d s.heap h'->Q () { s with heap:=h',toks:=s.toks + n })
  (hsome:∀j (hj:j < es.size),m j=true->∀h',aZ h' d (es.modify j λe=>{ e with val:=v }) ep->Heap.SameBut d s.heap h'->Q () { s with heap:=h',toks:=s.toks + n }) :
  wpAny (model prog w) A (setItem (.ref d) key v) Q E s:=by
 unfold setItem
 try with_reducible refine wpAny_holding ?_
 refine Iw (wpAny_sequenceKey x.typeIs (by decide) ?_)
 refine Iw (Jq (name:=Str.ofString "__setitem__") x.typeIs slot_dict_setitem
  (wpAny_call_entry slot_dict_setitem x.typeIs entry_dict_setitem ?_ (args_dict_setitem _ _ _)))
 show wpAny _ _ (Builtin.Dict.notOrdered "__setitem__" ⟨[.ref d,key,v],[]⟩ >>= _) _ _ s
 refine Iw (wpAny_notOrdered_dict x.typeIs ?_);show wpAny _ _ (dictSet d key v >>= _) _ _ s
 exact Iw (ub hh f x hz (λhno h' a b=>ID ⟨.none,rfl,ID (hnone hno h' a b)⟩) (λj hj hm h' a b=>ID ⟨.none,rfl,ID (hsome j hj hm h' a b)⟩))
theorem rL {d:Addr} {es:Array DictEntry} {ep:Nat} {key:Value} {h:Int} {n:Nat} {m:Nat->Bool} {Q:Bool->Shared->Prop} (hh:eU prog w A.in1 s key h n) (f:gB prog w A.in1 { s with toks:=s.toks + n } es key h m) (x:aZ s.heap d es ep) (hs:(d == sysModules)=false)
  (hnone:(∀j,j < es.size->m j=false)->Q false { s with toks:=s.toks + n }) (hsome:∀j (hj:j < es.size),m j=true->Q true { s with toks:=s.toks + n }):wpAny (model prog w) A (contains (.ref d) key) Q E s:=by
 unfold contains
 try with_reducible refine wpAny_holding ?_
 refine Iw (wpAny_specialOf x.typeIs slot_dict_contains.lookup ?_);show wpAny _ _ (if (some (Value.builtin "dict.__contains__") == some Value.none)=true then _ else _) _ E s
 rw [if_neg (by rw [beq_builtin_none];exact Bool.false_ne_true)]
 refine Iw (wpAny_callSpecialUnlessNone?_slot (name:=Str.ofString "__contains__") x.typeIs slot_dict_contains
  (wpAny_call_entry slot_dict_contains x.typeIs entry_dict_contains ?_ (args_dict_contains _ _)))
 show wpAny _ _ (dictGet d key >>= _) _ _ s
 refine Iw (sv hh f x (λhno=>?_) λi hi hmi=>?_)
 ·show wpAny _ _ (Builtin.Dict.pendingKey? d key >>= _) _ _ _
  exact Iw (wpAny_pendingKey_other hs (ID ⟨_,rfl,wpAny_truthy_bool (hnone hno)⟩))
 ·show wpAny _ _ (ret (.bool true)) _ _ _
  exact ID ⟨_,rfl,wpAny_truthy_bool (hsome i hi hmi)⟩
end
mutual
def aI:D->Bool
 | .int _=>true
 | .non=>true
 | .tup ds=>gQ ds
 | _=>false
def gQ:List D->Bool
 | []=>true
 | d :: ds=>aI d && gQ ds
end
mutual
def Aj:D->Nat
 | .int _=>1
 | .non=>1
 | .tup ds=>rg ds + 1
 | _=>0
def rg:List D->Nat
 | []=>0
 | d :: ds=>Aj d + rg ds
end
theorem lU (d:D):∀ds:List D,n8 (ds ++ [d])=n8 ds ++ [vU d]
 | []=>rfl
 | x :: ds=>by show vU x :: n8 (ds ++ [d])=_;rw [lU d ds];rfl
theorem kR (d:D):∀ds:List D,rg (ds ++ [d])=rg ds + Aj d
 | []=>by simp [rg]
 | x :: ds=>by show Aj x + rg (ds ++ [d])=_;rw [kR d ds];simp only [rg];omega
mutual
theorem cG:∀(a b:D),aI a=true->aT a b=true->aI b=true->a=b
 | .int i,b,h,e,k=>by cases b <;> simp only [aT,aI,beq_iff_eq,IF] at e k;rw [e]
 | .tup ds,b,h,e,k=>by
  cases b <;> simp only [aT,aI,IF] at e k
  rw [uz _ _ (by simpa only [aI] using h) e k]
 | .non,b,h,e,k=>by cases b <;> simp only [aT,IF] at e;rfl
 | .bl _,b,h,e,k=>by simp only [aI,IF] at h
 | .str _,b,h,e,k=>by simp only [aI,IF] at h
 | .lst _,b,h,e,k=>by simp only [aI,IF] at h
 | .dct _ _,b,h,e,k=>by simp only [aI,IF] at h
 | .ty _,b,h,e,k=>by simp only [aI,IF] at h
 | .exc _,b,h,e,k=>by simp only [aI,IF] at h
 | .cls _,b,h,e,k=>by simp only [aI,IF] at h
 | .obj _,b,h,e,k=>by simp only [aI,IF] at h
theorem uz:∀(a b:List D),gQ a=true->cZ a b=true->gQ b=true->a=b
 | [],b,h,e,k=>by cases b <;> simp only [cZ,IF] at e;rfl
 | x :: a,b,h,e,k=>by
  cases b with
  | nil=>simp only [cZ,IF] at e
  | cons y b =>
   simp only [cZ,gQ,Bool.and_eq_true] at e h k;rw [cG x y h.1 e.1 k.1,uz a b h.2 e.2 k.2]
end
mutual
theorem fy:∀(a:D),aI a=true->aT a a=true
 | .int i,h=>by simp only [aT,beq_self_eq_true]
 | .tup ds,h=>by simp only [aT];exact oC ds (by simpa only [aI] using h)
 | .non,h=>by simp only [aT]
 | .bl _,h=>by simp only [aI,IF] at h
 | .str _,h=>by simp only [aI,IF] at h
 | .lst _,h=>by simp only [aI,IF] at h
 | .dct _ _,h=>by simp only [aI,IF] at h
 | .ty _,h=>by simp only [aI,IF] at h
 | .exc _,h=>by simp only [aI,IF] at h
 | .cls _,h=>by simp only [aI,IF] at h
 | .obj _,h=>by simp only [aI,IF] at h
theorem oC:∀(a:List D),gQ a=true->cZ a a=true
 | [],h=>rfl
 | x :: a,h=>by
  simp only [gQ,Bool.and_eq_true] at h;simp only [cZ,Bool.and_eq_true];exact⟨fy x h.1,oC a h.2⟩
end
section
variable {X:Cx} {pins:List (Addr×Obj)} {σ:St} {H F:Hp}
theorem zS {s:Shared} {a:Addr} {items:List Value} {A:Around} {ds:List D} {vs:List V} (hu:A.units < cLine) (hT:IsTup s.heap a items.toArray) (rv:Vals vs items) (dl:ao X.K F ds vs)
  (rec:∀(d:D) (v:V) (u:Value) (n:Nat),d∈ds->Den X.K F d v->RelV v u->eU X.prog X.w A.in1 { s with toks:=s.toks + n } u (vU d) (Aj d)) :
  eU X.prog X.w A s (.ref a) (reduceHash (Builtin.Tuple.tupleHashOf (n8 ds))) (rg ds + 1):=by
 intro E Q h;obtain⟨o,ho,hc,n,hd⟩:=hT;have hT:s.TypeIs (.ref a) "tuple":=⟨o,ho,hc⟩
 unfold PySem.pyHash
 first|unfold pyHashByItsType|skip
 first|refine Iw (wpAny_cRoomFor_or (.inr hu) ?_)|skip
 refine Iw (wpAny_specialOf hT PySem.F.slot_tuple_hash.lookup ?_);show wpAny _ _ (if (some (Value.builtin "tuple.__hash__") == some Value.none)=true then _ else _) Q E s
 rw [if_neg (by rw [beq_builtin_none];exact Bool.false_ne_true)];refine Iw (wpAny_specialOf hT PySem.F.slot_tuple_hash.lookup ?_);show wpAny _ _ (callSpecialIfBoundUnlessNone? (.ref a) "__hash__" _ >>= _) Q E s
 refine Iw (wpAny_callSpecialIfBoundUnlessNone?_slot hT PySem.F.slot_tuple_hash (wpAny_call_entry PySem.F.slot_tuple_hash hT PySem.F.entry_tuple_hash ?_ (PySem.F.args_tuple_hash_1 _)));show wpAny _ _ (Builtin.Tuple.tupleItemsOf (.ref a) >>= _) _ _ s
 refine Iw (wpAny_tupleItemsOf ho hd ?_);refine Iw ?_;rw [<- Array.forIn_toList]
 refine wpAny_forIn_list _
  (λrest (b:Array Int) s'=>∃done left vl,ds=done ++ left/\ao X.K F left vl/\Vals vl rest/\b.toList=n8 done/\s'={ s with toks:=s.toks + rg done })
  _ ?_ ?_ _ _ ⟨[],ds,vs,rfl,dl,by simpa using rv,rfl,rfl⟩
 ·rintro x rest b s' ⟨done,left,vl,rfl,hl,hv,hb,rfl⟩
  cases hv with
  | @cons v _ vl' _ r1 hv' =>
   cases left with
   | nil=>simp only [ao] at hl;cases hl
   | cons d left' =>
    simp only [ao] at hl;obtain⟨v',r',e,hd',hl'⟩:=hl;cases e;refine Iw (rec d v x _ (by simp) hd' r1 _ _ ?_)
    first
     | exact ID ⟨done ++ [d],left',vl',by simp,hl',hv',by simp [hb,lU],by simp [kR,Nat.add_assoc]⟩
     | exact Iw (ID (ID ⟨done ++ [d],left',vl',by simp,hl',hv',by simp [hb,lU],by simp [kR,Nat.add_assoc]⟩))
 ·rintro b s' ⟨done,left,vl,rfl,hl,hv,hb,rfl⟩;cases hv
  cases left with
  | cons d left'=>simp only [ao] at hl;obtain⟨_,_,e,_⟩:=hl;cases e
  | nil =>
  rw [Jw] at h;show wpAny _ _ (retInt (Builtin.Tuple.tupleHashOf b.toList)) _ _ _
  rw [hb];refine wpAny_ret_mkInt ?_;show wpAny _ _ (if (decide (-(2:Int) ^ 63<=Builtin.Tuple.tupleHashOf (n8 done)) && decide (Builtin.Tuple.tupleHashOf (n8 done) < 2 ^ 63))=true then _ else _) Q E _
  unfold reduceHash at h
  by_cases hr:(decide (-(2:Int) ^ 63<=Builtin.Tuple.tupleHashOf (n8 done)) && decide (Builtin.Tuple.tupleHashOf (n8 done) < 2 ^ 63))=true
  ·rw [if_pos hr];rw [if_pos hr] at h;exact ID (by simpa [Nat.add_assoc] using h)
  ·rw [if_neg hr];rw [if_neg hr] at h;exact Iw (wpAny_rule (ID (by simpa [Nat.add_assoc] using h)))
theorem zd {s:Shared} {A:Around} (hu:A.units < cLine):eU X.prog X.w A s .none 4238894112 1:=by
 intro E Q h;have hT:s.TypeIs .none "NoneType":=rfl
 unfold PySem.pyHash
 first|unfold pyHashByItsType|skip
 first|refine Iw (wpAny_cRoomFor_or (.inr hu) ?_)|skip
 refine Iw (wpAny_specialOf hT PySem.F.slot_NoneType_hash.lookup ?_);show wpAny _ _ (if (some (Value.builtin "NoneType.__hash__") == some Value.none)=true then _ else _) Q E s
 rw [if_neg (by rw [beq_builtin_none];exact Bool.false_ne_true)];refine Iw (wpAny_specialOf hT PySem.F.slot_NoneType_hash.lookup ?_);show wpAny _ _ (callSpecialIfBoundUnlessNone? .none "__hash__" _ >>= _) Q E s
 refine Iw (wpAny_callSpecialIfBoundUnlessNone?_slot hT PySem.F.slot_NoneType_hash (wpAny_call_entry PySem.F.slot_NoneType_hash hT PySem.F.entry_NoneType_hash ?_ (PySem.F.args_NoneType_hash_1 _)));show wpAny _ _ (retInt 4238894112) _ _ _
 refine wpAny_ret_mkInt ?_;exact ID h
mutual
theorem gm (fh:ak F H):∀(d:D) (s:Shared) (A:Around) (v:V) (u:Value),Inv X pins σ H s->aI d=true->A.units + dep d < cLine->Den X.K F d v->RelV v u->eU X.prog X.w A s u (vU d) (Aj d)
 | .int i,s,A,v,u,I,hk,hu,hd,r=>by
  simp only [Den] at hd;subst hd;obtain⟨t,rfl⟩:=r;intro E Q h
  exact (bX X.prog X.w).pyHash (k:=.inl i) (p7 i t) h
 | .tup ds,s,A,v,u,I,hk,hu,hd,r=>by
  simp only [Den] at hd;obtain⟨a,vs,rfl,q,dl⟩:=hd;cases r;obtain⟨its,rv,ht,hz⟩:=I.tuple (ak.bt fh q);simp only [dep] at hu
  exact zS (by omega) ht rv dl λd v u n hm hd' r'=>qf fh ds d { s with toks:=s.toks + n } A.in1 v u (I.tok _) (by simpa only [aI] using hk) (by rw [units_in1];omega) hm hd' r'
 | .non,s,A,v,u,I,hk,hu,hd,r=>by
  simp only [Den] at hd;subst hd;cases r
  exact zd (by simp only [dep] at hu;omega)
 | .bl _,_,_,_,_,_,hk,_,_,_=>by simp only [aI,IF] at hk
 | .str _,_,_,_,_,_,hk,_,_,_=>by simp only [aI,IF] at hk
 | .lst _,_,_,_,_,_,hk,_,_,_=>by simp only [aI,IF] at hk
 | .dct _ _,_,_,_,_,_,hk,_,_,_=>by simp only [aI,IF] at hk
 | .ty _,_,_,_,_,_,hk,_,_,_=>by simp only [aI,IF] at hk
 | .exc _,_,_,_,_,_,hk,_,_,_=>by simp only [aI,IF] at hk
 | .cls _,_,_,_,_,_,hk,_,_,_=>by simp only [aI,IF] at hk
 | .obj _,_,_,_,_,_,hk,_,_,_=>by simp only [aI,IF] at hk
theorem qf (fh:ak F H):∀(ds:List D) (d:D) (s:Shared) (A:Around) (v:V) (u:Value),Inv X pins σ H s->gQ ds=true->A.units + b8 ds < cLine->d∈ds->Den X.K F d v->RelV v u->eU X.prog X.w A s u (vU d) (Aj d)
 | [],d,s,A,v,u,I,hk,hu,hm,hd,r=>by cases hm
 | x :: ds,d,s,A,v,u,I,hk,hu,hm,hd,r=>by
  simp only [gQ,Bool.and_eq_true] at hk;simp only [b8] at hu
  by_cases c:d∈ds
  ·exact qf fh ds d s A v u I hk.2 (by omega) c hd r
  ·have:d=x:=(IZ.mp hm).elim id (λe=>absurd e c);rw [this] at hd ⊢;exact gm fh x s A v u I hk.1 (by omega) hd r
end
def nB (prog:Program) (w:World) (A:Around) (s:Shared) (n:Nat) (v:Value):Prop:=∀(E:Value->Shared->Prop) (Q:Bool->Shared->Prop),Q true s->wpAny (model prog w) A (eqIsQuiet n v) Q E s
theorem x4 {s:Shared} {a:Addr} {items:List Value} {A:Around} {n:Nat} (hT:IsTup s.heap a items.toArray)
  (rec:∀u∈items,nB X.prog X.w A s n u):nB X.prog X.w A s (n + 1) (.ref a):=by
 intro E Q h;obtain⟨o,ho,hc,k,hd⟩:=hT;have hT:s.TypeIs (.ref a) "tuple":=⟨o,ho,hc⟩
 unfold eqIsQuiet;refine Iw (wpAny_specialOf hT PySem.F.slot_tuple_eq.lookup ?_);show wpAny _ _ (isInstance (.ref a) (.type "tuple") >>= _) _ _ s
 refine Iw (wpAny_isInstance hT isSubtype_tuple_tuple ?_);simp only [Bool.not_true,IF,if_false];refine Iw (wpAny_seqItems ho hd ?_);refine Iw ?_;show wpAny _ _ (forIn items.toArray _ _) _ _ s
 rw [<- Array.forIn_toList];refine wpAny_forIn_list _ (λrest r s'=>r.1=none/\s'=s/\∀v∈rest,nB X.prog X.w A s n v) _ ?_ ?_ _ _ ⟨rfl,rfl,by simpa using rec⟩
 ·rintro v rest r s' ⟨hr,rfl,hall⟩;refine Iw (hall v Jb _ _ ?_);simp only [Bool.not_true,IF,if_false];exact ID ⟨rfl,rfl,λu hu'=>hall u (IT _ hu')⟩
 ·rintro⟨r1,r2⟩ s' ⟨hr,rfl,_⟩;simp only at hr;subst hr;exact ID h
mutual
theorem lQ (fh:ak F H):∀(d:D) (s:Shared) (A:Around) (n:Nat) (v:V) (u:Value),Inv X pins σ H s->aI d=true->dep d<=n->Den X.K F d v->RelV v u->nB X.prog X.w A s n u
 | .int i,s,A,n,v,u,I,hk,hu,hd,r=>by
  simp only [Den] at hd;subst hd;obtain⟨t,rfl⟩:=r;intro E Q h;rw [eqIsQuiet_byValue n (v:=.int i t) rfl]
  exact ID h
 | .tup ds,s,A,n,v,u,I,hk,hu,hd,r=>by
  simp only [Den] at hd;obtain⟨a,vs,rfl,q,dl⟩:=hd;cases r;obtain⟨its,rv,ht,hz⟩:=I.tuple (ak.bt fh q);simp only [dep] at hu
  cases n with
  | zero=>omega
  | succ n=>exact x4 ht (ny fh ds s A n vs its I (by simpa only [aI] using hk) (by omega) dl rv)
 | .non,s,A,n,v,u,I,hk,hu,hd,r=>by
  simp only [Den] at hd;subst hd;cases r;intro E Q h;rw [eqIsQuiet_byValue n (v:=.none) rfl]
  exact ID h
 | .bl _,_,_,_,_,_,_,hk,_,_,_=>by simp only [aI,IF] at hk
 | .str _,_,_,_,_,_,_,hk,_,_,_=>by simp only [aI,IF] at hk
 | .lst _,_,_,_,_,_,_,hk,_,_,_=>by simp only [aI,IF] at hk
 | .dct _ _,_,_,_,_,_,_,hk,_,_,_=>by simp only [aI,IF] at hk
 | .ty _,_,_,_,_,_,_,hk,_,_,_=>by simp only [aI,IF] at hk
 | .exc _,_,_,_,_,_,_,hk,_,_,_=>by simp only [aI,IF] at hk
 | .cls _,_,_,_,_,_,_,hk,_,_,_=>by simp only [aI,IF] at hk
 | .obj _,_,_,_,_,_,_,hk,_,_,_=>by simp only [aI,IF] at hk
theorem ny (fh:ak F H):∀(ds:List D) (s:Shared) (A:Around) (n:Nat) (vs:List V) (us:List Value),Inv X pins σ H s->gQ ds=true->b8 ds<=n->ao X.K F ds vs->Vals vs us->∀u∈us,nB X.prog X.w A s n u
 | [],s,A,n,vs,us,I,hk,hu,dl,rv,u,hm=>by
  simp only [ao] at dl;subst dl
  cases rv;cases hm
 | d :: ds,s,A,n,vs,us,I,hk,hu,dl,rv,u,hm=>by
  simp only [ao] at dl;obtain⟨v,r,rfl,a,b⟩:=dl;simp only [gQ,Bool.and_eq_true] at hk;simp only [b8] at hu
  cases rv with
  | @cons _ x _ xs r1 rv' =>
   by_cases c:u∈xs
   ·exact ny fh ds s A n r xs I hk.2 (by omega) b rv' u c
   ·have:u=x:=(IZ.mp hm).elim id (λe=>absurd e c);rw [this];exact lQ fh d s A n v x I hk.1 (by omega) a r1
end
end
end L2.L3
namespace L2.L3
open PySem PySem.Spec PyProof.Rows
structure bO (kvs:List (D×D)):Prop where
 key:∀kv∈kvs,aI kv.1=true/\dep kv.1<=8
 dif:∀(i j:Nat) (x y:D×D),kvs[i]?=some x->kvs[j]?=some y->x.1=y.1->i=j
def pw (kvs:List (D×D)) (d:D) (j:Nat):Bool:=match kvs[j]? with
 | some kv=>aT kv.1 d
 | none=>false
section
variable {X:Cx} {pins:List (Addr×Obj)} {σ:St} {H F:Hp} {s:Shared} {kvs:List (D×D)} {us vs:List V} {p:Addr} {A:Around} {d:D} {v:V} {u:Value}
theorem fF (I:Inv X pins σ H s) {ep:Nat} {rows:List (Int×V×V)} (e:H p=some (eL p ep rows)):rows.length<=sizeLine/\(p == sysModules)=false/\∃es,aZ s.heap p es ep/\Paired uJ rows es.toList:=(I.hok p _ e).1
theorem gq {α β:Type} {R:α->β->Prop}:∀{xs:List α} {ys:List β} {i:Nat} {y:β},Paired R xs ys->ys[i]?=some y->∃x,xs[i]?=some x/\R x y
 | _,_,_,_,.nil,e=>by simp at e
 | _,_,0,_,.cons r _,e=>by simp at e;subst e;exact⟨_,rfl,r⟩
 | _,_,i + 1,y,.cons _ t,e=>by
  obtain⟨x,h1,h2⟩:=gq (i:=i) (y:=y) t (by simpa using e);exact⟨x,by simpa using h1,h2⟩
theorem cI (d1:ao X.K F (kvs.map (·.1)) us) (d2:ao X.K F (kvs.map (·.2)) vs):(br kvs us vs).length=kvs.length:=by
 have l1:=d1.length;have l2:=d2.length;simp only [IK] at l1 l2;unfold br;simp only [List.length_zip,IK,<- l1,<- l2,Nat.min_self]
theorem qF (d1:ao X.K F (kvs.map (·.1)) us) (d2:ao X.K F (kvs.map (·.2)) vs) {es:Array DictEntry} (pr:Paired uJ (br kvs us vs) es.toList) {j:Nat} (hj:j < es.size) :
  ∃kv a b,kvs[j]?=some kv/\us[j]?=some a/\vs[j]?=some b/\Den X.K F kv.1 a/\Den X.K F kv.2 b/\es[j].hash=vU kv.1/\RelV a es[j].key/\RelV b es[j].val:=by
 have l:=cI d1 d2;have lp:=Paired.length pr;have hk:j < kvs.length:=by rw [<- l,lp];simpa using hj
 obtain⟨row,hr,e1,e2,e3⟩:=gq pr (y:=es[j]) (i:=j) (by simp [hj]);have g0:kvs[j]?=some kvs[j]:=IE hk;obtain⟨a,ha,da⟩:=d1.get (i:=j) (d:=kvs[j].1) (by rw [IJ,g0];rfl);obtain⟨b,hb,db⟩:=d2.get (i:=j) (d:=kvs[j].2) (by rw [IJ,g0];rfl)
 have:row=(vU kvs[j].1,a,b):=by
  unfold br at hr;rw [List.getElem?_zip_eq_some,List.getElem?_zip_eq_some,IJ,g0] at hr;obtain⟨h1,h2,h3⟩:=hr;rw [ha] at h2;rw [hb] at h3;exact JH (IL h1).symm (JH (IL h2).symm (IL h3).symm)
 subst this;exact⟨_,a,b,g0,ha,hb,da,db,e1,e2,e3⟩
theorem kB (I:Inv X pins σ H s) (fh:ak F H) (ok:bO kvs) (d1:ao X.K F (kvs.map (·.1)) us) (d2:ao X.K F (kvs.map (·.2)) vs) {es:Array DictEntry} (pr:Paired uJ (br kvs us vs) es.toList)
  (hk:aI d=true) (hd:dep d<=8) (hu:A.units + 8 < cLine) (dd:Den X.K F d v) (rv:RelV v u):gB X.prog X.w A s es u (vU d) (pw kvs d):=by
 have at_:=λj hj=>qF d1 d2 pr (j:=j) hj;have mat:∀j kv,kvs[j]?=some kv->pw kvs d j=aT kv.1 d:=λj kv e=>by unfold pw;rw [e]
 have kk:∀(j:Nat) (kv:D×D),kvs[j]?=some kv->aI kv.1=true/\dep kv.1<=8:=λj kv e=>ok.key kv (IG e);refine⟨λj hj=>?_,λj hj hm=>?_,λi j hi hj h1 h2=>?_,λj hj he=>?_,?_,λj hj=>?_,?_⟩
 ·obtain⟨kv,a,b,g0,g1,g2,da,db,e1,e2,e3⟩:=at_ j hj;rw [mat j kv g0];have:=(kk j kv g0).2;exact nY I fh kv.1 d A a v _ _ (by omega) (by omega) (by omega) da dd e2 rv
 ·obtain⟨kv,a,b,g0,g1,g2,da,db,e1,e2,e3⟩:=at_ j hj;rw [mat j kv g0] at hm;rw [e1,cG kv.1 d (kk j kv g0).1 hm hk]
 ·obtain⟨kv,_,_,g0,_⟩:=at_ i hi;obtain⟨kw,_,_,f0,_⟩:=at_ j hj;rw [mat i kv g0] at h1;rw [mat j kw f0] at h2;exact ok.dif i j kv kw g0 f0 (by rw [cG kv.1 d (kk i kv g0).1 h1 hk,cG kw.1 d (kk j kw f0).1 h2 hk])
 ·obtain⟨kv,a,b,g0,g1,g2,da,db,e1,e2,e3⟩:=at_ j hj;rw [he] at e2;have:=e2.inj rv;subst this;have k1:=(kk j kv g0).2;rw [e1,cG kv.1 d (kk j kv g0).1 (m4 I fh kv.1 d a (by omega) (by omega) da dd) hk]
 ·exact lQ fh d s A 8 v u I hk hd dd rv
 ·obtain⟨kv,a,b,g0,g1,g2,da,db,e1,e2,e3⟩:=at_ j hj;exact lQ fh kv.1 s A 8 a _ I (kk j kv g0).1 (kk j kv g0).2 da e2
 ·cases d with
  | int i=>simp only [Den] at dd;subst dd;obtain⟨t,rfl⟩:=rv;exact .inl ⟨i,t,rfl⟩
  | tup ds=>simp only [Den] at dd;obtain⟨a,_,rfl,_⟩:=dd;cases rv;exact .inr (.inl ⟨a,rfl⟩)
  | non=>simp only [Den] at dd;subst dd;cases rv;exact .inr (.inr rfl)
  | _=>simp only [aI,IF] at hk
def dA (kvs:List (D×D)) (d:D):Option D:=(kvs.find? λkv=>aT kv.1 d).map (·.2)
def putN (kvs:List (D×D)) (d x:D):List (D×D):=if (kvs.any λkv=>aT kv.1 d)=true then kvs.map (λkv=>if aT kv.1 d=true then (kv.1,x) else kv) else kvs ++ [(d,x)]
theorem Bp (ok:bO kvs) (hk:aI d=true) {x:D} (h:dA kvs d=some x):∃(j:Nat) (kv:D×D),kvs[j]?=some kv/\aT kv.1 d=true/\kv.2=x:=by
 unfold dA at h;obtain⟨kv,h1,h2⟩:=Js.mp h;obtain⟨j,hj⟩:=Jl (List.mem_of_find?_eq_some h1);have m:=List.find?_some (p:=λkv:D×D=>aT kv.1 d) h1;exact⟨j,kv,hj,m,h2⟩
theorem yp (hu:A.units + 9 < cLine) (I:Inv X pins σ H s) (fh:ak F H) (ok:bO kvs) (d1:ao X.K F (kvs.map (·.1)) us) (d2:ao X.K F (kvs.map (·.2)) vs) {ep:Nat} (e:H p=some (eL p ep (br kvs us vs)))
  (hk:aI d=true) (hd:dep d<=8) (dd:Den X.K F d v) (rv:RelV v u) {x:D} (hx:dA kvs d=some x) {E:Value->Shared->Prop} {Q:Value->Shared->Prop}
  (h:∀w' u' s',Inv X pins σ H s'->Den X.K F x w'->RelV w' u'->Q u' s'):wpAny (model X.prog X.w) A (getItem (.ref p) u) Q E s:=by
 obtain⟨hz,hs,es,dh,pr⟩:=fF I e;obtain⟨j,kv,g0,m0,rfl⟩:=Bp ok hk hx;have lp:=Paired.length pr;rw [cI d1 d2] at lp;have hj:j < es.size:=by have:=(Iy.mp g0).1;simp at lp;omega
 obtain⟨kv',a,b,g0',g1,g2,da,db,e1,e2,e3⟩:=qF d1 d2 pr hj;rw [g0] at g0';cases g0';refine uu (j:=j) (gm fh d s A.in1 v u I hk (by rw [units_in1];omega) dd rv) (kB (I.tok _) fh ok d1 d2 pr hk hd (by rw [units_in1];omega) dd rv) dh hj (by unfold pw;rw [g0];exact m0) ?_;exact h b _ _ (I.tok _) db e3
theorem EV (hu:A.units + 9 < cLine) (I:Inv X pins σ H s) (fh:ak F H) (ok:bO kvs) (d1:ao X.K F (kvs.map (·.1)) us) (d2:ao X.K F (kvs.map (·.2)) vs) {ep:Nat} (e:H p=some (eL p ep (br kvs us vs)))
  (hk:aI d=true) (hd:dep d<=8) (dd:Den X.K F d v) (rv:RelV v u) {E:Value->Shared->Prop} {Q:Bool->Shared->Prop}
  (h:∀s',Inv X pins σ H s'->Q (kvs.any λkv=>aT kv.1 d) s'):wpAny (model X.prog X.w) A (contains (.ref p) u) Q E s:=by
 obtain⟨hz,hs,es,dh,pr⟩:=fF I e;have lp:=Paired.length pr;rw [cI d1 d2] at lp;refine rL (gm fh d s A.in1 v u I hk (by rw [units_in1];omega) dd rv) (kB (I.tok _) fh ok d1 d2 pr hk hd (by rw [units_in1];omega) dd rv) dh hs (λhno=>?_) λj hj hm=>?_
 ·have:(kvs.any λkv=>aT kv.1 d)=false:=by
   rw [List.any_eq_false];intro kv hm;obtain⟨j,hj⟩:=Jl hm;have:=hno j (by have:=(Iy.mp hj).1;simp at lp;omega);unfold pw at this;rw [hj] at this
   simpa using this
  have q:=h { s with toks:=s.toks + Aj d } (I.tok _);rw [this] at q;exact q
 ·have:(kvs.any λkv=>aT kv.1 d)=true:=by
   rw [List.any_eq_true];unfold pw at hm
   cases g:kvs[j]? with
   | none=>rw [g] at hm;cases hm
   | some kv=>rw [g] at hm;exact⟨kv,IG g,hm⟩
  have q:=h { s with toks:=s.toks + Aj d } (I.tok _);rw [this] at q;exact q
end
theorem iR {α β:Type} {R:α->β->Prop}:∀{xs:List α} {ys:List β},xs.length=ys.length->(∀(i:Nat) x y,xs[i]?=some x->ys[i]?=some y->R x y)->Paired R xs ys
 | [],[],_,_=>.nil
 | [],_ :: _,h,_=>by simp at h
 | _ :: _,[],h,_=>by simp at h
 | x :: xs,y :: ys,h,f=>.cons (f 0 x y rfl rfl) (iR (by simpa using h) λi a b h1 h2=>f (i + 1) a b (by simpa using h1) (by simpa using h2))
theorem fD {kvs:List (D×D)} {us vs:List V} {i:Nat} {row:Int×V×V} (h:(br kvs us vs)[i]?=some row):∃kv,kvs[i]?=some kv/\row.1=vU kv.1/\us[i]?=some row.2.1/\vs[i]?=some row.2.2:=by
 unfold br at h;rw [List.getElem?_zip_eq_some,List.getElem?_zip_eq_some,IJ] at h;obtain⟨h1,h2,h3⟩:=h;obtain⟨kv,a,b⟩:=Js.mp h1;exact⟨kv,a,b.symm,h2,h3⟩
theorem Bu {kvs:List (D×D)} {d x:D} {j:Nat} {kv:D×D} (ok:bO kvs) (hk:aI d=true) (hj:kvs[j]?=some kv) (hm:aT kv.1 d=true):kvs.map (λkv=>if aT kv.1 d=true then (kv.1,x) else kv)=kvs.set j (kv.1,x):=by
 apply List.ext_getElem?
 intro i;rw [IJ]
 by_cases e:j=i
 ·subst e;rw [IH (Iy.mp hj).1,hj];simp only [Option.map_some,if_pos hm]
 ·rw [IA e]
  cases g:kvs[i]? with
  | none=>rfl
  | some kw =>
   simp only [Option.map_some];rw [if_neg];intro hw;exact e (ok.dif j i kv kw hj g (by rw [cG kv.1 d (ok.key kv (IG hj)).1 hm hk,cG kw.1 d (ok.key kw (IG g)).1 hw hk]))
theorem r8 {kvs:List (D×D)} {j:Nat} {kv:D×D} {x:D} (hj:kvs[j]?=some kv):(kvs.set j (kv.1,x)).map (·.1)=kvs.map (·.1):=by
 apply List.ext_getElem?
 intro i;rw [IJ,IJ]
 by_cases e:j=i
 ·subst e;rw [IH (Iy.mp hj).1,hj];rfl
 ·rw [IA e]
theorem si {kvs:List (D×D)} {j:Nat} {y x:D}:(kvs.set j (y,x)).map (·.2)=(kvs.map (·.2)).set j x:=by
 rw [List.map_set]
section
variable {X:Cx} {pins:List (Addr×Obj)} {σ:St} {H F:Hp} {s:Shared} {kvs:List (D×D)} {us vs:List V} {p:Addr} {A:Around} {d x:D} {v w:V} {u r:Value}
theorem DF (hu:A.units + 9 < cLine) (I:Inv X pins σ H s) (fh:ak F H) (ok:bO kvs) (d1:ao X.K F (kvs.map (·.1)) us) (d2:ao X.K F (kvs.map (·.2)) vs) {ep:Nat} (e:H p=some (eL p ep (br kvs us vs)))
  (hk:aI d=true) (hd:dep d<=8) (dd:Den X.K F d v) (rv:RelV v u) (dx:Den X.K F x w) (rw':RelV w r) (hl:kvs.length < sizeLine) {E:Value->Shared->Prop} {Q:Unit->Shared->Prop}
  (h:∀ep' us' vs' s',ao X.K F ((putN kvs d x).map (·.1)) us'->ao X.K F ((putN kvs d x).map (·.2)) vs'->Inv X pins σ (upd H p (eL p ep' (br (putN kvs d x) us' vs'))) s'->Q () s'):wpAny (model X.prog X.w) A (setItem (.ref p) u r) Q E s:=by
 obtain⟨hz,hs,es,dh,pr⟩:=fF I e;have lp:=Paired.length pr;have l0:=cI d1 d2;rw [l0] at lp hz;have lp':kvs.length=es.size:=by simpa using lp
 have l1:=d1.length;have l2:=d2.length;simp only [IK] at l1 l2
 have ext:∀(ep':Nat) (rows:List (Int×V×V)) (h':Heap) (es':Array DictEntry),rows.length<=sizeLine->aZ h' p es' ep'->Paired uJ rows es'.toList->bC X.prog X.w (upd H p (eL p ep' rows)) h' p (eL p ep' rows):=λep' rows h' es' z dh' pr'=>by
  refine⟨⟨z,hs,es',dh',pr'⟩,?_,?_⟩
  ·obtain⟨o,ho,_⟩:=dh';exact⟨o,ho⟩
  ·rintro h1 h2 ⟨z,hs,es,⟨o,ho,c,dd⟩,pr⟩ k;exact⟨z,hs,es,⟨o,k _ ho,c,dd⟩,pr⟩
 have hash:=gm fh d s A.in1 v u I hk (by rw [units_in1];omega) dd rv;have find:=kB (I.tok (s.toks + Aj d)) fh ok d1 d2 pr hk hd (A:=A.in1) (by rw [units_in1];omega) dd rv;refine tw hash find dh (by omega) (λhno h' dh' sb=>?_) λj hj hm h' dh' sb=>?_
 ·have any:(kvs.any λkv=>aT kv.1 d)=false:=by
   rw [List.any_eq_false];intro kv hm;obtain⟨j,hj⟩:=Jl hm;have:=hno j (by have:=(Iy.mp hj).1;omega);unfold pw at this;rw [hj] at this
   simpa using this
  have pe:putN kvs d x=kvs ++ [(d,x)]:=by unfold putN;rw [any];rfl
  have q1:ao X.K F ((putN kvs d x).map (·.1)) (us ++ [v]):=by rw [pe,List.map_append];exact d1.append (aF dd aJ)
  have q2:ao X.K F ((putN kvs d x).map (·.2)) (vs ++ [w]):=by rw [pe,List.map_append];exact d2.append (aF dx aJ)
  refine h _ _ _ _ q1 q2 (iN I (by rw [e];exact True.intro) sb (let ⟨o,ho,_⟩:=dh';⟨o,ho⟩) (ext _ _ h' _ ?_ dh' ?_))
  ·rw [cI q1 q2,pe];simp;omega
  ·refine iR (by rw [cI q1 q2,pe];simp;omega) λi row en h1 h2=>?_;obtain⟨kv,k1,k2,k3,k4⟩:=fD h1;rw [pe] at k1;simp only [Array.toList_push] at h2
   by_cases c:i < kvs.length
   ·rw [IW c] at k1;rw [IW (by omega)] at k3 k4;rw [IW (by simp;omega)] at h2;obtain⟨row',g1,g2⟩:=gq pr h2;obtain⟨kv',f1,f2,f3,f4⟩:=fD g1;rw [f1] at k1;cases k1;rw [f3] at k3;rw [f4] at k4;have:row'=row:=JH (by rw [f2,k2]) (JH (IL k3) (IL k4));rw [<- this];exact g2
   ·have hi:i=kvs.length:=by
     have:=(Iy.mp k1).1;simp at this;omega
    rw [hi,IQ (II _),Nat.sub_self] at k1;rw [show i=us.length by omega,IQ (II _),Nat.sub_self] at k3;rw [show i=vs.length by omega,IQ (II _),Nat.sub_self] at k4;rw [show i=es.toList.length by simp;omega,IQ (II _),Nat.sub_self] at h2;cases k1;cases h2;have a3:v=row.2.1:=IL k3;have a4:w=row.2.2:=IL k4;exact⟨k2.symm,by rw [<- a3];exact rv,by rw [<- a4];exact rw'⟩
 ·obtain⟨kv,a,b,g0,g1,g2,da,db,e1,e2,e3⟩:=qF d1 d2 pr hj;unfold pw at hm;rw [g0] at hm;have any:(kvs.any λkv=>aT kv.1 d)=true:=List.any_eq_true.mpr ⟨kv,IG g0,hm⟩;have pe:putN kvs d x=kvs.set j (kv.1,x):=by unfold putN;rw [any,if_pos rfl];exact Bu ok hk g0 hm
  have q1:ao X.K F ((putN kvs d x).map (·.1)) us:=by rw [pe,r8 g0];exact d1
  have q2:ao X.K F ((putN kvs d x).map (·.2)) (vs.set j w):=by rw [pe,si];exact ao.set dx j d2
  refine h _ _ _ _ q1 q2 (iN I (by rw [e];exact True.intro) sb (let ⟨o,ho,_⟩:=dh';⟨o,ho⟩) (ext _ _ h' _ ?_ dh' ?_))
  ·rw [cI q1 q2,pe];simp;omega
  ·refine iR (by rw [cI q1 q2,pe];simp;omega) λi row en h1 h2=>?_;obtain⟨kw,k1,k2,k3,k4⟩:=fD h1;rw [pe] at k1;rw [JI,Array.getElem?_modify] at h2
   by_cases c:j=i
   ·subst c;rw [if_pos rfl,Array.getElem?_eq_getElem hj] at h2;rw [IH (by omega)] at k1 k4;cases k1;cases h2;rw [g1] at k3;have a3:a=row.2.1:=IL k3;have a4:w=row.2.2:=IL k4;exact⟨by rw [k2];exact e1,by rw [<- a3];exact e2,by rw [<- a4];exact rw'⟩
   ·rw [if_neg c,<- JI] at h2;rw [IA c] at k1 k4;obtain⟨row',f0,f1⟩:=gq pr h2;obtain⟨kv',t1,t2,t3,t4⟩:=fD f0;rw [t1] at k1;cases k1;rw [t3] at k3;rw [t4] at k4;have:row'=row:=JH (by rw [t2,k2]) (JH (IL k3) (IL k4));rw [<- this];exact f1
end
section
variable {K:IB} {B:Base} {F H F' H':Hp} {σ:St} {e:En}
theorem aS {e:En} {i j:Nat} {l:Lo} {xs:List D} (hl:∀z,l≠.own z) (q:(e.set i (some l))[j]?=some (some (.own xs))):i≠j:=λz=>by
 subst z
 by_cases w:i < e.length
 ·rw [IH w] at q;cases q;exact hl _ rfl
 ·rw [Ja (by simpa using w)] at q;cases q
theorem kK {e:En} {i j:Nat} {l:Lo} {x:D} (hl:∀z,l≠.d z) (q:(e.set i (some l))[j]?=some (some (.d x))):i≠j:=λz=>by
 subst z
 by_cases w:i < e.length
 ·rw [IH w] at q;cases q;exact hl _ rfl
 ·rw [Ja (by simpa using w)] at q;cases q
theorem Rep.Ep (r:Rep K B F H σ e) {i:Nat} {p:Addr} (h:H p=none) (hl:i < σ.length) :
  Rep K B F (upd H p (eL p 0 [])) (σ.set i (some (.ref p))) (e.set i (some (.dic []))):=by
 have r1:=r.loose (o:=eL p 0 []) h;have hb:B.H p=none:=r.h0.free h
 have old:∀(j:Nat) (ys:List (D×D)),e[j]?=some (some (.dic ys))->σ[j]?≠some (some (.ref p)):=λj ys q z=>by
  obtain⟨q1,_,_,_,h1,h2,_⟩:=r.mv j ys q;rw [z] at h1;cases h1;rw [h] at h2;cases h2
 refine⟨r1.f0,r1.fh,r1.h0,r1.nf,λj y q=>?_,λj y q=>?_,λj k ys zs q hjk q1 q2 q3 q4=>?_,λj y q=>?_,λj k ys zs q hjk q1 q2 q3 q4=>?_⟩
 ·have z:=kK (λ_ w=>by cases w) q;rw [IA z] at q ⊢;exact r1.dv j y q
 ·have z:=aS (λ_ w=>by cases w) q;rw [IA z] at q ⊢;exact r1.ov j y q
 ·have z1:=aS (λ_ w=>by cases w) q1;have z2:=aS (λ_ w=>by cases w) q2;rw [IA z1] at q1 q3;rw [IA z2] at q2 q4;exact r.ne j k ys zs q hjk q1 q2 q3 q4
 ·by_cases z:i=j
  ·subst z
   by_cases w:i < e.length
   ·rw [IH w] at q;cases q;exact⟨p,0,[],[],IH hl,au,r.mG h,hb,aJ,aJ⟩
   ·rw [Ja (by simpa using w)] at q;cases q
  ·rw [IA z] at q ⊢;exact r1.mv j y q
 ·by_cases z1:i=j
  ·subst z1;rw [IA hjk] at q2 q4;rw [IH hl] at q3;cases q3;exact old k zs q2 q4
  ·rw [IA z1] at q1 q3
   by_cases z2:i=k
   ·subst z2;rw [IH hl] at q4;cases q4;exact old j ys q1 q3
   ·rw [IA z2] at q2 q4;exact r.nm j k ys zs q hjk q1 q2 q3 q4
theorem Rep.pX (r:Rep K B F H σ e) {i:Nat} {p:Addr} (ep:Nat) {us vs:List V} {xs ys:List (D×D)} (h:e[i]?=some (some (.dic xs))) (hp:σ[i]?=some (some (.ref p))) (hd:ao K F (ys.map (·.1)) us) (hd':ao K F (ys.map (·.2)) vs) :
  Rep K B F (upd H p (eL p ep (br ys us vs))) σ (e.set i (some (.dic ys))):=by
 obtain⟨p',_,_,_,h1,h2,h3,h4,_⟩:=r.mv i xs h;rw [hp] at h1;cases h1;have wl:i < e.length:=(Iy.mp h).1;have fk:∀q o,F q=some o->q≠p:=λq o z w=>by subst w;rw [h3] at z;cases z
 have bk:∀q o,B.H q=some o->q≠p:=λq o z w=>by subst w;rw [h4] at z;cases z
 have dicAt:∀(j:Nat) (zs:List (D×D)),(e.set i (some (.dic ys)))[j]?=some (some (.dic zs))->∃ws,e[j]?=some (some (.dic ws)):=λj zs q=>by
  by_cases z:i=j
  ·subst z;exact⟨xs,h⟩
  ·rw [IA z] at q;exact⟨zs,q⟩
 refine⟨r.f0,λb o z=>by rw [av (fk b o z)];exact r.fh _ _ z,λb o z=>by rw [av (bk b o z)];exact r.h0 _ _ z,r.nf,λj y q=>?_,λj y q=>?_,λj k as bs q hjk q1 q2 q3 q4=>?_,λj y q=>?_,λj k as bs q hjk q1 q2 q3 q4=>?_⟩
 ·have z:=kK (λ_ w=>by cases w) q;rw [IA z] at q;exact r.dv j y q
 ·have z:=aS (λ_ w=>by cases w) q;rw [IA z] at q;obtain⟨p2,us,g1,g2,g3,g4,g5⟩:=r.ov j y q;have:p2≠p:=λw=>by subst w;rw [h2] at g2;cases g2
  exact⟨p2,us,g1,by rw [av this];exact g2,g3,g4,g5⟩
 ·have z1:=aS (λ_ w=>by cases w) q1;have z2:=aS (λ_ w=>by cases w) q2;rw [IA z1] at q1;rw [IA z2] at q2;exact r.ne j k as bs q hjk q1 q2 q3 q4
 ·by_cases z:i=j
  ·subst z;rw [IH wl] at q;cases q;exact⟨p,ep,us,vs,hp,au,h3,h4,hd,hd'⟩
  ·rw [IA z] at q;obtain⟨p2,ep2,as,bs,g1,g2,g3,g4,g5⟩:=r.mv j y q;have:p2≠p:=λw=>by subst w;exact r.nm j i y xs p2 (Ne.symm z) q h g1 hp
   exact⟨p2,ep2,as,bs,g1,by rw [av this];exact g2,g3,g4,g5⟩
 ·obtain⟨as',w1⟩:=dicAt j as q1;obtain⟨bs',w2⟩:=dicAt k bs q2;exact r.nm j k as' bs' q hjk w1 w2 q3 q4
def qC (kvs:List (D×D)):IB->Hp->Addr->Prop:=λK G a=>∃ep us vs,G a=some (eL a ep (br kvs us vs))/\ao K G (kvs.map (·.1)) us/\ao K G (kvs.map (·.2)) vs
theorem Rep.xU (r:Rep K B F H σ e) {i:Nat} {xs:List (D×D)} (h:e[i]?=some (some (.dic xs))):∃F',ak F F'/\Rep K B F' H σ (e.set i (some (.d (.obj (qC xs))))):=by
 obtain⟨p,ep,us,vs,h1,h2,h3,h4,h5,h6⟩:=r.mv i xs h;have wl:i < e.length:=(Iy.mp h).1;have s1:ak F (upd F p (eL p ep (br xs us vs))):=a8 h3;refine⟨upd F p (eL p ep (br xs us vs)),s1,r.f0.trans s1,λb o z=>?_,r.h0,λq hq=>?_,λj y q=>?_,λj y q=>?_,λj k as bs q hjk q1 q2 q3 q4=>?_,λj y q=>?_,λj k as bs q hjk q1 q2 q3 q4=>?_⟩
 ·by_cases w:b=p
  ·subst w;rw [au] at z;cases z;exact h2
  ·rw [av w] at z;exact r.fh _ _ z
 ·have:q≠p:=λw=>by subst w;exact B.nb _ hq h4
  rw [av this];exact r.nf q hq
 ·by_cases z:i=j
  ·subst z;rw [IH wl] at q;cases q;refine⟨_,h1,?_⟩;simp only [Den];exact⟨p,rfl,λG sG=>⟨ep,us,vs,sG _ _ au,ao.mono (s1.trans sG) _ _ h5,ao.mono (s1.trans sG) _ _ h6⟩⟩
  ·rw [IA z] at q;obtain⟨v,a,b⟩:=r.dv j y q;exact⟨v,a,Den.mono s1 _ _ b⟩
 ·have z:=aS (λ_ w=>by cases w) q;rw [IA z] at q;obtain⟨p2,us,g1,g2,g3,g4,g5⟩:=r.ov j y q;have:p2≠p:=λw=>by subst w;rw [h2] at g2;cases g2
  exact⟨p2,us,g1,g2,by rw [av this];exact g3,g4,ao.mono s1 _ _ g5⟩
 ·have z1:=aS (λ_ w=>by cases w) q1;have z2:=aS (λ_ w=>by cases w) q2;rw [IA z1] at q1;rw [IA z2] at q2;exact r.ne j k as bs q hjk q1 q2 q3 q4
 ·have z:i≠j:=aR (λ_ w=>by cases w) q;rw [IA z] at q;obtain⟨p2,ep2,as,bs,g1,g2,g3,g4,g5,g6⟩:=r.mv j y q;have:p2≠p:=λw=>by subst w;exact r.nm j i y xs p2 (Ne.symm z) q h g1 h1
  exact⟨p2,ep2,as,bs,g1,g2,by rw [av this];exact g3,g4,ao.mono s1 _ _ g5,ao.mono s1 _ _ g6⟩
 ·have z1:=aR (λ_ w=>by cases w) q1;have z2:=aR (λ_ w=>by cases w) q2;rw [IA z1] at q1;rw [IA z2] at q2;exact r.nm j k as bs q hjk q1 q2 q3 q4
end
theorem pK {P:Program} {w:World} {H:Hp} (h:Heap) (hb:sysModules < h.objs.size):bC P w H (h.push { cls:=.type "dict",data:=.dict #[] }) h.objs.size (eL h.objs.size 0 []):=by
 have dh:=aZ.new h;refine⟨⟨Ju _,beq_eq_false_iff_ne.mpr (Ne.symm (Jj hb)),#[],dh,.nil⟩,?_,?_⟩
 ·obtain⟨o,ho,_⟩:=dh;exact⟨o,ho⟩
 ·rintro h1 h2 ⟨z,hs,es,⟨o,ho,c,dd⟩,pr⟩ k;exact⟨z,hs,es,⟨o,k _ ho,c,dd⟩,pr⟩
def CG:TE:=λ_ H Q=>∀p,H p=none->Q (.ref p) (upd H p (eL p 0 []))
def FC (X:Cx) (td ty tv:TE):TS:=λD σ H=>tv σ H λv H1=>td σ H1 λx H2=>ty σ H2 λy H3=>∃p ep F kvs us vs d z,x=.ref p/\ak F H3/\bO kvs/\ao X.K F (kvs.map (·.1)) us/\ao X.K F (kvs.map (·.2)) vs/\H3 p=some (eL p ep (br kvs us vs)) /\
 aI d=true/\dep d<=8/\Den X.K F d y/\Den X.K F z v/\kvs.length < sizeLine/\∀ep' us' vs',ao X.K F ((putN kvs d z).map (·.1)) us'->ao X.K F ((putN kvs d z).map (·.2)) vs'->D.nx σ (upd H3 p (eL p ep' (br (putN kvs d z) us' vs')))
def GB (X:Cx) (td ty:TE):TE:=λσ H Q=>td σ H λx H1=>ty σ H1 λy H2=>∃p ep F kvs us vs d z,x=.ref p/\ak F H2/\bO kvs/\ao X.K F (kvs.map (·.1)) us/\ao X.K F (kvs.map (·.2)) vs/\H2 p=some (eL p ep (br kvs us vs)) /\
 aI d=true/\dep d<=8/\Den X.K F d y/\dA kvs d=some z/\∀w,Den X.K F z w->Q w H2
section
variable {X:Cx} {o i e value a b:Expr} {pos pos' tpos:Pos} {td ty tv:TE} {ta tb:TD}
theorem zr:PE X (.Dict [] [] pos) CG:=λpins s σ H Q I h =>
 wpAny_Dict_empty ⟨.ref s.heap.objs.size,_,I.laid (a:=s.heap.objs.size) (o:=eL s.heap.objs.size 0 []) (t':=s.toks) (λ_ _ q=>IC _ q) (II _) (pK s.heap I.big),rfl,h _ (I.hok.fresh (II _))⟩
theorem Bw (hu:X.A.units + 64 < cLine) (ho:PE X o td) (hi:PE X i ty) (hv:PE X value tv) (hs:swapsWith value (some (.Subscript o i pos')) pos.line X.env=pure false) :
  PS X (.Assign [.Subscript o i pos'] value pos) (FC X td ty tv):=by
 intro pins s σ H D I h;refine wpAny_Assign_Subscript (bQ (hv pins s σ H _ I h) λr s1 ⟨v,H1,I1,rv,q1⟩=>bQ (ho pins s1 σ H1 _ I1 q1) λu s2 ⟨x,H2,I2,rx,q2⟩=>bQ (hi pins s2 σ H2 _ I2 q2) λiv s3 hq=>?_) hs;obtain⟨y,H3,I3,ry,p,ep,F,kvs,us,vs,d,z,ex,fh,ok,d1,d2,e,hk,hd,dd,dz,hl,q3⟩:=hq;subst ex;obtain rfl:u=Value.ref p:=rx;exact DF (by omega) I3 fh ok d1 d2 e hk hd dd ry dz rv hl λep' us' vs' s4 e1 e2 I4=>⟨σ,_,I4,q3 ep' us' vs' e1 e2⟩
theorem AU (hu:X.A.units + 64 < cLine) (ho:PE X a td) (hi:PE X b ty) (hs:yY b):PE X (.Subscript a b pos) (GB X td ty):=by
 intro pins s σ H Q I h;refine w4 PySem.F.slot_dict_getitem.lookup hs (bQ (ho pins s σ H _ I h) λu s1 ⟨x,H1,I1,rx,q1⟩=>bQ (hi pins s1 σ H1 _ I1 q1) λiv s2 hq=>?_);obtain⟨y,H2,I2,ry,p,ep,F,kvs,us,vs,d,z,ex,fh,ok,d1,d2,e,hk,hd,dd,hz,q2⟩:=hq;subst ex;obtain rfl:u=Value.ref p:=rx;refine⟨?_,yp (by omega) I2 fh ok d1 d2 e hk hd dd ry hz λw' u' s3 I3 dw rw'=>⟨w',H2,I3,rw',q2 w' dw⟩⟩;obtain⟨_,_,es,dh,_⟩:=fF I2 e
 exact dh.typeIs
def iZ (i:Nat):bG:=λD env=>D.nx (env.set i (some (.dic [])))
theorem pR {x:Str} {pd:Pos} (i:Nat) (hN:X.N.Nodup) (hi:X.N[i]?=some x:=by rfl) (hx:Loc X.env.scope x:=by first|exact Or.inl rfl|exact Or.inr rfl) (hs:swapsWith (.Dict [] [] pd) (some (.Name x pos')) pos.line X.env=pure false:=by rfl)
  (hf:X.fn x=true\/X.env.scope.names.lookup x=some .local:=by first|exact .inl rfl|exact .inr rfl):QS X (.Assign [.Name x pos'] (.Dict [] [] pd) pos) (iZ i):=by
 refine⟨λB σ F H env D rp h pins s I=>?_⟩;refine lF (i:=i) hN hi hx zr hs hf pins s σ H _ I λp hp=>?_;exact⟨F,_,rp.Ep hp (by rw [I.len];exact (Iy.mp hi).1),h⟩
def aQ (i:Nat) (tk tv:TD):bG:=λZ env=>tv env λv=>∃kvs,env[i]?=some (some (.dic kvs))/\tk env λk=>aI k=true/\dep k<=8/\bO kvs/\kvs.length < sizeLine/\Z.nx (env.set i (some (.dic (putN kvs k v))))
theorem bV {x:Str} {px p2:Pos} (i:Nat) (hu:X.A.units + 64 < cLine) (hb:QE X b tb) (he:QE X e ta) (hN:X.N[i]?=some x:=by rfl) (hv:rY X.env.scope x:=by first | exact Or.inl rfl | exact Or.inr (Or.inl rfl) | exact Or.inr (Or.inr rfl)) (hd:(x == ("__debug__" : Str))=false:=by decide)
  (hcd:(x == ("__classdict__" : Str))=false:=by decide) (hs:swapsWith e (some (.Subscript (.Name x px) b p2)) pos.line X.env=pure false:=by rfl):QS X (.Assign [.Subscript (.Name x px) b p2] e pos) (aQ i tb ta):=by
 refine⟨λB σ F H env Z rp h=>?_⟩;refine df (Bw hu (c4 hN hv hd hcd) bB bB hs) ?_;refine aA (he B σ F H env _ rp h) λy H1 hq0=>?_;obtain⟨F1,d,r1,s1,d1,kvs,hx,q1⟩:=hq0;obtain⟨p,ep,us,vs,g1,g2,g3,g4,g5,g6⟩:=r1.mv i kvs hx;refine⟨.ref p,g1,?_⟩;refine aA (hb B σ F1 H1 env _ r1 q1) λz H2 hq0=>?_;obtain⟨F2,d2,r2,s2,dd2,hk,hdp,ok,hl,q2⟩:=hq0;obtain⟨p',ep',us',vs',e1,e2,e3,e4,e5,e6⟩:=r2.mv i kvs hx
 rw [g1] at e1;cases e1;exact⟨p,ep',F2,kvs,us',vs',d2,d,rfl,r2.fh,ok,e5,e6,e2,hk,hdp,dd2,Den.mono s2 _ _ d1,hl,λep2 as bs f1 f2=>⟨F2,_,r2.pX ep2 hx g1 f1 f2,q2⟩⟩
def cM (i:Nat) (tk:TD):TD:=λenv Q=>∃kvs,env[i]?=some (some (.dic kvs))/\tk env λk=>∃v,aI k=true/\dep k<=8/\bO kvs/\dA kvs k=some v/\Q v
theorem gp {x:Str} {px:Pos} (i:Nat) (hu:X.A.units + 64 < cLine) (hb:QE X b tb) (hs:yY b) (hN:X.N[i]?=some x:=by rfl) (hv:rY X.env.scope x:=by first | exact Or.inl rfl | exact Or.inr (Or.inl rfl) | exact Or.inr (Or.inr rfl)) (hd:(x == ("__debug__" : Str))=false:=by decide)
  (hcd:(x == ("__classdict__" : Str))=false:=by decide):QE X (.Subscript (.Name x px) b pos) (cM i tb):=by
 refine⟨λB σ F H env Q rp h=>?_⟩;refine cj (AU hu (c4 hN hv hd hcd) bB hs) ?_;obtain⟨kvs,hx,h⟩:=h;obtain⟨p,ep,us,vs,g1,g2,g3,g4,g5,g6⟩:=rp.mv i kvs hx;refine⟨.ref p,g1,?_⟩;refine aA (hb B σ F H env _ rp h) λz H2 hq0=>?_;obtain⟨F2,d2,r2,s2,dd2,v,hk,hdp,ok,hl,q2⟩:=hq0;obtain⟨p',ep',us',vs',e1,e2,e3,e4,e5,e6⟩:=r2.mv i kvs hx;rw [g1] at e1;cases e1;exact⟨p,ep',F2,kvs,us',vs',d2,v,rfl,r2.fh,ok,e5,e6,e2,hk,hdp,dd2,hl,λw dw=>⟨F2,v,r2,s2,dw,q2⟩⟩
def HY (x y:D) (Q:D->Prop):Prop:=∃kvs v,x=.obj (qC kvs)/\aI y=true/\dep y<=8/\bO kvs/\dA kvs y=some v/\Q v
def dJ (i:Nat) (t:bG):bG:=λD env=>∃xs,env[i]?=some (some (.dic xs))/\t D (env.set i (some (.d (.obj (qC xs)))))
theorem oB {st:Stmt} {t:bG} (i:Nat) (h:QS X st t):QS X st (dJ i t):=by
 refine⟨λB σ F H env D rp hq=>?_⟩;obtain⟨xs,hx,q⟩:=hq;obtain⟨F',s',r'⟩:=rp.xU hx;exact h B σ F' H _ D r' q
end
section
variable {prog:Program} {w:World} {A:Around} {E:Value->Shared->Prop} {s:Shared}
theorem Ao {d:Addr} {es:Array DictEntry} {ep:Nat} {Q:Value->Shared->Prop} (hd:(d == sysModules)=false) (x:aZ s.heap d es ep)
  (hQ:Q (.ref s.heap.objs.size) { s with heap:=s.heap.push { cls:=.type "dict_keyiterator",data:=.fields #[.ref d,.int 0 0,.int es.size 0,.int ep 0] } }) :
  wpAny (model prog w) A (pyIter (.ref d)) Q E s:=by
 have hT:s.TypeIs (.ref d) "dict":=x.typeIs
 obtain⟨o,ho,hc,hdat⟩:=x;refine wpAny_pyIter_slot hT PySem.F.slot_dict_iter (wpAny_call_entry PySem.F.slot_dict_iter hT PySem.F.entry_dict_iter ?_ (PySem.F.args_dict_iter_1 _));unfold Builtin.«dict.__iter__»;refine Iw ?_;unfold Builtin.Dict.dictSlotNone;refine Iw (wpAny_notOrdered_dict hT ?_);show wpAny _ _ (pure (Value.ref d)) _ _ s
 refine ID ?_;show wpAny _ _ (Builtin.Dict.showsAll d >>= _) _ _ s
 unfold Builtin.Dict.showsAll;rw [if_neg (by rw [hd];exact Bool.false_ne_true)];refine Iw (ID ?_);refine Iw (wpAny_dictEntries ho hdat ?_);refine Iw (wpAny_dictEpoch ho hdat ?_);refine Iw (wpAny_newObj_type (ID ⟨_,rfl,"dict_keyiterator",_,⟨_,IS _ rfl,rfl⟩,PySem.F.slot_dict_keyiterator_next.lookup,?_⟩))
 simpa [rawInt] using hQ
theorem yg {it d:Addr} {i ep:Nat} {es:Array DictEntry} {Q:Option Value->Shared->Prop} (hit:s.heap.IsKeyIter it d i es.size ep) (x:aZ s.heap d es ep) (hlt':i < es.size)
  (hQ:∀h',h'.IsKeyIter it d (i + 1) es.size ep->Heap.SameBut it s.heap h'->Q (some es[i].key) { s with heap:=h' }) :
  wpAny (model prog w) A (pyNext (.ref it)) Q E s:=by
 obtain⟨o,ho,hc,hd⟩:=id hit;obtain⟨od,hod,hcd,hdd⟩:=id x;unfold pyNext
 refine Iw (wpAny_attempt (Jq (name:=Str.ofString "__next__") hit.typeIs PySem.F.slot_dict_keyiterator_next
  (wpAny_call_entry PySem.F.slot_dict_keyiterator_next hit.typeIs PySem.F.entry_dict_keyiterator_next ?_ (PySem.F.args_dict_keyiterator_next_1 _))))
 refine Iw (ID ?_);refine Iw ?_;refine Iw ?_
 first|refine Iw (wpAny_typeNameOfWhole_keyiter hit.typeIs (ID ?_))|refine Iw (wpAny_typeNameOf_keyiter hit.typeIs (ID ?_))
 refine Iw (wpAny_fieldsOf ho hd ?_);have hown:Builtin.Dict_items.ownsTuple "dict_keyiterator" = false:=by decide
 simp only [hown,IF,if_false];show wpAny _ _ (if (Value.ref d == Value.none)=true then _ else _) _ _ s
 rw [if_neg (show ¬ ((Value.ref d == Value.none)=true) from Bool.false_ne_true)];refine Iw (ID ?_);refine Iw (wpAny_dictEntries hod hdd ?_);rw [if_neg (by simp)];refine Iw (ID ?_);refine Iw (wpAny_dictEpoch hod hdd ?_);rw [if_neg (by simp)];refine ID ?_;simp only [show ¬ ((i:Int) < 0) from by omega,if_false,Int.toNat_natCast,Array.getElem?_eq_getElem hlt'];refine Iw ?_
 first|refine Iw (wpAny_typeNameOfWhole_keyiter hit.typeIs (ID ?_))|refine Iw (wpAny_typeNameOf_keyiter hit.typeIs (ID ?_))
 refine Iw (wpAny_isOneOf_keyiter hit.typeIs ?_);show wpAny _ _ (setField (.ref it) 1 (rawInt ((i:Int) + 1)) >>= _) _ _ s
 refine Iw (wpAny_setField ho hd (by simp) ?_)
 have hit':(s.heap.update it (Obj.mapFields (·.setIfInBounds 1 (rawInt ((i:Int) + 1))))).IsKeyIter it d (i + 1) es.size ep :=
  ⟨_,Heap.get?_update_self _ ho (Obj.isFreed_of_fields (Obj.data_mapFields hd _)),(Obj.cls_mapFields ..).trans hc,by rw [Obj.data_mapFields hd];simp [rawInt]⟩
 refine Iw (wpAny_holding ?_);refine Iw (wpAny_isOneOf_keyiter (s:={ s with heap:=s.heap.update it (Obj.mapFields (·.setIfInBounds 1 (rawInt ((i:Int) + 1)))) }) hit'.typeIs ?_);show wpAny _ _ (pure es[i].key) _ _ _
 exact ID (ID ⟨_,rfl,ID (hQ _ hit' (Heap.SameBut.update ..))⟩)
theorem AI {it d:Addr} {i ep:Nat} {es:Array DictEntry} {Q:Option Value->Shared->Prop} (hh:A.handled=none) (hit:s.heap.IsKeyIter it d i es.size ep) (x:aZ s.heap d es ep) (hge:es.size<=i)
  (hQ:∀h',Heap.ExtBut it s.heap h'->Q none { s with heap:=h' }):wpAny (model prog w) A (pyNext (.ref it)) Q E s:=by
 obtain⟨o,ho,hc,hd⟩:=id hit;obtain⟨od,hod,hcd,hdd⟩:=id x;unfold pyNext
 refine Iw (wpAny_attempt (Jq (name:=Str.ofString "__next__") hit.typeIs PySem.F.slot_dict_keyiterator_next
  (wpAny_call_entry PySem.F.slot_dict_keyiterator_next hit.typeIs PySem.F.entry_dict_keyiterator_next ?_ (PySem.F.args_dict_keyiterator_next_1 _))))
 refine Iw (ID ?_);refine Iw ?_;refine Iw ?_
 first|refine Iw (wpAny_typeNameOfWhole_keyiter hit.typeIs (ID ?_))|refine Iw (wpAny_typeNameOf_keyiter hit.typeIs (ID ?_))
 refine Iw (wpAny_fieldsOf ho hd ?_);have hown:Builtin.Dict_items.ownsTuple "dict_keyiterator" = false:=by decide
 simp only [hown,IF,if_false];show wpAny _ _ (if (Value.ref d == Value.none)=true then _ else _) _ _ s
 rw [if_neg (show ¬ ((Value.ref d == Value.none)=true) from Bool.false_ne_true)];refine Iw (ID ?_);refine Iw (wpAny_dictEntries hod hdd ?_);rw [if_neg (by simp)];refine Iw (ID ?_);refine Iw (wpAny_dictEpoch hod hdd ?_);rw [if_neg (by simp)];refine ID ?_;simp only [show ¬ ((i:Int) < 0) from by omega,if_false,Int.toNat_natCast,Array.getElem?_eq_none hge];refine Iw ?_
 first|refine Iw (wpAny_typeNameOfWhole_keyiter hit.typeIs (ID ?_))|refine Iw (wpAny_typeNameOf_keyiter hit.typeIs (ID ?_))
 show wpAny _ _ (setField (.ref it) 0 .none >>= _) _ _ s
 refine Iw (wpAny_setField ho hd (by simp) ?_);show wpAny _ _ (newExc (.type "StopIteration") [] >>= _) _ _ _
 refine Iw ?_;simp only [newExc,newTuple];refine Iw (wpAny_newObj_type ?_ (by size_fits));refine Iw (m:=firstArgMember _ _) (wpAny_of_eq (a:=Value.none) (by first | rfl | (simp only [firstArgMember];rfl)) ?_);refine wpAny_newObj_type ?_ (by size_fits);simp only [raiseNew];refine Iw (wpAny_handled ?_);rw [show A.in1.handled=none from hh];refine Iw (ID (wpAny_throw ?_));refine Iw (wpAny_isInstance (T:="StopIteration") (b:=true) ⟨_,IS _ rfl,rfl⟩ isSubtype_stop ?_)
 exact ID (hQ _ (((Heap.SameBut.update ..).extBut.push _).push _))
end
def HU (p:Addr) (ep:Nat) (rows:List (Int×V×V)):It :=
 ⟨λi H=>H p=some (eL p ep rows)/\i < rows.length,λi H x H'=>H'=H/\∃row,rows[i]?=some row/\x=row.2.1,λi H=>H p=some (eL p ep rows)/\rows.length<=i⟩
theorem yS {P:Program} {w:World} {K:IB} {tg:Expr} (p it:Addr) (ep:Nat) (rows:List (Int×V×V)):Turn P w K tg (HU p ep rows) [it] it (λi h=>h.IsKeyIter it p i rows.length ep) where
 mem:=by simp
 obj:=λi h st b hb=>by
  have e:b=it:=by simpa using hb
  subst e;obtain⟨o,e,c,d⟩:=st;exact⟨o,e,λv z=>by rw [d] at z;cases z⟩
 keep:=λi h h' st k=>let ⟨o,e,c,d⟩:=st;⟨o,k it (by simp) o e,c,d⟩
 item:=by
  intro X hP hw hK hc i pins s σ H E I hf st hg;subst hP hw hK;obtain⟨e,hlt⟩:=hg;obtain⟨hz,hs,es,dh,pr⟩:=fF I e;have lp:rows.length=es.size:=by simpa using Paired.length pr
  have hlt':i < es.size:=by omega
  obtain⟨row,hr,e1,e2,e3⟩:=gq pr (y:=es[i]) (i:=i) (by simp [hlt']);obtain⟨f0,f1,f2,f3,f4,f5⟩:=hf it (by simp);rw [lp] at st;refine yg st dh hlt' λh' st' sb=>?_;have I1:Inv X pins σ H { s with heap:=h' }:=I.turned (t':=s.toks) (λb o hb e=>(sb.2 b hb).trans e) f0 f1 f3 f4 f5;obtain⟨o,eo,c,d⟩:=id st';rw [<- lp] at st';exact⟨_,rfl,ug (s:={ s with heap:=h' }) eo c d (by decide) ⟨row.2.1,H,I1,e2,⟨rfl,row,hr,rfl⟩,st',λb hb=>(hf b hb).1⟩⟩
 done:=by
  intro X hP hw hK hc i pins s σ H E I hf st hg;subst hP hw hK;obtain⟨e,hge⟩:=hg;obtain⟨hz,hs,es,dh,pr⟩:=fF I e;have lp:rows.length=es.size:=by simpa using Paired.length pr
  obtain⟨f0,f1,f2,f3,f4,f5⟩:=hf it (by simp);rw [lp] at st;exact AI (I.ok.hd hc) st dh (by omega) λh' eb=>⟨rfl,I.turned (t':=s.toks) (λb o hb e=>eb b o hb e) f0 f1 f3 f4 f5⟩
 self:=λ_ _ _ _ _ st h=>wpAny_pyIter_keyiter st h
def HB (tl:TE):TI:=λσ H R=>tl σ H λx H1=>∃p ep rows,x=.ref p/\H1 p=some (eL p ep rows)/\R (HU p ep rows) H1
section
variable {X:Cx} {tg:Expr}
theorem ED {l:Expr} {tl:TE} (hl:PE X l tl):PI X tg l (HB tl):=by
 intro pins s σ H R I h;refine bQ (hl pins s σ H _ I h) λv s1 hq0=>?_;obtain⟨x,H1,I1,r1,q1⟩:=hq0;obtain⟨p,ep,rows,e,hp,q⟩:=q1;subst e;cases r1;obtain⟨hz,hs,es,dh,pr⟩:=fF I1 hp;have lp:rows.length=es.size:=by simpa using Paired.length pr
 refine Ao hs dh ?_;refine⟨s1.heap.objs.size,[s1.heap.objs.size],_,_,H1,rfl,I1.kept (t':=s1.toks) λb o e=>IC _ e,yS p _ ep rows,⟨_,IS _ rfl,rfl,by rw [lp];rfl⟩,λb hb=>?_,q⟩;have e:b=s1.heap.objs.size:=by simpa using hb
 subst e;exact I1.vy (II _) (I1.hok.fresh (II _))
end
section
variable {K:IB} {B:Base} {F H:Hp} {σ:St} {e:En}
def De (x:Addr):IB->Hp->Addr->Prop:=λ_ _ a=>a=x
theorem yH {i:Nat} {a:Addr} (r:Rep K B F H σ e) (h:e[i]?=some (some (.d (.obj (De a))))):σ[i]?=some (some (.ref a)):=by
 obtain⟨v,h1,h2⟩:=r.dv i _ h;simp only [Den] at h2;obtain⟨b,rfl,h3⟩:=h2;have:b=a:=h3 F (ak.refl _);rw [this] at h1;exact h1
theorem Rep.yG (r:Rep K B F H σ e) {i:Nat} {kvs:List (D×D)} (h:e[i]?=some (some (.dic kvs))) :
  ∃p ep us vs,σ[i]?=some (some (.ref p))/\H p=some (eL p ep (br kvs us vs))/\B.H p=none/\ao K F (kvs.map (·.1)) us/\ao K F (kvs.map (·.2)) vs/\Rep K (B.guard p (eL p ep (br kvs us vs))) F H σ (e.set i (some (.d (.obj (De p))))):=by
 obtain⟨p,ep,us,vs,h1,h2,h3,h4,h5,h6⟩:=r.mv i kvs h;have wl:i < e.length:=(Iy.mp h).1;refine⟨p,ep,us,vs,h1,h2,h4,h5,h6,r.f0,r.fh,λb u q=>?_,λa q=>?_,λj y q=>?_,λj y q=>?_,λj k as bs q hjk q1 q2 q3 q4=>?_,λj y q=>?_,λj k as bs q hjk q1 q2 q3 q4=>?_⟩
 ·have q':upd B.H p (eL p ep (br kvs us vs)) b=some u:=q
  by_cases z:b=p
  ·subst z;rw [au] at q';cases q';exact h2
  ·rw [av z] at q';exact r.h0 _ _ q'
 ·rcases q with rfl|q
  ·exact h3
  ·exact r.nf a q
 ·by_cases z:i=j
  ·subst z;rw [IH wl] at q;cases q;refine⟨_,h1,?_⟩;simp only [Den];exact⟨p,rfl,λ_ _=>rfl⟩
  ·rw [IA z] at q;exact r.dv j y q
 ·have z:=aS (λ_ w=>by cases w) q;rw [IA z] at q;obtain⟨p2,us2,g1,g2,g3,g4,g5⟩:=r.ov j y q;have:p2≠p:=λw=>by subst w;rw [h2] at g2;cases g2
  exact⟨p2,us2,g1,g2,g3,by show upd B.H p _ p2=none;rw [av this];exact g4,g5⟩
 ·have z1:=aS (λ_ w=>by cases w) q1;have z2:=aS (λ_ w=>by cases w) q2;rw [IA z1] at q1;rw [IA z2] at q2;exact r.ne j k as bs q hjk q1 q2 q3 q4
 ·have z:i≠j:=aR (λ_ w=>by cases w) q;rw [IA z] at q;obtain⟨p2,ep2,as,bs,g1,g2,g3,g4,g5,g6⟩:=r.mv j y q;have:p2≠p:=λw=>by subst w;exact r.nm j i y kvs p2 (Ne.symm z) q h g1 h1
  exact⟨p2,ep2,as,bs,g1,g2,g3,by show upd B.H p _ p2=none;rw [av this];exact g4,g5,g6⟩
 ·have z1:=aR (λ_ w=>by cases w) q1;have z2:=aR (λ_ w=>by cases w) q2;rw [IA z1] at q1;rw [IA z2] at q2;exact r.nm j k as bs q hjk q1 q2 q3 q4
theorem Rep.uO {p:Addr} {ep:Nat} {us vs:List V} {i:Nat} {kvs:List (D×D)} (r:Rep K (B.guard p (eL p ep (br kvs us vs))) F H σ e) (hb:B.H p=none) (h:e[i]?=some (some (.d (.obj (De p))))) (h5:ao K F (kvs.map (·.1)) us) (h6:ao K F (kvs.map (·.2)) vs) :
  Rep K B F H σ (e.set i (some (.dic kvs))):=by
 have wl:i < e.length:=(Iy.mp h).1;have hs:=yH r h;obtain⟨r',hp,hf⟩:=r.kD hb
 have oth:∀(j:Nat) (ys:List (D×D)),e[j]?=some (some (.dic ys))->σ[j]?≠some (some (.ref p)):=λj ys q z=>by
  obtain⟨q1,_,_,_,h1,_,_,h4,_⟩:=r.mv j ys q;rw [z] at h1;cases h1;have h4':upd B.H p (eL p ep (br kvs us vs)) p=none:=h4;rw [au] at h4';cases h4'
 refine⟨r'.f0,r'.fh,r'.h0,r'.nf,λj y q=>?_,λj y q=>?_,λj k as bs q hjk q1 q2 q3 q4=>?_,λj y q=>?_,λj k as bs q hjk q1 q2 q3 q4=>?_⟩
 ·have z:=kK (λ_ w=>by cases w) q;rw [IA z] at q;exact r'.dv j y q
 ·have z:=aS (λ_ w=>by cases w) q;rw [IA z] at q;exact r'.ov j y q
 ·have z1:=aS (λ_ w=>by cases w) q1;have z2:=aS (λ_ w=>by cases w) q2;rw [IA z1] at q1;rw [IA z2] at q2;exact r'.ne j k as bs q hjk q1 q2 q3 q4
 ·by_cases z:i=j
  ·subst z;rw [IH wl] at q;cases q;exact⟨p,ep,us,vs,hs,hp,hf,hb,h5,h6⟩
  ·rw [IA z] at q;exact r'.mv j y q
 ·by_cases z1:i=j
  ·subst z1;rw [IA hjk] at q2;rw [hs] at q3;cases q3;exact oth k bs q2 q4
  ·rw [IA z1] at q1
   by_cases z2:i=k
   ·subst z2;rw [hs] at q4;cases q4;exact oth j as q1 q3
   ·rw [IA z2] at q2;exact r'.nm j k as bs q hjk q1 q2 q3 q4
end
section
variable {X:Cx} {a b:Expr} {ta tb:TD} {pos:Pos} {t:bG}
def mU (i:Nat) (g:mT) (t:bG):bG:=λZ env=>∃kvs,env[i]?=some (some (.dic kvs))/\∀p,turns g t { Z with nx:=λe=>e[i]?=some (some (.d (.obj (De p))))/\Z.nx (e.set i (some (.dic kvs))) } (kvs.map (·.1)) (env.set i (some (.d (.obj (De p)))))
theorem xa {x:Str} {px:Pos} {tg:Expr} {body:List Stmt} {g:mT} (i:Nat) (hp:PassesOwn (model X.prog X.w) X.A X.env X.xe) (hc:X.calm=true) (hg:QG X tg g) (hb:m7 X body t) (hN:X.N[i]?=some x:=by rfl) (hv:rY X.env.scope x:=by first | exact Or.inl rfl | exact Or.inr (Or.inl rfl) | exact Or.inr (Or.inr rfl)) (hd:(x == ("__debug__" : Str))=false:=by decide)
  (hcd:(x == ("__classdict__" : Str))=false:=by decide) (hs:∀z,Jt (.Name x px) X.env z=pure z:=by intro _;rfl):QS X (.For tg (.Name x px) body [] pos) (mU i g t):=by
 refine⟨λB σ F H env Z rp h=>df (lM hp hc (ED (c4 hN hv hd hcd)) uo dI hs) ?_⟩;obtain⟨kvs,hx,h⟩:=h;obtain⟨p,ep,us,vs,h1,h2,h4,h5,h6,r0⟩:=rp.yG hx;refine⟨.ref p,h1,p,ep,br kvs us vs,rfl,h2,?_⟩;have q1:=h p;generalize hB:B.guard p (eL p ep (br kvs us vs))=B' at r0;generalize hD:({ Z with nx:=λe=>e[i]?=some (some (.d (.obj (De p))))/\Z.nx (e.set i (some (.dic kvs))) }:Ends3)=Z' at q1;have hBp:B'.H p=some (eL p ep (br kvs us vs)):=by rw [<- hB];exact au
 have fnx:∀σ2 H2,(RS X B' Z').nx σ2 H2->ak F F->(∃F' env',Rep X.K B' F' H2 σ2 env'/\ak F F'/\Z'.nx env')->(RS X B Z).nx σ2 H2:=by
  rintro σ2 H2 _ _ ⟨F',env',r',s',q'⟩;rw [<- hD] at q';rw [<- hB] at r';exact⟨F',_,r'.uO h4 q'.1 (ao.mono s' _ _ h5) (ao.mono s' _ _ h6),q'.2⟩
 have frt:∀v H2,(RS X ⟨F,B'.H,B'.N,B'.nb⟩ Z').rt v H2->(RS X B Z).rt v H2:=by
  rintro v H2 ⟨F',d,r',hd',q'⟩;have r2:=Rep.back (B:=B') r0.f0 r';rw [<- hB] at r2;rw [<- hD] at q';exact⟨F',d,(r2.kD h4).1,hd',q'⟩
 have fin:∀σ2 H2,(∃F' env',Rep X.K ⟨F,B'.H,B'.N,B'.nb⟩ F' H2 σ2 env'/\Z'.nx env')->(RS X B Z).nx σ2 H2:=by
  rintro σ2 H2 ⟨F',env',r',q'⟩;have r2:=Rep.back (B:=B') r0.f0 r';exact fnx σ2 H2 ⟨F',env',r2,q'⟩ (ak.refl _) ⟨F',env',r2,r'.f0,q'⟩
 have hl:(br kvs us vs).length=(kvs.map (·.1)).length:=by rw [cI h5 h6,IK]
 generalize hxs:kvs.map (·.1)=xs at q1 h5 hl;refine⟨λi m σ H=>m=xs.length - i/\i<=xs.length/\∃F2 env,Rep X.K ⟨F,B'.H,B'.N,B'.nb⟩ F2 H σ env/\turns g t Z' (xs.drop i) env,⟨xs.length,by simp,Ju _,F,_,r0.now,by simpa using q1⟩,?_⟩
 rintro j m σ2 H2 ⟨rfl,hi2,F2,env2,r2,q2⟩;have hcell:H2 p=some (eL p ep (br kvs us vs)):=r2.h0 _ _ hBp
 by_cases hlt:j < xs.length
 ·have hxi:xs[j]?=some xs[j]:=by simp [hlt]
  rw [drop_cons hxi] at q2;refine .inr ⟨⟨hcell,by omega⟩,λσ' H'=>∃F3 env,Rep X.K ⟨F,B'.H,B'.N,B'.nb⟩ F3 H' σ' env/\turns g t Z' (xs.drop (j + 1)) env,λσ' H' ⟨F',env',r',q'⟩=>⟨xs.length - (j + 1),by omega,rfl,by omega,F',env',r',q'⟩,λz H' hz=>?_⟩;obtain⟨rfl,row,hr,rfl⟩:=hz;obtain⟨kv,k1,k2,k3,k4⟩:=fD hr;obtain⟨v,hv',dv'⟩:=h5.get hxi;rw [k3] at hv';cases hv';refine gN (hg _ σ2 F2 _ env2 _ _ _ r2 (Den.mono r2.f0 _ _ dv') q2) λσ3 H3 hq0=>?_
  obtain⟨F3,env3,r3,s3,q3⟩:=hq0;exact ib (hb _ σ3 F3 H3 env3 _ r3 q3) (λ_ _ q=>q) (λv H q=>frt v H q) (λv H q=>fin v H q) (λ_ _ q=>q)
 ·have e:j=xs.length:=by omega
  subst e;rw [JE (II _)] at q2;exact .inl ⟨⟨hcell,by omega⟩,fin _ _ ⟨F2,env2,r2,q2⟩⟩
def FU (neg:Bool) (y x:D) (Q:D->Prop):Prop:=∃kvs,x=.obj (qC kvs)/\aI y=true/\dep y<=8/\bO kvs/\Q (.bl (if neg then !(kvs.any λkv=>aT kv.1 y) else kvs.any λkv=>aT kv.1 y))
def FO (X:Cx) (neg:Bool):R2:=λy x H Q=>∃p ep F kvs us vs d,x=.ref p/\ak F H/\bO kvs/\ao X.K F (kvs.map (·.1)) us/\ao X.K F (kvs.map (·.2)) vs/\H p=some (eL p ep (br kvs us vs)) /\
 aI d=true/\dep d<=8/\Den X.K F d y/\Q (.bl (if neg then !(kvs.any λkv=>aT kv.1 d) else kvs.any λkv=>aT kv.1 d)) H
theorem vZ (hu:X.A.units + 64 < cLine):jm X (compareOp .NotIn) (FO X true):=by
 intro pins s σ H x y v u Q I rx ry h;obtain⟨p,ep,F,kvs,us,vs,d,rfl,fh,ok,d1,d2,e,hk,hd,dd,h⟩:=h;cases ry;show wpAny _ _ ((do return Value.bool (!(<- contains (.ref p) v))):Sem Value) _ _ s
 exact Iw (EV (by omega) I fh ok d1 d2 e hk hd dd rx λs' I'=>ID ⟨.bl _,H,I',rfl,h⟩)
theorem Es (neg:Bool):uN X (FO X neg) (FU neg):=by
 intro B σ F H env Q d d' x y Z rp h1 h2 hz hf;obtain⟨kvs,rfl,hk,hd,ok,q⟩:=hf;simp only [Den] at h2;obtain⟨p,rfl,hp⟩:=h2;obtain⟨ep,us,vs,hg,g1,g2⟩:=hp F (ak.refl _);exact⟨p,ep,F,kvs,us,vs,d,rfl,rp.fh,ok,g1,g2,rp.fh _ _ hg,hk,hd,h1,hz _ H F _ rp (ak.refl _) gv q⟩
theorem Ej (hu:X.A.units + 64 < cLine) (ha:QE X a ta) (hb:QE X b tb) (hm:behindInMarks .NotIn b=false:=by rfl):QT X (.Compare a [.NotIn] [b] pos) (aN (aH (FU true) ta tb)):=hJ (vZ hu) (Es true) ha hb hm
end
theorem bO.nil:bO []:=⟨λ_ h=>absurd h Jg,λi j x y h=>by simp at h⟩
theorem BO {a b:D} (ha:aI a=true) (hb:aI b=true):aT a b=true↔a=b:=⟨λh=>cG a b ha h hb,λh=>h▸fy a ha⟩
theorem bO.put {kvs:List (D×D)} {k v:D} (h:bO kvs) (hk:aI k=true) (hd:dep k<=8):bO (putN kvs k v):=by
 unfold putN
 by_cases c:(kvs.any λkv=>aT kv.1 k)=true
 ·rw [if_pos c];refine⟨λkv m=>?_,λi j x y hx hy e=>?_⟩
  ·obtain⟨kw,m',rfl⟩:=Jn.mp m
   split
   ·exact h.key kw m'
   ·exact h.key kw m'
  ·rw [IJ] at hx hy;obtain⟨x',hx',rfl⟩:=Js.mp hx;obtain⟨y',hy',rfl⟩:=Js.mp hy;refine h.dif i j x' y' hx' hy' ?_
   split at e <;> split at e <;> exact e
 ·rw [if_neg c];have no:∀(i:Nat) (x:D×D),kvs[i]?=some x->x.1≠k:=λi x hx e=>c (List.any_eq_true.mpr ⟨x,IG hx,by rw [e];exact fy k hk⟩);refine⟨λkv m=>?_,λi j x y hx hy e=>?_⟩
  ·rcases Jc.mp m with m|m
   ·exact h.key kv m
   ·rw [IY] at m;subst m;exact⟨hk,hd⟩
  ·have at_:∀(i:Nat) (x:D×D),(kvs ++ [(k,v)])[i]?=some x->kvs[i]?=some x\/(i=kvs.length/\x.1=k):=λi x hx=>by
    by_cases l:i < kvs.length
    ·rw [IW l] at hx;exact .inl hx
    ·have:=(Iy.mp hx).1;have e:i=kvs.length:=by simp at this;omega
     subst e;rw [IQ (II _),Nat.sub_self] at hx;cases hx;exact .inr ⟨rfl,rfl⟩
   rcases at_ i x hx with a|⟨a,a'⟩ <;> rcases at_ j y hy with b|⟨b,b'⟩
   ·exact h.dif i j x y a b e
   ·exact absurd (e.trans b') (no i x a)
   ·exact absurd (e.symm.trans a') (no j y b)
   ·omega
theorem iB {kvs:List (D×D)} {k k' v:D} (h:bO kvs) (hk:aI k=true) (hk':aI k'=true):dA (putN kvs k v) k'=if aT k k'=true then some v else dA kvs k':=by
 have find:∀(l:List (D×D)),(∀kv∈l,aI kv.1=true)->dA (l.map (λkv=>if aT kv.1 k=true then (kv.1,v) else kv)) k'=if aT k k'=true/\(l.any λkv=>aT kv.1 k)=true then some v else dA l k':=λl=>by
  induction l with
  | nil=>intro _;simp [dA]
  | cons x r ih =>
   intro hl;have ih':=ih λkv m=>hl kv (IT _ m);have hx:=hl x (Jb ..);unfold dA at ih' ⊢;rw [Ji,List.find?_cons,List.find?_cons]
   by_cases c1:aT x.1 k=true
   ·rw [if_pos c1];have e:=cG _ _ hx c1 hk
    by_cases c2:aT x.1 k'=true
    ·simp only [c2,Option.map_some];rw [if_pos ⟨e▸c2,by rw [List.any_cons,c1];rfl⟩]
    ·have c3:¬ aT k k'=true:=λq=>c2 (e▸q);simp only [c2];rw [ih',if_neg (λq=>c3 q.1),if_neg (λq=>c3 q.1)]
   ·rw [if_neg c1]
    by_cases c2:aT x.1 k'=true
    ·have c3:¬ aT k k'=true:=λq=>c1 (by
      have e1:=cG _ _ hx c2 hk';have e2:=cG _ _ hk q hk'
      rw [e1,<- e2];exact fy k hk)
     simp only [c2,Option.map_some];rw [if_neg (λq=>c3 q.1)]
    ·simp only [c2];rw [ih',List.any_cons];have:aT x.1 k=false:=by simpa using c1
     rw [this,Bool.false_or]
 unfold putN
 by_cases c:(kvs.any λkv=>aT kv.1 k)=true
 ·rw [if_pos c,find kvs λkv m=>(h.key kv m).1];simp only [c,and_true]
 ·rw [if_neg c];unfold dA;rw [List.find?_append]
  by_cases c2:aT k k'=true
  ·rw [if_pos c2]
   have none:kvs.find? (λkv=>aT kv.1 k')=none:=by
    rw [List.find?_eq_none];intro kv m q;refine c (List.any_eq_true.mpr ⟨kv,m,?_⟩);have e1:=cG _ _ (h.key kv m).1 q hk';have e2:=cG _ _ hk c2 hk';rw [e1,<- e2];exact fy k hk
   rw [none];simp [c2]
  ·rw [if_neg c2]
   cases kvs.find? (λkv=>aT kv.1 k') with
   | some z=>rfl
   | none=>simp [c2]
theorem ky {kvs:List (D×D)} {k:D}:(kvs.any λkv=>aT kv.1 k)=(dA kvs k).isSome:=by
 unfold dA;rw [Option.isSome_map,Bool.eq_iff_iff,List.find?_isSome,List.any_eq_true]
theorem cR {kvs:List (D×D)} {k v:D}:(putN kvs k v).length<=kvs.length + 1:=by
 unfold putN
 split
 ·simp
 ·simp
section
variable {X:Cx} {a e o:Expr} {ta te to:TD} {pos apos cpos:Pos}
def Hw (X:Cx) (neg:Bool):R2:=λx y H Q=>∃(F:Hp) (d:D) (ds:List D) (vs:List V) (p:Addr),ak F H/\Den X.K F d x/\y=.ref p/\fw X.K H p vs/\ao X.K F ds vs/\X.A.units + 64 < cLine/\b8 ds<=60/\dep d<=60/\Q (.bl (if neg then !ds.any (λe=>aT e d) else ds.any λe=>aT e d)) H
theorem AS:jm X (compareOp .NotIn) (Hw X true):=by
 intro pins s σ H x y v u Q I rx ry h;obtain⟨F,d,ds,vs,p,fh,dx,rfl,hq,dl,hu,h1,h2,q⟩:=h;cases ry;obtain⟨its,r,pl,hz⟩:=I.list hq;refine SeqAt.notIn_listAt (ja its ds d) pl.isList (λw hw=>nT I fh hu h1 h2 dl r dx rx w (by simpa using hw)) ⟨.bl _,H,I,rfl,?_⟩;rw [show its.toArray.any (ja its ds d)=its.any (ja its ds d) by simp,any_map',oi I fh (by omega) dl r,<- any_map'];exact q
def uR (neg:Bool) (i:Nat) (ta:TD):TB:=λenv Q=>ta env λx=>∃xs,env[i]?=some (some (.own xs))/\b8 xs<=60/\dep x<=60/\Q (if neg then !xs.any (λe=>aT e x) else xs.any λe=>aT e x)
theorem zc {x:Str} {px:Pos} (i:Nat) (hu:X.A.units + 64 < cLine) (ha:QE X a ta) (hN:X.N[i]?=some x:=by rfl) (hv:rY X.env.scope x:=by first | exact Or.inl rfl | exact Or.inr (Or.inl rfl) | exact Or.inr (Or.inr rfl)) (hd:(x == ("__debug__" : Str))=false:=by decide)
  (hcd:(x == ("__classdict__" : Str))=false:=by decide) (hm:behindInMarks .NotIn (.Name x px)=false:=by rfl):QT X (.Compare a [.NotIn] [.Name x px] pos) (uR true i ta):=by
 refine⟨λB σ F H env Q rp h=>p8 (kO AS bB (c4 hN hv hd hcd) hm) ?_⟩;refine aA (ha B σ F H env _ rp h) λy H1 hq0=>?_;obtain⟨F1,d,r1,s1,d1,xs,hx,l1,l2,q1⟩:=hq0;obtain⟨p,vs,g1,g2,g3,g4,g5⟩:=r1.ov i xs hx;exact⟨.ref p,g1,F1,d,xs,vs,p,r1.fh,d1,rfl,fw.of g2,g5,hu,l1,l2,_,rfl,F1,r1,s1,q1⟩
def nW (to te:TD):TD:=λenv Q=>to env λx=>∃ds,x=.lst ds/\b8 ds<=60/\te env λy=>dep y<=60/\∃j:Nat,(ds[j]?.map λd=>aT d y)=some true/\(∀m,m < j->(ds[m]?.map λd=>aT d y)=some false)/\Q (.int j)
theorem vV (hu:X.A.units + 64 < cLine) (ho:QE X o to) (he:QE X e te) (m:M1 X o "index" apos e cpos:=by exact⟨rfl,rfl,rfl,rfl⟩):QE X (.Call (.Attribute o "index" apos) [e] [] cpos) (nW to te):=by
 refine⟨λB σ F H env Q rp h pins s I=>?_⟩;refine wpAny_Call_method m.base m.few m.line PySem.F.plainAttrs_list PySem.F.slot_list_index PySem.F.type_list_index (bQ (ho B σ F H env _ rp h pins s I) λu s1 hq0=>?_);obtain⟨x,H1,I1,rx,F1,d,r1,z1,d1,ds,e1,hds,q1⟩:=hq0;subst e1;simp only [Den] at d1;obtain⟨p,vs,rfl,hq,dl⟩:=d1;cases rx;obtain⟨its0,_,⟨o0,n0,g0,c0,nd0,_⟩,_⟩:=I1.list (r1.fh.seq hq);refine⟨⟨o0,g0,c0⟩,λb eb=>by cases eb;exact⟨o0,g0,nd0⟩,?_⟩
 rw [m.trees];refine Calls.callWith_builtin rfl (Calls.evalArgs_plain (JO (bQ (he B σ F1 H1 env _ r1 q1 pins s1 I1) λiv s2 ⟨y,H2,I2,ry,F2,d',r2,z2,d2,hy,j,hj,hno,q2⟩=>Calls.spliced_nil ?_)));have hq2:=z2.seq hq;have dl2:=ao.mono z2 _ _ dl;obtain⟨its,rv,⟨⟨oc,od,odt,osl⟩,n,g,c,nd,dd⟩,hz⟩:=I2.list (r2.fh.seq hq2)
 replace c:oc=.type "list":=c
 replace dd:odt=.seq its.toArray n:=dd
 subst c dd;have l1:=dl2.length;have l2:=rv.length
 have at_:∀(k:Nat) (b:Bool),(ds[k]?.map λd=>aT d d')=some b->∃hk:k < its.length,ja its ds d' its[k]=b:=λk b hb=>by
  obtain⟨w,hw,rfl⟩:=Js.mp hb;have hk:k < its.length:=by have:=(Iy.mp hw).1;omega
  exact⟨hk,mV I2 r2.fh (by omega) dl2 rv hw (IE hk)⟩
 obtain⟨hjl,hit⟩:=at_ j true hj
 have hsz:(j:Int) < 2 ^ 63 - 1:=by
  have:j < sizeLine:=by omega
  rw [IX] at this;omega
 refine call_meets PySem.F.slot_list_index ⟨_,g,rfl⟩ PySem.F.entry_list_index (PySem.F.args_list_index_2 _ _) (SeqAt.list_indexAt p its.toArray n od osl iv (ja its ds d') j (by simpa using hjl) hsz (by simpa using hit) (λk hk hkj=>by
  obtain⟨hkl,z⟩:=at_ k false (hno k hkj)
  simpa using z)) ⟨g,λw hw=>xT I2 r2.fh _ (by simp only [units_in1];omega) hds hy dl2 rv d2 ry w (by simpa using hw),?_⟩
 exact⟨.int _,H2,I2.tok _,⟨_,rfl⟩,F2,_,r2,z1.trans z2,bq,q2⟩
end
section
variable {X:Cx} {a e:Expr} {es:List Expr} {ta te:TD} {ts:d7} {p pos apos cpos:Pos}
def jN (neg:Bool) (i:Nat) (ta:TD):TB:=λenv Q=>ta env λx=>∃kvs,env[i]?=some (some (.dic kvs))/\aI x=true/\dep x<=8/\bO kvs/\Q (if neg then !(kvs.any λkv=>aT kv.1 x) else kvs.any λkv=>aT kv.1 x)
theorem oK {x:Str} {px:Pos} (i:Nat) (hu:X.A.units + 64 < cLine) (ha:QE X a ta) (hN:X.N[i]?=some x:=by rfl) (hv:rY X.env.scope x:=by first | exact Or.inl rfl | exact Or.inr (Or.inl rfl) | exact Or.inr (Or.inr rfl)) (hd:(x == ("__debug__" : Str))=false:=by decide)
  (hcd:(x == ("__classdict__" : Str))=false:=by decide) (hm:behindInMarks .NotIn (.Name x px)=false:=by rfl):QT X (.Compare a [.NotIn] [.Name x px] pos) (jN true i ta):=by
 refine⟨λB σ F H env Q rp h=>p8 (kO (vZ hu) bB (c4 hN hv hd hcd) hm) ?_⟩;refine aA (ha B σ F H env _ rp h) λy H1 hq0=>?_;obtain⟨F1,d,r1,s1,d1,kvs,hx,l1,l2,ok,q1⟩:=hq0;obtain⟨p,ep,us,vs,g1,g2,g3,g4,g5,g6⟩:=r1.mv i kvs hx;exact⟨.ref p,g1,p,ep,F1,kvs,us,vs,d,rfl,r1.fh,ok,g5,g6,g2,l1,l2,d1,_,rfl,F1,r1,s1,q1⟩
end
def mH (a:Addr):HO:=.ext λh=>∃(r:Int) (t:Tok) (n:Nat),h.get? a=some { cls:=.type "list",data:=.seq #[.int r t] n }
def c8:IB->Hp->Addr->Prop:=λ_ G a=>G a=some (mH a)
theorem wR {P:Program} {w:World} {H:Hp} {h:Heap} {a:Addr} {r:Int} {t:Tok} {n:Nat} (e:h.get? a=some { cls:=.type "list",data:=.seq #[.int r t] n }):bC P w H h a (mH a):=by
 refine⟨⟨r,t,n,e⟩,⟨_,e⟩,?_⟩
 rintro h1 h2 ⟨r,t,n,e⟩ k;exact⟨r,t,n,k _ e⟩
section
variable {X:Cx} {a b e:Expr} {ta te:TD} {pos:Pos}
theorem y9 {H:Hp} {p:Addr} {o:HO} (h:H p=some o):upd H p o=H:=by
 funext b
 by_cases e:b=p
 ·subst e;rw [au,h]
 ·rw [av e]
def nE (i:Nat) (te:TD):bG:=λZ env=>te env λx=>∃r:Int,x=.int r/\Z.nx (env.set i (some (.d (.obj c8))))
theorem uP {x:Str} {pos' pl:Pos} (i:Nat) (hN:X.N.Nodup) (he:QE X e te) (hi:X.N[i]?=some x:=by rfl) (hx:Loc X.env.scope x:=by first|exact Or.inl rfl|exact Or.inr rfl) (hs:swapsWith (.List [e] pl) (some (.Name x pos')) pos.line X.env=pure false:=by rfl)
  (hf:X.fn x=true\/X.env.scope.names.lookup x=some .local:=by first|exact .inl rfl|exact .inr rfl) (hst:starEach [e] X.env=(false,eval e X.env) :: starEach [] X.env:=by exact aV rfl):QS X (.Assign [.Name x pos'] (.List [e] pl) pos) (nE i te):=by
 refine⟨λB σ F H env Z rp h pins s I=>?_⟩;refine wpAny_Assign_Name ?_ hs;refine wpAny_List_spliced (bQ (dO bB f6 hst pl pins s σ H (λvs H1=>∃r,vs=[.int r]/\∃F1,Rep X.K B F1 H1 σ env/\Z.nx (env.set i (some (.d (.obj c8))))) I ?_) λus s1 ⟨vs,H1,I1,rv,r,ev,F1,r1,q⟩=>?_)
 ·refine aA (he B σ F H env _ rp h) λv H1 hq0=>?_;obtain⟨F1,d,r1,s1,d1,r,ed,q⟩:=hq0;subst ed;simp only [Den] at d1;subst d1;exact⟨r,rfl,F1,r1,q⟩
 ·subst ev;obtain⟨u,rfl,ru⟩:=rv.one;obtain⟨t,rfl⟩:=ru;refine⟨by show 1<=sizeLine;simp [IX],?_⟩;have hfr:H1 s1.heap.objs.size=none:=I1.hok.fresh (II _);have I2:=I1.laid (a:=s1.heap.objs.size) (o:=mH s1.heap.objs.size) (h':=s1.heap.push { cls:=.type "list",data:=.seq [Value.int r t].toArray }) (t':=s1.toks) (λb u e=>IC _ e) (II _) (wR (r:=r) (t:=t) (n:=0) (IS _ rfl))
  refine og I2 hN hi hx (v:=.ref s1.heap.objs.size) rfl (λs2 I3=>⟨_,_,I3,?_⟩) hf;obtain⟨r2,s2'⟩:=r1.laid (o:=mH s1.heap.objs.size) hfr;refine⟨_,_,r2.set (i:=i) (x:=.obj c8) ?_ ?_,q⟩
  ·simp only [Den];exact⟨_,rfl,λG sG=>sG _ _ au⟩
  ·rw [I.len];exact (Iy.mp hi).1
def Ft:R2:=λx y H Q=>∃p,x=.ref p/\y=.int 0/\H p=some (mH p)/\∀r:Int,Q (.int r) H
theorem wO {pins:List (Addr×Obj)} {σ:St} {H:Hp} {s:Shared} {p:Addr} (I:Inv X pins σ H s) (h:H p=some (mH p)):∃(r:Int) (t:Tok) (n:Nat),s.heap.get? p=some { cls:=.type "list",data:=.seq #[.int r t] n }:=(I.hok p _ h).1
theorem Bq:Ar X Ft:=by
 intro value slice pins s σ H x y v u Q I rx ry h hs;obtain⟨p,rfl,rfl,hp,q⟩:=h;cases rx;obtain⟨t,rfl⟩:=ry;obtain⟨r,t',n,e⟩:=wO I hp;have fin:EP X pins σ Q (.int r t') s:=⟨.int r,H,I,⟨_,rfl⟩,q r⟩;exact item_listR ⟨_,e,rfl,n,rfl⟩ (by omega) (by simp) (by simp) fin hs
def wN (ta:TD):TD:=λenv Q=>ta env λx=>x=.obj c8/\∀r:Int,Q (.int r)
theorem zU {p1:Pos} {j1:_} (ha:QE X a ta) (hs:kA (.Constant (.int 0) j1 p1):=by intro _ _;rfl):QE X (.Subscript a (.Constant (.int 0) j1 p1) pos) (wN ta):=by
 refine⟨λB σ F H env Q rp h=>cj (wI Bq bB u6 hs) ?_⟩;refine aA (ha B σ F H env _ rp h) λx H1 hq0=>?_;obtain⟨F1,d,r1,s1,d1,ed,q⟩:=hq0;subst ed;simp only [Den] at d1;obtain⟨p,rfl,hp⟩:=d1;exact⟨p,rfl,rfl,r1.fh _ _ (hp F1 (ak.refl _)),λr=>⟨F1,_,r1,s1,bq,q r⟩⟩
def Fj:V->V->V->Hp->(Hp->Prop)->Prop:=λo i v H Q=>∃p r,o=.ref p/\i=.int 0/\v=.int r/\H p=some (mH p)/\Q H
theorem yo:C1 X Fj:=by
 intro pins s σ H o i v ov iv u Q I ro ri rv h;obtain⟨p,r,rfl,rfl,rfl,hp,q⟩:=h;cases ro;obtain⟨t,rfl⟩:=ri;obtain⟨t2,rfl⟩:=rv;obtain⟨r0,t0,n,e⟩:=wO I hp
 have e2:(s.heap.update p (Obj.mapSeq (·.setIfInBounds 0 (.int r t2)))).get? p=some { cls:=.type "list",data:=.seq #[.int r t2] n }:=by
  rw [Heap.get?_update_self _ e (by rfl)];rfl
 have I':Inv X pins σ (upd H p (mH p)) { s with heap:=s.heap.update p (Obj.mapSeq (·.setIfInBounds 0 (.int r t2))),toks:=s.toks } :=
  I.write (x:=p) (e:=p) (by rw [hp];trivial) (.inl rfl) (λb u hb q=>(Heap.get?_update_other _ _ (Ne.symm hb)).trans q) ⟨_,e2⟩ (wR e2)
 rw [y9 hp] at I';exact PySem.W.ki_setAt e (by omega) (by decide) (by simp) ⟨_,I',q⟩
def oH (ta te:TD):bG:=λZ env=>te env λy=>∃r:Int,y=.int r/\ta env λx=>x=.obj c8/\Z.nx env
theorem vB {p1 p2:Pos} {j1:_} (ha:QE X a ta) (he:QE X e te) (hs:swapsWithSole [.Subscript a (.Constant (.int 0) j1 p1) p2] e pos.line X.env=pure false:=by rfl) (hw:swappedStores [.Subscript a (.Constant (.int 0) j1 p1) p2] e X.env=pure none:=by rfl)
  (h1:(assignEach [.Subscript a (.Constant (.int 0) j1 p1) p2] X.env).map (·.2)=[assign (.Subscript a (.Constant (.int 0) j1 p1) p2) X.env]:=by rfl)
  (hg:∀v,assign (.Subscript a (.Constant (.int 0) j1 p1) p2) X.env v=(do
   let ov <- holding [v] (eval a X.env)
   let iv <- holding [v,ov] (eval (.Constant (.int 0) j1 p1) X.env)
   standAt p2
   holding [v,ov,iv] (setItem ov iv v)
   release [v,ov,iv] []):=by intro _;rfl):QS X (.Assign [.Subscript a (.Constant (.int 0) j1 p1) p2] e pos) (oH ta te):=by
 refine⟨λB σ F H env Z rp h=>?_⟩;refine df (vE bB (Ah bB u6 yo hg) hs hw h1) ?_;refine aA (he B σ F H env _ rp h) λy H1 hq0=>?_;obtain⟨F1,d,r1,s1,d1,r,ed,q1⟩:=hq0;subst ed;simp only [Den] at d1;subst d1;refine aA (ha B σ F1 H1 env _ r1 q1) λx H2 hq0=>?_;obtain⟨F2,d2,r2,s2,dd2,ed,q2⟩:=hq0;subst ed;simp only [Den] at dd2;obtain⟨p,rfl,hp⟩:=dd2;exact⟨p,r,rfl,rfl,rfl,r2.fh _ _ (hp F2 (ak.refl _)),F2,env,r2,q2⟩
end
theorem Bs {prog:Program} {w:World} {A:Around} {E:Value->Shared->Prop} {s:Shared} {value slice:Expr} {o i:Value} {T id:String} {Q:Value->Shared->Prop}
  (hT:s.TypeIs o T) (hl:typeLookup (.type T) "__getitem__" = pure (some (.builtin id))) (hs:subscripted slice false o i=operate [o,i] (getItem o i)) (h:wpAny (model prog w) A (getItem o i) Q E s) :
  wpAny (model prog w) A (subscriptTail value slice o i) Q E s:=by
 unfold subscriptTail;refine Iw ?_;rw [getitemInPython_of_ne hT.not_modules];refine Iw (wpAny_specialOf hT hl ?_)
 have fin:wpAny (model prog w) A (subscripted slice false o i) (λr s₃=>wpAny (model prog w) A (letTemporaryGo value o r >>= λ_=>pure r) Q E s₃) E s:=by
  rw [hs];exact wpAny_operating (Jh h (λr s₃ h₃=>Iw (wpAny_letTemporaryGo (ID h₃))) λ_ _ x=>x)
 first
  | exact ID (Iw fin)
  | exact Iw (ID (Iw fin))
  | exact Iw fin
section
variable {X:Cx} {a b:Expr} {ta tb:TD} {pos:Pos}
def BX (X:Cx):R2:=λx y H Q=>∃p ep F kvs us vs d z,x=.ref p/\ak F H/\bO kvs/\ao X.K F (kvs.map (·.1)) us/\ao X.K F (kvs.map (·.2)) vs/\H p=some (eL p ep (br kvs us vs)) /\
 aI d=true/\dep d<=8/\Den X.K F d y/\dA kvs d=some z/\∀w,Den X.K F z w->Q w H
theorem Ba (hu:X.A.units + 64 < cLine):Ar X (BX X):=by
 intro value slice pins s σ H x y v u Q I rx ry h hs;obtain⟨p,ep,F,kvs,us,vs,d,z,rfl,fh,ok,d1,d2,e,hk,hd,dd,hz,q⟩:=h;cases rx;obtain⟨_,_,es,dh,_⟩:=fF I e;exact Bs dh.typeIs PySem.F.slot_dict_getitem.lookup hs (yp (by omega) I fh ok d1 d2 e hk hd dd ry hz λw' u' s3 I3 dw rw'=>⟨w',H,I3,rw',q w' dw⟩)
def Cc (x y:D) (Q:D->Prop):Prop:=HY x y Q\/cA x y Q
theorem Em:uN X (λx y H Q=>BX X x y H Q\/G9 X.K x y H Q) Cc:=by
 intro B σ F H env Q d d' x y Z rp h1 h2 hz hf;rcases hf with hf|hf
 ·obtain⟨kvs,v,rfl,hk,hd,ok,hv,q⟩:=hf;simp only [Den] at h1;obtain⟨p,rfl,hp⟩:=h1;obtain⟨ep,us,vs,hg,g1,g2⟩:=hp F (ak.refl _);exact .inl ⟨p,ep,F,kvs,us,vs,d',v,rfl,rp.fh,ok,g1,g2,rp.fh _ _ hg,hk,hd,h2,hv,λw dw=>hz w H F v rp (ak.refl _) dw q⟩
 ·exact .inr (Cf B σ F H env Q d d' x y Z rp h1 h2 hz hf)
theorem qO (hu:X.A.units + 64 < cLine) (ha:QE X a ta) (hb:QE X b tb) (hs:kA b):QE X (.Subscript a b pos) (aH Cc ta tb):=⟨λB σ F H env Q rp h=>cj (wI ((Ba hu).or zq) bB bB hs) (two Em ha hb rp GO h)⟩
end
section
variable {X:Cx} {a b:Expr} {ta tb:TD} {p pos:Pos}
theorem CA {pins : List (Addr × Obj)} {σ : St} {H : Hp} {s : Shared} {p : Addr} {n : Int} {v : V} (I : Inv X pins σ H s) (e : H p = some (.dK [(.inl n, v)])) : ∃ ep, Inv X pins σ (upd H p (eL p ep [(hashInt n, .int n, v)])) s := by
  obtain ⟨z, hs, vs, rel, o, es, ep, g, c, dd, kk, pp, nd⟩ := (show bC X.prog X.w H s.heap p (.dK [(.inl n, v)]) from I.hok p _ e);have rel' : KV [((.inl n : Key), v)] vs := rel
  cases rel' with
  | @cons x y xs ys h t =>
    have : ys = [] := by cases t; rfl
    subst this
    have hes : ∃ en, es.toList = [en] /\ (bX X.prog X.w).is y.1 en.key = true /\ en.val = y.2 := by
      cases hh : es.toList with
      | nil => rw [hh] at pp; cases pp
      | cons en r =>
        rw [hh] at pp
        cases pp with
        | cons h1 h2 h3 => cases h3; exact ⟨en, rfl, h1, h2⟩
    obtain ⟨en, he, h1, h2⟩ := hes;have hy : y.1 = .inl n := h.1.symm
    obtain ⟨k, k1, k2⟩ := kk en (by have : en ∈ es.toList := by rw [he]; simp
                                    simpa using this)
    have ek : k = y.1 := (bX X.prog X.w).inj _ _ _ k1 h1;rw [hy] at ek h1;subst ek
    have kv : ∃ t, en.key = Value.int n t := by
      have h1' : Value.isInt n en.key = true := h1
      cases hh : en.key with
      | int a t =>
        rw [hh] at h1';have : a = n := by simp only [Value.isInt, beq_iff_eq] at h1'; first|exact h1'|exact h1'.symm
        subst this; exact ⟨t, rfl⟩
      | _ => rw [hh] at h1'; simp [Value.isInt] at h1'
    have pr : Paired uJ [(hashInt n, V.int n, v)] es.toList := by
      rw [he];exact .cons ⟨k2, kv, by rw [h2]; exact h.2⟩ .nil
    refine ⟨ep, ?_⟩;have := iN (h' := s.heap) (t' := s.toks) (ob := eL p ep [(hashInt n, V.int n, v)]) I (by rw [e]; exact True.intro) (.refl ..) ⟨o, g⟩ ⟨⟨by simp [IX], hs, es, ⟨o, g, c, dd⟩, pr⟩, ⟨o, g⟩, ?_⟩
    · exact this
    · rintro h1 h2 ⟨z, hs, es, ⟨o, ho, c, dd⟩, pr⟩ k
      exact ⟨z, hs, es, ⟨o, k _ ho, c, dd⟩, pr⟩
theorem Rep.p0 {K:IB} {B:Base} {F H:Hp} {σ:St} {e:En} (r:Rep K B F H σ e) {i:Nat} {p:Addr} (ep:Nat) {kvs:List (D×D)} {us vs:List V} (h:H p=none) (hl:i < σ.length) (hd1:ao K F (kvs.map (·.1)) us) (hd2:ao K F (kvs.map (·.2)) vs) :
  Rep K B F (upd H p (eL p ep (br kvs us vs))) (σ.set i (some (.ref p))) (e.set i (some (.dic kvs))):=by
 have r1:=r.loose (o:=eL p ep (br kvs us vs)) h;have hb:B.H p=none:=r.h0.free h
 have old:∀(j:Nat) (ys:List (D×D)),e[j]?=some (some (.dic ys))->σ[j]?≠some (some (.ref p)):=λj ys q z=>by
  obtain⟨q1,_,_,_,h1,h2,_⟩:=r.mv j ys q;rw [z] at h1;cases h1;rw [h] at h2;cases h2
 refine⟨r1.f0,r1.fh,r1.h0,r1.nf,λj y q=>?_,λj y q=>?_,λj k ys zs q hjk q1 q2 q3 q4=>?_,λj y q=>?_,λj k ys zs q hjk q1 q2 q3 q4=>?_⟩
 ·have z:=kK (λ_ w=>by cases w) q;rw [IA z] at q ⊢;exact r1.dv j y q
 ·have z:=aS (λ_ w=>by cases w) q;rw [IA z] at q ⊢;exact r1.ov j y q
 ·have z1:=aS (λ_ w=>by cases w) q1;have z2:=aS (λ_ w=>by cases w) q2;rw [IA z1] at q1 q3;rw [IA z2] at q2 q4;exact r.ne j k ys zs q hjk q1 q2 q3 q4
 ·by_cases z:i=j
  ·subst z
   by_cases w:i < e.length
   ·rw [IH w] at q;cases q;exact⟨p,ep,us,vs,IH hl,au,r.mG h,hb,hd1,hd2⟩
   ·rw [Ja (by simpa using w)] at q;cases q
  ·rw [IA z] at q ⊢;exact r1.mv j y q
 ·by_cases z1:i=j
  ·subst z1;rw [IA hjk] at q2 q4;rw [IH hl] at q3;cases q3;exact old k zs q2 q4
  ·rw [IA z1] at q1 q3
   by_cases z2:i=k
   ·subst z2;rw [IH hl] at q4;cases q4;exact old j ys q1 q3
   ·rw [IA z2] at q2 q4;exact r.nm j k ys zs q hjk q1 q2 q3 q4
def jQ (i:Nat) (tk tv:TD):bG:=λZ env=>tk env λk=>∃n:Int,k=.int n/\tv env λv=>Z.nx (env.set i (some (.dic [(.int n,v)])))
theorem pF {x:Str} {pos' pd:Pos} (i:Nat) (hN:X.N.Nodup) (ha:QE X a ta) (hb:QE X b tb) (hi:X.N[i]?=some x:=by rfl) (hx:Loc X.env.scope x:=by first|exact Or.inl rfl|exact Or.inr rfl) (hs:swapsWith (.Dict [some a] [b] pd) (some (.Name x pos')) pos.line X.env=pure false:=by rfl)
  (hf:X.fn x=true\/X.env.scope.names.lookup x=some .local:=by first|exact .inl rfl|exact .inr rfl):QS X (.Assign [.Name x pos'] (.Dict [some a] [b] pd) pos) (jQ i ta tb):=by
 refine⟨λB σ F H env Z rp h pins s I=>?_⟩;have hl:i < σ.length:=by rw [I.len];exact (Iy.mp hi).1
 refine bQ (lF (i:=i) hN hi hx (v8 (nX bB bB qU) rfl rfl (by simp) (by simp)) hs hf pins s σ H
  { nx:=λσ' H'=>∃p n v F' d,σ'=σ.set i (some (.ref p))/\H' p=some (.dK [(.inl n,v)])/\Rep X.K B F' (λb=>if b=p then none else H' b) σ env/\Den X.K F' d v/\Z.nx (env.set i (some (.dic [(.int n,d)]))),rt:=λ_ _=>False,bk:=λ_ _=>False,ct:=λ_ _=>False } I λp hp=>?_) λf s' q=>?_
 ·have hb0:B.H p=none:=rp.h0.free hp;refine aA (ha (B.guard p (.dK [])) σ F (upd H p (.dK [])) env _ (rp.guarded hp) h) λk H1 hq0=>?_;obtain⟨F1,d1,r1,s1,e1,n,ed,q1⟩:=hq0;subst ed;simp only [Den] at e1;subst e1;refine aA (hb _ σ F1 H1 env _ r1 q1) λv H2 hq0=>?_;obtain⟨F2,d2,r2,s2,e2,q2⟩:=hq0;obtain⟨r3,hp2,hf2⟩:=r2.kD hb0;refine⟨hp2,[(.inl n,v)],rfl,by simp,p,n,v,F2,d2,rfl,au,?_,e2,q2⟩
  have e:(λb=>if b=p then none else upd H2 p (.dK (fV [] [(.inl n,v)])) b)=λb=>if b=p then none else H2 b:=by
   funext b
   by_cases z:b=p
   ·rw [if_pos z,if_pos z]
   ·rw [if_neg z,if_neg z,av z]
  rw [e];refine⟨r3.f0,λb o z=>?_,λb o z=>?_,r3.nf,r3.dv,λj xs hj=>?_,r3.ne,λj xs hj=>?_,r3.nm⟩
  ·have:b≠p:=λw=>by subst w;rw [hf2] at z;cases z
   rw [if_neg this];exact r3.fh _ _ z
  ·have:b≠p:=λw=>by subst w;rw [hb0] at z;cases z
   rw [if_neg this];exact r3.h0 _ _ z
  ·obtain⟨p2,us,g1,g2,g3,g4,g5⟩:=r3.ov j xs hj;have:p2≠p:=λw=>by subst w;rw [hp2] at g2;cases g2
   exact⟨p2,us,g1,by rw [if_neg this];exact g2,g3,g4,g5⟩
  ·obtain⟨p2,ep,us,vs,g1,g2,g3,g4,g5,g6⟩:=r3.mv j xs hj;have:p2≠p:=λw=>by subst w;rw [hp2] at g2;cases g2
   exact⟨p2,ep,us,vs,g1,by rw [if_neg this];exact g2,g3,g4,g5,g6⟩
 ·cases f with
  | next =>
   obtain⟨σ',H',I',p,n,v,F',d,rfl,hp,r,dd,q⟩:=q;obtain⟨ep,I2⟩:=CA I' hp;refine⟨_,_,I2,F',_,?_,q⟩;have h0:(λb=>if b=p then none else H' b) p=none:=if_pos rfl
   have e:upd H' p (eL p ep [(hashInt n,V.int n,v)])=upd (λb=>if b=p then none else H' b) p (eL p ep (br [(D.int n,d)] [V.int n] [v])):=by
    funext b
    by_cases z:b=p
    ·subst z;rw [au,au];rfl
    ·rw [av z,av z,if_neg z]
   rw [e]
   exact r.p0 (i:=i) ep h0 hl (aF bq aJ) (aF dd aJ)
  | brk=>obtain⟨_,_,_,q⟩:=q;exact q.elim
  | cont=>obtain⟨_,_,_,q⟩:=q;exact q.elim
  | ret u=>obtain⟨_,_,_,_,_,q⟩:=q;exact q.elim
end
end L2.L3
namespace L2
open PySem PySem.Spec PyProof.Rows
section
variable {prog:Program} {w:World} {A:Around} {E:Value->Shared->Prop} {s:Shared}
theorem vW {h h':Heap} {l:Addr} {xs:Array Value} (g:h.IsTuple l xs) (k:∀o,h.get? l=some o->h'.get? l=some o):h'.IsTuple l xs:=by
 obtain⟨o,e,r⟩:=g;exact⟨o,k o e,r⟩
theorem BS {z t o i1 i2 l1 l2:Addr} {k:Nat} {xs ys:Array Value} {x y a b:Value} {Q:Value->Shared->Prop} (D:ZipApart z t o i1 i2 l1 l2) (hz:IsZip s.heap z t o .none) (ht:IsPair s.heap t (.ref i1) (.ref i2)) (ho:IsPair s.heap o a b)
  (j1:s.heap.IsTupleIter i1 l1 k) (j2:s.heap.IsTupleIter i2 l2 k) (g1:s.heap.IsTuple l1 xs) (g2:s.heap.IsTuple l2 ys) (ex:xs[k]?=some x) (ey:ys[k]?=some y)
  (q:∀h',IsZip h' z t o (rawInt s.heap.objs.size)->IsPair h' o x y->h'.IsTupleIter i1 l1 (k + 1)->h'.IsTupleIter i2 l2 (k + 1)->IsPair h' s.heap.objs.size x y ->
   (∀c v,c≠z->c≠o->c≠i1->c≠i2->s.heap.get? c=some v->h'.get? c=some v)->Q (.ref s.heap.objs.size) { s with heap:=h' }) :
  wpAny (model prog w) A (Builtin.«zip.__next__» ⟨[.ref z],[]⟩) (λfin s'=>∃v,fin=.done (.ret v)/\Q v s') E s:=by
 show wpAny _ _ (field (.ref z) 2 >>= _) _ _ s
 refine Iw (wpAny_field hz rfl (x:=.bool false) rfl (show wpAny _ _ (field (.ref z) 3 >>= _) _ _ s from Iw (wpAny_field hz rfl (x:=.ref t) rfl (Iw (wpAny_seqItems ht rfl ?_)))));show wpAny _ _ (Builtin.SmallTypes.ownedTupleIsFree (.ref z) >>= _) _ _ s
 refine Iw ?_;unfold Builtin.SmallTypes.ownedTupleIsFree;refine Iw (wpAny_field hz rfl (x:=.none) rfl (ID ?_));simp only [if_true];refine Iw (wpAny_rule (Iw (wpAny_field hz rfl (x:=.ref o) rfl (Iw (wpAny_setField_rec hz (by simp) λha za ba=>?_)))))
 replace za:IsZip ha z t o .ellipsis:=za
 refine Iw ?_;simp only [List.zipIdx_cons,List.zipIdx_nil,List.forIn_cons,List.forIn_nil];refine Iw (Iw (wpAny_onRaise (show wpAny _ _ (Builtin.SmallTypes.nextOf (.ref i1) >>= _) _ _ _ from Iw (uX (j1.at λv e=>ba.extBut _ v D.i1z e) (vW g1 λv e=>ba.extBut _ v D.l1z e) ex λhb jb bb=>ID ?_))));have ob:IsPair hb o a b:=bb.extBut _ _ D.TOi1 (ba.extBut _ _ D.TOz ho);refine Iw (wpAny_seqItems ob rfl (Iw (wpAny_updateSeq_pair ob λhc oc bc=>?_)))
 replace oc:IsPair hc o x b:=oc
 refine Iw (wpAny_letGo (ID (Iw (Iw (wpAny_onRaise (show wpAny _ _ (Builtin.SmallTypes.nextOf (.ref i2) >>= _) _ _ _ from Iw (uX (j2.at λv e=>bc.extBut _ v D.TOi2.symm (bb.extBut _ v D.i12.symm (ba.extBut _ v D.i2z e))) (vW g2 λv e=>bc.extBut _ v D.l2TO (bb.extBut _ v D.l2i1 (ba.extBut _ v D.l2z e))) ey λhd jd bd=>ID ?_)))))));have od:IsPair hd o x b:=bd.extBut _ _ D.TOi2 oc;refine Iw (wpAny_seqItems od rfl (Iw (wpAny_updateSeq_pair od λhe oe be=>?_)))
 replace oe:IsPair he o x y:=oe
 refine Iw (wpAny_letGo (ID (ID (Iw (wpAny_seqItems oe rfl (Iw (wpAny_newTuple ?_)))))));have sz:he.objs.size=s.heap.objs.size:=by rw [be.1,bd.1,bc.1,bb.1,ba.1]
 have ze:IsZip he z t o .ellipsis:=be.extBut _ _ D.TOz.symm (bd.extBut _ _ D.i2z.symm (bc.extBut _ _ D.TOz.symm (bb.extBut _ _ D.i1z.symm za)));have ke:∀c v,c≠z->c≠o->c≠i1->c≠i2->s.heap.get? c=some v->he.get? c=some v:=λc v n1 n2 n3 n4 e=>be.extBut _ _ n2 (bd.extBut _ _ n4 (bc.extBut _ _ n2 (bb.extBut _ _ n3 (ba.extBut _ _ n1 e))));have ie:he.IsTupleIter i1 l1 (k + 1):=jb.at λv e=>be.extBut _ v D.TOi1.symm (bd.extBut _ v D.i12 (bc.extBut _ v D.TOi1.symm e))
 have je:he.IsTupleIter i2 l2 (k + 1):=jd.at λv e=>be.extBut _ v D.TOi2.symm e;have lz:z < he.objs.size:=IU ze;show wpAny _ _ (Builtin.SmallTypes.ownedTupleHandOut (.ref z) (.ref he.objs.size) >>= _) _ _ _
 refine Iw ?_;unfold Builtin.SmallTypes.ownedTupleHandOut;have zf:IsZip (he.push { cls:=.type "tuple",data:=.seq #[x,y] }) z t o .ellipsis:=IC _ ze
 refine Iw (wpAny_setField_rec zf (by simp) λhg zg bg=>?_)
 replace zg:IsZip hg z t o (rawInt he.objs.size):=zg
 refine wpAny_setField_rec zg (by simp) λhi zi bi=>?_
 replace zi:IsZip hi z t o (rawInt he.objs.size):=zi
 have up:∀c v,c≠z->he.get? c=some v->hi.get? c=some v:=λc v n e=>bi.extBut _ _ n (bg.extBut _ _ n (IC _ e));have ni:IsPair hi he.objs.size x y:=bi.extBut _ _ (Nat.ne_of_gt lz) (bg.extBut _ _ (Nat.ne_of_gt lz) (IS _ rfl));rw [sz] at zi ni;refine ID ⟨_,rfl,?_⟩;show Q (.ref he.objs.size) _
 rw [sz];exact q hi zi (up _ _ D.TOz oe) (ie.at λv e=>up _ v D.i1z e) (je.at λv e=>up _ v D.i2z e) ni λc v n1 n2 n3 n4 e=>up c v n1 (ke c v n1 n2 n3 n4 e)
theorem BK {z t o i1 i2 l1 l2:Addr} {k:Nat} {xs ys:Array Value} {x y a b:Value} {Q:Option Value->Shared->Prop} (D:ZipApart z t o i1 i2 l1 l2) (hz:IsZip s.heap z t o .none) (ht:IsPair s.heap t (.ref i1) (.ref i2)) (ho:IsPair s.heap o a b)
  (j1:s.heap.IsTupleIter i1 l1 k) (j2:s.heap.IsTupleIter i2 l2 k) (g1:s.heap.IsTuple l1 xs) (g2:s.heap.IsTuple l2 ys) (ex:xs[k]?=some x) (ey:ys[k]?=some y)
  (q:∀h',IsZip h' z t o (rawInt s.heap.objs.size)->IsPair h' o x y->h'.IsTupleIter i1 l1 (k + 1)->h'.IsTupleIter i2 l2 (k + 1)->IsPair h' s.heap.objs.size x y ->
   (∀c v,c≠z->c≠o->c≠i1->c≠i2->s.heap.get? c=some v->h'.get? c=some v)->Q (some (.ref s.heap.objs.size)) { s with heap:=h' }):wpAny (model prog w) A (pyNext (.ref z)) Q E s:=by
 have ty:s.TypeIs (.ref z) "zip":=⟨_,hz,rfl⟩
 unfold pyNext
 exact Iw (wpAny_attempt (Jq (name:=Str.ofString "__next__") ty F.slot_zip_next (wpAny_call_entry F.slot_zip_next ty F.entry_zip_next
  (BS D hz ht ho j1 j2 g1 g2 ex ey λh' a1 a2 a3 a4 a5 a6=>ID (q h' a1 a2 a3 a4 a5 a6)) (F.args_zip_next_1 _))))
theorem CZ {z t o i1 i2 l1 l2:Addr} {k:Nat} {xs:Array Value} {a b:Value} {Q:Option Value->Shared->Prop} (hh:A.handled=none) (D:ZipApart z t o i1 i2 l1 l2) (hz:IsZip s.heap z t o .none) (ht:IsPair s.heap t (.ref i1) (.ref i2)) (ho:IsPair s.heap o a b)
  (j1:s.heap.IsTupleIter i1 l1 k) (g1:s.heap.IsTuple l1 xs) (ex:xs[k]?=none)
  (q:∀h',(∀c v,c≠z->c≠i1->s.heap.get? c=some v->h'.get? c=some v)->Q none { s with heap:=h' }):wpAny (model prog w) A (pyNext (.ref z)) Q E s:=by
 have ty:s.TypeIs (.ref z) "zip":=⟨_,hz,rfl⟩
 unfold pyNext;refine Iw (wpAny_attempt (Jq (name:=Str.ofString "__next__") ty F.slot_zip_next (wpAny_call_entry F.slot_zip_next ty F.entry_zip_next ?_ (F.args_zip_next_1 _))))
 show wpAny _ _ (field (.ref z) 2 >>= _) _ _ s
 refine Iw (wpAny_field hz rfl (x:=.bool false) rfl (show wpAny _ _ (field (.ref z) 3 >>= _) _ _ s from Iw (wpAny_field hz rfl (x:=.ref t) rfl (Iw (wpAny_seqItems ht rfl ?_)))));show wpAny _ _ (Builtin.SmallTypes.ownedTupleIsFree (.ref z) >>= _) _ _ s
 refine Iw ?_;unfold Builtin.SmallTypes.ownedTupleIsFree;refine Iw (wpAny_field hz rfl (x:=.none) rfl (ID ?_));simp only [if_true];refine Iw (wpAny_rule (Iw (wpAny_field hz rfl (x:=.ref o) rfl (Iw (wpAny_setField_rec hz (by simp) λha za ba=>?_)))))
 replace za:IsZip ha z t o .ellipsis:=za
 refine Iw ?_;simp only [List.zipIdx_cons,List.zipIdx_nil,List.forIn_cons,List.forIn_nil];refine Iw (Iw (wpAny_onRaise (show wpAny _ _ (Builtin.SmallTypes.nextOf (.ref i1) >>= _) _ _ _ from Iw (oQ hh (j1.at λv e=>ba.extBut _ v D.i1z e) (vW g1 λv e=>ba.extBut _ v D.l1z e) ex λhb x bb cb=>?_))));obtain⟨v,hv,cv⟩:=cb;have zb:IsZip hb z t o .ellipsis:=bb _ _ D.i1z.symm za;have nx:x≠z:=λe=>by subst e;rw [zb] at hv;cases hv;simp at cv
 refine wpAny_setField_rec zb (by simp) λhc _ bc=>?_;refine Iw (wpAny_isInstance (T:="StopIteration") (b:=true) ⟨v,bc.extBut _ _ nx hv,cv⟩ isSubtype_stop (ID (q _ λc u n1 n2 e=>bc.extBut _ _ n1 (bb _ _ n2 (ba.extBut _ _ n1 e)))))
end
end L2
namespace L2.L3
open PySem PySem.Spec PyProof.Rows
abbrev GS (h:Heap) (l1:Addr):Heap:=h.push { cls:=.type "tuple_iterator",data:=.fields #[.ref l1,.int 0 0] }
abbrev GV (h:Heap) (l1 l2:Addr):Heap:=(GS h l1).push { cls:=.type "tuple_iterator",data:=.fields #[.ref l2,.int 0 0] }
abbrev GW (h:Heap) (l1 l2:Addr):Heap:=(GV h l1 l2).push { cls:=.type "tuple",data:=.seq #[.ref h.objs.size,.ref (GS h l1).objs.size] }
abbrev GK (h:Heap) (l1 l2:Addr):Heap:=(GW h l1 l2).push { cls:=.type "tuple",data:=.seq #[.none,.none] }
abbrev EF (h:Heap) (l1 l2:Addr):Heap:=(GK h l1 l2).push { cls:=.type "zip",data:=.fields #[.none,.bool false,.bool false,.ref (GV h l1 l2).objs.size,.ref (GW h l1 l2).objs.size] }
open AutoSeq1 (wpAny_loadPart') in
theorem Ex (l1 l2:Addr) (xs ys:Array Value) :
  Meets (Builtin.«zip.__new__» ⟨[.type "zip",.ref l1,.ref l2],[]⟩) (λ_ R s=>s.heap.IsTuple l1 xs/\s.heap.IsTuple l2 ys /\
   R (.ok (.ret (.ref (GK s.heap l1 l2).objs.size))) { s with heap:=EF s.heap l1 l2 }) :=
 .of_wp λprog w A R s h=>by
  obtain⟨hp,g,d,tk,os⟩:=s;obtain⟨g1,g2,h⟩:=h;have hsub:=sub_zip;have t1:Heap.IsTuple (Shared.heap ⟨hp,g,d,tk,os⟩) l1 xs:=g1;have t2:Heap.IsTuple (Shared.heap ⟨hp.push { cls:=.type "tuple_iterator",data:=.fields #[.ref l1,.int 0 0] },g,d,tk,os⟩) l2 ys:=vW g2 λo e=>IC _ e
  wp_walk using wpAny_pyIter_tuple t1,wpAny_pyIter_tuple t2
  exact⟨_,rfl,h⟩
section
variable {prog:Program} {w:World} {A:Around} {E:Value->Shared->Prop} {s:Shared}
theorem y1 {l1 l2:Addr} {xs ys:Array Value} {Q:Value->Shared->Prop} (g1:s.heap.IsTuple l1 xs) (g2:s.heap.IsTuple l2 ys)
  (q:∀h',IsZip h' (s.heap.objs.size + 4) (s.heap.objs.size + 2) (s.heap.objs.size + 3) .none->IsPair h' (s.heap.objs.size + 2) (.ref s.heap.objs.size) (.ref (s.heap.objs.size + 1))->IsPair h' (s.heap.objs.size + 3) .none .none ->
   h'.IsTupleIter s.heap.objs.size l1 0->h'.IsTupleIter (s.heap.objs.size + 1) l2 0->(∀c o,s.heap.get? c=some o->h'.get? c=some o)->Q (.ref (s.heap.objs.size + 4)) { s with heap:=h' }) :
  wpAny (model prog w) A (call (.type "zip") [.ref l1,.ref l2]) Q E s:=by
 refine callType_new F.called_zip (by decide) (F.typeCall_zip_2 _ _) (F.newCall_zip_2 _ _) (λob=>F.args_object_init_3 ob _ _) F.entry_zip_new (Ex l1 l2 xs ys) ⟨g1,g2,?_⟩;have a1:(GS s.heap l1).objs.size=s.heap.objs.size + 1:=Heap.size_push ..;have a2:(GV s.heap l1 l2).objs.size=s.heap.objs.size + 2:=by rw [Heap.size_push,a1]
 have a3:(GW s.heap l1 l2).objs.size=s.heap.objs.size + 3:=by rw [Heap.size_push,a2]
 have a4:(GK s.heap l1 l2).objs.size=s.heap.objs.size + 4:=by rw [Heap.size_push,a3]
 have e5:(EF s.heap l1 l2).get? (GK s.heap l1 l2).objs.size=some _:=IS _ rfl;have e4:(EF s.heap l1 l2).get? (GW s.heap l1 l2).objs.size=some _:=IC _ (IS _ rfl);have e3:(EF s.heap l1 l2).get? (GV s.heap l1 l2).objs.size=some _:=IC _ (IC _ (IS _ rfl));have e2:(EF s.heap l1 l2).get? (GS s.heap l1).objs.size=some _:=IC _ (IC _ (IC _ (IS _ rfl)));have e1:(EF s.heap l1 l2).get? s.heap.objs.size=some _:=IC _ (IC _ (IC _ (IC _ (IS _ rfl))))
 show _/\_
 rw [a2,a3,a4] at e5;rw [a1,a2] at e3;rw [a3] at e4;rw [a1] at e2;rw [a4];exact⟨⟨_,e5,rfl⟩,q _ e5 e3 e4 ⟨_,e1,rfl,rfl⟩ ⟨_,e2,rfl,rfl⟩ λc o x=>IC _ (IC _ (IC _ (IC _ (IC _ x))))⟩
end
def HE (K:IB) (a b:Addr):It :=
 ⟨λi H=>∃xs ys x y,fB K H a xs/\fB K H b ys/\xs[i]?=some x/\ys[i]?=some y,λi H v H'=>∃p x y,(∀xs,fB K H a xs->xs[i]?=some x)/\(∀ys,fB K H b ys->ys[i]?=some y)/\H p=none/\v=.ref p/\H'=upd H p (.tup [x,y]),λi H=>∃xs ys,fB K H a xs/\fB K H b ys/\xs.length<=i⟩
theorem Bv {P:Program} {w:World} {K:IB} {elts:List Expr} {x1:Nat} {tp:Pos} (a b n:Nat) (la:a < n) (lb:b < n):Turn P w K (.Tuple elts x1 tp) (HE K a b) [n + 4,n + 2,n + 3,n,n + 1] (n + 4)
  (λi h=>IsZip h (n + 4) (n + 2) (n + 3) .none/\IsPair h (n + 2) (.ref n) (.ref (n + 1))/\(∃u v,IsPair h (n + 3) u v)/\h.IsTupleIter n a i/\h.IsTupleIter (n + 1) b i) where
 mem:=by simp
 obj:=λi h st c hc=>by
  obtain⟨e1,e2,⟨u,v,e3⟩,⟨o4,e4,_,d4⟩,⟨o5,e5,_,d5⟩⟩:=st;simp only [IZ,Jg,or_false] at hc;rcases hc with rfl|rfl|rfl|rfl|rfl
  ·exact⟨_,e1,λv q=>by have q':Data.fields _=Data.cell v:=q;cases q'⟩
  ·exact⟨_,e2,λv q=>by have q':Data.seq _ _=Data.cell v:=q;cases q'⟩
  ·exact⟨_,e3,λv q=>by have q':Data.seq _ _=Data.cell v:=q;cases q'⟩
  ·exact⟨o4,e4,λv q=>by rw [d4] at q;cases q⟩
  ·exact⟨o5,e5,λv q=>by rw [d5] at q;cases q⟩
 keep:=λi h h' st k=>by
  obtain⟨e1,e2,⟨u,v,e3⟩,j1,j2⟩:=st;exact⟨k _ (by simp) _ e1,k _ (by simp) _ e2,⟨u,v,k _ (by simp) _ e3⟩,j1.at λo q=>k n (by simp) o q,j2.at λo q=>k (n + 1) (by simp) o q⟩
 item:=by
  intro X hP hw hK hc i pins s σ H E I hf st hg;subst hP hw hK;obtain⟨e1,e2,⟨u,v,e3⟩,j1,j2⟩:=st;obtain⟨xs,ys,x,y,hq1,hq2,hx,hy⟩:=hg;obtain⟨as,r1,p1,_⟩:=I.tuple hq1;obtain⟨bs,r2,p2,_⟩:=I.tuple hq2;obtain⟨x',hx',rx⟩:=r1.get hx;obtain⟨y',hy',ry⟩:=r2.get hy;have lz:n + 4 < s.heap.objs.size:=IU e1;have D:ZipApart (n + 4) (n + 2) (n + 3) n (n + 1) a b:=zipApart_new la lb;refine BK D e1 e2 e3 j1 j2 (show s.heap.IsTuple a as.toArray from p1) (show s.heap.IsTuple b bs.toArray from p2) (x:=x') (y:=y') (by simpa using hx') (by simpa using hy') λh1 z1 o1 k1 k2 n1 fr=>?_
  refine⟨_,rfl,wpAny_letOwnedTupleGo_zip z1 λh2 z2 b2=>?_⟩;have ne:∀m,m<=4->s.heap.objs.size≠n + m:=λm hm=>by omega
  have n2:h2.get? s.heap.objs.size=some { cls:=.type "tuple",data:=.seq #[x',y'] }:=(b2.2 _ (ne 4 (by decide))).trans n1
  have hn:H s.heap.objs.size=none:=I.hok.fresh (II _)
  have fr2:∀c o,c∉[n + 4,n + 2,n + 3,n,n + 1]->s.heap.get? c=some o->h2.get? c=some o:=λc o hc e=>by
   simp only [IZ,Jg,or_false,not_or] at hc;exact (b2.2 c hc.1).trans (fr c o hc.1 hc.2.2.1 hc.2.2.2.1 hc.2.2.2.2 e)
  have I1:Inv X pins σ (upd H s.heap.objs.size (.tup [x,y])) { s with heap:=s.heap.push { cls:=.type "tuple",data:=.seq #[x',y'] },toks:=s.toks } :=
   I.laid (t':=s.toks) (λb o e=>IC _ e) (II _) (show bC X.prog X.w _ _ _ (.tup [x,y]) from ⟨by simp [IX],[x',y'],.cons rx (.cons ry .nil),pz.new _ _⟩)
  have fpn:∀c∈[n + 4,n + 2,n + 3,n,n + 1],(upd H s.heap.objs.size (.tup [x,y])) c=none:=λc hc=>by
   rw [av]
   ·exact (hf c hc).1
   ·simp only [IZ,Jg,or_false] at hc;rcases hc with rfl|rfl|rfl|rfl|rfl
    ·exact (ne 4 (by decide)).symm
    ·exact (ne 2 (by decide)).symm
    ·exact (ne 3 (by decide)).symm
    ·exact (ne 0 (by decide)).symm
    ·exact (ne 1 (by decide)).symm
  have I2:Inv X pins σ (upd H s.heap.objs.size (.tup [x,y])) { s with heap:=h2,toks:=s.toks }:=by
   refine Inv.qA (s:={ s with heap:=s.heap.push { cls:=.type "tuple",data:=.seq #[x',y'] },toks:=s.toks }) (h':=h2) (t':=s.toks) (ch:=[n + 4,n + 2,n + 3,n,n + 1]) I1 (λc o hc hg=>?_) λc hc=>⟨fpn c hc,(hf c hc).2⟩
   rcases Heap.get?_push_cases hg with ⟨rfl,rfl⟩|hg
   ·exact n2
   ·exact fr2 c o hc hg
  refine⟨.ref s.heap.objs.size,_,I2,rfl,⟨_,x,y,λzs hz=>by rw [I.gd hz hq1];exact hx,λzs hz=>by rw [I.gd hz hq2];exact hy,hn,rfl,rfl⟩,⟨z2,(b2.2 _ D.TIz).trans (fr _ _ D.TIz D.TITO D.TIi1 D.TIi2 e2),⟨_,_,(b2.2 _ D.TOz).trans o1⟩,k1.at λo q=>(b2.2 _ D.i1z).trans q,k2.at λo q=>(b2.2 _ D.i2z).trans q⟩,fpn⟩
 done:=by
  intro X hP hw hK hc i pins s σ H E I hf st hg;subst hP hw hK;obtain⟨e1,e2,⟨u,v,e3⟩,j1,j2⟩:=st;obtain⟨xs,ys,hq1,hq2,hx⟩:=hg;obtain⟨as,r1,p1,_⟩:=I.tuple hq1;have hl:=r1.length;have D:ZipApart (n + 4) (n + 2) (n + 3) n (n + 1) a b:=zipApart_new la lb;refine CZ (I.ok.hd hc) D e1 e2 e3 j1 (show s.heap.IsTuple a as.toArray from p1) (by simp;omega) λh1 k1=>⟨rfl,?_⟩
  exact I.qA (t':=s.toks) (ch:=[n + 4,n]) (λc o hc e=>k1 c o (λz=>hc (by simp [z])) (λz=>hc (by simp [z])) e) λc hc=>hf c (by
   simp only [IZ,Jg,or_false] at hc ⊢
   rcases hc with rfl|rfl <;> simp)
 self:=λ_ _ _ _ _ st h=>wpAny_pyIter_zip st.1 h
section
variable {X:Cx}
def Ip (K:IB) (ta:TA):TI:=λσ H R=>ta σ H λvs H1=>∃a b,vs=[.ref a,.ref b]/\(∃xs,fB K H1 a xs)/\(∃ys,fB K H1 b ys)/\R (HE K a b) H1
theorem Fz {elts:List Expr} {x1:Nat} {tp:Pos} {a b:Expr} {ta:TA} {p pos:Pos} (hg:Gl X "zip") (hm:X.mg "zip" = none) (ha:PA X [a,b] ta) (hs:starEach [a,b] X.env=(false,eval a X.env) :: starEach [b] X.env:=by rfl) (hpl:(backTo pos (starEach [b] X.env)).any (·.1)=false:=by rfl) :
  PI X (.Tuple elts x1 tp) (.Call (.Name "zip" p) [a,b] [] pos) (Ip X.K ta):=by
 intro pins s σ H R I h;refine Call_ (jB I hg hm boot_zip (PyProof.Rows.callWith_type1 (bQ (ha pos pins s σ H _ I h) λus s1 ⟨vs,H1,I1,r1,q1⟩=>?_) hs hpl));obtain⟨l,m,e,⟨xs,hq1⟩,⟨ys,hq2⟩,q⟩:=q1;subst e
 cases r1 with
 | cons r rr =>
  cases rr with
  | cons r' rr' =>
   cases rr';cases r;cases r';obtain⟨as,_,p1,_⟩:=I1.tuple hq1;obtain⟨bs,_,p2,_⟩:=I1.tuple hq2;have l1:l < s1.heap.objs.size:=by obtain⟨_,e,_⟩:=(show s1.heap.IsTuple l as.toArray from p1);exact IU e
   have l2:m < s1.heap.objs.size:=by obtain⟨_,e,_⟩:=(show s1.heap.IsTuple m bs.toArray from p2);exact IU e
   refine y1 (show s1.heap.IsTuple l as.toArray from p1) (show s1.heap.IsTuple m bs.toArray from p2) λh1 z1 t1 o1 j1 j2 k1=>?_;refine wpAny_pyIter_zip z1 ⟨_,_,_,_,H1,rfl,I1.kept (t':=s1.toks) k1,Bv l m s1.heap.objs.size l1 l2,⟨z1,t1,⟨_,_,o1⟩,j1,j2⟩,λc hc=>?_,q⟩
   have hb:s1.heap.objs.size<=c:=by
    simp only [IZ,Jg,or_false] at hc;rcases hc with rfl|rfl|rfl|rfl|rfl <;> omega
   exact I1.vy hb (I1.hok.fresh hb)
def qB (xs ys:List D):List D:=List.zipWith (λx y=>.tup [x,y]) xs ys
theorem Bt {xs ys:List D} {i:Nat} {z:D} (h:(qB xs ys)[i]?=some z):∃x y,xs[i]?=some x/\ys[i]?=some y/\z=.tup [x,y]:=by
 unfold qB at h;rw [List.getElem?_zipWith] at h
 cases e:xs[i]? with
 | none=>rw [e] at h;cases h
 | some x =>
  cases e':ys[i]? with
  | none=>rw [e,e'] at h;cases h
  | some y=>rw [e,e'] at h;cases h;exact⟨x,y,rfl,rfl,rfl⟩
theorem yI {K:IB} {F1:Hp} {us vs:List V} {xs ys:List D} {a b:Addr} (q1:fB K F1 a us) (q2:fB K F1 b vs) (r1:ao K F1 xs us) (r2:ao K F1 ys vs) (hl:xs.length<=ys.length):qV K (HE K a b) F1 (qB xs ys) where
 go:=λi G H' s1 s2 hi=>by
  have:(qB xs ys).length=xs.length:=by unfold qB;simp;omega
  rw [this] at hi;have h1:i < us.length:=by rw [<- r1.length];exact hi
  have h2:i < vs.length:=by rw [<- r2.length];omega
  exact⟨us,vs,us[i],vs[i],ak.bt s2 (ak.bt s1 q1),ak.bt s2 (ak.bt s1 q2),by simp [h1],by simp [h2]⟩
 yld:=λi G H' y H'' x B σ env s1 rp hx hy=>by
  obtain⟨x',y',hx',hy',rfl⟩:=Bt hx;obtain⟨v1,h1,d1⟩:=r1.get hx';obtain⟨v2,h2,d2⟩:=r2.get hy';obtain⟨p,u1,u2,e1,e2,e3,rfl,rfl⟩:=hy;have g1:=e1 us (ak.bt rp.fh (ak.bt s1 q1));have g2:=e2 vs (ak.bt rp.fh (ak.bt s1 q2));rw [h1] at g1;cases g1;rw [h2] at g2;cases g2;obtain⟨r3,s3⟩:=rp.laid (o:=.tup [v1,v2]) e3;exact⟨_,r3,s3,fb (fB.of au) (aF (Den.mono (s1.trans s3) _ _ d1) (aF (Den.mono (s1.trans s3) _ _ d2) aJ))⟩
 stop:=λG H' s1 s2=>by
  have:(qB xs ys).length=xs.length:=by unfold qB;simp;omega
  exact⟨us,vs,ak.bt s2 (ak.bt s1 q1),ak.bt s2 (ak.bt s1 q2),by rw [this,r1.length];exact II _⟩
def Ab (ts:d7) (g:mT) (tb:bG):bG:=λD env=>ts env λds=>∃xs ys,ds=[.tup xs,.tup ys]/\xs.length<=ys.length/\turns g tb D (qB xs ys) env
theorem BU {elts:List Expr} {x1:Nat} {body:List Stmt} {g:mT} {t:bG} {a b:Expr} {ts:d7} {p pos2 pos tp:Pos} (hp:PassesOwn (model X.prog X.w) X.A X.env X.xe) (hc:X.calm=true) (hgl:Gl X "zip") (hm:X.mg "zip" = none) (ha:QA X [a,b] ts) (hg:QG X (.Tuple elts x1 tp) g) (hb:m7 X body t)
  (hst:starEach [a,b] X.env=(false,eval a X.env) :: starEach [b] X.env:=by exact aV rfl) (hpl:(backTo pos2 (starEach [b] X.env)).any (·.1)=false:=by rfl) (hs:∀x,Jt (.Call (.Name "zip" p) [a,b] [] pos2) X.env x=pure x:=by intro _;rfl):QS X (.For (.Tuple elts x1 tp) (.Call (.Name "zip" p) [a,b] [] pos2) body [] pos) (Ab ts g t):=by
 refine⟨λB σ F H env D rp h=>df (lM hp hc (Fz hgl hm ji hst hpl) uo dI hs) ?_⟩;refine cH (ha B σ F H env _ rp h) λvs H1 hq0=>?_;obtain⟨F1,ds,r1,s1,d1,xs,ys,hx,hl,q1⟩:=hq0;subst hx;simp only [ao] at d1;obtain⟨v,r,rfl,dv,w,r',rfl,dw,rfl⟩:=d1;simp only [Den] at dv dw;obtain⟨l,us,rfl,q,e1⟩:=dv;obtain⟨l',us',rfl,q',e2⟩:=dw;exact⟨l,l',rfl,⟨us,ak.bt r1.fh q⟩,⟨us',ak.bt r1.fh q'⟩,qb hg hb r1 (yI q q' e1 e2 hl) q1⟩
end
section
variable {prog:Program} {w:World} {A:Around} {E:Value->Shared->Prop} {s:Shared}
theorem x5 {d:Addr} {es:Array DictEntry} {ep:Nat} {key v:Value} {h:Int} {n:Nat} {m:Nat->Bool} {Q:Value->Shared->Prop} (hh:eU prog w A s key h n) (f:gB prog w A { s with toks:=s.toks + n } es key h m) (x:aZ s.heap d es ep) (hz:es.size<=sizeLine)
  (hnone:(∀j,j < es.size->m j=false)->∀h',aZ h' d (es.push ⟨h,key,v⟩) (ep + 1)->Heap.SameBut d s.heap h'->Q v { s with heap:=h',toks:=s.toks + n })
  (hsome:∀j (hj:j < es.size),m j=true->Q es[j].val { s with toks:=s.toks + n }):wpAny (model prog w) A (dictSetDefault d key v) Q E s:=by
 obtain⟨o,ho,hc,hd⟩:=x;unfold dictSetDefault
 try with_reducible refine wpAny_holding ?_
 refine Iw (hh _ _ (Iw (lJ (s:={ s with toks:=s.toks + n }) f ho hd ?_ ?_)))
 ·intro hno;exact Iw (wpAny_rule (Iw (wpAny_updateDictKeys (hz:=hz) (s:={ s with toks:=s.toks + n }) ho hd (ID (hnone hno _ ⟨_,Heap.get?_update_self _ ho (Obj.isFreed_of_dict (Obj.data_mapDictKeys hd _)),hc.mapDictKeys _,Obj.data_mapDictKeys hd _⟩ (Heap.SameBut.update ..))))))
 ·intro j hj hm;refine Iw (wpAny_dictEntries (s:={ s with toks:=s.toks + n }) ho hd ?_);rw [Array.getElem?_eq_getElem hj];exact Iw (wpAny_rule (ID (hsome j hj hm)))
theorem zF {d:Addr} {es:Array DictEntry} {ep:Nat} {key v:Value} {h:Int} {n:Nat} {m:Nat->Bool} {Q:Value->Shared->Prop} (hh:eU prog w A.in1 s key h n) (f:gB prog w A.in1 { s with toks:=s.toks + n } es key h m) (x:aZ s.heap d es ep) (hz:es.size<=sizeLine) (hs:(d == sysModules)=false)
  (hnone:(∀j,j < es.size->m j=false)->∀h',aZ h' d (es.push ⟨h,key,v⟩) (ep + 1)->Heap.SameBut d s.heap h'->Q v { s with heap:=h',toks:=s.toks + n })
  (hsome:∀j (hj:j < es.size),m j=true->Q es[j].val { s with toks:=s.toks + n }):wpAny (model prog w) A (call (.builtin "dict.setdefault") [.ref d,key,v]) Q E s:=by
 refine wpAny_call_entry PySem.F.slot_dict_setdefault x.typeIs PySem.F.entry_dict_setdefault ?_ (PySem.F.args_dict_setdefault_3 _ _ _);unfold Builtin.«dict.setdefault»;refine Iw ?_;unfold Builtin.Dict.keyAndDefault;refine Iw (wpAny_notOrdered_dict x.typeIs ?_);show wpAny _ _ (pure (d,key,some v)) _ _ s
 refine ID ?_;show wpAny _ _ (if (d == sysModules)=true then _ else (dictSetDefault d key v >>= _)) _ _ s
 rw [if_neg (by rw [hs];exact Bool.false_ne_true)];exact Iw (x5 hh f x hz (λhno h' a b=>ID ⟨_,rfl,hnone hno h' a b⟩) λj hj hm=>ID ⟨_,rfl,hsome j hj hm⟩)
end
section
variable {X:Cx} {pins:List (Addr×Obj)} {σ:St} {H F:Hp} {s:Shared} {kvs:List (D×D)} {us vs:List V} {p:Addr} {A:Around} {d x:D} {v w:V} {u r:Value}
theorem xh {kvs:List (D×D)} {d:D} (h:(kvs.any λkv=>aT kv.1 d)=false):dA kvs d=none:=by
 unfold dA;rw [List.find?_eq_none.mpr λkv hk=>by simpa using (List.any_eq_false.mp h kv hk)];rfl
theorem ye {kvs:List (D×D)} {d:D} {kv:D×D} {j:Nat} (ok:bO kvs) (hk:aI d=true) (g:kvs[j]?=some kv) (m:aT kv.1 d=true):dA kvs d=some kv.2:=by
 unfold dA
 cases e:kvs.find? λkv=>aT kv.1 d with
 | none=>exact absurd m (by simpa using List.find?_eq_none.mp e kv (IG g))
 | some kw =>
  obtain⟨i,hi⟩:=Jl (List.mem_of_find?_eq_some e);have mw:=List.find?_some e;have:i=j:=ok.dif i j kw kv hi g (by rw [cG kw.1 d (ok.key kw (IG hi)).1 (by simpa using mw) hk,cG kv.1 d (ok.key kv (IG g)).1 m hk]);subst this;rw [hi] at g;cases g;rfl
theorem AW (hu:A.units + 9 < cLine) (I:Inv X pins σ H s) (fh:ak F H) (ok:bO kvs) (d1:ao X.K F (kvs.map (·.1)) us) (d2:ao X.K F (kvs.map (·.2)) vs) {ep:Nat} (e:H p=some (eL p ep (br kvs us vs)))
  (hk:aI d=true) (hd:dep d<=8) (dd:Den X.K F d v) (rv:RelV v u) (dx:Den X.K F x w) (rw':RelV w r) (hl:kvs.length < sizeLine) {E:Value->Shared->Prop} {Q:Value->Shared->Prop}
  (hn:(kvs.any λkv=>aT kv.1 d)=false->∀ep' us' vs' s',ao X.K F ((putN kvs d x).map (·.1)) us'->ao X.K F ((putN kvs d x).map (·.2)) vs'->Inv X pins σ (upd H p (eL p ep' (br (putN kvs d x) us' vs'))) s'->Q r s')
  (hsm:∀y w' u' s',dA kvs d=some y->Inv X pins σ H s'->Den X.K F y w'->RelV w' u'->Q u' s'):wpAny (model X.prog X.w) A (call (.builtin "dict.setdefault") [.ref p,u,r]) Q E s:=by
 obtain⟨hz,hs,es,dh,pr⟩:=fF I e;have lp:=Paired.length pr;have l0:=cI d1 d2;rw [l0] at lp hz;have lp':kvs.length=es.size:=by simpa using lp
 have l1:=d1.length;have l2:=d2.length;simp only [IK] at l1 l2
 have ext:∀(ep':Nat) (rows:List (Int×V×V)) (h':Heap) (es':Array DictEntry),rows.length<=sizeLine->aZ h' p es' ep'->Paired uJ rows es'.toList->bC X.prog X.w (upd H p (eL p ep' rows)) h' p (eL p ep' rows):=λep' rows h' es' z dh' pr'=>by
  refine⟨⟨z,hs,es',dh',pr'⟩,?_,?_⟩
  ·obtain⟨o,ho,_⟩:=dh';exact⟨o,ho⟩
  ·rintro h1 h2 ⟨z,hs,es,⟨o,ho,c,dd⟩,pr⟩ k;exact⟨z,hs,es,⟨o,k _ ho,c,dd⟩,pr⟩
 have hash:=gm fh d s A.in1 v u I hk (by rw [units_in1];omega) dd rv;have find:=kB (I.tok (s.toks + Aj d)) fh ok d1 d2 pr hk hd (A:=A.in1) (by rw [units_in1];omega) dd rv;refine zF hash find dh (by omega) hs (λhno h' dh' sb=>?_) λj hj hm=>?_
 ·have any:(kvs.any λkv=>aT kv.1 d)=false:=by
   rw [List.any_eq_false];intro kv hm;obtain⟨j,hj⟩:=Jl hm;have:=hno j (by have:=(Iy.mp hj).1;omega);unfold pw at this;rw [hj] at this
   simpa using this
  have pe:putN kvs d x=kvs ++ [(d,x)]:=by unfold putN;rw [any];rfl
  have q1:ao X.K F ((putN kvs d x).map (·.1)) (us ++ [v]):=by rw [pe,List.map_append];exact d1.append (aF dd aJ)
  have q2:ao X.K F ((putN kvs d x).map (·.2)) (vs ++ [w]):=by rw [pe,List.map_append];exact d2.append (aF dx aJ)
  refine hn any _ _ _ _ q1 q2 (iN I (by rw [e];exact True.intro) sb (let ⟨o,ho,_⟩:=dh';⟨o,ho⟩) (ext _ _ h' _ ?_ dh' ?_))
  ·rw [cI q1 q2,pe];simp;omega
  ·refine iR (by rw [cI q1 q2,pe];simp;omega) λi row en h1 h2=>?_;obtain⟨kv,k1,k2,k3,k4⟩:=fD h1;rw [pe] at k1;simp only [Array.toList_push] at h2
   by_cases c:i < kvs.length
   ·rw [IW c] at k1;rw [IW (by omega)] at k3 k4;rw [IW (by simp;omega)] at h2;obtain⟨row',g1,g2⟩:=gq pr h2;obtain⟨kv',f1,f2,f3,f4⟩:=fD g1;rw [f1] at k1;cases k1;rw [f3] at k3;rw [f4] at k4;have:row'=row:=JH (by rw [f2,k2]) (JH (IL k3) (IL k4));rw [<- this];exact g2
   ·have hi:i=kvs.length:=by
     have:=(Iy.mp k1).1;simp at this;omega
    rw [hi,IQ (II _),Nat.sub_self] at k1;rw [show i=us.length by omega,IQ (II _),Nat.sub_self] at k3;rw [show i=vs.length by omega,IQ (II _),Nat.sub_self] at k4;rw [show i=es.toList.length by simp;omega,IQ (II _),Nat.sub_self] at h2;cases k1;cases h2;have a3:v=row.2.1:=IL k3;have a4:w=row.2.2:=IL k4;exact⟨k2.symm,by rw [<- a3];exact rv,by rw [<- a4];exact rw'⟩
 ·obtain⟨kv,a,b,g0,g1,g2,da,db,e1,e2,e3⟩:=qF d1 d2 pr hj;unfold pw at hm;rw [g0] at hm;exact hsm kv.2 b _ _ (ye ok hk g0 hm) (I.tok _) db e3
end
section
variable {X:Cx} {a b c:Expr} {ta tb:TD} {pos apos cpos p1:Pos}
def yL (i:Nat) (ta tb:TD):Gq:=λenv Q=>∃kvs,env[i]?=some (some (.dic kvs))/\ta env λk=>tb env λv=>aI k=true/\dep k<=8/\bO kvs/\kvs.length < sizeLine /\
 (∀y,dA kvs k=some y->Q y env)/\(dA kvs k=none->Q v (env.set i (some (.dic (putN kvs k v)))))
theorem A8 {x:Str} {px:Pos} (i:Nat) (hu:X.A.units + 64 < cLine) (ha:QE X a ta) (hb:QE X b tb) (m:M2 X (.Name x px) "setdefault" apos a b cpos:=by exact⟨rfl,rfl,rfl,rfl⟩) (hN:X.N[i]?=some x:=by rfl) (hv:rY X.env.scope x:=by first | exact Or.inl rfl | exact Or.inr (Or.inl rfl) | exact Or.inr (Or.inr rfl)) (hd:(x == ("__debug__" : Str))=false:=by decide)
  (hcd:(x == ("__classdict__" : Str))=false:=by decide):EK X (.Call (.Attribute (.Name x px) "setdefault" apos) [a,b] [] cpos) (yL i ta tb):=by
 refine⟨λB σ F H env Q rp h pins s I=>?_⟩;obtain⟨kvs,hx,q0⟩:=h;obtain⟨p,ep0,us0,vs0,h1,h2,h3,h4,h5,h6⟩:=rp.mv i _ hx;refine wpAny_Call_method m.base m.few m.line PySem.F.plainAttrs_dict PySem.F.slot_dict_setdefault PySem.F.type_dict_setdefault (bQ (c4 hN hv hd hcd pins s σ H (λv H'=>v=.ref p/\H'=H) I ⟨.ref p,h1,rfl,rfl⟩) λu s1 hq0=>?_);obtain⟨x',H1,I1,rx,ex,eH⟩:=hq0;subst ex eH;cases rx;obtain⟨_,_,es0,⟨o0,g0,c0,d0⟩,_⟩:=fF I1 h2
 refine⟨⟨o0,g0,c0.1⟩,λb eb=>by cases eb;exact⟨o0,g0,c0.2.1⟩,?_⟩;rw [m.trees];refine Calls.callWith_builtin rfl (Calls.evalArgs_plain (JO (bQ (ha B σ F H1 env _ rp q0 pins s1 I1) λkv s2 ⟨y,H2,I2,ry,F2,dk,r2,z2,dd2,q2⟩=>JO (bQ (hb B σ F2 H2 env _ r2 q2 pins s2 I2) λvv s3 ⟨y',H3,I3,ry',F3,dv,r3,z3,dd3,hk,hdp,ok,hl,qs,qn⟩=>Calls.spliced_nil ?_))));obtain⟨p',ep',us',vs',e1,e2,e3,e4,e5,e6⟩:=r3.mv i kvs hx
 rw [h1] at e1;cases e1;refine AW (by omega) I3 r3.fh ok e5 e6 e2 hk hdp (Den.mono z3 _ _ dd2) ry dd3 ry' hl (λany ep2 as bs s4 f1 f2 I4=>?_) λz w' u' s4 hz I4 dz rz=>?_
 ·exact⟨y',_,I4,ry',F3,dv,_,r3.pX ep2 hx h1 f1 f2,z2.trans z3,dd3,qn (xh any)⟩
 ·exact⟨w',H3,I4,rz,F3,z,env,r3,z2.trans z3,dz,qs z hz⟩
def yA (ta tb:Gq) (t u:bG):bG:=λZ env=>ta env λx e1=>tb e1 λy e2=>oS x y λz=>∃k,z=.bl k/\if k=true then t Z e2 else u Z e2
theorem Bi {ta tb:Gq} {t u:bG} {body els:List Stmt} (hu:X.A.units + 64 < cLine) (ha:EK X a ta) (hb:EK X b tb) (ht:m7 X body t) (he:m7 X els u):QS X (.If (.Compare a [.NotEq] [b] p1) body els pos) (yA ta tb t u):=by
 refine⟨λB σ F H env Z rp h=>df (zz (kO rh bB bB (fX _)) dI dI) ?_⟩;refine aA (ha.run B σ F H env _ rp h) λx H1 hq0=>?_;obtain⟨F1,d,e1,r1,s1,d1,q1⟩:=hq0;refine aA (hb.run B σ F1 H1 e1 _ r1 q1) λy H2 hq0=>?_;obtain⟨F2,d',e2,r2,s2,d2,q2⟩:=hq0;refine y8 hu B σ F2 H2 e2 (λz=>∃k,z=.bl k/\if k=true then t Z e2 else u Z e2) d d' x y _ r2 (Den.mono s2 _ _ d1) d2 (λv H' F' d' r' s' hd q=>?_) q2
 obtain⟨k,rfl,q⟩:=q;refine⟨k,gM hd,?_⟩
 cases k with
 | true=>exact ht B σ F' H' e2 Z r' q
 | false=>exact he B σ F' H' e2 Z r' q
end
variable {T:Type}
end L2.L3
namespace L2.L3
open PySem PySem.Spec PyProof.Rows
structure yf (K:IB) (C S:Addr):Prop where
 ty:PySem.W.typeIn K (.ref S)=some (.type "type")
 dct:PySem.W.hasDictIn K S=true
 be:PySem.W.subIn K (.ref S) (.type "BaseException")=some true
 sub:PySem.W.subIn K (.ref C) (.ref S)=some true
theorem pj {K:IB}:PySem.W.subIn K (.type "type") (.type "tuple")=some false:=by
 show Option.map (λx=>x.contains (Value.type "tuple")) (fastBuiltinMro "type")=some false
 decide +kernel
theorem yh {M:Model} {A:Around} {E:Value->Shared->Prop} {K:IB} {h:Heap} {g:Array GenState} {d:Drawn} {t:Nat} {os:OsState} {e C S:Addr} {Q:Bool->Shared->Prop} (X:K.In h) (O:yf K C S)
  (ht:PySem.W.Looks M h (typeOf (.ref e)) (.ref C)) (hq:Q true ⟨h,g,d,t,os⟩):wpAny M A (excMatches (.ref e) (.ref S)) Q E ⟨h,g,d,t,os⟩:=by
 have L1:PySem.W.Looks M h (isInstance (.ref S) (.type "tuple")) false:=(PySem.W.looks_typeIn X O.ty).andThen (PySem.W.looks_subIn X pj)
 have L2:=PySem.W.looks_subIn (M:=M) X O.be;have L3:=PySem.W.looks_subIn (M:=M) X O.sub;obtain⟨c,dd,cd,sl,lk⟩:=By O.dct;have hS:=X _ _ lk;have LT:PySem.W.Looks M h (isType (.ref S)) true:=λA Q E s keep q=>Iw (wpAny_loadPart (keep _ _ hS) (ID q));have LE:PySem.W.Looks M h (isExcClass (.ref S)) true:=LT.andThen L2;unfold excMatches;refine Iw (L1.at ?_);rw [if_neg (by decide)];refine Iw (ID ?_);simp only [List.forIn_cons,List.forIn_nil]
 refine Iw (Iw (Iw (LE.at (ID (ID ?_)))));refine Iw (ht.at (Iw (Iw (Iw (L3.at (ID (ID ?_)))))));exact ID hq
structure GD (k:Nat) (A:Around):Prop where
 dp:A.depth + 3 * k + 5 < recursionLimit
 un:A.units + 16 * k + 200 < cLine
theorem _root_.L2.cQ.hand {k:Nat} {A:Around} (r:cQ k A) (v:Option Value):GD k (A.mark v):=⟨r.dp,r.un⟩
theorem m6 {N P:List Str} {sc:Scope} (a:sc.kind=.function:=by rfl) (b:sc.isCoroutine=false:=by rfl) (c:sc.isGenerator=false:=by rfl) (d:N.Nodup:=by decide +kernel) (e:N.take P.length=P:=by rfl) (f:∀x∈P,sc.names.lookup x=some .local\/sc.names.lookup x=some .cell:=by decide +kernel) (g:∀y∈sc.names,y.2≠.free:=by decide +kernel):aK N P sc:=⟨a,b,c,d,e,f,g⟩
theorem _root_.L2.cQ.md {j k:Nat} {A:Around} (r:cQ k A) (h:j<=k:=by decide):cQ j A:=r.mono h
structure cy (K:IB) (x:Str) (st:Stmt):Prop where
 ex:∃(f:Addr) (oc:Value) (od an:Option Addr) (sl:Array (Option Value)) (kV dc pm cd ct:Value),PySem.W.nsIn K mainGlobals x=some (some (.ref f)) /\
  K.lookup f=some ⟨oc,od,.func (PySem.W.fnOf x x (dR st) (bT st) (ar st) .none kV dc pm an cd ct),sl⟩/\PySem.W.codeIn K cd x=true/\PySem.W.keepIn K (.ref f)=true
section
variable {K:IB} {h:Heap} {mg:Str->Option Value} {x:Str} {st:Stmt} {i:Int}
theorem cy.get {ps:List Str} (D:cy K x st) (X:K.In h) (G:h.Ns mainGlobals mg)
  (hb:∀(kV doc pm:Value) (an:Option Addr) (cdv ct:Value) (us:List Value),us.length=ps.length->bindArgs (PySem.W.fnOf x x (dR st) (bT st) (ar st) .none kV doc pm an cdv ct) ⟨us,[]⟩=pure (ps.zip us)) :
  ∃fa fd,rD K x x st fa fd/\mg x=some (.ref fa)/\Binds K fd ps []:=by
 obtain⟨f,oc,od,an,sl,kV,dc,pm,cd,ct,a,l,c,k⟩:=D.ex;have F:=uM l c k;exact⟨f,_,F,JM X G a,F.binds hb⟩
theorem cy.Ib {fa:Addr} {p:Str} (D:cy K x st) (X:K.In h) (G:h.Ns mainGlobals mg) (hfa:mg x=some (.ref fa))
  (hb:∀(kV doc pm:Value) (an:Option Addr) (cdv ct:Value) (v:Value),bindArgs (PySem.W.fnOf x x (dR st) (bT st) (ar st) .none kV doc pm an cdv ct) ⟨[v],[]⟩=pure [(p,v)]) :
  ∃fd,rD K x x st fa fd/\∀(s:Shared) (v:Value),BindsTo s fd ⟨[v],[]⟩ [(p,v)]:=by
 obtain⟨f,oc,od,an,sl,kV,dc,pm,cd,ct,a,l,c,k⟩:=D.ex;have e:=hfa.symm.trans (JM X G a);cases e;exact⟨_,uM l c k,λs v=>.of_eq (hb kV dc pm an cd ct v)⟩
end
theorem Ia {P:List Value->Prop} (h:P []) (us:List Value) (hu:us.length=0):P us:=by
 cases us with
 | nil=>exact h
 | cons a l=>simp at hu
theorem DQ {P:List Value->Prop} (h:∀a,P [a]) (us:List Value) (hu:us.length=1):P us:=by
 cases us with
 | nil=>simp at hu
 | cons a l=>exact Ia (P:=λl=>P (a :: l)) (h a) l (by simpa using hu)
theorem xW {P:List Value->Prop} (h:∀a b,P [a,b]) (us:List Value) (hu:us.length=2):P us:=by
 cases us with
 | nil=>simp at hu
 | cons a l=>exact DQ (P:=λl=>P (a :: l)) (h a) l (by simpa using hu)
theorem EI {P:List Value->Prop} (h:∀a b c,P [a,b,c]) (us:List Value) (hu:us.length=3):P us:=by
 cases us with
 | nil=>simp at hu
 | cons a l=>exact xW (P:=λl=>P (a :: l)) (h a) l (by simpa using hu)
theorem Iq {P:List Value->Prop} (h:∀a b c d,P [a,b,c,d]) (us:List Value) (hu:us.length=4):P us:=by
 cases us with
 | nil=>simp at hu
 | cons a l=>exact EI (P:=λl=>P (a :: l)) (h a) l (by simpa using hu)
structure Df (K:IB) (mg:Str->Option Value) (x:Str) (st:Stmt) (ps:List Str):Prop where
 ex:∃fa fd,rD K x x st fa fd/\mg x=some (.ref fa)/\Binds K fd ps []
section
variable {P:Program} {w:World} {K:IB} {mg:Str->Option Value} {base:Heap} {x:Str} {st:Stmt} {N ps:List Str} {k:Nat} {f:Fw} {fx:x8} {i:Int}
theorem Df.known (F:Df K mg x st ps) (S:aK N ps (ar st)) (hl:∀ds Q,f ds Q->ds.length=ps.length)
  (hbody:∀(fa:Addr) (cdv:Value) (A:Around) (outer:List Env) (s:Shared) (H:Hp) (E:XK),cQ k (A.deeper (envOfC x (ar st) s.heap.objs.size fa cdv)) ->
   ∃t,m7 (jc yb P w K mg base N x (ar st) fa cdv A outer s H E).pE (bT st) t/\∀ds (Q:D->Prop),f ds Q->t { nx:=λ_=>Q .non,rt:=Q } (aE N ds)):Known P w K mg base (k + 1) x f :=
 let ⟨fa,_,F,m,b⟩:=F.ex;rD.known F S m b hl (hbody fa)
theorem Df.uY (F:Df K mg x st ps) (S:aK N ps (ar st)) (hl:∀ds Q R,fx ds Q R->ds.length=ps.length)
  (hbody:∀(fa:Addr) (cdv:Value) (A:Around) (outer:List Env) (s:Shared) (H:Hp) (E:XK),cQ k (A.deeper (envOfC x (ar st) s.heap.objs.size fa cdv)) ->
   ∃t,EN (jc (B5 P w) P w K mg base N x (ar st) fa cdv A outer s H E) (bT st) t/\∀ds (Q:D->Prop) (R:Str->Prop),fx ds Q R->t { nx:=λ_=>Q .non,rt:=Q,xc:=R } (aE N ds)):gA P w K mg base (k + 1) x fx :=
 let ⟨fa,_,F,m,b⟩:=F.ex;rD.uY F S m b hl (hbody fa)
end
open PySem PySem.Spec PyProof.Rows PySem.W
theorem qj {a b:Int} {t u:Tok} {c:Value}:∀(l:List Value),TriplesOk l->TriplesOk (l ++ [.int a t,.int b u,c]):=by
 intro l
 fun_induction TriplesOk l with
 | case1=>intro _;trivial
 | case2 i t j u c rest ih=>intro h;exact ih h
 | case3 l h1 h2=>intro h;exact h.elim
theorem vC {pos:Pos} {a b:Int} {t u:Tok} {c cv:Value}:∀(l:List Value),TriplesOk l->codeAmong pos (l ++ [.int a t,.int b u,c])=some cv->codeAmong pos l=some cv\/cv=c:=by
 intro l
 fun_induction TriplesOk l with
 | case1 =>
  intro _ h;simp only [List.nil_append,codeAmong] at h
  split at h
  ·cases h;exact .inr rfl
  ·cases h
 | case2 i t j u c rest ih =>
  intro h z;simp only [List.cons_append,codeAmong] at z ⊢
  split at z
  ·rename_i q;rw [if_pos q];exact .inl z
  ·rename_i q;rw [if_neg q];exact ih h z
 | case3 l h1 h2=>intro h;exact h.elim
def j4 (oc:Obj) (q:Str):Prop:=∃vs t,oc.data=.fields vs/\vs[1]?=some (.str q t)
theorem j4.rec {h:Heap} {c:Addr} {oc:Obj} {q:Str} (x:j4 oc q) (e:h.get? c=some oc):h.CodeRec (.ref c) q:=let ⟨vs,t,d,v⟩:=x;⟨c,oc,vs,t,rfl,e,d,v⟩
section
variable {X:Cx} {pins:List (Addr×Obj)} {σ:St} {H:Hp} {s:Shared} {c P:Addr} {qual:Str}
def Made (H:Hp) (q:Str) (f c':Addr) (oc fo:Obj) (H':Hp):Prop:=H f=none/\H' f=some (.frz fo (.cdr c' q))/\H' c'=some (.frz oc (.own c'))/\j4 oc q/\ak H H'
theorem _root_.L2.Inv.Ge (I:Inv X pins σ H s) (hP:H P=some (.m8 qual)) {ps:Array Value} (hps:s.heap.get? P=some (tabObj ps)) (htr:TriplesOk ps.toList) (hcs:∀pos cv,codeAmong pos ps.toList=some cv->∃c oc vs t,cv=.ref c/\H c=some (.frz oc (.own c))/\oc.data=.fields vs/\vs[1]?=some (.str qual t))
  {a b:Int} {t u:Tok} {c':Addr} {h':Heap} {fo:Obj} {tk:Nat} (hx:Heap.ExtBut P s.heap h') (hge:s.heap.objs.size<=c') (hlt:c' < h'.objs.size) (hrec:h'.CodeRec (.ref c') qual) (htb:h'.get? P=some (tabObj (ps ++ #[.int a t,.int b u,.ref c'])))
  (hfo:Obj.isFreed fo=false) :
  ∃oc H',Made H qual h'.objs.size c' oc fo H'/\Inv X pins σ H' { s with heap:=h'.push fo,toks:=tk }:=by
 obtain⟨c2,oc,vs,tt,e2,hoc,hd,hv⟩:=hrec;cases e2;have sz:s.heap.objs.size<=h'.objs.size:=Jz hge (JS hlt);have nc:H c'=none:=I.hok.fresh hge;have nf:H h'.objs.size=none:=I.hok.fresh sz;have fc:h'.objs.size≠c':=Nat.ne_of_gt hlt
 let H1:Hp:=upd H c' (.frz oc (.own c'))
 have nf1:H1 h'.objs.size=none:=by show upd H c' _ _=none;rw [av fc];exact nf
 let H2:Hp:=upd H1 h'.objs.size (.frz fo (.cdr c' qual))
 have s1:ak H H1:=a8 nc;have s2:ak H1 H2:=a8 nf1;have s12:=s1.trans s2;have hcP:c'≠P:=λz=>by rw [z] at nc;rw [nc] at hP;cases hP
 have hfP:h'.objs.size≠P:=λz=>by rw [z] at nf;rw [nf] at hP;cases hP
 have nP:∀x,H x=none->x≠P:=λx z w=>by rw [w,hP] at z;cases z
 have keep:∀x o,x≠P->s.heap.get? x=some o->(h'.push fo).get? x=some o:=λx o n e=>IC _ (hx x o n e);have gP:(h'.push fo).get? P=some (tabObj (ps ++ #[.int a t,.int b u,.ref c'])):=IC _ htb;have gc:(h'.push fo).get? c'=some oc:=IC _ hoc;have gf:(h'.push fo).get? h'.objs.size=some fo:=IS _ hfo;have other:∀x,x≠c'->x≠h'.objs.size->H2 x=H x:=λx n1 n2=>by show upd H1 _ _ _=_;rw [av n2];show upd H _ _ _=_;rw [av n1]
 refine⟨oc,H2,⟨nf,au,s2 _ _ au,⟨vs,tt,hd,hv⟩,s12⟩,I.un (t':=tk) ⟨λx o e n _ _=>keep x o (nP x n) e,λx o e n _ _=>⟨o.slots,keep x o (nP x n) e⟩,λx o e n _=>?_,λx o e _=>?_,λx xs q=>s12 _ _ q,λx o xs q=>s12 _ _ q,λx q e=>s12 _ _ e⟩ λx o e=>?_⟩
 ·have hl:=IU e;rw [other x (Jj (IP hl hge)) (Jj (IP hl sz))];exact n
 ·by_cases z:x=P
  ·exact⟨_,by rw [z];exact gP⟩
  ·exact⟨o,keep x o z e⟩
 ·by_cases z1:x=h'.objs.size
  ·subst z1;have e':some (HO.frz fo (.cdr c' qual))=some o:=au.symm.trans e;cases e';exact⟨gf,⟨fo,gf⟩,oc,vs,tt,s2 _ _ au,hd,hv⟩
  ·by_cases z2:x=c'
   ·subst z2;have e':some (HO.frz oc (.own x))=some o:=(s2 _ _ au).symm.trans e;cases e';exact⟨gc,oc,gc⟩
   ·rw [other x z2 z1] at e
    by_cases z:x=P
    ·subst z;rw [hP] at e;cases e;refine⟨_,gP,?_,λpos cv hc=>?_⟩
     ·have:=qj (a:=a) (b:=b) (t:=t) (u:=u) (c:=.ref c') ps.toList htr
      simpa using this
     ·have hc':codeAmong pos (ps.toList ++ [.int a t,.int b u,.ref c'])=some cv:=by simpa using hc
      rcases vC ps.toList htr hc' with q|q
      ·obtain⟨c,oc',vs',t',e1,e3,e4⟩:=hcs pos cv q;exact⟨c,oc',vs',t',e1,s12 _ _ e3,e4⟩
      ·exact⟨c',oc,vs,tt,q,s2 _ _ au,hd,hv⟩
    ·refine (I.hok x o e).nG (λy v hy q=>keep y v (λw=>?_) q) (λy q=>s12 _ _ q) (λy xs q=>s12 _ _ q) λy o' xs q=>s12 _ _ q;rcases hy with w'|w'
     ·exact z (w'.symm.trans w)
     ·rw [w,hP] at w';cases w'
theorem _root_.L2.Inv.Gh (I:Inv X pins σ H s) {c':Addr} {oc fo:Obj} {h':Heap} {tk:Nat} (hc:H c'=some (.frz oc (.own c'))) (hq:j4 oc qual) (hk:∀b o,s.heap.get? b=some o->h'.get? b=some o) (sz:s.heap.objs.size<=h'.objs.size) (hfo:Obj.isFreed fo=false) :
  ∃H',Made H qual h'.objs.size c' oc fo H'/\Inv X pins σ H' { s with heap:=h'.push fo,toks:=tk }:=by
 have nf:H h'.objs.size=none:=I.hok.fresh sz;have gf:(h'.push fo).get? h'.objs.size=some fo:=IS _ hfo;obtain⟨vs,tt,hd,hv⟩:=hq;exact⟨_,⟨nf,au,a8 nf _ _ hc,⟨vs,tt,hd,hv⟩,a8 nf⟩,I.laid (a:=h'.objs.size) (o:=.frz fo (.cdr c' qual)) (t':=tk) (λb u e=>IC _ (hk b u e)) sz ⟨gf,⟨fo,gf⟩,oc,vs,tt,a8 nf _ _ hc,hd,hv⟩⟩
theorem y3 {E:Value->Shared->Prop} {Q:Value->Shared->Prop} {M:Model} {A:Around} {name:Str} {params:Arguments} {body:Expr} {scope:Scope} {pos:Pos} {line:Nat} {cg:List (Str×Addr)} (I:Inv X pins σ H s) (hcode:X.env.code=.ref c) (C:CodeHd X.base c P) (hq:tq X.K P=some qual)
  (hcl:closureFor scope X.env=pure cg)
  (h:∀f c' pm ctv oc H' s',Made H qual f c' oc (kla_obj name qual params body scope cg pm c' ctv) H'->Inv X pins σ H' s'->Q (.ref f) s') :
  wpAny M A (makeFunction name qual params (.expr body) scope X.env [] [] [] pos line) Q E s:=by
 have hP:=I.tb P qual hq;obtain⟨ps,hps,htr,hcs⟩:=I.hok P _ hP;obtain⟨bm,ob,b1,b2,b3,b4,b5,b6⟩:=I.mod.bm;have hg:=I.mod.glob.keeps I.bk
 have hgP:mainGlobals≠P:=λz=>by
  obtain⟨o,es,ep,e,hd,_⟩:=I.mod.glob;have n:=(I.bs _ _ e).2;rw [z,hP] at n;cases n
 have hbP:bm≠P:=λz=>by
  have n:=(I.bs _ _ b3).2;rw [z,hP] at n;cases n
 have hbG:bm≠mainGlobals:=λz=>by
  obtain⟨o,es,ep,e,hd,_⟩:=I.mod.glob;rw [z,e] at b3;cases b3;rw [hd] at b6;cases b6
 have hB:s.heap.BuiltinsAt X.mg P:=⟨bm,ob,b1,b2,hbG,hbP,I.bk _ _ b3,b4,b5,b6⟩
 cases ha:codeAmong pos ps.toList with
 | none =>
  refine kla_makeFunction hcl I.ok.glob hg hcode (C.keeps I.bk) hps htr ha hgP hB λc' ctv h' tk hx hge hlt hrec htb=>?_;obtain⟨oc,H',m,I'⟩:=I.Ge (fo:=kla_obj name qual params body scope cg ((X.mg "__name__").getD .none) c' ctv) (tk:=tk) hP hps htr hcs hx hge hlt hrec htb rfl
  exact h _ c' _ ctv oc H' _ m I'
 | some cv =>
  obtain⟨c',oc,vs,t,rfl,hc,hd,hv⟩:=hcs pos cv ha;refine kla_makeFunctionHit hcl I.ok.glob hg hcode (C.keeps I.bk) hps htr ha hB λctv h' tk hk hsz=>?_;obtain⟨H',m,I'⟩:=I.Gh (fo:=kla_obj name qual params body scope cg ((X.mg "__name__").getD .none) c' ctv) (tk:=tk) hc ⟨vs,t,hd,hv⟩ hk hsz rfl
  exact h _ c' _ ctv oc H' _ m I'
end
structure lO (P:Program) (w:World) (K:Frag) (mg:Str->Option Value) (base:Heap) (k:Nat) (Pf:Frag->Hp->Addr->Prop) (φ:Fw):Prop where
 here:∀(H:Hp) (h:Heap) (a:Addr),Pf K H a->jk P w H h->FnAt a h
 run:∀(F:Hp) (a:Addr) (A:Around) (outer:List Env) (s:Shared) (H:Hp) (us:List Value) (vs:List V) (ds:List D) (Pd:D->Prop) (Q:VK) (E:XK),(∀G,ak F G->Pf K G a)->cQ k A->uS P w K mg base A outer s H->ak F H->ao K F ds vs->Vals vs us->φ ds Pd ->
  (∀(d:D) (v:V) (F' H':Hp),ak F F'->ak H H'->ak F' H'->(∀p,H p≠none->F p=none->F' p=none)->Den K F' d v->Pd d->Q v H') ->
  codeAny (model P w) A (.call (.ref a) ⟨us,[]⟩) (CR yb outer P w H s Q E) s
def vM (i:Nat) (Pf:Frag->Hp->Addr->Prop) (φ:Fw) (ts:d7):TD:=λenv Q=>env[i]?=some (some (.d (.obj Pf)))/\ts env λds=>φ ds Q
section
variable {X:Cx} {e:Expr} {es:List Expr} {ts:d7} {p pos:Pos} {x:Str} {k:Nat} {φ:Fw} {Pf:Frag->Hp->Addr->Prop}
theorem BG (i:Nat) (h:lO X.prog X.w X.K X.mg X.base k Pf φ) (hr:cQ k X.A) (ha:QA X (e :: es) ts) (hN:X.N[i]?=some x:=by rfl) (hv:rY X.env.scope x:=by first | exact Or.inl rfl | exact Or.inr (Or.inl rfl) | exact Or.inr (Or.inr rfl)) (hd:(x == ("__debug__" : Str))=false:=by decide)
  (hcd:(x == ("__classdict__" : Str))=false:=by decide)
  (he:starEach (e :: es) X.env=(false,eval e X.env) :: starEach es X.env:=by exact aV rfl) (hpl:(backTo pos (starEach es X.env)).any (·.1)=false:=by rfl):QE X (.Call (.Name x p) (e :: es) [] pos) (vM i Pf φ ts):=by
 refine⟨λB σ F H env Q rp hq pins s I=>?_⟩;obtain⟨hi,hq⟩:=hq;obtain⟨v,hv',hdn⟩:=rp.dv i _ hi;simp only [Den] at hdn;obtain⟨a,rfl,hP⟩:=hdn;refine wpAny_Call_Name_kw (bQ (c4 (pos:=p) hN hv hd hcd pins s σ H (λv H'=>v=.ref a/\H'=H) I ⟨.ref a,hv',rfl,rfl⟩) λu s1 hq0=>?_);obtain⟨v,H1,I1,r,ev,eH⟩:=hq0;subst ev;subst eH;obtain rfl:u=Value.ref a:=r;refine callWith_F (first:=[]) (h.here H1 _ a (hP H1 rp.fh) I1.hok) (bQ (ha B σ F H1 env _ rp hq pos pins s1 I1) λus s2 hq1=>?_) he hpl
 obtain⟨vs,H2,I2,rv,F2,ds,r2,s2',d2,hf⟩:=hq1;have hP2:∀G,ak F2 G->Pf X.K G a:=λG sG=>hP G (s2'.trans sG);refine⟨h.here H2 _ a (hP2 H2 r2.fh) I2.hok,?_⟩;refine wpAny_call (codeAny_mono (h.run F2 a X.A X.stack s2 H2 us vs ds Q (RV X B σ env F Q) E0 hP2 hr I2.gD r2.fh d2 rv hf λd v F' H' a b c n hd q=>⟨F',d,r2.ext a c b n,s2'.trans a,hd,q⟩) λr s' hq=>?_)
 cases r with
 | error e=>exact False.elim hq
 | ok fl =>
  cases fl with
  | ret u=>exact I2.after hq
  | next=>exact False.elim hq
  | brk=>exact False.elim hq
  | cont=>exact False.elim hq
end
structure Hx (h:Heap) (cg:List (Str×Addr)) (cn:List Str) (ws:List V):Prop where
 len:ws.length=cn.length
 inj:∀x y c,cg.lookup x=some c->cg.lookup y=some c->x=y
 cell:∀x c,cg.lookup x=some c->∃v,h.IsCell c v
 has:∀(i:Nat) x v,cn[i]?=some x->ws[i]?=some v->∃u c,RelV v u/\cg.lookup x=some c/\h.IsCell c (some u)
structure GH (scope:Scope) (ps cn:List Str):Prop where
 kind:scope.kind=.function
 co:scope.isCoroutine=false
 gen:scope.isGenerator=false
 cell:∀y∈scope.names,y.2≠.cell
 fr:∀y∈scope.names,y.2=.free->y.1∈cn
 par:∀x∈ps,scope.names.lookup x=some .local
 cap:∀x∈cn,scope.names.lookup x=some .free
 nd:(ps ++ cn).Nodup
theorem HX {scope:Scope} {ps cn:List Str} (a:scope.kind=.function:=by rfl) (b:scope.isCoroutine=false:=by rfl) (c:scope.isGenerator=false:=by rfl) (d:∀y∈scope.names,y.2≠.cell:=by decide +kernel) (e:∀y∈scope.names,y.2=.free->y.1∈cn:=by decide +kernel)
  (f:∀x∈ps,scope.names.lookup x=some .local:=by decide +kernel) (g:∀x∈cn,scope.names.lookup x=some .free:=by decide +kernel) (h:(ps ++ cn).Nodup:=by decide +kernel):GH scope ps cn:=⟨a,b,c,d,e,f,g,h⟩
abbrev GG (P:Program) (w:World) (K:Frag) (mg:Str->Option Value) (base:Heap) (N:List Str) (qual:Str) (scope:Scope) (f c':Addr) (cg:List (Str×Addr)) (A:Around) (outer:List Env) (s:Shared) (H:Hp):Cx where
 prog:=P
 w:=w
 K:=K
 mg:=mg
 base:=base
 A:=A.deeper (envX qual scope s.heap.objs.size f (.ref c') cg)
 N:=N
 s₀:=s
 H₀:=H
 env:=envX qual scope s.heap.objs.size f (.ref c') cg
 outer:=outer
 stack:=envX qual scope s.heap.objs.size f (.ref c') cg :: outer
 ex:=[]
 calm:=true
 fn:=λ_=>false
 pn:=[]
 xe:=λ_ _=>False
theorem iG:∀{ps:List Str} {us:List Value} {x:Str} {u:Value} {i:Nat},ps.Nodup->ps[i]?=some x->us[i]?=some u->(ps.zip us).reverse.lookup x=some u
 | [],_,_,_,_,_,h,_=>by simp at h
 | _ :: _,[],_,_,_,_,_,h=>by simp at h
 | y :: ps,v :: us,x,u,i,nd,h1,h2=>by
  rw [List.zip_cons_cons,List.reverse_cons,List.lookup_append]
  cases i with
  | zero =>
   simp at h1 h2;subst h1;subst h2
   have:(ps.zip us).reverse.lookup y=none:=by
    rw [List.lookup_eq_none_iff];intro p hp;rw [List.mem_reverse] at hp;obtain⟨a,b⟩:=p;have hm:=(List.of_mem_zip hp).1;simp only [bne_iff_ne,beq_eq_false_iff_ne,ne_eq];exact λw=>(Jx.mp nd).1 (by rw [w];exact hm)
   rw [this]
   simp [List.lookup]
  | succ i =>
   rw [iG (i:=i) (Jx.mp nd).2 (by simpa using h1) (by simpa using h2)];rfl
section
variable {P:Program} {w:World} {K:Frag} {mg:Str->Option Value} {base:Heap} {qual:Str} {params:Arguments} {scope:Scope} {cg:List (Str×Addr)} {ps cn:List Str} {ws:List V} {caps:List D} {k:Nat} {A:Around} {outer:List Env} {s:Shared} {H:Hp}
theorem vH {f c':Addr} {us:List Value} {vs:List V} {h1:Heap} {tk:Nat} (S:GH scope ps cn) (CL:Hx base cg cn ws) (hfr:∀x c,cg.lookup x=some c->x∈cn) (hd:A.handled=none) (e0:uS P w K mg base A outer s H) (hl:vs.length=ps.length) (r:Vals vs us)
  (hns:h1.Ns s.heap.objs.size λx=>(ps.zip us).reverse.lookup x) (hk1:∀b o,s.heap.get? b=some o->h1.get? b=some o) :
  Inv (GG P w K mg base (ps ++ cn) qual scope f c' cg A outer s H) [] (start (ps ++ cn) (vs ++ ws)) H { s with heap:=h1,toks:=tk }:=by
 have noA:∀b:Addr,b∉(GG P w K mg base (ps ++ cn) qual scope f c' cg A outer s H).ex:=λb z=>absurd (show b∈([]:List Addr) from z) (by simp);have cellB:∀c v,base.IsCell c v->h1.IsCell c v/\H c=none:=λc v ⟨o,ho,hd⟩=>⟨⟨o,hk1 _ _ (e0.bs c o ho).1,hd⟩,(e0.bs c o ho).2⟩
 have stE:start (ps ++ cn) (vs ++ ws)=(vs ++ ws).map some:=by
  unfold start;rw [show (ps ++ cn).length - (vs ++ ws).length=0 by rw [Jd,Jd,hl,CL.len];omega];simp
 refine⟨⟨e0.mod,S.kind,rfl,rfl,II _,λy z c h1 h2=>CL.inj y z c h1 h2,λy hy=>?_,λy c z _=>(by cases z),λ_=>hd,Around.frames_deeper e0.frames,.inr ⟨rfl,rfl⟩,λb z=>absurd z (noA b),e0.bs,e0.bsz,λb _ _=>noA b,λb z=>absurd z (noA b),e0.kP,e0.frf⟩,
  rfl,e0.bare,Un.kept hk1,⟨_,hns,λi y v h1 h2 h3=>?_⟩,λy c h=>?_,e0.hok.fresh (II _),λy c h=>?_,λp hp=>absurd (show p∈([]:List (Addr×Obj)) from hp) (by simp),e0.hok.kept hk1,?_⟩
 ·have hy:scope.names.lookup y=some .cell\/scope.names.lookup y=some .free:=hy;rcases hy with hy|hy
  ·exact absurd rfl (S.cell _ (PySem.mem_of_lookup hy))
  ·have hm:=S.fr _ (PySem.mem_of_lookup hy) rfl;obtain⟨i,hi⟩:=List.mem_iff_getElem?.mp hm;have hlt:i < ws.length:=by rw [CL.len];exact (Iy.mp hi).1
   obtain⟨u,c,_,e,_⟩:=CL.has i _ _ hi (IE hlt);exact⟨c,e⟩
 ·rw [stE,IJ] at h2
  have ha:(vs ++ ws)[i]?=some v:=by
   cases e:(vs ++ ws)[i]? with
   | none=>rw [e] at h2;cases h2
   | some a=>rw [e] at h2;cases h2;rfl
  have h1':(ps ++ cn)[i]?=some y:=h1
  by_cases hi:i < ps.length
  ·rw [IW hi] at h1';rw [IW (by omega)] at ha;obtain⟨u,hu,rv⟩:=r.get ha;refine⟨u,rv,.inl ⟨S.par y (IG h1'),?_⟩⟩;exact iG (S.nd.sublist (List.sublist_append_left _ _)) h1' hu
  ·rw [IQ (by omega)] at h1';rw [IQ (by omega)] at ha;rw [hl] at ha;obtain⟨u,c,rv,e,z⟩:=CL.has _ _ _ h1' ha;exact⟨u,rv,.inr ⟨.inr (S.cap y (IG h1')),c,e,(cellB c _ z).1⟩⟩
 ·obtain⟨v,z⟩:=CL.cell y c h;exact⟨v,(cellB c v z).1⟩
 ·obtain⟨v,z⟩:=CL.cell y c h;exact (cellB c v z).2
 ·rw [stE,IK,Jd,hl,CL.len,<- Jd]
def CW (qual:Str) (params:Arguments) (body:Expr) (scope:Scope) (cg:List (Str×Addr)) (caps:List D) (ws:List V):Frag->Hp->Addr->Prop:=λK G a=>(∃c' pm ctv,G a=some (.frz (kla_obj "<lambda>" qual params body scope cg pm c' ctv) (.cdr c' qual)))/\ao K G caps ws
theorem An {body:Expr} {t:TD} (S:GH scope ps cn) (CL:Hx base cg cn ws) (hfr:∀x c,cg.lookup x=some c->x∈cn)
  (hb:∀pm c' ctv (us:List Value),us.length=ps.length->bindArgs (kla_fn "<lambda>" qual params body scope cg pm (.ref c') ctv) ⟨us,[]⟩=pure (ps.zip us))
  (hbody:∀(f c':Addr) (A:Around) (outer:List Env) (s:Shared) (H:Hp),cQ k (A.deeper (envX qual scope s.heap.objs.size f (.ref c') cg))->QE (GG P w K mg base (ps ++ cn) qual scope f c' cg A outer s H) body t) :
  lO P w K mg base (k + 1) (CW qual params body scope cg caps ws) λds Q=>ds.length=ps.length/\t (aE (ps ++ cn) (ds ++ caps)) Q:=by
 refine⟨λH h a hP hok=>?_,λF a A outer s H us vs ds Pd Q E hP hr e0 fh hd r hf kk=>?_⟩
 ·obtain⟨⟨c',pm,ctv,e1⟩,_⟩:=hP;obtain⟨e,_⟩:=hok a _ e1;exact⟨_,_,_,_,e⟩
 ·obtain⟨⟨c',pm,ctv,e1⟩,hcap⟩:=hP F (ak.refl _);obtain⟨ho,_,oc,vs',tt,e2,hd',hv'⟩:=e0.hok a _ (fh _ _ e1);obtain⟨hoc,_⟩:=e0.hok c' _ e2;have hq:j4 oc qual:=⟨vs',tt,hd',hv'⟩;obtain⟨hl,hf⟩:=hf;have lu:us.length=ps.length:=by rw [<- r.length,<- hd.length];exact hl
  refine kla_callFunE hr.depth ho rfl S.co S.gen rfl (hq.rec hoc) ?_;rw [hb pm c' ctv us lu];have lim:s.heap.NoLimit:=e0.mod.nolimit.keeps λb o e=>(e0.bs b o e).1;refine ID (wpAny_newFunctionEnv S.cell (λy hy=>S.par _ (List.of_mem_zip hy).1) (λh1 hns hsb=>?_) S.kind);have hk1:∀b o,s.heap.get? b=some o->h1.get? b=some o:=λb o e=>hsb.extBut b o (Jj (IU e)) (IC _ e);refine⟨lim.keeps hk1,?_⟩;show codeAny _ _ (.expr body (envX qual scope s.heap.objs.size a (.ref c') cg)) _ _
  have I:=vH (qual:=qual) (f:=a) (c':=c') (tk:=s.toks + (ps.zip us).length) S CL hfr hr.hd e0 (by rw [<- hd.length];exact hl) r hns hk1;have hw:=hbody a c' A outer s H (hr.deeper _);have core:=hw _ _ F H _ Pd (gr (N:=ps ++ cn) fh (hd.append hcap)) hf [] _ I;refine kla_codeExpr (Jh core (λu s' hq0=>?_) λe s' z=>False.elim z);obtain⟨v,H',J,rv,F',d,rp,sF,dd,q⟩:=hq0;exact⟨v,H',J.os,J.bare,J.base,J.hok,rv,kk d v F' H' rp.f0 rp.h0 rp.fh (λp h1 h2=>rp.nf p ⟨h1,h2⟩) dd q⟩
end
def xA (env:En):List Nat->Option (List D)
 | []=>some []
 | i :: r=>match env[i]? with
  | some (some (.d x))=>(xA env r).map (x :: ·)
  | _=>none
theorem t7 {K:Frag} {B:Base} {F H:Hp} {σ:St} {env:En} (rp:Rep K B F H σ env):∀{ix:List Nat} {caps:List D},xA env ix=some caps->∃ws:List V,ws.length=ix.length/\ao K F caps ws/\∀(j i:Nat) w,ix[j]?=some i->ws[j]?=some w->σ[i]?=some (some w)
 | [],caps,h=>by cases h;exact⟨[],rfl,aJ,λj i w z=>by simp at z⟩
 | i :: r,caps,h=>by
  unfold xA at h
  split at h
  ·rename_i x hx
   cases e:xA env r with
   | none=>rw [e] at h;cases h
   | some cs =>
    rw [e] at h;cases h;obtain⟨ws,l,d,f⟩:=t7 rp e;obtain⟨v,hv,dv⟩:=rp.dv i x hx;refine⟨v :: ws,by simp [l],aF dv d,λj i' w z1 z2=>?_⟩
    cases j with
    | zero=>simp at z1 z2;subst z1;subst z2;exact hv
    | succ j=>exact f j i' w (by simpa using z1) (by simpa using z2)
  ·cases h
def cellAt (env:Env) (x:Str):Addr:=(env.cells.lookup x).getD 0
def cK (env:Env) (cn:List Str):List (Str×Addr):=cn.map λx=>(x,cellAt env x)
theorem eR {env:Env} {x:Str} {c:Addr}:∀{cn:List Str},(cK env cn).lookup x=some c->x∈cn/\c=cellAt env x
 | [],h=>by cases h
 | y :: cn,h=>by
  have h':((y,cellAt env y) :: cK env cn).lookup x=some c:=h;rw [List.lookup_cons] at h'
  cases e:x == y with
  | true =>
   rw [e] at h';cases h';have:=eq_of_beq e;subst this
   exact⟨Jb,rfl⟩
  | false =>
   rw [e] at h';obtain⟨a,b⟩:=eR (cn:=cn) h';exact⟨IT _ a,b⟩
theorem pQ {env:Env} {x:Str}:∀{cn:List Str},x∈cn->(cK env cn).lookup x=some (cellAt env x)
 | y :: cn,h=>by
  show ((y,cellAt env y) :: cK env cn).lookup x=_
  rw [List.lookup_cons]
  cases e:x == y with
  | true=>have:=eq_of_beq e;subst this;rfl
  | false =>
   rcases IZ.mp h with z|z
   ·subst z;simp at e
   ·exact pQ z
def resT (h:Heap) (p:Addr->Bool):Heap:=hideAll h ((List.range h.objs.size).filter λb=>!p b)
theorem wF {h:Heap} {p:Addr->Bool} {b:Addr} {o:Obj} (e:h.get? b=some o) (hp:p b=true):(resT h p).get? b=some o:=hideAll_get _ e (by simp [hp])
theorem yK {h:Heap} {p:Addr->Bool} {b:Addr} {o:Obj} (e:(resT h p).get? b=some o):h.get? b=some o/\p b=true:=by
 have e1:h.get? b=some o:=of_hideAll _ e;refine⟨e1,?_⟩
 cases q:p b with
 | true=>rfl
 | false =>
  have hm:b∈(List.range h.objs.size).filter λb=>!p b:=List.mem_filter.mpr ⟨JB.mpr (IU e1),by simp [q]⟩;have z:(resT h p).get? b=none:=hideAll_none _ hm;rw [z] at e;cases e
def oR (base h:Heap) (cg:List (Str×Addr)):Heap:=resT h λb=>(base.get? b).isSome || (cg.map (·.2)).contains b
section
variable {X:Cx} {pins:List (Addr×Obj)} {σ:St} {H:Hp} {s:Shared} {cn:List Str}
theorem tS {env:Env} {b:Addr} (h:((cK env cn).map (·.2)).contains b=true):∃x∈cn,b=cellAt env x:=by
 rw [List.contains_iff_mem] at h;obtain⟨p,hp,rfl⟩:=Jn.mp h;obtain⟨x,hx,rfl⟩:=Jn.mp hp;exact⟨x,hx,rfl⟩
theorem i9 (I:Inv X pins σ H s) (hck:∀x∈cn,X.env.kindOf x=some .cell) {x:Str} (hx:x∈cn):X.env.cells.lookup x=some (cellAt X.env x):=by
 obtain⟨c,e⟩:=I.ok.has x (.inl (hck x hx));unfold cellAt;rw [e];rfl
theorem _root_.L2.Inv.GY (I:Inv X pins σ H s) (hck:∀x∈cn,X.env.kindOf x=some .cell) (hfn:∀x∈cn,X.fn x=true):uS X.prog X.w X.K X.mg (oR X.base s.heap (cK X.env cn)) X.A X.stack s H:=by
 have keep:∀b o,X.base.get? b=some o->(oR X.base s.heap (cK X.env cn)).get? b=some o:=λb o e=>wF (I.bk b o e) (by simp [e]);refine⟨I.ok.frames,⟨I.mod.kin.keeps keep,I.mod.glob.keeps keep,let ⟨mb,h1,h2⟩:=I.mod.blt;⟨mb,h1.keeps keep,h2⟩,I.mod.nolimit.keeps keep,let ⟨bm,ob,b1,b2,b3,b4⟩:=I.mod.bm;⟨bm,ob,b1,b2,keep _ _ b3,b4⟩⟩,λb o e=>?_,Nat.le_of_eq (hideAll_size _ _),?_,⟨I.m9,I.tb⟩,I.hok,I.bare⟩
 ·obtain⟨e1,hp⟩:=yK e;refine⟨e1,?_⟩;rcases Bool.or_eq_true_iff.mp hp with z|z
  ·obtain⟨o',e'⟩:=Option.isSome_iff_exists.mp z;exact (I.bs b o' e').2
  ·obtain⟨x,hx,rfl⟩:=tS z;exact I.freeC x _ (i9 I hck hx)
 ·have no:∀L∈jP X.stack,X.base.get? L=none->(oR X.base s.heap (cK X.env cn)).get? L=none:=λL hL hn=>by
   cases e:(oR X.base s.heap (cK X.env cn)).get? L with
   | none=>rfl
   | some o =>
    obtain⟨e1,hp⟩:=yK e;rcases Bool.or_eq_true_iff.mp hp with z|z
    ·rw [hn] at z;cases z
    ·obtain⟨x,hx,rfl⟩:=tS z;have lk:=i9 I hck hx;rcases IZ.mp (I.lS _ hL) with w|w
     ·exact absurd w (I.Ct x _ lk)
     ·obtain⟨_,o',ho',_⟩:=I.ok.kP.mem w;exact absurd (IP (IU ho') (I.ok.cab x _ (hfn x hx) lk)) (Nat.lt_irrefl _)
  have all:∀(l:List Env),(∀b∈jP l,b∈jP X.stack)->s.heap.FunFrames X.base l->s.heap.FunFrames (oR X.base s.heap (cK X.env cn)) l:=by
   intro l
   induction l with
   | nil=>intro _ _;trivial
   | cons env r ih =>
    intro hs hl;obtain⟨hk,⟨L,o,hf,hn,ho,hd⟩,hr⟩:=hl;have hL:L∈jP X.stack:=hs L (by unfold jP;rw [List.filterMap_cons,hf];exact Jb);exact⟨hk,⟨L,o,hf,no L hL hn,ho,hd⟩,ih (λb hb=>hs b (by unfold jP;rw [List.filterMap_cons,hf];exact IT _ hb)) hr⟩
  exact all X.stack (λ_ h=>h) I.stack
theorem _root_.L2.Inv.Hm (I:Inv X pins σ H s) (hck:∀x∈cn,X.env.kindOf x=some .cell) {ix:List Nat} (hix:ix.map (X.N[·]?)=cn.map some) {ws:List V} (hl:ws.length=ix.length) (hσ:∀(j i:Nat) w,ix[j]?=some i->ws[j]?=some w->σ[i]?=some (some w)) :
  Hx (oR X.base s.heap (cK X.env cn)) (cK X.env cn) cn ws:=by
 have put:∀x∈cn,∀v,s.heap.IsCell (cellAt X.env x) v->(oR X.base s.heap (cK X.env cn)).IsCell (cellAt X.env x) v:=λx hx v ⟨o,e,d⟩=>by
  refine⟨o,wF e ?_,d⟩
  have:((cK X.env cn).map (·.2)).contains (cellAt X.env x)=true:=by
   rw [List.contains_iff_mem];exact Jn.mpr ⟨(x,cellAt X.env x),Jn.mpr ⟨x,hx,rfl⟩,rfl⟩
  rw [this,Bool.or_true]
 have len:ix.length=cn.length:=by have:=congrArg List.length hix;simpa using this
 refine⟨hl.trans len,λx y c h1 h2=>?_,λx c h=>?_,λi x v h1 h2=>?_⟩
 ·obtain⟨m1,rfl⟩:=eR h1;obtain⟨m2,e⟩:=eR h2;exact I.ok.inj x y _ (i9 I hck m1) (by rw [e];exact i9 I hck m2)
 ·obtain⟨m,rfl⟩:=eR h;obtain⟨v,z⟩:=I.cell x _ (i9 I hck m);exact⟨v,put x m v z⟩
 ·have m:=IG h1;have hlt:i < ix.length:=by rw [len];exact (Iy.mp h1).1
  have h3:(ix.map (X.N[·]?))[i]?=(cn.map some)[i]?:=by rw [hix]
  rw [IJ,IJ,h1,IE hlt] at h3;have h3':X.N[ix[i]]?=some x:=by simpa using h3
  have h4:=hσ i _ v (IE hlt) h2;obtain⟨mm,_,hloc⟩:=I.loc;obtain⟨u,r,l⟩:=hloc _ x v h3' h4 (.inr (.inl (hck x m)));rcases l with ⟨k,_⟩|⟨_,c,e,z⟩
  ·rw [hck x m] at k;cases k
  ·have ec:c=cellAt X.env x:=by have:=i9 I hck m;rw [e] at this;exact IL this
   subst ec;exact⟨u,_,r,pQ m,put x m _ z⟩
end
def mI (K:Frag) (cdv:Value) (q:Str):Prop:=∃c P o vs file tf flags tg inF text tt,cdv=.ref c/\K.lookup c=some o/\o.cls=.type "code"/\o.data=.fields vs/\vs[11]?=some (.ref P)/\vs.getD 11 .none=.ref P/\vs.getD 18 .none=.str file tf/\vs.getD 7 .none=.int flags tg /\
 vs.getD 9 .none=.bool inF/\vs.getD 10 .none=.int text tt/\c≠P/\tq K P=some q
theorem mI.hd {K:Frag} {cdv:Value} {q:Str} {base:Heap} (x:mI K cdv q) (hb:K.In base):∃c P,cdv=.ref c/\CodeHd base c P/\tq K P=some q:=by
 obtain⟨c,P,o,vs,file,tf,flags,tg,inF,text,tt,e,l,h1,h2,h3,h4,h5,h6,h7,h8,h9,h10⟩:=x;exact⟨c,P,e,⟨o,vs,file,tf,flags,tg,inF,text,tt,hb _ _ l,h1,h2,h3,h4,h5,h6,h7,h8,h9⟩,h10⟩
def HL (q:Str) (params:Arguments) (body:Expr) (scope:Scope) (cg:List (Str×Addr)):TE:=λ_ H Q=>∀f c' pm ctv oc H',Made H q f c' oc (kla_obj "<lambda>" q params body scope cg pm c' ctv) H'->Q (.ref f) H'
section
variable {X:Cx} {e body:Expr} {params:Arguments} {scope:Scope} {lpos p pos:Pos} {cg:List (Str×Addr)} {q x:Str} {te t:TD} {ps:List Str}
theorem Er (hck:mI X.K X.env.code q) (hq:X.env.qual ++ "<lambda>" = q) (hcl:closureFor scope X.env=pure cg) (hdef:defaultsOf params X.env=([],[])):PE X (.Lambda params body scope lpos) (HL q params body scope cg):=by
 intro pins s σ H Q I h;obtain⟨c,P,e,C,hP⟩:=hck.hd I.ok.mod.kin;refine kla_eval hdef ?_;rw [hq];exact y3 I e C hP hcl λf c' pm ctv oc H' s' m I'=>⟨.ref f,H',I',rfl,h f c' pm ctv oc H' m⟩
theorem Made.rep {K:Frag} {B:Base} {F H H':Hp} {σ:St} {env:En} {f c':Addr} {oc fo:Obj} (m:Made H q f c' oc fo H') (r:Rep K B F H σ env):Rep K B (upd F f (.frz fo (.cdr c' q))) H' σ env/\ak F (upd F f (.frz fo (.cdr c' q))):=by
 obtain⟨nf,h1,_,_,sH⟩:=m;have nF:=r.mG nf;refine⟨r.ext (a8 nF) (λb u z=>?_) sH λb h2 h3=>?_,a8 nF⟩
 ·by_cases w:b=f
  ·subst w;rw [au] at z;cases z;exact h1
  ·rw [av w] at z;exact sH _ _ (r.fh _ _ z)
 ·rw [av (λw=>by subst w;exact h2 nf)];exact h3
def rN (fx:Fw->(Frag->Hp->Addr->Prop)->x8) (te:TD) (ix:List Nat) (n:Nat) (N:List Str) (t:TD):TX:=λenv Q R=>te env λd=>∃caps,xA env ix=some caps/\∀Pf,fx (λds Q=>ds.length=n/\t (aE N (ds ++ caps)) Q) Pf [d,.obj Pf] Q R
theorem yR {fx:Fw->(Frag->Hp->Addr->Prop)->x8} {kf k:Nat} (ix:List Nat) (cn:List Str)
  (h:∀base Pf φ,lO X.prog X.w X.K X.mg base (kf + 1) Pf φ->gA X.prog X.w X.K X.mg base k x (fx φ Pf)) (hfa:∃fa,X.mg x=some (.ref fa)/\keepIn X.K (.ref fa)=true) (hr:cQ k X.A) (he:QE X.pE e te) (hck:mI X.K X.env.code q) (S:GH scope ps cn)
  (hb:∀cg pm c' ctv (us:List Value),us.length=ps.length->bindArgs (kla_fn "<lambda>" q params body scope cg pm (.ref c') ctv) ⟨us,[]⟩=pure (ps.zip us))
  (hbody:∀(base:Heap) (cg:List (Str×Addr)) (f c':Addr) (A:Around) (outer:List Env) (s:Shared) (H:Hp),cQ kf (A.deeper (envX q scope s.heap.objs.size f (.ref c') cg))->QE (GG X.prog X.w X.K X.mg base (ps ++ cn) q scope f c' cg A outer s H) body t)
  (hq:X.env.qual ++ "<lambda>" = q:=by rfl) (hcell:∀x∈cn,X.env.kindOf x=some .cell:=by decide +kernel) (hfn:∀x∈cn,X.fn x=true:=by exact λ_ _=>rfl) (hix:ix.map (X.N[·]?)=cn.map some:=by rfl) (hcl:closureFor scope X.env=pure (cK X.env cn):=by rfl) (hdef:defaultsOf params X.env=([],[]):=by rfl)
  (hg:Gl X x:=by rfl) (hdb:(x == ("__debug__" : Str))=false:=by decide)
  (hst:starEach [e,.Lambda params body scope lpos] X.env=(false,eval e X.env) :: starEach [.Lambda params body scope lpos] X.env:=by exact aV rfl) (hpl:(backTo pos (starEach [.Lambda params body scope lpos] X.env)).any (·.1)=false:=by rfl) :
  QX X (.Call (.Name x p) [e,.Lambda params body scope lpos] [] pos) (rN fx te ix ps.length (ps ++ cn) t):=by
 refine⟨λB σ F H env Q R rp hq0 pins s I=>?_⟩;obtain⟨fa,hm,hk⟩:=hfa;refine wpAny_Call_Name_kw (iU I hg hm ?_ hdb)
 have hw:=(dO (X:=X.cm (XX X pins σ B env R)) bB (dO (Er hck hq hcl hdef) f6 (aV rfl)) hst) pos pins s σ H (λvs H2=>∃v d F2 caps f c' pm ctv,vs=[v,.ref f]/\Rep X.K B F2 H2 σ env/\ak F F2/\Den X.K F2 d v/\F2 f=some (.frz (kla_obj "<lambda>" q params body scope (cK X.env cn) pm c' ctv) (.cdr c' q))/\xA env ix=some caps/\∀Pf,fx (λds Q=>ds.length=ps.length/\t (aE (ps ++ cn) (ds ++ caps)) Q) Pf [d,.obj Pf] Q R) (I.cm _)
  (Dm (aA (he B σ F H env _ rp hq0) λv H1 hq1=>by
   obtain⟨F1,d,r1,s1,dd,caps,hc,hf⟩:=hq1;intro f c' pm ctv oc H' m;obtain⟨r2,s2⟩:=m.rep r1
   exact⟨v,d,_,caps,f,c',pm,ctv,rfl,r2,s1.trans s2,Den.mono s2 _ _ dd,au,hc,hf⟩))
 refine callWith_K (h₀:=X.base) I.ok.mod.kin hk (bQ hw λus s1 hq1=>?_) hst hpl;obtain⟨vs,H2,I2w,rv,v,d,F2,caps,f,c',pm,ctv,rfl,r2,sF,dd,hf2,hc,hf⟩:=hq1;have I2:Inv X pins σ H2 s1:=I2w.bo;refine⟨I2.zH,?_⟩;obtain⟨ws,lw,dw,hσ⟩:=t7 r2 hc;have CL:=I2.Hm hcell hix lw hσ;have runs:=An (P:=X.prog) (w:=X.w) (K:=X.K) (mg:=X.mg) (caps:=caps) (k:=kf) S CL (λx c z=>(eR z).1) (hb _) (hbody _ _);have KX:=h _ _ _ runs
 obtain⟨fa',fd,psx,G,hm',hk',hbd⟩:=KX.ex;obtain rfl:fa'=fa:=by rw [hm] at hm';cases hm';rfl
 have hd2:ao X.K F2 [d,.obj (CW q params body scope (cK X.env cn) caps ws)] [v,.ref f]:=aF dd (aF (by
  simp only [Den]
  exact⟨f,rfl,λG sG=>⟨⟨c',pm,ctv,sG _ _ hf2⟩,ao.mono sG _ _ dw⟩⟩) aJ)
 have hsp:Hy X.K X.mg (fx (λds Q=>ds.length=ps.length/\t (aE (ps ++ cn) (ds ++ caps)) Q) (CW q params body scope (cK X.env cn) caps ws)) ([v,.ref f] ++ []) H2 (RV X B σ env F Q) (λC dd H'=>dd=none/\∃(c:Str) (F':Hp),Rep X.K B F' H' σ env/\X.mg c=some C/\R c):=by
  rw [Jw];exact⟨F2,_,Q,R,r2.fh,hd2,hf _,λd v F' H' a b c n hd q=>⟨F',d,r2.ext a c b n,sF.trans a,hd,q⟩,λc C F' H' a b c' n hm hx=>⟨rfl,c,F',r2.ext a c' b n,hm,hx⟩⟩
 have hl:(us ++ []).length=psx.length:=by
  have:=G.len _ _ _ _ hsp;rw [Jw] at this ⊢;rw [<- rv.length];exact this
 refine wpAny_call (codeAny_mono (G.run X.A X.stack s1 H2 ⟨us,[]⟩ (us ++ []) ([v,.ref f] ++ []) _ _ hr (I2.GY hcell hfn) (hbd s1 us I2.zH hl) (by simpa using rv) hsp) λrs s' hq'=>?_)
 cases rs with
 | error ex =>
  obtain⟨a,C,dd,H',rfl,os,bare,un,hok,fl,rfl,c,F',r',hm',hx⟩:=hq'
  exact⟨a,c,C,H',F',rfl,⟨H2,s1,I2,os,bare,un,hok,fl⟩,r',hm',hx⟩
 | ok fl =>
  cases fl with
  | ret u=>exact I2.after hq'
  | next=>exact False.elim hq'
  | brk=>exact False.elim hq'
  | cont=>exact False.elim hq'
end
section
variable {X:Cx} {a b:Expr} {ta tb:TD} {p pos:Pos}
theorem yV {prog:Program} {w:World} {A:Around} {E:Value->Shared->Prop} {s:Shared} {env:Env} {k v:Expr} {Q:Value->Shared->Prop}
  (h:wpAny (model prog w) A (evalPairs (pairTrees [some k] [v] env pos)) (λvs s₁=>∃kv vv,vs=[(kv,vv)]/\wpAny (model prog w) A (dictSet s.heap.objs.size kv vv) (λ_ s₂=>Q (.ref s.heap.objs.size) s₂) E s₁) E
   { s with heap:=s.heap.push { cls:=.type "dict",data:=.dict #[] } }) :
  wpAny (model prog w) A (eval (.Dict [some k] [v] pos) env) Q E s:=by
 rw [arm_eval_Dict,zip_pairTrees [some k] [v] env pos rfl rfl,dictDisplay_pairs (pairTrees [some k] [v] env pos) (by intro z;have:=congrArg List.length z;rw [pairTrees_length [some k] [v] env pos rfl rfl] at this;cases this) (by rw [pairTrees_length [some k] [v] env pos rfl rfl];show 1 < 17;decide)];refine Iw (wpAny_standAt (Iw ?_));unfold subDict;refine Iw (wpAny_alloc ?_);refine Iw (wpAny_holding ?_)
 rw [if_pos (by rw [pairTrees_length [some k] [v] env pos rfl rfl];show 1<=15;decide)];refine Iw (Jh h (λvs s₁ h₁=>?_) λ_ _ e=>e);obtain⟨kv,vv,rfl,h₁⟩:=h₁;refine wpAny_holding ?_;refine Iw ?_;rw [List.forIn_cons];refine Iw (Iw (Jh h₁ (λ_ s₂ h₂=>ID ?_) λ_ _ e=>e));show wpAny _ _ (forIn [] PUnit.unit _) _ _ _
 rw [List.forIn_nil];exact ID (ID (ID (ID h₂)))
def yx (K:IB) (p:Addr) (Q:VK) (k v:V) (H2:Hp):Prop:=H2 p=some (eL p 0 [])/\∃F d,ak F H2/\Den K F d k/\aI d=true/\dep d<=8/\∀ep,Q (.ref p) (upd H2 p (eL p ep [(vU d,k,v)]))
def CY (K:IB) (p:Addr) (Q:VK):List (V×V)->Hp->Prop
 | [(k,v)],H2=>yx K p Q k v H2
 | _,_=>False
def CU (ta tb:TE) (K:IB):TE:=λσ H Q=>∀p,H p=none->ta σ (upd H p (eL p 0 [])) λk H1=>tb σ H1 λv H2=>yx K p Q k v H2
theorem zv {ta tb:TE} (hu:X.A.units + 9 < cLine) (ha:PE X a ta) (hb:PE X b tb):PE X (.Dict [some a] [b] pos) (CU ta tb X.K):=by
 intro pins s σ H Q I q;have hn:=I.hok.fresh (II s.heap.objs.size);have I1:=I.laid (a:=s.heap.objs.size) (o:=eL s.heap.objs.size 0 []) (h':=s.heap.push { cls:=.type "dict",data:=.dict #[] }) (t':=s.toks) (λ_ _ q=>IC _ q) (II _) (pK s.heap I.big)
 refine yV (bQ ((nX (pos:=pos) ha hb qU) pins _ σ _ (CY X.K s.heap.objs.size Q) I1 (q _ hn)) λws s2 hq0=>?_);obtain⟨ps,H2,I2,rel,hq⟩:=hq0
 cases rel with
 | nil=>exact hq.elim
 | @cons x y xs ys r t =>
  cases t with
  | cons _ _=>exact hq.elim
  | nil =>
   obtain⟨k,v⟩:=x;obtain⟨ku,vu⟩:=y;have hq':yx X.K s.heap.objs.size Q k v H2:=hq;obtain⟨e,F,d,fh,dd,hk,hd,q2⟩:=hq';refine⟨ku,vu,rfl,?_⟩;obtain⟨hz,hs,es,dh,pr⟩:=fF I2 e
   have es0:es=#[]:=by
    have:=Paired.length pr;apply Array.eq_empty_of_size_eq_zero
    simpa using this.symm
   subst es0;have hash:=gm fh d s2 X.A k ku I2 hk (by omega) dd r.1;have find:=kB (kvs:=[]) (us:=[]) (vs:=[]) (I2.tok (s2.toks + Aj d)) fh bO.nil aJ aJ (es:=#[]) .nil hk hd (A:=X.A) (by omega) dd r.1;refine ub hash find dh (by simp) (λ_ h' dh' sb=>?_) λj hj=>by simp at hj
   obtain⟨o2,g2,c2,dd2⟩:=id dh';refine⟨.ref s.heap.objs.size,_,iN (ob:=eL s.heap.objs.size (0 + 1) [(vU d,k,v)]) I2 (by rw [e];exact True.intro) sb ⟨o2,g2⟩ ⟨⟨by simp [IX],hs,_,dh',.cons ⟨rfl,r.1,r.2⟩ .nil⟩,⟨o2,g2⟩,?_⟩,rfl,q2 _⟩
   rintro h1 h2 ⟨z,hs,es,⟨o,ho,c,dd⟩,pr⟩ k;exact⟨z,hs,es,⟨o,k _ ho,c,dd⟩,pr⟩
def nU (i:Nat) (tk tv:TD):bG:=λZ env=>tk env λk=>aI k=true/\dep k<=8/\tv env λv=>Z.nx (env.set i (some (.dic [(k,v)])))
theorem uV {x:Str} {pos' pd:Pos} (i:Nat) (hN:X.N.Nodup) (hu:X.A.units + 64 < cLine) (ha:QE X a ta) (hb:QE X b tb) (hi:X.N[i]?=some x:=by rfl) (hx:Loc X.env.scope x:=by first|exact Or.inl rfl|exact Or.inr rfl) (hs:swapsWith (.Dict [some a] [b] pd) (some (.Name x pos')) pos.line X.env=pure false:=by rfl)
  (hf:X.fn x=true\/X.env.scope.names.lookup x=some .local:=by first|exact .inl rfl|exact .inr rfl):QS X (.Assign [.Name x pos'] (.Dict [some a] [b] pd) pos) (nU i ta tb):=by
 refine⟨λB σ F H env Z rp h pins s I=>?_⟩;have hl:i < σ.length:=by rw [I.len];exact (Iy.mp hi).1
 refine lF (i:=i) hN hi hx (zv (by omega) bB bB) hs hf pins s σ H _ I λp hp=>?_;have hb0:B.H p=none:=rp.h0.free hp;refine aA (ha (B.guard p (eL p 0 [])) σ F (upd H p (eL p 0 [])) env _ (rp.guarded hp) h) λk H1 hq0=>?_;obtain⟨F1,d1,r1,s1,e1,hk,hd,q1⟩:=hq0;refine aA (hb _ σ F1 H1 env _ r1 q1) λv H2 hq0=>?_;obtain⟨F3,d2,r3,s2,e2,q3⟩:=hq0;obtain⟨r4,hp2,hf2⟩:=r3.kD hb0;refine⟨hp2,F3,d1,r3.fh,Den.mono s2 _ _ e1,hk,hd,λep=>?_⟩
 have h0:(λb=>if b=p then none else H2 b) p=none:=if_pos rfl
 have ee:upd H2 p (eL p ep [(vU d1,k,v)])=upd (λb=>if b=p then none else H2 b) p (eL p ep (br [(d1,d2)] [k] [v])):=by
  funext b
  by_cases z:b=p
  ·subst z;rw [au,au];rfl
  ·rw [av z,av z,if_neg z]
 have r5:Rep X.K B F3 (λb=>if b=p then none else H2 b) σ env:=by
  refine⟨r4.f0,λb o z=>?_,λb o z=>?_,r4.nf,r4.dv,λj xs hj=>?_,r4.ne,λj xs hj=>?_,r4.nm⟩
  ·have:b≠p:=λw=>by subst w;rw [hf2] at z;cases z
   rw [if_neg this];exact r4.fh _ _ z
  ·have:b≠p:=λw=>by subst w;rw [hb0] at z;cases z
   rw [if_neg this];exact r4.h0 _ _ z
  ·obtain⟨p2,us,g1,g2,g3,g4,g5⟩:=r4.ov j xs hj;have:p2≠p:=λw=>by subst w;rw [hp2] at g2;cases g2
   exact⟨p2,us,g1,by rw [if_neg this];exact g2,g3,g4,g5⟩
  ·obtain⟨p2,ep,us,vs,g1,g2,g3,g4,g5,g6⟩:=r4.mv j xs hj;obtain⟨p3,_,_,_,k1,_,_,k4,_,_⟩:=r3.mv j xs hj;have e3:p3=p2:=by rw [k1] at g1;cases g1;rfl
   subst e3;have:p3≠p:=λw=>by subst w;rw [show (B.guard p3 (eL p3 0 [])).H p3=some (eL p3 0 []) from au] at k4;cases k4
   exact⟨p3,ep,us,vs,g1,by rw [if_neg this];exact g2,g3,g4,g5,g6⟩
 rw [ee];exact⟨F3,_,r5.p0 (i:=i) ep h0 hl (aF (Den.mono s2 _ _ e1) aJ) (aF e2 aJ),q3⟩
end
theorem FG {K:IB} {cdv:Value} {q:Str} {c P:Addr} {o:Obj} {vs:Array Value} {file:Str} {tf:Tok} {flags:Int} {tg:Tok} {inF:Bool} {text:Int} {tt:Tok} (e:cdv=.ref c) (l:K.lookup c=some o) (h1:o.cls=.type "code") (h2:o.data=.fields vs) (h3:vs[11]?=some (.ref P)) (h4:vs.getD 11 .none=.ref P) (h5:vs.getD 18 .none=.str file tf)
  (h6:vs.getD 7 .none=.int flags tg) (h7:vs.getD 9 .none=.bool inF) (h8:vs.getD 10 .none=.int text tt) (h9:c≠P) (h10:tq K P=some q):mI K cdv q:=⟨c,P,o,vs,file,tf,flags,tg,inF,text,tt,e,l,h1,h2,h3,h4,h5,h6,h7,h8,h9,h10⟩
structure vL (K:IB) (x:Str) (st:Stmt) (q:Str):Prop where
 ex:∃(f:Addr) (oc:Value) (od an:Option Addr) (sl:Array (Option Value)) (kV dc pm cd ct:Value),PySem.W.nsIn K mainGlobals x=some (some (.ref f)) /\
  K.lookup f=some ⟨oc,od,.func (PySem.W.fnOf x x (dR st) (bT st) (ar st) .none kV dc pm an cd ct),sl⟩/\PySem.W.codeIn K cd x=true/\PySem.W.keepIn K (.ref f)=true/\mI K cd q
structure Gu (K:IB) (mg:Str->Option Value) (x:Str) (st:Stmt) (ps:List Str) (q:Str):Prop where
 ex:∃(fa:Addr) (oc:Value) (od:Option Addr) (kV doc pm:Value) (an:Option Addr) (cdv ct:Value) (osl:Array (Option Value)),K.lookup fa=some ⟨oc,od,.func (PySem.W.fnOf x x (dR st) (bT st) (ar st) .none kV doc pm an cdv ct),osl⟩/\PySem.W.codeIn K cdv x=true/\PySem.W.keepIn K (.ref fa)=true /\
  mI K cdv q/\mg x=some (.ref fa)/\Binds K (PySem.W.fnOf x x (dR st) (bT st) (ar st) .none kV doc pm an cdv ct) ps []
section
variable {P:Program} {w:World} {K:IB} {mg:Str->Option Value} {base h:Heap} {x q:Str} {st:Stmt} {N ps:List Str} {k:Nat} {fx:x8}
theorem vL.get (D:vL K x st q) (X:K.In h) (G:h.Ns mainGlobals mg)
  (hb:∀(kV doc pm:Value) (an:Option Addr) (cdv ct:Value) (us:List Value),us.length=ps.length->bindArgs (PySem.W.fnOf x x (dR st) (bT st) (ar st) .none kV doc pm an cdv ct) ⟨us,[]⟩=pure (ps.zip us)):Gu K mg x st ps q:=by
 obtain⟨f,oc,od,an,sl,kV,dc,pm,cd,ct,a,l,c,kp,ck⟩:=D.ex;exact⟨f,oc,od,kV,dc,pm,an,cd,ct,sl,l,c,kp,ck,JM X G a,(uM l c kp).binds hb⟩
theorem Gu.CN (F:Gu K mg x st ps q) (S:aK N ps (ar st)) (hl:∀ds Q R,fx ds Q R->ds.length=ps.length)
  (hbody:∀(fa:Addr) (cdv:Value) (A:Around) (outer:List Env) (s:Shared) (H:Hp) (E:XK),mI K cdv q->cQ k (A.deeper (envOfC x (ar st) s.heap.objs.size fa cdv)) ->
   ∃t,FI (jc (B5 P w) P w K mg base N x (ar st) fa cdv A outer s H E) (bT st) t/\∀ds (Q:D->Prop) (R:Str->Prop),fx ds Q R->t { nx:=λ_=>Q .non,rt:=Q,xc:=R } (aE N ds)):gA P w K mg base (k + 1) x fx:=by
 obtain⟨fa,oc,od,kV,doc,pm,an,cdv,ct,osl,lk,hcd,kp,ck,hmg,hb⟩:=F.ex;refine⟨fa,_,ps,?_,hmg,kp,hb⟩;refine Ag lk hcd S (λvs H Q E h=>?_) λA outer s H vs Q E hr h=>?_
 ·obtain⟨F0,ds,P,R,_,hd,hf,_⟩:=h;rw [<- hd.length];exact hl ds _ _ hf
 ·obtain⟨F0,ds,P',R,fh,hd,hf,kk,kx⟩:=h;obtain⟨t,ht,hq⟩:=hbody fa cdv A outer s H E ck hr;refine⟨_,dI,?_⟩;have core:=ht.run _ (start N vs) F0 H (aE N ds) _ (gr fh hd) (hq ds P' R hf);intro pins s1 I;refine Jh (core pins s1 (I.cm _)) (λfl s2 z=>?_) λex s2 z=>?_
  ·refine mY (SP.bo z) (λσ' H' ⟨F',env',r,q⟩=>?_) (λv H' ⟨F',d',r,dd,q⟩=>?_) (λ_ _ ⟨_,_,_,q⟩=>q) (λ_ _ ⟨_,_,_,q⟩=>q)
   ·exact kk .non .non F' H' r.f0 r.h0 r.fh (λp h1 h2=>r.nf p ⟨h1,h2⟩) mW q
   ·exact kk d' v F' H' r.f0 r.h0 r.fh (λp h1 h2=>r.nf p ⟨h1,h2⟩) dd q
  ·obtain⟨pins',a,c,C,σ',H',F',env',rfl,th,r,hm,hx⟩:=z;exact th.leave (kx c C F' H' r.f0 r.h0 r.fh (λp h1 h2=>r.nf p ⟨h1,h2⟩) hm hx)
theorem Df.at_ (F:Df K mg x st ps):∃fa,mg x=some (.ref fa)/\PySem.W.keepIn K (.ref fa)=true:=let ⟨fa,_,F,m,_⟩:=F.ex;⟨fa,m,F.kp⟩
end
def zK (cls:Str) (tx:TX) (tb:bG):bG:=λD env=>tx env D.rt λc=>c=cls/\tb { nx:=λ_=>False,rt:=D.rt } env
section
variable {X:Cx} {e:Expr} {tx:TX} {cls sup:Str} {C S:Addr} {np epos hpos pos:Pos} {b0:Stmt} {body:List Stmt} {tb:bG}
theorem A5 (hst:X.stack=X.env :: X.outer) (hf:X.env.frame=some X.env.locals) (as:PySem.W.nsIn X.K mainGlobals sup=some (some (.ref S))) (ac:PySem.W.nsIn X.K mainGlobals cls=some (some (.ref C))) (O:yf X.K C S)
  (h:QX X e tx) (hb:∀x,m7 (Cx.hand X x) (b0 :: body) tb) (hg:Gl X sup:=by rfl) (hdb:(sup == ("__debug__" : Str))=false:=by decide) :
  QS X (.Try [.Return (some e) epos] [.ExceptHandler (some (.Name sup np)) none (b0 :: body) hpos] [] [] pos) (zK cls tx tb):=by
 refine⟨λB σ F H env D rp ht pins s I=>?_⟩;have hmg:X.mg cls=some (.ref C):=JM I.ok.mod.kin I.ok.mod.glob ac;have hms:X.mg sup=some (.ref S):=JM I.ok.mod.kin I.ok.mod.glob as;have core:=h.run B σ F H env _ _ rp ht pins s I;refine wpAny_Try_except (wpAny_execs_cons (wpAny_Return_some (Jh core (λv s1 ⟨x,H1,I1,r1,F1,d1,rp1,_,hd1,q1⟩=>?_) λex s1 z=>?_)))
 ·exact⟨x,σ,H1,I1,r1,F1,d1,rp1.bare,hd1,q1⟩
 ·obtain⟨a,c,C',H1,F1,rfl,th,r1,hm,hce,hq1⟩:=z;rw [hce,hmg] at hm;cases hm;refine th.note hst hf λs2 th2=>?_;have I2:=Inv.hand th2.inv a;refine wpAny_handleBy_cons (codeAny_handlers_test (iU (X:=Cx.hand X a) I2 hg hms ?_ hdb)) (by intro q;cases q)
  have flc:∃ox,PySem.W.InstAt s2.heap a ox C none:=by
   obtain⟨_,_,_,_,_,_,_,_,_,oe,vs,he,hc,hdc,hd,_⟩:=th2;refine⟨oe,he,hc,?_,?_⟩
   ·unfold PySem.W.notCls;rw [hd]
   ·rw [hdc];exact True.intro
  obtain⟨ob,hob⟩:=flc;have kin:=I2.zH;obtain⟨h2,g2,d2,t2,o2⟩:=s2;refine yh kin O hob.type (codeAny_handlers_suite ?_);refine dj.land th2 λs3 th3=>?_;obtain⟨na,I3⟩:=hW.C6 th3;obtain⟨rp3,sm⟩:=r1.laid (o:=.ext (excAt a C)) na;have run:=(hb a).run B _ _ _ _ { nx:=λ_=>False,rt:=D.rt } rp3 hq1 pins s3 (Inv.hand I3 a);refine Jh run (λf s5 z=>?_) λ_ _ z=>False.elim z
  cases f with
  | next=>obtain⟨σ',H',_,F',env',_,q⟩:=z;exact q.elim
  | brk=>obtain⟨σ',H',_,F',env',_,q⟩:=z;exact q.elim
  | cont=>obtain⟨σ',H',_,F',env',_,q⟩:=z;exact q.elim
  | ret u =>
   obtain⟨v,σ',H',I5,rv,q⟩:=z;exact⟨v,_,H',Inv.D0 I.ok I5,rv,q⟩
end
open PySem
structure M4 where
 a:Int
 b:Int
 c:Int
 d:Int
 deriving DecidableEq
namespace M4
def HZ (m:M4):Prop:=m.c < 0\/(m.c=0/\m.d < 0)
instance (m:M4):Decidable m.HZ:=inferInstanceAs (Decidable (_\/_))
end M4
def isLet (c:Nat):Prop:=c=115\/c=114\/c=113
def LW (z:Str):Prop:=∀c∈z.cps.toList,isLet c
theorem snoc_ind {α:Type} {P:List α->Prop} (h0:P []) (hs:∀r c,P r->P (r ++ [c])) (xs:List α):P xs:=by
 have h:∀ys:List α,P ys.reverse:=λys=>by
  induction ys with
  | nil=>exact h0
  | cons y r ih=>rw [List.reverse_cons];exact hs _ _ ih
 simpa using h xs.reverse
abbrev Z2:=Int×Int
def e7 (x:Z2):D:=.tup [.int x.1,.int x.2]
def Hd (x:Z2):Prop:=x.2 < 0\/(x.2=0/\x.1 < 0)
instance (x:Z2):Decidable (Hd x):=inferInstanceAs (Decidable (_\/_))
def B2 (n:Nat) (x:Z2):Prop:=jh n x.1/\jh n x.2
theorem zk {n m:Nat} {x:Z2} (h:B2 n x) (hm:n<=m):B2 m x:=⟨bits_le h.1 hm,bits_le h.2 hm⟩
theorem Fp:B2 1 ((1,0):Z2):=⟨wH _ _ (by decide),wH _ _ (by decide)⟩
theorem DX (x y:Z2):aT (e7 x) (e7 y)=decide (x=y):=by
 simp only [e7,aT,cZ,JR];rw [Bool.eq_iff_iff];simp [Prod.ext_iff]
theorem y6 (x:Z2):dep (e7 x)=1:=by simp [e7,dep,b8]
theorem DW {x y:Z2} {Q:D->Prop}:oS (e7 x) (e7 y) Q=Q (.bl (!decide (x=y))):=by
 unfold oS fS;rw [y6,y6,DX];simp
def G2 (P:D->D->(D->Prop)->(Str->Prop)->Prop):x8:=λds Q R=>∃x y,ds=[x,y]/\P x y Q R
theorem E9 {P}:∀ds (Q:D->Prop) (R:Str->Prop),G2 P ds Q R->ds.length=2:=by rintro ds Q R ⟨x,y,rfl,_⟩;rfl
theorem FX {P} {x y:D} {Q R}:G2 P [x,y] Q R=P x y Q R:=by
 unfold G2;apply propext;constructor
 ·rintro⟨x',y',e,h⟩;cases e;exact h
 ·intro h;exact⟨_,_,rfl,h⟩
def Hr (p q:Int):Prop:=(p < 0/\0 < q)\/(q < 0/\0 < p)
instance (p q:Int):Decidable (Hr p q):=inferInstanceAs (Decidable (_\/_))
def jg (c:Nat):Str:=⟨#[c]⟩
theorem wb (x y:Str):x ++ y=⟨x.cps ++ y.cps⟩:=rfl
theorem nN:∀cs:List Nat,Str.join (Str.ofString "") (cs.map jg)=⟨cs.toArray⟩
 | []=>rfl
 | [c]=>rfl
 | c :: y :: r=>by
  have ih:=nN (y :: r);show jg c ++ Str.ofString "" ++ Str.join (Str.ofString "") ((y :: r).map jg)=_
  rw [ih,wb,wb];show (⟨#[c] ++ (Str.ofString "").cps ++ (y :: r).toArray⟩:Str)=⟨(c :: y :: r).toArray⟩
  rw [show (Str.ofString "").cps=#[] from rfl]
  simp
theorem uK (cs:List Nat):Txt.join (Str.ofString "") (cs.map jg)=⟨cs.toArray⟩:=(StrLaws.glued_eq_join _ _).trans (nN cs)
theorem um:∀cs:List Nat,((cs.map jg).map (·.length)).sum=cs.length
 | []=>rfl
 | c :: r=>by
  have:=um r;simp only [Ji,List.sum_cons,Jo,this];rw [show (jg c).length=1 from rfl];omega
theorem AZ {α:Type} (l:List α) (m:α) (j i:Nat) (hj:j<=l.length):(l.take j ++ m :: l.drop j)[i]?=if i < j then l[i]? else if i=j then some m else l[i - 1]?:=by
 have hl:(l.take j).length=j:=by rw [List.length_take];omega
 by_cases h1:i < j
 ·rw [if_pos h1,IW (by omega),List.getElem?_take_of_lt h1]
 ·rw [if_neg h1,IQ (by omega),hl]
  by_cases h2:i=j
  ·rw [if_pos h2,h2,Nat.sub_self];rfl
  ·rw [if_neg h2,show i - j=(i - j - 1) + 1 by omega,Je,JT]
   congr 1;omega
structure tR (k:Nat) (row:List Z2):Prop where
 len:row.length=k + 3
 first:row[0]?=some (-1,0)
 last:row[k + 2]?=some (1,0)
 det:∀(i:Nat) (p r:Z2),row[i]?=some p->row[i + 1]?=some r->p.1 * r.2 - p.2 * r.1 = -1
 low:∀(i:Nat) (p:Z2),row[i]?=some p->0 < i->i < k + 2->1<=p.2
 nought:∃i,0 < i/\i < k + 2/\row[i]?=some (0,1)
 bits:∀p∈row,B2 (k + 2) p
theorem Hu:tR 0 [(-1,0),(0,1),(1,0)] where
 len:=rfl
 first:=rfl
 last:=rfl
 det:=λi p r h1 h2=>by
  match i with
  | 0=>cases h1;cases h2;decide
  | 1=>cases h1;cases h2;decide
  | 2=>cases h2
  | i + 3=>cases h1
 low:=λi p h h0 h1=>by
  have:i=1:=by omega
  subst this;cases h;decide
 nought:=⟨1,by decide,by decide,rfl⟩
 bits:=λp hp=>by
  simp only [IZ,Jg,or_false] at hp;rcases hp with rfl|rfl|rfl <;> exact⟨wH _ _ (by decide),wH _ _ (by decide)⟩
theorem CI {k:Nat} {row:List Z2} (h:tR k row) {at_:Nat} (ha:at_ < k + 2) {p r:Z2} (hp:row[at_]?=some p) (hr:row[at_ + 1]?=some r) :
  tR (k + 1) (row.take (at_ + 1) ++ (p.1 + r.1,p.2 + r.2) :: row.drop (at_ + 1)):=by
 have hl:=h.len;have g:=λi=>AZ row (p.1 + r.1,p.2 + r.2) (at_ + 1) i (by omega);have hd:=h.det at_ p r hp hr
 have pl:0<=p.2:=by
  by_cases z:at_=0
  ·subst z;rw [h.first] at hp;cases hp;decide
  ·have:=h.low at_ p hp (by omega) ha;omega
 have rl:0<=r.2:=by
  by_cases z:at_ + 1=k + 2
  ·rw [z,h.last] at hr;cases hr;decide
  ·have:=h.low (at_ + 1) r hr (by omega) (by omega);omega
 have ne:¬ (p.2=0/\r.2=0):=fun⟨a,b⟩=>by rw [a,b] at hd;simp at hd
 refine⟨by simp;omega,?_,?_,λi x y h1 h2=>?_,λi x h1 h0 h2=>?_,?_,λx hx=>?_⟩
 ·rw [g,if_pos (by omega)];exact h.first
 ·rw [g,if_neg (by omega),if_neg (by omega)];exact h.last
 ·rw [g] at h1 h2
  by_cases c1:i < at_
  ·rw [if_pos (by omega)] at h1 h2;exact h.det i x y h1 h2
  ·by_cases c2:i=at_
   ·subst c2;rw [if_pos (by omega),hp] at h1;rw [if_neg (by omega),if_pos rfl] at h2;cases h1;cases h2;show p.1 * (p.2 + r.2) - p.2 * (p.1 + r.1) = -1
    grind
   ·by_cases c3:i=at_ + 1
    ·subst c3;rw [if_neg (by omega),if_pos rfl] at h1;rw [if_neg (by omega),if_neg (by omega),Nat.add_sub_cancel,hr] at h2;cases h1;cases h2;show (p.1 + r.1) * r.2 - (p.2 + r.2) * r.1 = -1
     grind
    ·rw [if_neg (by omega),if_neg c3] at h1;rw [if_neg (by omega),if_neg (by omega)] at h2;exact h.det (i - 1) x y h1 (by rw [show i - 1 + 1=i + 1 - 1 by omega];exact h2)
 ·rw [g] at h1
  by_cases c1:i < at_ + 1
  ·rw [if_pos c1] at h1;exact h.low i x h1 h0 (by omega)
  ·rw [if_neg c1] at h1
   by_cases c2:i=at_ + 1
   ·rw [if_pos c2] at h1;cases h1;show 1<=p.2 + r.2
    omega
   ·rw [if_neg c2] at h1;exact h.low (i - 1) x h1 (by omega) (by omega)
 ·obtain⟨i,h0,h1,h2⟩:=h.nought
  by_cases c1:i < at_ + 1
  ·exact⟨i,h0,by omega,by rw [g,if_pos c1];exact h2⟩
  ·exact⟨i + 1,by omega,by omega,by rw [g,if_neg (by omega),if_neg (by omega),Nat.add_sub_cancel];exact h2⟩
 ·have hm:∀y∈row,B2 (k + 1 + 2) y:=λy hy=>zk (h.bits y hy) (by omega);rcases Jc.mp hx with hx|hx
  ·exact hm x (List.mem_of_mem_take hx)
  ·rcases IZ.mp hx with rfl|hx
   ·have b1:=h.bits p (IG hp);have b2:=h.bits r (IG hr)
    have e:∀{x y:Int},jh (k + 2) x->jh (k + 2) y->jh (k + 1 + 2) (x + y):=λhx hy=>by
     have:=bits_add hx hy;rw [Nat.max_self] at this;exact bits_le this (by omega)
    exact⟨e b1.1 b2.1,e b1.2 b2.2⟩
   ·exact hm x (List.mem_of_mem_drop hx)
structure bJ (n:Nat) (fs:List Z2):Prop where
 len:fs.length=n
 two:2<=n
 most:n<=22
 first:fs[0]?=some (1,0)
 det0:∀p,fs[1]?=some p->p.2=1
 det:∀(i:Nat) (p r:Z2),0 < i->fs[i]?=some p->fs[i + 1]?=some r->p.1 * r.2 - p.2 * r.1 = -1
 last:∀p,fs[n - 1]?=some p->p.2=1
 low:∀(i:Nat) (p:Z2),fs[i]?=some p->0 < i->1<=p.2
 nought:(0,1)∈fs
 bits:∀p∈fs,B2 30 p
theorem yz {k:Nat} {row:List Z2} (h:tR k row) (hk:k<=20):bJ (k + 2) ((1,0) :: (row.drop 1).take (k + 1)):=by
 have hl:=h.len
 have g:∀i,0 < i->i < k + 2->((1,0) :: (row.drop 1).take (k + 1))[i]?=row[i]?:=λi h0 h1=>by
  rw [show i=(i - 1) + 1 by omega,Je,List.getElem?_take_of_lt (by omega),JT]
  congr 1;omega
 have len:((1,0) :: (row.drop 1).take (k + 1)).length=k + 2:=by simp;omega
 have lt:∀(i:Nat) (p:Z2),((1,0) :: (row.drop 1).take (k + 1))[i]?=some p->i < k + 2:=λi p hp=>by
  have:=(Iy.mp hp).1;omega
 refine⟨len,by omega,by omega,rfl,λp hp=>?_,λi p r h0 h1 h2=>?_,λp hp=>?_,λi p hp h0=>?_,?_,λp hp=>?_⟩
 ·rw [g 1 (by omega) (by omega)] at hp;have:=h.det 0 _ p h.first hp;simp at this;omega
 ·rw [g i h0 (lt _ _ h1)] at h1;rw [g (i + 1) (by omega) (lt _ _ h2)] at h2;exact h.det i p r h1 h2
 ·rw [show k + 2 - 1=k + 1 by omega,g (k + 1) (by omega) (by omega)] at hp;have:=h.det (k + 1) p _ hp h.last;simp at this;omega
 ·have:=lt _ _ hp;rw [g i h0 this] at hp;exact h.low i p hp h0 this
 ·obtain⟨i,h0,h1,h2⟩:=h.nought;exact IG (i:=i) (by rw [g i h0 h1];exact h2)
 ·rcases IZ.mp hp with rfl|hp
  ·exact zk Fp (by decide)
  ·exact zk (h.bits p (List.mem_of_mem_drop (List.mem_of_mem_take hp))) (by omega)
theorem fe {α:Type} (f:α->D) (l:List α) (i:Nat) (x:α) (h:l[i]?=some x):jz (l.map f) (i:Int)=some (f x):=by
 rw [qJ (by omega) (by have:=(Iy.mp h).1;simp;omega)];simp [h]
theorem vT {x:Z2} {Q:D->Prop}:cA (e7 x) (.int 0) Q=Q (.int x.1):=by
 apply propext;constructor
 ·rintro⟨v,e,h⟩;cases e;exact h
 ·intro h;exact⟨_,rfl,h⟩
theorem wX {x:Z2} {Q:D->Prop}:cA (e7 x) (.int 1) Q=Q (.int x.2):=by
 apply propext;constructor
 ·rintro⟨v,e,h⟩;cases e;exact h
 ·intro h;exact⟨_,rfl,h⟩
inductive Mk where
 | half|aX|gap (j:Nat)
 deriving DecidableEq
def kj:Mk->D
 | .half=>.str "half"
 | .aX=>.str "third"
 | .gap j=>.int j
structure nL (n:Nat) (ms:List Mk):Prop where
 len:ms.length=n
 pair:∀(i j:Nat),ms[i]?=some (Mk.gap j)->j≠i/\ms[j]?=some (Mk.gap i)
 few:n=2->Mk.aX∈ms/\∀(i j:Nat),ms[i]?≠some (Mk.gap j)
structure fY (n:Nat) (left:List Nat) (ms:List Mk):Prop where
 len:ms.length=n
 nd:left.Nodup
 lt:∀i∈left,i < n
 free:∀i∈left,ms[i]?=some Mk.half
 pair:∀(i j:Nat),ms[i]?=some (Mk.gap j)->j≠i/\ms[j]?=some (Mk.gap i)
theorem fY.aX {n g:Nat} {left:List Nat} {ms:List Mk} (h:fY n (g :: left) ms):fY n left (ms.set g .aX):=by
 have hg:=h.free g Jb;have hnd:=Jx.mp h.nd;refine⟨by rw [List.length_set];exact h.len,hnd.2,λi hi=>h.lt i (IT _ hi),λi hi=>?_,λi j hij=>?_⟩
 ·rw [IA (λz=>by subst z;exact hnd.1 hi)];exact h.free i (IT _ hi)
 ·have hig:g≠i:=λz=>by
   subst z;rw [IH (by rw [h.len];exact h.lt _ Jb)] at hij;cases hij
  rw [IA hig] at hij;obtain⟨h1,h2⟩:=h.pair i j hij;refine⟨h1,?_⟩;have:g≠j:=λz=>by subst z;rw [hg] at h2;cases h2
  rw [IA this];exact h2
theorem fY.skip {n g:Nat} {left:List Nat} {ms:List Mk} (h:fY n (g :: left) ms):fY n left ms :=
 ⟨h.len,(Jx.mp h.nd).2,λi hi=>h.lt i (IT _ hi),λi hi=>h.free i (IT _ hi),h.pair⟩
theorem fY.two {n g o k:Nat} {left:List Nat} {ms:List Mk} (h:fY n (g :: left) ms) (ho:left[k]?=some o):fY n (left.eraseIdx k) ((ms.set g (.gap o)).set o (.gap g)):=by
 have hg:=h.free g Jb;have hnd:=Jx.mp h.nd;have om:o∈left:=IG ho;have hoh:=h.free o (IT _ om);have ne:g≠o:=λz=>hnd.1 (z▸om);have gl:g < ms.length:=by rw [h.len];exact h.lt _ Jb
 have ol:o < ms.length:=by rw [h.len];exact h.lt _ (IT _ om)
 have sub:∀i∈left.eraseIdx k,i∈left/\i≠o:=λi hi=>by
  refine⟨List.mem_of_mem_eraseIdx hi,λz=>?_⟩;subst z;obtain⟨j,hj1,hj2⟩:=List.mem_eraseIdx_iff_getElem?.mp hi;obtain⟨hk,ek⟩:=Iy.mp ho;obtain⟨hj,ej⟩:=Iy.mp hj2;exact hj1 ((List.getElem_inj (h₀:=hj) (h₁:=hk) hnd.2).mp (by rw [ej,ek]))
 have get:∀i,((ms.set g (.gap o)).set o (.gap g))[i]?=if i=o then some (.gap g) else if i=g then some (.gap o) else ms[i]?:=λi=>by
  by_cases c1:i=o
  ·subst c1;rw [if_pos rfl,IH (by rw [List.length_set];exact ol)]
  ·rw [if_neg c1,IA (Ne.symm c1)]
   by_cases c2:i=g
   ·subst c2;rw [if_pos rfl,IH gl]
   ·rw [if_neg c2,IA (Ne.symm c2)]
 refine⟨by rw [List.length_set,List.length_set];exact h.len,hnd.2.eraseIdx k,λi hi=>h.lt i (IT _ (sub i hi).1),λi hi=>?_,λi j hij=>?_⟩
 ·obtain⟨h1,h2⟩:=sub i hi;rw [get,if_neg h2,if_neg (λz=>by subst z;exact hnd.1 h1)];exact h.free i (IT _ h1)
 ·rw [get] at hij
  by_cases c1:i=o
  ·rw [if_pos c1] at hij;cases hij;subst c1;exact⟨ne,by rw [get,if_neg ne,if_pos rfl]⟩
  ·rw [if_neg c1] at hij
   by_cases c2:i=g
   ·rw [if_pos c2] at hij;cases hij;subst c2;exact⟨Ne.symm ne,by rw [get,if_pos rfl]⟩
   ·rw [if_neg c2] at hij;obtain⟨h1,h2⟩:=h.pair i j hij;refine⟨h1,?_⟩;rw [get,if_neg (λz=>by subst z;rw [hoh] at h2;cases h2),if_neg (λz=>by subst z;rw [hg] at h2;cases h2)];exact h2
theorem zp {α β:Type} (f:α->β):∀(l:List α) (k:Nat),(l.map f).eraseIdx k=(l.eraseIdx k).map f
 | [],_=>rfl
 | _ :: _,0=>rfl
 | a :: l,k + 1=>by show f a :: (l.map f).eraseIdx k=f a :: (l.eraseIdx k).map f;rw [zp f l k]
theorem Be (ms:List Mk):b8 (ms.map kj)=0:=by
 induction ms with
 | nil=>rfl
 | cons m r ih=>rw [Ji];simp only [b8,ih];cases m <;> rfl
theorem pZ (l:List Nat):b8 (l.map λ(i:Nat)=>D.int i)=0:=by
 induction l with
 | nil=>rfl
 | cons m r ih=>rw [Ji];simp only [b8,ih,dep];rfl
theorem xj (ms:List Mk):((ms.map kj).any λe=>aT e (.str "third"))=decide (Mk.aX∈ms):=by
 induction ms with
 | nil=>rfl
 | cons m r ih =>
  rw [Ji,List.any_cons,ih]
  cases m with
  | half =>
   rw [show aT (kj .half) (.str "third")=false by decide]
   simp
  | aX=>rw [show aT (kj .aX) (.str "third")=true by decide];simp
  | gap j=>rw [show aT (kj (.gap j)) (.str "third")=false from rfl];simp
def aC (l:List Nat):List D:=l.map λ(i:Nat)=>D.int i
structure jr (fs:List Z2) (ms:List Mk):Prop where
 fr:bJ fs.length fs
 mar:nL fs.length ms
def pq (fs:List Z2) (ms:List Mk):D:=.tup [.tup (fs.map e7),.tup (ms.map kj)]
theorem getD_some {α:Type} {l:List α} {i:Nat} {d:α} (h:i < l.length):l[i]?=some (l.getD i d):=by
 rw [Jy,IE h];rfl
theorem yC {α:Type} {f:α->D} {l:List α} {i:Nat} {x:α} {Q:D->Prop} (h:l[i]?=some x) (q:Q (f x)):cA (.tup (l.map f)) (.int (i:Int)) Q:=⟨_,fe f l i x h,q⟩
open PySem L2
def dZ (u v:Z2):Int:=u.1 * v.2 - u.2 * v.1
theorem sd (u v w:Z2):dZ u w * v.2=dZ u v * w.2 + dZ v w * u.2:=by unfold dZ;grind
theorem uB {a b:Int} (h:a * b < 0) (hb:0 < b):a < 0:=by
 by_cases c:a < 0
 ·exact c
 ·have:=Int.mul_nonneg (show 0<=a by omega) (Int.le_of_lt hb);omega
theorem oP {a b:Int} (h:a * b = -1) (hb:0 < b):b=1 :=
 Int.eq_one_of_dvd_one (Int.le_of_lt hb) ⟨-a,by rw [Int.mul_neg,Int.mul_comm,h];rfl⟩
theorem bJ.lt {n:Nat} {fs:List Z2} (h:bJ n fs):∀(k i:Nat) (u w:Z2),0 < i->fs[i]?=some u->fs[i + k + 1]?=some w->dZ u w < 0
 | 0,i,u,w,h0,hu,hw=>by
  have:=h.det i u w h0 hu hw
  unfold dZ;omega
 | k + 1,i,u,w,h0,hu,hw=>by
  have hl:=(Iy.mp hw).1;obtain⟨v,hv⟩:∃v,fs[i + k + 1]?=some v:=⟨fs[i + k + 1]'(by omega),IE _⟩;have h1:=bJ.lt h k i u v h0 hu hv;have h2:dZ v w = -1:=h.det (i + k + 1) v w (by omega) hv hw;have qu:=h.low i u hu h0;have qv:=h.low _ v hv (by omega);have qw:=h.low _ w hw (by omega);have e:=sd u v w;rw [h2] at e;have a1:dZ u v * w.2 < 0:=Int.mul_neg_of_neg_of_pos h1 (by omega);have a2:dZ u w * v.2 < 0:=by rw [e];omega
  exact uB a2 (by omega)
theorem bJ.inj {n:Nat} {fs:List Z2} (h:bJ n fs) {i j:Nat} {u:Z2} (hi:fs[i]?=some u) (hj:fs[j]?=some u):i=j:=by
 have self:dZ u u=0:=by unfold dZ;rw [Int.mul_comm];omega
 have top:∀k:Nat,0 < k->fs[k]?≠some (1,0):=λk hk e=>by have:=h.low k _ e hk;simp at this
 rcases Nat.lt_trichotomy i j with c|c|c
 ·exfalso
  by_cases z:0 < i
  ·have:=h.lt (j - i - 1) i u u z hi (by rw [show i + (j - i - 1) + 1=j by omega];exact hj);omega
  ·have z':i=0:=by omega
   subst z';rw [h.first] at hi;cases hi;exact top j (by omega) hj
 ·exact c
 ·exfalso
  by_cases z:0 < j
  ·have:=h.lt (i - j - 1) j u u z hj (by rw [show j + (i - j - 1) + 1=i by omega];exact hi);omega
  ·have z':j=0:=by omega
   subst z';rw [h.first] at hj;cases hj;exact top i (by omega) hi
structure EJ (n:Nat) (fs:List Z2) (i:Nat) (u v w:Z2):Prop where
 i0:0 < i
 il:i < n
 near:fs[i - 1]?=some u
 mid:fs[i]?=some v
 far:fs[(i + 1) % n]?=some w
 ne:v≠(0,1)
 one:(dZ u w).natAbs=1
theorem wU {n:Nat} {fs:List Z2} (h:bJ n fs) (m:Nat):∀k,k<=n->0 < k->(∀i,0 < i->i < k->∀p,fs[i]?=some p->p.2<=m)\/∃i p,0 < i/\i < k/\fs[i]?=some p/\(m:Int) < p.2/\∀j,0 < j->j < k->∀r,fs[j]?=some r->r.2<=p.2
 | 0,_,h0=>absurd h0 (by decide)
 | 1,_,_=>.inl λi hi h1=>by omega
 | k + 2,hk,_=>by
  have hl:=h.len;obtain⟨p,hp⟩:∃p,fs[k + 1]?=some p:=⟨fs[k + 1]'(by omega),IE _⟩;rcases wU h m (k + 1) (by omega) (by omega) with a|⟨i,r,i0,il,hr,hm,a⟩
  ·by_cases c:p.2<=m
   ·refine .inl λi h0 h1 r hr=>?_;rcases Jm.mp h1 with z|z
    ·exact a i h0 z r hr
    ·subst z;rw [hp] at hr;cases hr;exact c
   ·refine .inr ⟨k + 1,p,by omega,by omega,hp,by omega,λj h0 h1 r hr=>?_⟩;rcases Jm.mp h1 with z|z
    ·have:=a j h0 z r hr;omega
    ·subst z;rw [hp] at hr;cases hr;exact Int.le_refl _
  ·by_cases c:p.2<=r.2
   ·refine .inr ⟨i,r,i0,by omega,hr,hm,λj h0 h1 q hq=>?_⟩;rcases Jm.mp h1 with z|z
    ·exact a j h0 z q hq
    ·subst z;rw [hp] at hq;cases hq;exact c
   ·refine .inr ⟨k + 1,p,by omega,by omega,hp,by omega,λj h0 h1 q hq=>?_⟩;rcases Jm.mp h1 with z|z
    ·have:=a j h0 z q hq;omega
    ·subst z;rw [hp] at hq;cases hq;exact Int.le_refl _
theorem Dd {n:Nat} {fs:List Z2} (h:bJ n fs) (hn:2 < n):∃i u v w,EJ n fs i u v w:=by
 have hl:=h.len;have at_:∀i,i < n->∃p,fs[i]?=some p:=λi hi=>⟨fs[i]'(by omega),IE _⟩;rcases wU h 1 n (II _) (by omega) with a|⟨i,v,i0,il,hv,hm,a⟩
 ·
  obtain⟨p1,h1⟩:=at_ 1 (by omega);obtain⟨p2,h2⟩:=at_ 2 hn;obtain⟨pl,hpl⟩:=at_ (n - 1) (by omega);obtain⟨pk,hpk⟩:=at_ (n - 2) (by omega);have q2:p2.2=1:=by have:=a 2 (by omega) hn p2 h2;have:=h.low 2 p2 h2 (by omega);omega
  have qk:pk.2=1:=by have:=a (n - 2) (by omega) (by omega) pk hpk;have:=h.low _ pk hpk (by omega);omega
  by_cases c:p1=(0,1)
  ·have cl:pl≠(0,1):=λe=>by
    have:=h.inj (i:=1) (j:=n - 1) (u:=(0,1)) (by rw [h1,c]) (by rw [hpl,e]);omega
   refine⟨n - 1,pk,pl,(1,0),by omega,by omega,by rw [show n - 1 - 1=n - 2 by omega];exact hpk,hpl,?_,cl,?_⟩
   ·rw [show n - 1 + 1=n by omega,Nat.mod_self];exact h.first
   ·unfold dZ;show (pk.1 * 0 - pk.2 * 1).natAbs=1;rw [qk];simp
  ·refine⟨1,(1,0),p1,p2,by omega,by omega,h.first,h1,?_,c,?_⟩
   ·rw [Nat.mod_eq_of_lt (by omega)];exact h2
   ·unfold dZ;show (1 * p2.2 - 0 * p2.1).natAbs=1;rw [q2];simp
 ·
  have i1:1 < i:=by
   rcases JG 1 i with c|c
   ·exact c
   ·have:i=1:=by omega
    subst this;have:=h.det0 v hv;omega
  have i2:i + 1 < n:=by
   rcases JG (i + 1) n with c|c
   ·exact c
   ·have:i=n - 1:=by omega
    subst this;have:=h.last v hv;omega
  obtain⟨u,hu⟩:=at_ (i - 1) (by omega);obtain⟨w,hw⟩:=at_ (i + 1) i2;have d1:dZ u v = -1:=h.det (i - 1) u v (by omega) hu (by rw [show i - 1 + 1=i by omega];exact hv);have d2:dZ v w = -1:=h.det i v w i0 hv hw;have qu:=h.low _ u hu (by omega);have qw:=h.low _ w hw (by omega);have mu:=a (i - 1) (by omega) (by omega) u hu;have mw:=a (i + 1) (by omega) i2 w hw;have e:=sd u v w;rw [d1,d2] at e;refine⟨i,u,v,w,i0,il,hu,hv,by rw [Nat.mod_eq_of_lt i2];exact hw,λz=>by rw [z] at hm;simp at hm,?_⟩
  have nu:u.2≠v.2:=λz=>by
   unfold dZ at d1;rw [z,Int.mul_comm v.2] at d1;have:(u.1 - v.1) * v.2 = -1:=by rw [Int.sub_mul];exact d1
   have:=oP this (by omega);omega
  have nw:w.2≠v.2:=λz=>by
   unfold dZ at d2;rw [z,Int.mul_comm v.2] at d2;have:(v.1 - w.1) * v.2 = -1:=by rw [Int.sub_mul];exact d2
   have:=oP this (by omega);omega
  have lo:dZ u w * v.2 < 0:=by rw [e];omega
  have hi:-(2 * v.2) < dZ u w * v.2:=by rw [e];omega
  have l1:dZ u w < 0:=uB lo (by omega)
  have l2:-2 < dZ u w:=by
   by_cases c:-2 < dZ u w
   ·exact c
   ·have:=Int.mul_le_mul_of_nonneg_right (show dZ u w<=-2 by omega) (show 0<=v.2 by omega);omega
  omega
theorem rP {α:Type} (l:List α) (i j:Nat):(l.eraseIdx i)[j]?=if j < i then l[j]? else l[j + 1]?:=List.getElem?_eraseIdx ..
theorem bJ.cut {n:Nat} {fs:List Z2} (h:bJ n fs) (hn:2 < n) {i:Nat} {u v w:Z2} (e:EJ n fs i u v w):bJ (n - 1) (fs.eraseIdx i):=by
 have hl:=h.len;have i0:=e.i0;have il:=e.il;have hu:=e.near;have hw:=e.far;have one:=e.one;have g:=λj=>rP fs i j;have sub:∀p,p∈fs.eraseIdx i->p∈fs:=λp hp=>List.mem_of_mem_eraseIdx hp;refine⟨by rw [List.length_eraseIdx,if_pos (by omega)];omega,by omega,by have:=h.most;omega,?_,λp hp=>?_,λj p r j0 hp hr=>?_,λp hp=>?_,λj p hp j0=>?_,?_,λp hp=>h.bits p (sub p hp)⟩
 ·rw [g,if_pos i0];exact h.first
 ·rw [g] at hp
  by_cases c:1 < i
  ·rw [if_pos c] at hp;exact h.det0 p hp
  ·have:i=1:=by omega
   subst this;rw [if_neg c] at hp;rw [Nat.mod_eq_of_lt (by omega)] at hw;rw [hw] at hp;cases hp;rw [h.first] at hu;cases hu;have:=h.low _ w hw (by omega);unfold dZ at one;simp at one;omega
 ·rw [g] at hp hr
  by_cases c:j + 1 < i
  ·rw [if_pos (by omega)] at hp;rw [if_pos c] at hr;exact h.det j p r j0 hp hr
  ·rw [if_neg c] at hr
   by_cases c2:j + 1=i
   ·rw [if_pos (by omega)] at hp;rw [show i - 1=j by omega,hp] at hu;cases hu;have:=(Iy.mp hr).1;rw [Nat.mod_eq_of_lt (by omega),<- c2,hr] at hw;cases hw;have:=h.lt 1 j _ _ j0 hp hr;show dZ _ _ = -1
    omega
   ·rw [if_neg (by omega)] at hp;exact h.det (j + 1) p r (by omega) hp hr
 ·rw [g] at hp
  by_cases c:i=n - 1
  ·rw [if_pos (by omega),show n - 1 - 1=i - 1 by omega,hu] at hp;cases hp;rw [c,show n - 1 + 1=n by omega,Nat.mod_self,h.first] at hw;cases hw;have:=h.low _ u hu (by omega);unfold dZ at one;simp at one;omega
  ·rw [if_neg (by omega),show n - 1 - 1 + 1=n - 1 by omega] at hp;exact h.last p hp
 ·rw [g] at hp
  by_cases c:j < i
  ·rw [if_pos c] at hp;exact h.low j p hp j0
  ·rw [if_neg c] at hp;exact h.low (j + 1) p hp (by omega)
 ·obtain⟨k,hk⟩:=Jl h.nought;have hk':=(Iy.mp hk).1;have ne:k≠i:=λz=>by rw [z,e.mid] at hk;exact e.ne (IL hk)
  by_cases c:k < i
  ·exact IG (i:=k) (by rw [g,if_pos c];exact hk)
  ·exact IG (i:=k - 1) (by rw [g,if_neg (by omega),show k - 1 + 1=k by omega];exact hk)
abbrev rF:=Z2×Z2
def nx (n i:Nat):Nat:=if i + 1=n then 0 else i + 1
def Bd (row:List Z2) (e:rF):Prop:=∃i,row[i]?=some e.1/\row[nx row.length i]?=some e.2
def Inj (row:List Z2):Prop:=∀(i j:Nat) (u:Z2),row[i]?=some u->row[j]?=some u->i=j
theorem yd {n i:Nat} (h:i < n):(i + 1) % n=nx n i:=by
 unfold nx
 by_cases c:i + 1=n
 ·rw [if_pos c,c,Nat.mod_self]
 ·rw [if_neg c,Nat.mod_eq_of_lt (by omega)]
theorem Aq {row:List Z2} (hi:Inj row) {i:Nat} {u v w:Z2} (i0:0 < i) (h2:2 < row.length)
  (hu:row[i - 1]?=some u) (hv:row[i]?=some v) (hw:row[nx row.length i]?=some w) (e:rF) :
  Bd (row.eraseIdx i) e↔e=(u,w)\/(Bd row e/\e.1≠v/\e.2≠v):=by
 have il:=(Iy.mp hv).1;have hl:(row.eraseIdx i).length=row.length - 1:=by rw [List.length_eraseIdx,if_pos il]
 have g:=λj=>rP row i j
 have gap:(row.eraseIdx i)[i - 1]?=some u/\(row.eraseIdx i)[nx (row.length - 1) (i - 1)]?=some w:=by
  refine⟨by rw [g,if_pos (by omega)];exact hu,?_⟩;rw [g]
  by_cases c:i + 1=row.length
  ·have e1:nx (row.length - 1) (i - 1)=0:=by unfold nx;rw [if_pos (by omega)]
   have e2:nx row.length i=0:=by unfold nx;rw [if_pos c]
   rw [e2] at hw;rw [e1,if_pos i0];exact hw
  ·have e1:nx (row.length - 1) (i - 1)=i:=by unfold nx;rw [if_neg (by omega)];omega
   have e2:nx row.length i=i + 1:=by unfold nx;rw [if_neg c]
   rw [e2] at hw;rw [e1,if_neg (by omega)];exact hw
 have nv:∀j x,row[j]?=some x->j≠i->x≠v:=λj x hj hne z=>hne (hi j i v (z▸hj) hv)
 constructor
 ·rintro⟨j,ha,hb⟩;rw [hl] at hb
  by_cases c1:j + 1=i
  ·have:j=i - 1:=by omega
   subst this
   left
   rw [gap.1] at ha;rw [gap.2] at hb;exact JH (IL ha).symm (IL hb).symm
  ·right
   rw [g] at ha hb
   by_cases c2:j < i
   ·have e1:nx (row.length - 1) j=j + 1:=by unfold nx;rw [if_neg (by omega)]
    have e2:nx row.length j=j + 1:=by unfold nx;rw [if_neg (by omega)]
    rw [if_pos c2] at ha;rw [e1,if_pos (by omega)] at hb;exact⟨⟨j,ha,by rw [e2];exact hb⟩,nv j _ ha (by omega),nv (j + 1) _ hb (by omega)⟩
   ·rw [if_neg c2] at ha
    by_cases c3:j + 1=row.length - 1
    ·have e1:nx (row.length - 1) j=0:=by unfold nx;rw [if_pos c3]
     have e2:nx row.length (j + 1)=0:=by unfold nx;rw [if_pos (by omega)]
     rw [e1,if_pos i0] at hb;exact⟨⟨j + 1,ha,by rw [e2];exact hb⟩,nv _ _ ha (by omega),nv 0 _ hb (by omega)⟩
    ·have e1:nx (row.length - 1) j=j + 1:=by unfold nx;rw [if_neg c3]
     have e2:nx row.length (j + 1)=j + 2:=by unfold nx;rw [if_neg (by omega)]
     rw [e1,if_neg (by omega)] at hb;exact⟨⟨j + 1,ha,by rw [e2];exact hb⟩,nv _ _ ha (by omega),nv _ _ hb (by omega)⟩
 ·rintro (rfl|⟨⟨j,ha,hb⟩,h1,h2'⟩)
  ·exact⟨i - 1,gap.1,by rw [hl];exact gap.2⟩
  ·have j1:j≠i:=λz=>h1 (by rw [z,hv] at ha;exact (IL ha).symm);have j2:nx row.length j≠i:=λz=>h2' (by rw [z,hv] at hb;exact (IL hb).symm);have jl:=(Iy.mp ha).1
   by_cases c:j < i
   ·have e2:nx row.length j=j + 1:=by unfold nx;rw [if_neg (by omega)]
    rw [e2] at hb j2;refine⟨j,by rw [g,if_pos c];exact ha,?_⟩;have e1:nx (row.length - 1) j=j + 1:=by unfold nx;rw [if_neg (by omega)]
    rw [hl,e1,g,if_pos (by omega)];exact hb
   ·refine⟨j - 1,by rw [g,if_neg (by omega),show j - 1 + 1=j by omega];exact ha,?_⟩;rw [hl,g]
    by_cases c3:j + 1=row.length
    ·have e1:nx (row.length - 1) (j - 1)=0:=by unfold nx;rw [if_pos (by omega)]
     have e2:nx row.length j=0:=by unfold nx;rw [if_pos c3]
     rw [e2] at hb;rw [e1,if_pos i0];exact hb
    ·have e1:nx (row.length - 1) (j - 1)=j:=by unfold nx;rw [if_neg (by omega)];omega
     have e2:nx row.length j=j + 1:=by unfold nx;rw [if_neg c3]
     rw [e2] at hb;rw [e1,if_neg (by omega)];exact hb
abbrev d9:=Z2×Z2×Z2
def te (t:d9):List rF:=[(t.1,t.2.1),(t.2.1,t.2.2),(t.2.2,t.1)]
def dX (ts:List d9):List rF:=ts.flatMap te
def rv (e:rF):rF:=(e.2,e.1)
def l9:rF:=((1,0),(0,1))
def uF:rF:=((0,1),(1,0))
inductive dQ:List Z2->List d9->Prop
 | done {row:List Z2}:row.length=2->dQ row []
 | cut {row:List Z2} {i:Nat} {u v w:Z2} {ts:List d9}:2 < row.length->EJ row.length row i u v w->dQ (row.eraseIdx i) ts->dQ row ((u,v,w) :: ts)
theorem bS {t:d9} {ts:List d9} {e:rF}:e∈dX (t :: ts)↔e=(t.1,t.2.1)\/e=(t.2.1,t.2.2)\/e=(t.2.2,t.1)\/e∈dX ts:=by
 unfold dX te;simp only [List.flatMap_cons,Jc,IZ,Jg,or_false,or_assoc]
theorem Bd.next {row:List Z2} (hi:Inj row) {a b c:Z2} (h1:Bd row (a,b)) (h2:Bd row (a,c)):b=c:=by
 obtain⟨i,a1,b1⟩:=h1;obtain⟨j,a2,b2⟩:=h2;have:=hi i j a a1 a2;subst this;rw [b1] at b2;exact IL b2
theorem Bd.back {row:List Z2} (hi:Inj row) (hl:2 < row.length) {a b:Z2} (h1:Bd row (a,b)) (h2:Bd row (b,a)):False:=by
 obtain⟨i,a1,b1⟩:=h1;obtain⟨j,b2,a2⟩:=h2;have e1:=hi _ _ _ b1 b2;have e2:=hi _ _ _ a1 a2;have l1:=(Iy.mp a1).1;have l2:=(Iy.mp b2).1;unfold nx at e1 e2
 split at e1 <;> split at e2 <;> omega
theorem Bd.mem {row:List Z2} {e:rF} (h:Bd row e):e.1∈row/\e.2∈row:=by
 obtain⟨i,a,b⟩:=h;exact⟨IG a,IG b⟩
structure Cut (row row':List Z2) (u v w:Z2):Prop where
 inj:Inj row
 inj':Inj row'
 more:2 < row.length
 one:Bd row (u,v)
 two:Bd row (v,w)
 bd:∀e,Bd row' e↔e=(u,w)\/(Bd row e/\e.1≠v/\e.2≠v)
 off:v∉row'
 ne0:v≠(0,1)
 ne1:v≠(1,0)
 uv:u≠v
 vw:v≠w
 uw:u≠w
 sub:∀p∈row',p∈row
 mu:u∈row
 mv:v∈row
 mw:w∈row
theorem bJ.Ff {row:List Z2} (h:bJ row.length row) (hn:2 < row.length) {i:Nat} {u v w:Z2} (e:EJ row.length row i u v w):Cut row (row.eraseIdx i) u v w:=by
 have i0:=e.i0;have il:=e.il;have hi:Inj row:=λ_ _ _=>h.inj;have hw:=e.far;rw [yd il] at hw;have hc:=h.cut hn e;have n1:nx row.length (i - 1)=i:=by unfold nx;rw [if_neg (by omega)];omega
 have b1:Bd row (u,v):=⟨i - 1,e.near,by rw [n1];exact e.mid⟩;have b2:Bd row (v,w):=⟨i,e.mid,hw⟩
 have uv:u≠v:=λz=>by
  have:=hi _ _ _ e.near (z▸e.mid);omega
 refine⟨hi,λ_ _ _=>hc.inj,hn,b1,b2,Aq hi i0 hn e.near e.mid hw,λhm=>?_,e.ne,λz=>?_,uv,λz=>?_,λz=>?_,λp hp=>List.mem_of_mem_eraseIdx hp,b1.mem.1,b1.mem.2,b2.mem.2⟩
 ·obtain⟨j,hj⟩:=Jl hm;rw [rP] at hj
  by_cases c:j < i
  ·rw [if_pos c] at hj;have:=hi _ _ _ hj e.mid;omega
  ·rw [if_neg c] at hj;have:=hi _ _ _ hj e.mid;omega
 ·have:=hi _ _ _ h.first (z▸e.mid);omega
 ·have:=hi _ _ _ (z▸e.mid) hw;unfold nx at this;split at this <;> omega
 ·have:=hi _ _ _ (z▸e.near) hw;unfold nx at this;split at this <;> omega
theorem bJ.pair {row:List Z2} (h:bJ row.length row) (h2:row.length=2):row=[(1,0),(0,1)]:=by
 match row,h2,h.first,h.nought with
 | [a,b],_,f,m =>
  cases (IL f:a=(1,0));simp at m;rw [<- m]
theorem rR (e:rF):Bd [(1,0),(0,1)] e↔e=l9\/e=uF:=by
 constructor
 ·rintro⟨i,a,b⟩
  match i with
  | 0=>exact .inl (JH (IL a).symm (IL b).symm)
  | 1=>exact .inr (JH (IL a).symm (IL b).symm)
  | i + 2=>cases a
 ·rintro (rfl|rfl)
  ·exact⟨0,rfl,rfl⟩
  ·exact⟨1,rfl,rfl⟩
structure dM (row:List Z2) (ts:List d9):Prop where
 inn:∀e∈dX ts,e.1∈row/\e.2∈row
 ne:∀e∈dX ts,e.1≠e.2
 none:∀e,Bd row e->rv e∉dX ts
 dif:(dX ts).Nodup
 a:l9∈dX ts↔¬ Bd row uF
 b:uF∈dX ts↔¬ Bd row l9
 c:∀e,Bd row e->e≠l9->e≠uF->e∈dX ts
 d:∀e∈dX ts,¬ Bd row e->e≠l9->e≠uF->rv e∈dX ts
 e:∀S:rF->Prop,(∀t∈ts,(S (t.1,t.2.1)->S (t.2.1,t.2.2))/\(S (t.2.1,t.2.2)->S (t.2.2,t.1))/\(S (t.2.2,t.1)->S (t.1,t.2.1)))->(∀e∈dX ts,¬ Bd row e->S e->S (rv e))->(l9∈dX ts->S l9)->(uF∈dX ts->S uF)->∀e∈dX ts,S e
theorem xQ:dM [(1,0),(0,1)] [] where
 inn:=λe h=>by cases h
 ne:=λe h=>by cases h
 none:=λe _ h=>by cases h
 dif:=List.nodup_nil
 a:=⟨λh=>absurd h (by simp [dX]),λh=>absurd ((rR _).mpr (.inr rfl)) h⟩
 b:=⟨λh=>absurd h (by simp [dX]),λh=>absurd ((rR _).mpr (.inl rfl)) h⟩
 c:=λe h h1 h2=>((rR e).mp h).elim (λz=>absurd z h1) (λz=>absurd z h2)
 d:=λe h=>by cases h
 e:=λS _ _ _ _ e h=>by cases h
theorem pH {row row':List Z2} {u v w:Z2} {ts:List d9} (k:Cut row row' u v w) (h:dM row' ts) {x y:rF} (hr:rv x=y) (hx:x.1≠v/\x.2≠v)
  (h':x∈dX ts↔¬ Bd row' y):x∈dX ((u,v,w) :: ts)↔¬ Bd row y:=by
 subst hr;rw [bS]
 by_cases c:x=(w,u)
 ·subst c;refine⟨λ_ hb=>?_,λ_=>.inr (.inr (.inl rfl))⟩;exact k.vw (Bd.next k.inj k.one hb)
 ·have:Bd row' (rv x)↔Bd row (rv x):=by
   rw [k.bd];refine⟨?_,λhb=>.inr ⟨hb,hx.2,hx.1⟩⟩
   rintro (z|z)
   ·exact absurd (by have:=congrArg rv z;exact this) c
   ·exact z.1
  rw [<- this,<- h'];refine⟨?_,λm=>.inr (.inr (.inr m))⟩
  rintro (z|z|z|z)
  ·exact absurd (by rw [z]) hx.2
  ·exact absurd (by rw [z]) hx.1
  ·exact absurd z c
  ·exact z
theorem Ad {row row':List Z2} {u v w:Z2} {ts:List d9} (k:Cut row row' u v w) (h:dM row' ts):dM row ((u,v,w) :: ts):=by
 have novert:∀e∈dX ts,e.1≠v/\e.2≠v:=λe he=>⟨λz=>k.off (z▸(h.inn e he).1),λz=>k.off (z▸(h.inn e he).2)⟩;have buw:Bd row' (u,w):=(k.bd _).mpr (.inl rfl);have nuw:¬ Bd row (u,w):=λhb=>k.vw (Bd.next k.inj k.one hb);have nwu:(w,u)∉dX ts:=h.none (u,w) buw;refine⟨λe he=>?_,λe he=>?_,λe hb he=>?_,?_,pH k h rfl ⟨λz=>k.ne1 z.symm,λz=>k.ne0 z.symm⟩ h.a,pH k h rfl ⟨λz=>k.ne0 z.symm,λz=>k.ne1 z.symm⟩ h.b,λe hb n1 n2=>?_,λe he hb n1 n2=>?_,λS hr hv h1 h2=>?_⟩
 ·rcases bS.mp he with rfl|rfl|rfl|m
  ·exact⟨k.mu,k.mv⟩
  ·exact⟨k.mv,k.mw⟩
  ·exact⟨k.mw,k.mu⟩
  ·exact⟨k.sub _ (h.inn e m).1,k.sub _ (h.inn e m).2⟩
 ·rcases bS.mp he with rfl|rfl|rfl|m
  ·exact k.uv
  ·exact k.vw
  ·exact λz=>k.uw z.symm
  ·exact h.ne e m
 ·rcases bS.mp he with z|z|z|m
  ·have:e=(v,u):=congrArg rv z;exact Bd.back k.inj k.more k.one (this▸hb)
  ·have:e=(w,v):=congrArg rv z;exact Bd.back k.inj k.more k.two (this▸hb)
  ·have:e=(u,w):=congrArg rv z;exact nuw (this▸hb)
  ·have nv:=novert _ m;exact h.none e ((k.bd e).mpr (.inr ⟨hb,nv.2,nv.1⟩)) m
 ·show (te (u,v,w) ++ dX ts).Nodup
  refine JJ.mpr ⟨?_,h.dif,?_⟩
  ·unfold te;simp only [Jx,IZ,Jg,or_false,not_or,Prod.mk.injEq,not_and,not_false_eq_true,List.nodup_nil,and_true];exact⟨⟨λz=>absurd z k.uv,λz=>absurd z k.uw⟩,λz=>absurd z k.vw⟩
  ·intro a ha b hb z;subst z;have nv:=novert _ hb;unfold te at ha;simp only [IZ,Jg,or_false] at ha;rcases ha with rfl|rfl|rfl
   ·exact nv.2 rfl
   ·exact nv.1 rfl
   ·exact nwu hb
 ·by_cases c:e.1=v
  ·have:e=(v,w):=JH c (Bd.next k.inj (show Bd row (v,e.2) by rw [<- c];exact hb) k.two);exact bS.mpr (.inr (.inl this))
  ·by_cases c2:e.2=v
   ·obtain⟨i,a1,b1⟩:=hb;obtain⟨j,a2,b2⟩:=k.one;have il:=(Iy.mp a1).1;have jl:=(Iy.mp a2).1;have:=k.inj _ _ v (c2▸b1) b2;have ij:i=j:=by unfold nx at this;split at this <;> split at this <;> omega
    subst ij;rw [a1] at a2;exact bS.mpr (.inl (JH (IL a2) c2))
   ·exact bS.mpr (.inr (.inr (.inr (h.c e ((k.bd e).mpr (.inr ⟨hb,c,c2⟩)) n1 n2))))
 ·rcases bS.mp he with z|z|z|m
  ·exact absurd (z▸k.one) hb
  ·exact absurd (z▸k.two) hb
  ·have:rv e=(u,w):=congrArg rv z;rw [this];refine bS.mpr (.inr (.inr (.inr (h.c _ buw (λq=>n2 ?_) (λq=>n1 ?_)))))
   ·rw [z];exact congrArg rv q
   ·rw [z];exact congrArg rv q
  ·by_cases c:Bd row' e
   ·rcases (k.bd e).mp c with rfl|⟨q,_⟩
    ·exact bS.mpr (.inr (.inr (.inl rfl)))
    ·exact absurd q hb
   ·exact bS.mpr (.inr (.inr (.inr (h.d e m c n1 n2))))
 ·have old:∀e∈dX ts,S e:=h.e S (λt ht=>hr t (IT _ ht)) (λe he hb=>by
    refine hv e (bS.mpr (.inr (.inr (.inr he)))) λq=>hb ?_;have nv:=novert e he
    exact (k.bd e).mpr (.inr ⟨q,nv.1,nv.2⟩)) (λm=>h1 (bS.mpr (.inr (.inr (.inr m))))) (λm=>h2 (bS.mpr (.inr (.inr (.inr m)))))
  have r:=hr (u,v,w) (Jb ..)
  have last:S (w,u):=by
   by_cases c1:(u,w)=l9
   ·have:(w,u)=uF:=congrArg rv c1;rw [this];exact h2 (bS.mpr (.inr (.inr (.inl this.symm))))
   ·by_cases c2:(u,w)=uF
    ·have:(w,u)=l9:=congrArg rv c2;rw [this];exact h1 (bS.mpr (.inr (.inr (.inl this.symm))))
    ·have m:=h.c _ buw c1 c2;exact hv (u,w) (bS.mpr (.inr (.inr (.inr m)))) nuw (old _ m)
  intro e he;rcases bS.mp he with rfl|rfl|rfl|m
  ·exact r.2.2 last
  ·exact r.1 (r.2.2 last)
  ·exact last
  ·exact old e m
theorem tV {row:List Z2} {ts:List d9} (t:dQ row ts):bJ row.length row->dM row ts:=by
 induction t with
 | done h2=>intro h;rw [h.pair h2];exact xQ
 | cut hn e _ ih =>
  rename_i row i u v w ts _;intro h;have hc:=h.cut hn e;have hl:(row.eraseIdx i).length=row.length - 1:=by rw [List.length_eraseIdx,if_pos e.il]
  exact Ad (h.Ff hn e) (ih (by rw [hl];exact hc))
inductive bI where
 | gap (i:Nat)|edge (e:rF)
 deriving DecidableEq
def bh (fs:List Z2) (i:Nat):rF:=(fs.getD i (1,0),fs.getD (nx fs.length i) (1,0))
theorem yT {n i:Nat} (h:i < n):nx n i < n:=by unfold nx;split <;> omega
section
variable {fs:List Z2} {ms:List Mk} {ts:List d9} {ha th:bI->Option bI}
theorem kM {l:List Z2} {i:Nat} (h:i < l.length):l[i]?=some (l.getD i (1,0)):=by
 rw [Jy,IE h];rfl
theorem we {i:Nat} (h:i < fs.length):Bd fs (bh fs i):=⟨i,kM h,kM (yT h)⟩
theorem qq {e:rF} (h:Bd fs e):∃i,i < fs.length/\e=bh fs i:=by
 obtain⟨i,h1,h2⟩:=h;have hi:=(Iy.mp h1).1;rw [kM hi] at h1;rw [kM (yT hi)] at h2;exact⟨i,hi,JH (IL h1).symm (IL h2).symm⟩
theorem oN (h:bJ fs.length fs) {i j:Nat} (hi:i < fs.length) (hj:j < fs.length) (e:bh fs i=bh fs j):i=j :=
 h.inj (kM hi) (by rw [kM hj];exact congrArg some (congrArg Prod.fst e).symm)
structure Links (fs:List Z2) (ms:List Mk) (ts:List d9) (ha th:bI->Option bI):Prop where
 rot:∀t∈ts,th (.edge (t.1,t.2.1))=some (.edge (t.2.1,t.2.2))/\th (.edge (t.2.1,t.2.2))=some (.edge (t.2.2,t.1))/\th (.edge (t.2.2,t.1))=some (.edge (t.1,t.2.1))
 thg:∀i,ms[i]?=some Mk.aX->th (.gap i)=some (.gap i)
 hag:∀i,ms[i]?=some Mk.aX->ha (.gap i)=some (.edge (bh fs i))/\ha (.edge (bh fs i))=some (.gap i)
 hah:∀i,ms[i]?=some Mk.half->ha (.edge (bh fs i))=some (.edge (bh fs i))
 ham:∀i j,ms[i]?=some (Mk.gap j)->ha (.edge (bh fs i))=some (.edge (bh fs j))
 hai:∀e∈dX ts,¬ Bd fs e->ha (.edge e)=some (.edge (rv e))
def oV (ms:List Mk) (ts:List d9):bI->Prop
 | .gap i=>ms[i]?=some Mk.aX
 | .edge e=>e∈dX ts
theorem jT {e:rF} (h:e∈dX ts):∃t∈ts,e∈te t:=List.mem_flatMap.mp h
theorem zZ {t:d9} (h:t∈ts) {e:rF} (he:e∈te t):e∈dX ts:=List.mem_flatMap.mpr ⟨t,h,he⟩
theorem jF (h:bJ fs.length fs) (hn:2 < fs.length) (k:dM fs ts) {i:Nat} (hi:i < fs.length):bh fs i∈dX ts:=by
 have hb:=we hi;have inj:Inj fs:=λ_ _ _=>h.inj
 by_cases c1:bh fs i=l9
 ·rw [c1] at hb ⊢;exact k.a.mpr λh2=>Bd.back inj hn hb h2
 ·by_cases c2:bh fs i=uF
  ·rw [c2] at hb ⊢;exact k.b.mpr λh2=>Bd.back inj hn h2 hb
  ·exact k.c _ hb c1 c2
theorem Gr (k:dM fs ts) {e:rF} (he:e∈dX ts) (hb:¬ Bd fs e):rv e∈dX ts:=by
 by_cases c1:e=l9
 ·subst c1;exact k.b.mpr hb
 ·by_cases c2:e=uF
  ·subst c2;exact k.a.mpr hb
  ·exact k.d e he hb c1 c2
theorem qx (m:nL fs.length ms) {i:Nat} (hi:i < fs.length):ms[i]?=some Mk.half\/ms[i]?=some Mk.aX\/∃j,j < fs.length/\ms[i]?=some (Mk.gap j):=by
 have hl:=m.len;have:ms[i]?=some (ms[i]'(by omega)):=IE _
 cases e:ms[i]'(by omega) with
 | half=>rw [e] at this;exact .inl this
 | aX=>rw [e] at this;exact .inr (.inl this)
 | gap j =>
  rw [e] at this;have q:=(Iy.mp (m.pair i j this).2).1;exact .inr (.inr ⟨j,by omega,this⟩)
theorem c7 (m:nL fs.length ms) {i:Nat} {x:Mk} (h:ms[i]?=some x):i < fs.length:=by
 have:=(Iy.mp h).1;have:=m.len;omega
theorem ik (h:jr fs ms) (hn:2 < fs.length) (k:dM fs ts) (l:Links fs ms ts ha th) {p:bI} (hp:oV ms ts p):∃q,ha p=some q/\oV ms ts q/\ha q=some p:=by
 cases p with
 | gap i =>
  have hp':ms[i]?=some Mk.aX:=hp
  exact⟨_,(l.hag i hp').1,jF h.fr hn k (c7 h.mar hp'),(l.hag i hp').2⟩
 | edge e =>
  have he:e∈dX ts:=hp
  by_cases hb:Bd fs e
  ·obtain⟨i,hi,rfl⟩:=qq hb;rcases qx h.mar hi with c|c|⟨j,hj,c⟩
   ·exact⟨_,l.hah i c,he,l.hah i c⟩
   ·exact⟨_,(l.hag i c).2,c,(l.hag i c).1⟩
   ·exact⟨_,l.ham i j c,jF h.fr hn k hj,l.ham j i (h.mar.pair i j c).2⟩
  ·have r:=Gr k he hb;refine⟨_,l.hai e he hb,r,?_⟩;have nb:¬ Bd fs (rv e):=λq=>k.none _ q he;exact l.hai (rv e) r nb
theorem ud (l:Links fs ms ts ha th) {p:bI} (hp:oV ms ts p):∃q,th p=some q/\oV ms ts q:=by
 cases p with
 | gap i=>exact⟨_,l.thg i hp,hp⟩
 | edge e =>
  obtain⟨t,ht,he⟩:=jT hp;have r:=l.rot t ht;have m:∀x∈te t,x∈dX ts:=λx hx=>zZ ht hx;unfold te at he m;simp only [IZ,Jg,or_false] at he;rcases he with rfl|rfl|rfl
  ·exact⟨_,r.1,m _ (by simp)⟩
  ·exact⟨_,r.2.1,m _ (by simp)⟩
  ·exact⟨_,r.2.2,m _ (by simp)⟩
theorem DS (h:jr fs ms) (hn:2 < fs.length) (k:dM fs ts) (l:Links fs ms ts ha th) {p:bI} (hp:oV ms ts p):ha p=some p↔∃i,ms[i]?=some Mk.half/\p=.edge (bh fs i):=by
 constructor
 ·intro hf
  cases p with
  | gap i=>rw [(l.hag i hp).1] at hf;cases hf
  | edge e =>
   have he:e∈dX ts:=hp
   by_cases hb:Bd fs e
   ·obtain⟨i,hi,rfl⟩:=qq hb;rcases qx h.mar hi with c|c|⟨j,hj,c⟩
    ·exact⟨i,c,rfl⟩
    ·rw [(l.hag i c).2] at hf;cases hf
    ·rw [l.ham i j c] at hf;have:=oN h.fr hj hi (by injection hf with q;injection q);exact absurd this (h.mar.pair i j c).1
   ·rw [l.hai e he hb] at hf;have q:rv e=e:=by injection hf with q;injection q
    exact absurd (congrArg Prod.fst q).symm (k.ne e he)
 ·rintro⟨i,c,rfl⟩;exact l.hah i c
theorem CP (k:dM fs ts) (l:Links fs ms ts ha th) {p:bI} (hp:oV ms ts p):th p=some p↔∃i,ms[i]?=some Mk.aX/\p=.gap i:=by
 constructor
 ·intro hf
  cases p with
  | gap i=>exact⟨i,hp,rfl⟩
  | edge e =>
   exfalso;have hp':e∈dX ts:=hp;obtain⟨t,ht,he⟩:=jT hp';have r:=l.rot t ht;have ne:=k.ne e hp';unfold te at he;simp only [IZ,Jg,or_false] at he;rcases he with rfl|rfl|rfl
   ·rw [r.1] at hf;injection hf with q;injection q with q;exact ne (congrArg Prod.fst q).symm
   ·rw [r.2.1] at hf;injection hf with q;injection q with q;exact ne (congrArg Prod.fst q).symm
   ·rw [r.2.2] at hf;injection hf with q;injection q with q;exact ne (congrArg Prod.fst q).symm
 ·rintro⟨i,c,rfl⟩;exact l.thg i c
def rE (fs:List Z2) (ts:List d9) (ha:bI->Option bI) (f:bI):Prop:=(l9∈dX ts/\f=.edge l9)\/(l9∉dX ts/\ha (.edge (bh fs (fs.length - 1)))=some f)
theorem yE (h:bJ fs.length fs) (hb:Bd fs uF):bh fs (fs.length - 1)=uF:=by
 obtain⟨i,hi,e⟩:=qq hb
 have h2:fs[nx fs.length i]?=some (1,0):=by
  rw [kM (yT hi)];exact congrArg some (congrArg Prod.snd e).symm
 have:=h.inj h2 h.first;unfold nx at this
 split at this
 ·have:i=fs.length - 1:=by omega
  rw [<- this];exact e.symm
 ·omega
theorem y4 (h:jr fs ms) (hn:2 < fs.length) (k:dM fs ts) (l:Links fs ms ts ha th) {f:bI} (hf:rE fs ts ha f):oV ms ts f:=by
 rcases hf with ⟨a,rfl⟩|⟨_,b⟩
 ·exact a
 ·obtain⟨q,h1,h2,_⟩:=ik (p:=.edge (bh fs (fs.length - 1))) h hn k l (jF h.fr hn k (by omega));rw [b] at h1;cases h1;exact h2
theorem reach (h:jr fs ms) (hn:2 < fs.length) (k:dM fs ts) (l:Links fs ms ts ha th) {f:bI} (hf:rE fs ts ha f) {S:bI->Prop} (s0:S f) (s1:∀p q,S p->ha p=some q->S q) (s2:∀p q,S p->th p=some q->S q):∀p,oV ms ts p->S p:=by
 have both:(l9∈dX ts->S (.edge l9))/\(uF∈dX ts->S (.edge uF)):=by
  rcases hf with ⟨a,rfl⟩|⟨na,b⟩
  ·refine⟨λ_=>s0,λm=>?_⟩;exact s1 _ _ s0 (l.hai l9 a (k.b.mp m))
  ·refine⟨λm=>absurd m na,λ_=>?_⟩;have hb:Bd fs uF:=Classical.byContradiction λq=>na (k.a.mpr q);obtain⟨q,h1,h2,h3⟩:=ik (p:=.edge (bh fs (fs.length - 1))) h hn k l (jF h.fr hn k (by omega));rw [b] at h1;cases h1;rw [yE h.fr hb] at h3;exact s1 _ _ s0 h3
 have edges:∀e∈dX ts,S (.edge e):=k.e (λe=>S (.edge e)) (λt ht=>⟨λq=>s2 _ _ q (l.rot t ht).1,λq=>s2 _ _ q (l.rot t ht).2.1,λq=>s2 _ _ q (l.rot t ht).2.2⟩) (λe he hb q=>s1 _ _ q (l.hai e he hb)) both.1 both.2;intro p hp
 cases p with
 | edge e=>exact edges e hp
 | gap i =>
  have hp':ms[i]?=some Mk.aX:=hp;exact s1 _ _ (edges _ (jF h.fr hn k (c7 h.mar hp'))) (l.hag i hp').2
end
theorem xu {α β:Type} [DecidableEq α] {met:List α} {is:List β} {g:β->α} (P:α->Bool) (nd:met.Nodup) (gi:∀i∈is,∀j∈is,g i=g j->i=j) (ni:is.Nodup) (hP:∀p∈met,P p=true↔∃i∈is,p=g i) (hm:∀i∈is,g i∈met):(met.filter P).length=is.length:=by
 have n1:(met.filter P).Nodup:=nd.filter P
 have n2:(is.map g).Nodup:=by
  rw [List.nodup_iff_pairwise_ne,List.pairwise_map];exact (List.nodup_iff_pairwise_ne.mp ni).imp_of_mem λha hb ne e=>ne (gi _ ha _ hb e)
 have perm:(met.filter P).Perm (is.map g):=(List.perm_ext_iff_of_nodup n1 n2).mpr λa=>by
  rw [List.mem_filter,Jn]
  constructor
  ·rintro⟨h1,h2⟩;obtain⟨i,hi,e⟩:=(hP a h1).mp h2;exact⟨i,hi,e.symm⟩
  ·rintro⟨i,hi,rfl⟩;exact⟨hm i hi,(hP _ (hm i hi)).mpr ⟨i,hi,rfl⟩⟩
 rw [perm.length_eq,IK]
end L2.L3
namespace K55
open PySem L2 L2.L3
def GP (t:d9):D:=.tup [e7 t.1,e7 t.2.1,e7 t.2.2]
theorem xO {α β:Type} (f:α->β) (l:List α) (i:Nat):(l.map f).eraseIdx i=(l.eraseIdx i).map f:=by
 apply List.ext_getElem?
 intro j;simp only [rP,IJ]
 split <;> rfl
def zI (x:D) (Q:D->Prop):Prop:=∃fs,x=.tup (fs.map e7)/\bJ fs.length fs/\∀ts,dQ fs ts->ts.length<=fs.length->Q (.lst (ts.map GP))
def dC:Fw:=F1 zI
def gR:bG:=(fG BR (af (cC (.int 1)) (af (cp 1) aw)) (aW 3) (aG (bH 4 (cL 1 (aH lA (ag 3) (cC (.int 1))))) (aG (bH 5 (cL 1 (aH oD (aH dg (ag 3) (cC (.int 1))) (cp 1)))) (gG (mL (aN (aH oS (cL 1 (ag 3)) (cf (af (cC (.int 0)) (af (cC (.int 1)) aw))))) (aN (aH gX (aB ym (af (aH lA (aH xI (aH cA (ag 4) (cC (.int 0))) (aH cA (ag 5) (cC (.int 1)))) (aH xI (aH cA (ag 4) (cC (.int 1))) (aH cA (ag 5) (cC (.int 0))))) aw)) (cC (.int 1))))) (aG (cW 2 (cf (af (ag 4) (af (cL 1 (ag 3)) (af (ag 5) aw))))) (aG (uq 1 (ag 3)) iw)) bM))))
def gY:bG:=(aG (bR 1 (iT (af (ag 0) aw))) (aG (bR 2 (kd aw)) (aG (gL (aN (aH E8 (cp 1) (cC (.int 2)))) gR) (cX 2 (b9 (ag 2))))))
theorem pC:∀ds Q,dC ds Q->ds.length=1:=sV
theorem rH:∀ds (Q:D->Prop),dC ds Q->gY { nx:=λ_=>Q .non,rt:=Q } (aE ["_law_fractions_here","_law_row_here","_law_tiles_here","_law_i","_law_near","_law_far"] ds):=by
 rintro ds Q ⟨x,rfl,fs,rfl,hf,h⟩
 simp_arith only [gY,gL,uq]
 refine⟨λe=>∃(row:List Z2) (acc:List d9) (k3 k4 k5:Option Lo),e=[some (.d (.tup (fs.map e7))),some (.own (row.map e7)),some (.own (acc.map GP)),k3,k4,k5]/\bJ row.length row/\(∀rest,dQ row rest->dQ fs (acc ++ rest))/\acc.length + row.length=fs.length,
  zG 1,⟨fs,[],none,none,none,rfl,hf,λrest t=>t,by simp⟩,?_⟩
 rintro env ⟨row,acc,k3,k4,k5,rfl,hr,ht,hlen⟩;have two:=hr.two;have most:=hf.most;refine⟨_,rfl,?_⟩
 by_cases c:2 < row.length
 ·rw [if_pos (by rw [IK];omega)]
  simp_arith only [gR,uq,IK]
  refine⟨by omega,by omega,?_⟩;refine bY (λi e=>∃k3 k4 k5:Option Lo,e=[some (.d (.tup (fs.map e7))),some (.own (row.map e7)),some (.own (acc.map GP)),k3,k4,k5]/\∀j u v w,j < i + 1->¬ EJ row.length row j u v w) ?_ ?_ ⟨k3,k4,k5,rfl,λj u v w hj e=>by have:=e.i0;omega⟩
  ·rintro i x env N hx ⟨k3,k4,k5,rfl,hno⟩ hN
   have hi:i < row.length - 1:=by
    have:=(Iy.mp hx).1;simp [aU] at this;omega
   have hxe:x=.int ((i + 1:Nat):Int):=by
    unfold aU at hx;rw [IJ,Jv (by omega)] at hx;cases hx;simp
    try omega
   subst hxe;have hu:row[i]?=some row[i]:=IE (by omega);have hv:row[i + 1]?=some row[i + 1]:=IE (by omega);have hm:(i + 1 + 1) % row.length < row.length:=Nat.mod_lt _ (by omega);have hw:row[(i + 1 + 1) % row.length]?=some (row[(i + 1 + 1) % row.length]):=IE hm;generalize row[i]=u at hu;generalize row[i + 1]=v at hv;generalize row[(i + 1 + 1) % row.length]=w at hw;have e1:jz (row.map e7) (((i + 1:Nat):Int) - 1)=some (e7 u):=by rw [show ((i + 1:Nat):Int) - 1=(i:Int) by omega];exact fe _ _ i _ hu
   have e2:jz (row.map e7) ((i + 1:Nat):Int)=some (e7 v):=fe _ _ (i + 1) _ hv
   have e3:jz (row.map e7) ((((i + 1:Nat):Int) + 1).fmod (row.length:Int))=some (e7 w):=by
    have:(((i + 1:Nat):Int) + 1).fmod (row.length:Int)=(((i + 1 + 1) % row.length:Nat):Int):=by
     rw [Int.fmod_eq_emod_of_nonneg _ (by omega),Int.natCast_emod,show (((i + 1 + 1:Nat)):Int)=((i + 1:Nat):Int) + 1 by omega]
    rw [this];exact fe _ _ _ _ hw
   have bu:=hr.bits u (IG hu);have bw:=hr.bits w (IG hw)
   simp_arith only [uq,IK]
   refine⟨_,_,rfl,e1,by show (row.length:Int)≠0;omega,_,_,rfl,e3,_,_,rfl,e2,?_⟩;rw [show (D.tup [D.int 0,D.int 1])=e7 (0,1) from rfl,DW];refine⟨_,rfl,?_⟩
   by_cases c0:v=(0,1)
   ·rw [decide_eq_true c0];refine hN _ ⟨_,_,_,rfl,λj a b d hj e=>?_⟩;rcases Jm.mp hj with z|z
    ·exact hno j a b d z e
    ·subst z;have:=e.mid;rw [hv] at this;exact e.ne ((IL this).symm.trans c0)
   ·rw [decide_eq_false c0];show cA (e7 u) (.int 0) _
    rw [vT,wX]
    simp_arith only [and_true]
    refine⟨As bu.1 bw.2 (by decide),?_⟩;rw [wX,vT]
    simp_arith only [and_true]
    refine⟨As bu.2 bw.1 (by decide),?_⟩
    by_cases c1:((u.1 * w.2 - u.2 * w.1).natAbs:Int)=1
    ·rw [if_pos c1];have ear:EJ row.length row (i + 1) u v w:=⟨by omega,by omega,by rw [show i + 1 - 1=i by omega];exact hu,hv,hw,c0,by show (u.1 * w.2 - u.2 * w.1).natAbs=1;omega⟩;have cut:=hr.cut c ear;have hle:(row.eraseIdx (i + 1)).length=row.length - 1:=by rw [List.length_eraseIdx,if_pos (by omega)]
     refine⟨by omega,_,_,rfl,e2,i + 1,rfl,by omega,by omega,⟨row.eraseIdx (i + 1),acc ++ [(u,v,w)],_,_,_,xO .. ,by rw [List.map_append];rfl,rfl,rfl,rfl,by rw [hle];exact cut,λrest t=>?_,?_⟩,?_⟩
     ·have:=ht ((u,v,w) :: rest) (.cut c ear t);rw [List.append_assoc];exact this
     ·rw [hle,Jd];simp;omega
     ·show ((row.map e7).eraseIdx (i + 1)).length < (row.map e7).length
      rw [List.length_eraseIdx,if_pos (by simp;omega),IK];omega
    ·rw [if_neg c1];refine hN _ ⟨_,_,_,rfl,λj a b d hj e=>?_⟩;rcases Jm.mp hj with z|z
     ·exact hno j a b d z e
     ·subst z;have q1:=e.near;have q2:=e.far;rw [show i + 1 - 1=i by omega,hu] at q1;rw [hw] at q2;cases q1;cases q2;have:=e.one;unfold dZ at this;exact c1 (by omega)
  ·rintro env ⟨k3,k4,k5,rfl,hno⟩
   exfalso;obtain⟨i,u,v,w,e⟩:=Dd hr c;have el:(aU 1 ((row.length:Int) - 1).toNat).length=row.length - 1:=by simp [aU] <;> omega
   rw [el] at hno;exact hno i u v w (by have:=e.il;omega) e
 ·rw [if_neg (by rw [IK];omega)];refine⟨_,rfl,_,rfl,?_⟩;have t:=ht [] (.done (by omega));rw [Jw] at t;exact h acc t (by omega)
def cY:bI->D
 | .gap i=>.int i
 | .edge e=>.tup [e7 e.1,e7 e.2]
theorem bL (p:bI):aI (cY p)=true/\dep (cY p)<=8:=by
 cases p with
 | gap i=>exact⟨rfl,by simp [cY,dep]⟩
 | edge e=>exact⟨by simp [cY,e7,aI,gQ],by simp [cY,e7,dep,b8]⟩
theorem wu {x y:Z2} (h:e7 x=e7 y):x=y:=by
 unfold e7 at h;simp only [D.tup.injEq,List.cons.injEq,D.int.injEq,and_true] at h;exact JH h.1 h.2
theorem wj {p q:bI} (h:cY p=cY q):p=q:=by
 cases p with
 | gap i=>cases q with
  | gap j=>simp only [cY,D.int.injEq] at h;rw [show i=j by omega]
  | edge e=>simp only [cY] at h;cases h
 | edge e=>cases q with
  | gap j=>simp only [cY] at h;cases h
  | edge d =>
   simp only [cY,D.tup.injEq,List.cons.injEq,and_true] at h;rw [show e=d from JH (wu h.1) (wu h.2)]
theorem va (p q:bI):aT (cY p) (cY q)=decide (p=q):=by
 rw [Bool.eq_iff_iff,BO (bL p).1 (bL q).1,decide_eq_true_eq];exact⟨wj,λh=>h▸rfl⟩
structure fj (kvs:List (D×D)) (f:bI->Option bI):Prop where
 ok:bO kvs
 get:∀p,dA kvs (cY p)=(f p).map cY
 key:∀kv∈kvs,∃p,kv.1=cY p
def o9 (f:bI->Option bI) (p q:bI):bI->Option bI:=λx=>if x=p then some q else f x
theorem bP {f:bI->Option bI} {p q:bI}:o9 f p q p=some q:=if_pos rfl
theorem bE {f:bI->Option bI} {p q x:bI} (h:x≠p):o9 f p q x=f x:=if_neg h
theorem fj.nil:fj [] (λ_=>none):=⟨bO.nil,λ_=>rfl,λkv h=>absurd h Jg⟩
theorem fj.put {kvs:List (D×D)} {f:bI->Option bI} (h:fj kvs f) (p q:bI):fj (putN kvs (cY p) (cY q)) (o9 f p q):=by
 refine⟨h.ok.put (bL p).1 (bL p).2,λx=>?_,λkv m=>?_⟩
 ·rw [iB h.ok (bL p).1 (bL x).1,va,h.get];unfold o9
  by_cases c:p=x
  ·rw [if_pos (decide_eq_true c),if_pos c.symm];rfl
  ·rw [if_neg (by simpa using c),if_neg (λz=>c z.symm)]
 ·unfold putN at m
  split at m
  ·obtain⟨kw,m',rfl⟩:=Jn.mp m;obtain⟨z,hz⟩:=h.key kw m';refine⟨z,?_⟩
   split <;> exact hz
  ·rcases Jc.mp m with m|m
   ·exact h.key kv m
   ·rw [IY] at m;subst m;exact⟨p,rfl⟩
theorem fj.any {kvs:List (D×D)} {f:bI->Option bI} (h:fj kvs f) (p:bI):(kvs.any λkv=>aT kv.1 (cY p))=(f p).isSome:=by
 rw [ky,h.get,Option.isSome_map]
theorem fj.mem {kvs:List (D×D)} {f:bI->Option bI} (h:fj kvs f) (p:bI):cY p∈kvs.map (·.1)↔(f p).isSome=true:=by
 rw [<- h.any,List.any_eq_true,Jn]
 constructor
 ·rintro⟨kv,m,e⟩;exact⟨kv,m,by rw [e];exact fy _ (bL p).1⟩
 ·rintro⟨kv,m,e⟩;obtain⟨z,hz⟩:=h.key kv m;rw [hz,va,decide_eq_true_eq] at e;exact⟨kv,m,by rw [hz,e]⟩
def nj (fs:List Z2) (ms:List Mk) (ha th:bI->Option bI) (f:bI):Prop :=
 (2 < fs.length/\∃ts,dM fs ts/\dQ fs ts/\ts.length<=fs.length/\Links fs ms ts ha th/\rE fs ts ha f) \/
 (fs.length=2/\(∀i,ms[i]?=some Mk.aX->th (.gap i)=some (.gap i)/\ha (.gap i)=some (.gap (if ms[1 - i]?=some Mk.aX then 1 - i else i)))/\f=.gap (if ms[1]?=some Mk.aX then 1 else 0))
def yZ (x:D) (Q:D->Prop):Prop:=∃fs ms,x=pq fs ms/\jr fs ms/\∀hk tk ha th f,fj hk ha->fj tk th->nj fs ms ha th f->Q (.tup [.obj (qC hk),.obj (qC tk),cY f])
structure sU (ts:List d9) (th:bI->Option bI):Prop where
 rot:∀t∈ts,th (.edge (t.1,t.2.1))=some (.edge (t.2.1,t.2.2))/\th (.edge (t.2.1,t.2.2))=some (.edge (t.2.2,t.1))/\th (.edge (t.2.2,t.1))=some (.edge (t.1,t.2.1))
 only:∀e,(th (.edge e)).isSome=true->e∈dX ts
 gaps:∀i,th (.gap i)=none
theorem sU.nil:sU [] (λ_=>none):=⟨λt h=>absurd h Jg,λe h=>(by cases h),λ_=>rfl⟩
theorem tY (ts:List d9) (t:d9):dX (ts ++ [t])=dX ts ++ te t:=by unfold dX;simp
theorem sU.snoc {ts:List d9} {th:bI->Option bI} (h:sU ts th) {t:d9} (nd:(dX (ts ++ [t])).Nodup) :
  sU (ts ++ [t]) (o9 (o9 (o9 th (.edge (t.1,t.2.1)) (.edge (t.2.1,t.2.2))) (.edge (t.2.1,t.2.2)) (.edge (t.2.2,t.1))) (.edge (t.2.2,t.1)) (.edge (t.1,t.2.1))):=by
 rw [tY,JJ] at nd;obtain⟨n1,n2,n3⟩:=nd;unfold te at n2 n3;simp only [Jx,IZ,Jg,or_false,not_or] at n2;obtain⟨⟨a12,a13⟩,a23,_⟩:=n2;have e12:(bI.edge (t.1,t.2.1))≠.edge (t.2.1,t.2.2):=λz=>a12 (by injection z);have e13:(bI.edge (t.1,t.2.1))≠.edge (t.2.2,t.1):=λz=>a13 (by injection z);have e23:(bI.edge (t.2.1,t.2.2))≠.edge (t.2.2,t.1):=λz=>a23 (by injection z)
 have old:∀e∈dX ts,o9 (o9 (o9 th (.edge (t.1,t.2.1)) (.edge (t.2.1,t.2.2))) (.edge (t.2.1,t.2.2)) (.edge (t.2.2,t.1))) (.edge (t.2.2,t.1)) (.edge (t.1,t.2.1)) (.edge e)=th (.edge e):=λe he=>by
  have q:=λx hx (z:bI.edge e=.edge x)=>n3 e he x hx (by injection z);rw [bE (q _ (by simp)),bE (q _ (by simp)),bE (q _ (by simp))]
 refine⟨λu hu=>?_,λe he=>?_,λi=>?_⟩
 ·rcases Jc.mp hu with hu|hu
  ·have m:∀x∈te u,x∈dX ts:=λx hx=>zZ hu hx;unfold te at m;have r:=h.rot u hu;exact⟨by rw [old _ (m _ (by simp))];exact r.1,by rw [old _ (m _ (by simp))];exact r.2.1,by rw [old _ (m _ (by simp))];exact r.2.2⟩
  ·rw [IY] at hu;subst hu;exact⟨by rw [bE e13,bE e12,bP],by rw [bE e23,bP],bP⟩
 ·rw [tY]
  by_cases c:e∈te t
  ·exact Jc.mpr (.inr c)
  ·refine Jc.mpr (.inl (h.only e ?_));unfold te at c;simp only [IZ,Jg,or_false,not_or] at c;have q:∀x,e≠x->bI.edge e≠.edge x:=λx hx z=>hx (by injection z);rw [bE (q _ c.2.2),bE (q _ c.2.1),bE (q _ c.1)] at he;exact he
 ·rw [bE (by simp),bE (by simp),bE (by simp)];exact h.gaps i
structure zh (fs:List Z2) (ms:List Mk) (ts:List d9) (j:Nat) (ha th:bI->Option bI):Prop where
 rot:∀t∈ts,th (.edge (t.1,t.2.1))=some (.edge (t.2.1,t.2.2))/\th (.edge (t.2.1,t.2.2))=some (.edge (t.2.2,t.1))/\th (.edge (t.2.2,t.1))=some (.edge (t.1,t.2.1))
 only:∀e,(th (.edge e)).isSome=true->e∈dX ts
 thg:∀i,i < j->ms[i]?=some Mk.aX->th (.gap i)=some (.gap i)
 hag:∀i,i < j->ms[i]?=some Mk.aX->ha (.gap i)=some (.edge (bh fs i))/\ha (.edge (bh fs i))=some (.gap i)
 hah:∀i,i < j->ms[i]?=some Mk.half->ha (.edge (bh fs i))=some (.edge (bh fs i))
 ham:∀i k,i < j->ms[i]?=some (Mk.gap k)->ha (.edge (bh fs i))=some (.edge (bh fs k))
 hai:∀e∈dX ts,(∀i,i < j->e≠bh fs i)->ha (.edge e)=some (.edge (rv e))
theorem zh.more {fs:List Z2} {ms:List Mk} {ts:List d9} {j:Nat} {ha th ha' th':bI->Option bI} (hf:bJ fs.length fs) (hj:j < fs.length) (h:zh fs ms ts j ha th)
  (h1:∀x,x≠.gap j->x≠.edge (bh fs j)->ha' x=ha x) (h2:∀x,x≠.gap j->th' x=th x)
  (h3:ms[j]?=some Mk.aX->th' (.gap j)=some (.gap j)/\ha' (.gap j)=some (.edge (bh fs j))/\ha' (.edge (bh fs j))=some (.gap j))
  (h4:ms[j]?=some Mk.half->ha' (.edge (bh fs j))=some (.edge (bh fs j))) (h5:∀k,ms[j]?=some (Mk.gap k)->ha' (.edge (bh fs j))=some (.edge (bh fs k))):zh fs ms ts (j + 1) ha' th':=by
 have ne:∀i,i < j->bI.edge (bh fs i)≠.edge (bh fs j):=λi hi z=>by
  have:=oN (i:=i) (j:=j) hf (by omega) hj (by injection z);omega
 have ng:∀i,i < j->bI.gap i≠.gap j:=λi hi z=>by injection z with z;omega
 refine⟨λt ht=>?_,λe he=>?_,λi hi hm=>?_,λi hi hm=>?_,λi hi hm=>?_,λi k hi hm=>?_,λe he hn=>?_⟩
 ·rw [h2 _ (by simp),h2 _ (by simp),h2 _ (by simp)];exact h.rot t ht
 ·rw [h2 _ (by simp)] at he;exact h.only e he
 ·rcases Jm.mp hi with z|z
  ·rw [h2 _ (ng i z)];exact h.thg i z hm
  ·subst z;exact (h3 hm).1
 ·rcases Jm.mp hi with z|z
  ·rw [h1 _ (ng i z) (by simp),h1 _ (by simp) (ne i z)];exact h.hag i z hm
  ·subst z;exact (h3 hm).2
 ·rcases Jm.mp hi with z|z
  ·rw [h1 _ (by simp) (ne i z)];exact h.hah i z hm
  ·subst z;exact h4 hm
 ·rcases Jm.mp hi with z|z
  ·rw [h1 _ (by simp) (ne i z)];exact h.ham i k z hm
  ·subst z;exact h5 k hm
 ·rw [h1 _ (by simp) (λz=>hn j (by omega) (by injection z))];exact h.hai e he λi hi=>hn i (by omega)
theorem p9 {fs:List Z2} {i:Nat} (h:i < fs.length) {Q:D->Prop} (q:Q (cY (.edge (bh fs i)))):cA (.lst ((List.range fs.length).map λi=>cY (.edge (bh fs i)))) (.int (i:Int)) Q :=
 ⟨_,fe (λi=>cY (.edge (bh fs i))) (List.range fs.length) i i (by rw [Jv h]),q⟩
section
variable {a b:D} {Q:D->Prop}
theorem vN:cA (.tup [a,b]) (.int 0) Q=Q a:=propext ⟨fun⟨v,e,q⟩=>by have:some a=some v:=e;cases this;exact q,λq=>⟨a,rfl,q⟩⟩
theorem xl:cA (.tup [a,b]) (.int 1) Q=Q b:=propext ⟨fun⟨v,e,q⟩=>by have:some b=some v:=e;cases this;exact q,λq=>⟨b,rfl,q⟩⟩
theorem Ee:cA (.lst [a,b]) (.int 0) Q=Q a:=propext ⟨fun⟨v,e,q⟩=>by have:some a=some v:=e;cases this;exact q,λq=>⟨a,rfl,q⟩⟩
theorem Ds:cA (.lst [a,b]) (.int 1) Q=Q b:=propext ⟨fun⟨v,e,q⟩=>by have:some b=some v:=e;cases this;exact q,λq=>⟨b,rfl,q⟩⟩
end
theorem u7 {z z':Str} {Q:D->Prop}:oS (.str z) (.str z') Q=Q (.bl (!(z == z'))):=by
 unfold oS fS;simp only [dep,aT,Ju,and_self,true_and]
theorem Ey {i:Int} {z:Str} {Q:D->Prop}:gX (.int i) (.str z) Q=Q (.bl false):=by
 unfold gX fS;simp [dep,aT]
def rX (fs:List Z2):List D:=(List.range fs.length).map λi=>cY (.edge (bh fs i))
def de:bG:=(aG (bH 11 (cf (af (cf (af (cC (.int 1)) (af (cC (.int 0)) aw))) (af (cf (af (cC (.int 0)) (af (cC (.int 1)) aw))) aw)))) (aG (dJ 4 (gG (aN (aH gX (aB jj (af (ag 1) aw)) (cC (.int 2)))) (aG (bH 11 (aH cA (iy (af (cC (.int 1)) (af (cC (.int 0)) aw))) (aB rd (af (aH oS (aH cA (ag 2) (cC (.int 1))) (cC (.str "third"))) aw)))) (kE (iy (af (cC (.int 0)) (af (cC (.int 1)) aw))) (aW 9) (gG (aN (aH gX (aH cA (ag 2) (ag 9)) (cC (.str "third")))) (aQ 8 (ag 9) (aH cA (iy (af (ag 9) (af (aH lA (cC (.int 1)) (ag 9)) aw))) (aB rd (af (aH gX (aH cA (ag 2) (aH lA (cC (.int 1)) (ag 9))) (cC (.str "third"))) aw)))) bM))) (gG (aN (aH (FU true) (ag 11) (ag 4))) (bH 11 (cM 8 (aH cA (ag 3) (x9 ve (cC (.int 1)))))) bM))) (dJ 8 (b9 (cf (af (ag 8) (af (ag 4) (af (ag 11) aw))))))))
def di:bG:=(aG (qg (af (ag 2) aw) (gV 2 (cw (aW 9) (cw (aW 10) gU))) (gG (aN (aH gX (ag 10) (cC (.str "third")))) (aG (aQ 4 (ag 9) (ag 9)) (aG (aQ 8 (ag 9) (aH cA (ag 3) (ag 9))) (aQ 8 (aH cA (ag 3) (ag 9)) (ag 9)))) (gG (aN (aH gX (ag 10) (cC (.str "half")))) (aQ 8 (aH cA (ag 3) (ag 9)) (aH cA (ag 3) (ag 9))) (aQ 8 (aH cA (ag 3) (ag 9)) (aH cA (ag 3) (ag 10)))))) de)
def eI:bG:=(aG (iZ 8) (aG (mU 4 (gV 2 (cw (aW 5) (cw (aW 7) gU))) (aQ 8 (cf (af (ag 5) (af (ag 7) aw))) (cf (af (ag 7) (af (ag 5) aw))))) di))
theorem vD {fs:List Z2} {ms:List Mk} {Q:D->Prop} (hf:jr fs ms) (h:∀hk tk ha th f,fj hk ha->fj tk th->nj fs ms ha th f->Q (.tup [.obj (qC hk),.obj (qC tk),cY f])) :
  ∀(ts:List d9) (tk:List (D×D)) (th:bI->Option bI) (k5 k6 k7:Option Lo),dQ fs ts->ts.length<=fs.length->fj tk th->sU ts th->tk.length<=3 * ts.length ->
  eI { nx:=λ_=>Q .non,rt:=Q } [some (.d (pq fs ms)),some (.d (.tup (fs.map e7))),some (.d (.tup (ms.map kj))),some (.d (.lst (rX fs))),some (.dic tk),k5,k6,k7,none,none,none,none]:=by
 have two:=hf.fr.two;have most:=hf.fr.most;intro ts tk th k5 k6 k7 htl hlen hd ht hl;have ok:=tV htl hf.fr
 have rest6:∀(hk:List (D×D)) (ha:bI->Option bI) (k5 k7:Option Lo),fj hk ha->(∀e∈dX ts,ha (.edge e)=some (.edge (rv e)))->(∀i,ha (.gap i)=none)->hk.length<=tk.length ->
   di { nx:=λ_=>Q .non,rt:=Q } [some (.d (pq fs ms)),some (.d (.tup (fs.map e7))),some (.d (.tup (ms.map kj))),some (.d (.lst (rX fs))),some (.dic tk),k5,k6,k7,some (.dic hk),none,none,none]:=by
  intro hk ha k5 k7 hd2 hrv hg hl2
  have rest7:∀(hk tk:List (D×D)) (ha th:bI->Option bI) (k9 k10:Option Lo),fj hk ha->fj tk th->zh fs ms ts fs.length ha th->hk.length<=1000 ->
    de { nx:=λ_=>Q .non,rt:=Q } [some (.d (pq fs ms)),some (.d (.tup (fs.map e7))),some (.d (.tup (ms.map kj))),some (.d (.lst (rX fs))),some (.dic tk),k5,k6,k7,some (.dic hk),k9,k10,none]:=by
   intro hk tk ha th k9 k10 e1 e2 hh hl;have ed:(D.tup [D.tup [D.int 1,D.int 0],D.tup [D.int 0,D.int 1]])=cY (.edge l9):=rfl
   simp_arith only [de,dJ,Lo.dic.injEq,IK]
   rw [ed]
   by_cases c:fs.length=2
   ·rw [if_pos (by omega)];obtain⟨t3,ngap⟩:=hf.mar.few c;have ml:=hf.mar.len
    have at_:∀i,i < 2->ms[i]?=some Mk.aX\/ms[i]?=some Mk.half:=λi hi=>by
     rcases qx hf.mar (i:=i) (by omega) with z|z|⟨j,_,z⟩
     ·exact .inr z
     ·exact .inl z
     ·exact absurd z (ngap i j)
    have sz2:=IX;have kg0:=bL (.gap 0);have kg1:=bL (.gap 1)
    obtain⟨m0,m1,rfl⟩:∃m0 m1,ms=[m0,m1]:=by
     match ms,(show ms.length=2 by omega) with
     | [a,b],_=>exact⟨a,b,rfl⟩
    have b0:=at_ 0 (by omega);have b1:=at_ 1 (by omega);simp only [Jf,Je,Option.some.injEq] at b0 b1;have q1:(Str.ofString "half" == Str.ofString "third")=false:=by decide
    have q2:(Str.ofString "third" == Str.ofString "third")=true:=by decide
    rcases b0 with rfl|rfl <;> rcases b1 with rfl|rfl
    ·have a1:=e1.put (.gap 0) (.gap 1);have a2:=a1.put (.gap 1) (.gap 0);have n1:=cR (kvs:=hk) (k:=cY (.gap 0)) (v:=cY (.gap 1))
     simp_arith only [turns,kj,u7,q1,q2,aQ,dJ,Lo.dic.injEq,vN,xl,Ee,Ds]
     refine⟨kg0.1,kg0.2,e1.ok,by omega,kg1.1,kg1.2,a1.ok,JQ n1 (by omega),h _ _ _ _ (.gap 1) a2 e2 (.inr ⟨c,λi hi=>⟨hh.thg i (c7 hf.mar hi) hi,?_⟩,rfl⟩)⟩
     match i,hi with
     | 0,_=>rw [bE (by simp),bP];rfl
     | 1,_=>rw [bP];rfl
    ·have a1:=e1.put (.gap 0) (.gap 0)
     simp_arith only [turns,kj,u7,q1,q2,aQ,dJ,Lo.dic.injEq,vN,xl,Ee,Ds]
     refine⟨kg0.1,kg0.2,e1.ok,by omega,h _ _ _ _ (.gap 0) a1 e2 (.inr ⟨c,λi hi=>⟨hh.thg i (c7 hf.mar hi) hi,?_⟩,rfl⟩)⟩
     match i,hi with
     | 0,_=>rw [bP];rfl
     | 1,hi=>simp at hi
    ·have a1:=e1.put (.gap 1) (.gap 1)
     simp_arith only [turns,kj,u7,q1,q2,aQ,dJ,Lo.dic.injEq,vN,xl,Ee,Ds]
     refine⟨kg1.1,kg1.2,e1.ok,by omega,h _ _ _ _ (.gap 1) a1 e2 (.inr ⟨c,λi hi=>⟨hh.thg i (c7 hf.mar hi) hi,?_⟩,rfl⟩)⟩
     match i,hi with
     | 0,hi=>simp at hi
     | 1,_=>rw [bP];rfl
    ·simp at t3
   ·rw [if_neg (by omega)];have hn:2 < fs.length:=by omega
    have lk:Links fs ms ts ha th:=⟨hh.rot,λi hi=>hh.thg i (c7 hf.mar hi) hi,λi hi=>hh.hag i (c7 hf.mar hi) hi,λi hi=>hh.hah i (c7 hf.mar hi) hi,λi k hi=>hh.ham i k (c7 hf.mar hi) hi,λe he hb=>hh.hai e he λi hi z=>hb (z▸we hi)⟩
    have in1:(th (.edge l9)).isSome=true↔l9∈dX ts:=⟨hh.only l9,λm=>by
     obtain⟨q,hq,_⟩:=ud (p:=.edge l9) lk m
     rw [hq];rfl⟩
    simp only [FU];have ke:=bL (.edge l9);refine⟨tk,rfl,ke.1,ke.2,e2.ok,_,rfl,?_⟩;rw [if_pos trivial,e2.any]
    by_cases m:l9∈dX ts
    ·rw [in1.mpr m];exact h hk tk ha th _ e1 e2 (.inl ⟨hn,ts,ok,htl,hlen,lk,.inl ⟨m,rfl⟩⟩)
    ·have nm:(th (.edge l9)).isSome=false:=by
      cases z:(th (.edge l9)).isSome with
      | false=>rfl
      | true=>exact absurd (in1.mp z) m
     rw [nm];obtain⟨f,hf1,hf2,hf3⟩:=ik (p:=.edge (bh fs (fs.length - 1))) hf hn ok lk (jF hf.fr hn ok (by omega));have kl:=bL (.edge (bh fs (fs.length - 1)))
     have al:jz (rX fs) (-1)=some (cY (.edge (bh fs (fs.length - 1)))):=by
      have lg:(rX fs).length=fs.length:=by simp [rX]
      have ix:rZ (rX fs).length (-1)=some (fs.length - 1):=by
       unfold rZ;rw [lg,if_neg (by decide),if_pos (by omega)]
       congr 1;omega
      unfold jz;rw [ix];show (rX fs)[fs.length - 1]?=_
      unfold rX;rw [IJ,Jv (by omega)];rfl
     show cM 8 _ _ _
     simp_arith only [cM,Lo.dic.injEq]
     refine⟨_,al,cY f,kl.1,kl.2,e1.ok,by rw [e1.get,hf1];rfl,?_⟩;exact h hk tk ha th f e1 e2 (.inl ⟨hn,ts,ok,htl,hlen,lk,.inr ⟨m,hf1⟩⟩)
  simp_arith only [di,qg,Lo.dic.injEq]
  refine⟨_,_,rfl,rfl,?_⟩;have ml:=hf.mar.len;have sz:=IX;refine bY (λj e=>∃(hk tk:List (D×D)) (ha th:bI->Option bI) (k9 k10:Option Lo),e=[some (.d (pq fs ms)),some (.d (.tup (fs.map e7))),some (.d (.tup (ms.map kj))),some (.d (.lst (rX fs))),some (.dic tk),k5,k6,k7,some (.dic hk),k9,k10,none]/\fj hk ha/\fj tk th/\zh fs ms ts j ha th/\hk.length<=100 + 2 * j/\tk.length<=100 + j) ?_ ?_ ⟨hk,tk,ha,th,none,none,rfl,hd2,hd,⟨ht.rot,ht.only,λi hi=>absurd hi (JA _),λi hi=>absurd hi (JA _),λi hi=>absurd hi (JA _),λi k hi=>absurd hi (JA _),λe he _=>hrv e he⟩,by omega,by omega⟩
  ·rintro j x env N hx ⟨hk,tk,ha,th,k9,k10,rfl,e1,e2,hh,l1,l2⟩ hN
   obtain⟨m,hm,rfl⟩:∃m,ms[j]?=some m/\x=.tup [.int (j:Int),kj m]:=by
    obtain⟨y,hy,rfl⟩:=tM hx;rw [IJ] at hy;obtain⟨m,hm,rfl⟩:=Js.mp hy;exact⟨m,hm,rfl⟩
   have hj:=c7 hf.mar hm;have kg:=bL (.gap j);have ke:=bL (.edge (bh fs j))
   cases m with
   | aX =>
    have a1:=e2.put (.gap j) (.gap j);have a2:=e1.put (.gap j) (.edge (bh fs j));have a3:=a2.put (.edge (bh fs j)) (.gap j);have n1:=cR (kvs:=tk) (k:=cY (.gap j)) (v:=cY (.gap j));have n2:=cR (kvs:=hk) (k:=cY (.gap j)) (v:=cY (.edge (bh fs j)));have n3:=cR (kvs:=putN hk (cY (.gap j)) (cY (.edge (bh fs j)))) (k:=cY (.edge (bh fs j))) (v:=cY (.gap j))
    simp_arith only [kj,aQ,Lo.dic.injEq,rX]
    rw [if_pos (beq_self_eq_true _)];refine⟨kg.1,kg.2,e2.ok,by omega,p9 hj ⟨kg.1,kg.2,e1.ok,by omega,p9 hj ⟨ke.1,ke.2,a2.ok,JQ n2 (by omega),hN _ ⟨_,_,_,_,_,_,rfl,a3,a1,?_,Jz n3 (by omega),Jz n1 (by omega)⟩⟩⟩⟩
    refine hh.more hf.fr hj (λx x1 x2=>by rw [bE x2,bE x1]) (λx x1=>bE x1) (λ_=>⟨bP,by rw [bE (by simp),bP],bP⟩) (λz=>by rw [hm] at z;cases z) (λk z=>by rw [hm] at z;cases z)
   | half =>
    have a1:=e1.put (.edge (bh fs j)) (.edge (bh fs j));have n1:=cR (kvs:=hk) (k:=cY (.edge (bh fs j))) (v:=cY (.edge (bh fs j)))
    simp_arith only [kj,aQ,Lo.dic.injEq,rX]
    rw [if_neg (by decide),if_pos (beq_self_eq_true _)];refine p9 hj (p9 hj ⟨ke.1,ke.2,e1.ok,by omega,hN _ ⟨_,_,_,_,_,_,rfl,a1,e2,?_,Jz n1 (by omega),by omega⟩⟩)
    exact hh.more hf.fr hj (λx x1 x2=>bE x2) (λx x1=>rfl) (λz=>by rw [hm] at z;cases z) (λ_=>bP) (λk z=>by rw [hm] at z;cases z)
   | gap k =>
    have hk':k < fs.length:=c7 hf.mar (hf.mar.pair j k hm).2;have a1:=e1.put (.edge (bh fs j)) (.edge (bh fs k));have n1:=cR (kvs:=hk) (k:=cY (.edge (bh fs j))) (v:=cY (.edge (bh fs k)))
    simp_arith only [kj,aQ,Lo.dic.injEq,rX,Ey]
    refine p9 hk' (p9 hj ⟨ke.1,ke.2,e1.ok,by omega,hN _ ⟨_,_,_,_,_,_,rfl,a1,e2,?_,Jz n1 (by omega),by omega⟩⟩);exact hh.more hf.fr hj (λx x1 x2=>bE x2) (λx x1=>rfl) (λz=>by rw [hm] at z;cases z) (λz=>by rw [hm] at z;cases z) (λk' z=>by rw [hm] at z;cases z;exact bP)
  ·rintro env ⟨hk,tk,ha,th,k9,k10,rfl,e1,e2,hh,l1,l2⟩;have el:(mC (ms.map kj)).length=fs.length:=by rw [lC,IK,ml]
   rw [el] at hh l1;exact rest7 hk tk ha th k9 k10 e1 e2 hh (by omega)
 simp_arith only [eI,iZ,mU,Lo.dic.injEq]
 intro p;have sz:=IX;refine bY (λi e=>∃(hk:List (D×D)) (ha:bI->Option bI) (k5 k7:Option Lo),e=[some (.d (pq fs ms)),some (.d (.tup (fs.map e7))),some (.d (.tup (ms.map kj))),some (.d (.lst (rX fs))),some (.d (.obj (De p))),k5,k6,k7,some (.dic hk),none,none,none]/\fj hk ha/\(∀e,cY (.edge e)∈(tk.map (·.1)).take i->ha (.edge e)=some (.edge (rv e)))/\(∀i,ha (.gap i)=none)/\hk.length<=i) ?_ ?_ ⟨[],_,k5,k7,rfl,fj.nil,λe he=>by simp at he,λ_=>rfl,by simp⟩
 ·rintro i x env N hx ⟨hk,ha,k5,k7,rfl,hd2,hr,hg,hl2⟩ hN;have hi:i < tk.length:=by have:=(Iy.mp hx).1;simpa using this
  have hm:=IG hx;obtain⟨kv,hkv,rfl⟩:=Jn.mp hm;obtain⟨q,hq⟩:=hd.key kv hkv;rw [hq] at hm hx ⊢;have hs:=(hd.mem q).mp hm
  cases q with
  | gap g=>rw [ht.gaps g] at hs;cases hs
  | edge e =>
   have k1:=bL (.edge e);have d1:=hd2.put (.edge e) (.edge (rv e));have l1:=cR (kvs:=hk) (k:=cY (.edge e)) (v:=cY (.edge (rv e)));have tke:(tk.map (·.1)).take (i + 1)=(tk.map (·.1)).take i ++ [cY (.edge e)]:=by rw [JP,hx];rfl
   simp only [cY,rv] at l1
   simp_arith only [cY,aQ,Lo.dic.injEq]
   refine⟨k1.1,k1.2,hd2.ok,by omega,hN _ ⟨_,_,_,_,rfl,d1,λd hdm=>?_,λg=>?_,by omega⟩⟩
   ·by_cases c:d=e
    ·subst c;exact bP
    ·rw [bE (λz=>c (by injection z))];rw [tke] at hdm;rcases Jc.mp hdm with z|z
     ·exact hr d z
     ·rw [IY] at z;exact absurd (by have:=wj z;injection this) c
   ·rw [bE (by simp)];exact hg g
 ·rintro env ⟨hk,ha,k5,k7,rfl,hd2,hr,hg,hl2⟩;refine⟨rfl,?_⟩;rw [IK] at hr hl2;refine rest6 hk ha k5 k7 hd2 (λe he=>hr e ?_) hg hl2;rw [JL (by simp),hd.mem];obtain⟨t,htt,het⟩:=jT he;have r:=ht.rot t htt;unfold te at het;simp only [IZ,Jg,or_false] at het;rcases het with rfl|rfl|rfl
  ·rw [r.1];rfl
  ·rw [r.2.1];rfl
  ·rw [r.2.2];rfl
theorem f7 {α:Type} [DecidableEq α]:∀(l m:List α),l.Nodup->(∀x∈l,x∈m)->l.length<=m.length
 | [],m,_,_=>Ju _
 | x :: l,m,nd,h=>by
  rw [Jx] at nd;have hx:=h x Jb;have ih:=f7 l (m.erase x) nd.2 λy hy=>(List.mem_erase_of_ne (a:=y) (b:=x) (λe=>nd.1 (by rw [<- e];exact hy))).mpr (h y (IT _ hy));rw [List.length_erase_of_mem hx] at ih;have:0 < m.length:=List.length_pos_of_mem hx;simp only [Jo];omega
structure Sys (ha th:bI->Option bI) (f:bI) (isP:bI->Prop) (all:List bI):Prop where
 f0:isP f
 h1:∀p,isP p->∃q,ha p=some q/\isP q
 t1:∀p,isP p->∃q,th p=some q/\isP q
 hh:∀p q,isP p->ha p=some q->ha q=some p
 t3:∀p,isP p->∃q r,th p=some q/\th q=some r/\th r=some p
 al:∀p,isP p->p∈all
 few:all.length<=500
 re:∀S:bI->Prop,S f->(∀p q,S p->ha p=some q->S q)->(∀p q,S p->th p=some q->S q)->∀p,isP p->S p
structure pM (a b:List Nat):Prop where
 len:b.length=a.length
 al:∀(i x:Nat),a[i]?=some x->x < a.length
 bl:∀(i x:Nat),b[i]?=some x->x < a.length
 aa:∀(i x:Nat),a[i]?=some x->a[x]?=some i
 bbb:∀(i x y:Nat),b[i]?=some x->b[x]?=some y->b[y]?=some i
def zT (fs:List Z2) (ms:List Mk) (ha th:bI->Option bI) (isP:bI->Prop):Prop :=
 (2 < fs.length/\∃ts,dM fs ts/\dQ fs ts/\Links fs ms ts ha th/\∀p,isP p↔oV ms ts p) \/
 (fs.length=2/\(∀i,ms[i]?=some Mk.aX->th (.gap i)=some (.gap i)/\ha (.gap i)=some (.gap (if ms[1 - i]?=some Mk.aX then 1 - i else i)))/\∀p,isP p↔∃i,ms[i]?=some Mk.aX/\p=.gap i)
theorem qe [DecidableEq Mk] (x:Mk):∀ms:List Mk,((List.range ms.length).filter λi=>decide (ms[i]?=some x)).length=ms.count x
 | []=>rfl
 | m :: ms=>by
  have ih:=qe x ms;rw [Jo,List.range_succ_eq_map,List.filter_cons,List.count_cons,<- ih,List.filter_map,Jf];have e:((λi=>decide ((m :: ms)[i]?=some x))∘Nat.succ)=λi=>decide (ms[i]?=some x):=by funext i;rfl
  rw [e]
  by_cases c:m=x
  ·subst c;simp
  ·have c':¬ (m == x)=true:=by simpa using c
   simp [c]
theorem iV {met:List bI} {ms:List Mk} (x:Mk) (g:Nat->bI) (P:bI->Bool) (nd:met.Nodup) (gi:∀i j,ms[i]?=some x->ms[j]?=some x->g i=g j->i=j) (hP:∀p∈met,P p=true↔∃i,ms[i]?=some x/\p=g i) (hm:∀i,ms[i]?=some x->g i∈met):(met.filter P).length=ms.count x:=by
 rw [<- qe]
 have mem:∀i,i∈((List.range ms.length).filter λi=>decide (ms[i]?=some x))↔ms[i]?=some x:=λi=>by
  rw [List.mem_filter,JB,decide_eq_true_eq];exact⟨λz=>z.2,λz=>⟨(Iy.mp z).1,z⟩⟩
 refine xu (g:=g) P nd (λi hi j hj e=>gi i j ((mem i).mp hi) ((mem j).mp hj) e) (List.nodup_range.filter _) (λp hp=>?_) (λi hi=>hm i ((mem i).mp hi));rw [hP p hp];exact⟨fun⟨i,a,b⟩=>⟨i,(mem i).mpr a,b⟩,fun⟨i,a,b⟩=>⟨i,(mem i).mp a,b⟩⟩
theorem qy:∀ts:List d9,(dX ts).length=3 * ts.length
 | []=>rfl
 | t :: ts=>by
  have:=qy ts;show (te t ++ dX ts).length=_
  rw [Jd,this];unfold te;simp;omega
theorem DT {fs:List Z2} {ms:List Mk} {ha th:bI->Option bI} {f:bI} (hf:jr fs ms) (h:nj fs ms ha th f):∃isP all,Sys ha th f isP all/\zT fs ms ha th isP /\
  ∀met:List bI,met.Nodup->(∀p,isP p↔p∈met)->(met.filter λp=>decide (ha p=some p)).length=ms.count .half/\(met.filter λp=>decide (th p=some p)).length=ms.count .aX:=by
 have most:=hf.fr.most;have ml:=hf.mar.len;rcases h with ⟨hn,ts,ok,htl,hlen,lk,fo⟩|⟨c,hl,rfl⟩
 ·refine⟨oV ms ts,(dX ts).map .edge ++ (List.range fs.length).map .gap,⟨y4 hf hn ok lk fo,λp hp=>?_,λp hp=>ud lk hp,λp q hp hq=>?_,λp hp=>?_,λp hp=>?_,?_,λS s0 s1 s2=>reach hf hn ok lk fo s0 s1 s2⟩,.inl ⟨hn,ts,ok,htl,lk,λ_=>Iff.rfl⟩,λmet nd hm=>⟨?_,?_⟩⟩
  ·obtain⟨q,a,b,_⟩:=ik hf hn ok lk hp;exact⟨q,a,b⟩
  ·obtain⟨q',a,_,c⟩:=ik hf hn ok lk hp;rw [hq] at a;cases a;exact c
  ·cases p with
   | gap i=>exact⟨_,_,lk.thg i hp,lk.thg i hp,lk.thg i hp⟩
   | edge e =>
    obtain⟨t,ht,he⟩:=jT hp;have r:=lk.rot t ht;unfold te at he;simp only [IZ,Jg,or_false] at he;rcases he with rfl|rfl|rfl
    ·exact⟨_,_,r.1,r.2.1,r.2.2⟩
    ·exact⟨_,_,r.2.1,r.2.2,r.1⟩
    ·exact⟨_,_,r.2.2,r.1,r.2.1⟩
  ·cases p with
   | edge e=>exact Jc.mpr (.inl (Jn.mpr ⟨e,hp,rfl⟩))
   | gap i=>exact Jc.mpr (.inr (Jn.mpr ⟨i,JB.mpr (c7 hf.mar hp),rfl⟩))
  ·rw [Jd,IK,IK,qy,List.length_range];omega
  ·refine iV .half (λi=>.edge (bh fs i)) _ nd (λi j hi hj e=>oN hf.fr (c7 hf.mar hi) (c7 hf.mar hj) (by injection e)) (λp hp=>?_) (λi hi=>?_)
   ·rw [decide_eq_true_eq];exact DS hf hn ok lk ((hm p).mpr hp)
   ·exact (hm _).mp (jF hf.fr hn ok (c7 hf.mar hi))
  ·refine iV .aX (λi=>.gap i) _ nd (λi j hi hj e=>by injection e) (λp hp=>?_) (λi hi=>(hm _).mp hi);rw [decide_eq_true_eq];exact CP ok lk ((hm p).mpr hp)
 ·obtain⟨t3,ngap⟩:=hf.mar.few c;have lt2:∀i x,ms[i]?=some x->i < 2:=λi x hi=>by have:=(Iy.mp hi).1;omega
  have two:∀i,i < 2->ms[i]?=some Mk.aX\/ms[i]?=some Mk.half:=λi hi=>by
   rcases qx hf.mar (i:=i) (by omega) with z|z|⟨j,_,z⟩
   ·exact .inr z
   ·exact .inl z
   ·exact absurd z (ngap i j)
  have one3:ms[1]?≠some Mk.aX->ms[0]?=some Mk.aX:=λz=>by
   obtain⟨i,hi⟩:=Jl t3;have:=lt2 i _ hi;have:i≠1:=λw=>z (w▸hi);have:i=0:=by omega
   exact this▸hi
  refine⟨λp=>∃i,ms[i]?=some Mk.aX/\p=.gap i,[.gap 0,.gap 1],⟨?_,?_,?_,?_,?_,?_,by simp,λS s0 s1 s2=>?_⟩,.inr ⟨c,hl,λ_=>Iff.rfl⟩,λmet nd hm=>⟨?_,?_⟩⟩
  ·by_cases z:ms[1]?=some Mk.aX
   ·rw [if_pos z];exact⟨1,z,rfl⟩
   ·rw [if_neg z];exact⟨0,one3 z,rfl⟩
  ·rintro p ⟨i,hi,rfl⟩;refine⟨_,(hl i hi).2,?_⟩
   by_cases z:ms[1 - i]?=some Mk.aX
   ·rw [if_pos z];exact⟨1 - i,z,rfl⟩
   ·rw [if_neg z];exact⟨i,hi,rfl⟩
  ·rintro p ⟨i,hi,rfl⟩;exact⟨_,(hl i hi).1,i,hi,rfl⟩
  ·rintro p q ⟨i,hi,rfl⟩ hq;have l2:=lt2 i _ hi;rw [(hl i hi).2] at hq
   by_cases z:ms[1 - i]?=some Mk.aX
   ·rw [if_pos z] at hq;cases hq;rw [(hl _ z).2,show 1 - (1 - i)=i by omega,if_pos hi]
   ·rw [if_neg z] at hq;cases hq;rw [(hl i hi).2,if_neg z]
  ·rintro p ⟨i,hi,rfl⟩;exact⟨_,_,(hl i hi).1,(hl i hi).1,(hl i hi).1⟩
  ·rintro p ⟨i,hi,rfl⟩;have:=lt2 i _ hi
   match i,this with
   | 0,_=>simp
   | 1,_=>simp
  ·rintro p ⟨i,hi,rfl⟩
   by_cases z:ms[1]?=some Mk.aX
   ·rw [if_pos z] at s0;have:=lt2 i _ hi
    match i,this with
    | 1,_=>exact s0
    | 0,_ =>
     have q:=(hl 1 z).2;rw [if_pos (show ms[1 - 1]?=some Mk.aX from hi)] at q;exact s1 _ _ s0 q
   ·rw [if_neg z] at s0;have:=lt2 i _ hi;have:i≠1:=λw=>z (w▸hi);have:i=0:=by omega
    subst this;exact s0
  ·refine iV .half (λi=>.gap (1 - i)) _ nd (λi j hi hj e=>by
    have:=lt2 i _ hi;have:=lt2 j _ hj;injection e with e
    omega) (λp hp=>?_) (λi hi=>?_)
   ·obtain⟨i,hi,rfl⟩:=(hm p).mpr hp;have l2:=lt2 i _ hi;rw [decide_eq_true_eq,(hl i hi).2]
    by_cases z:ms[1 - i]?=some Mk.aX
    ·rw [if_pos z];refine⟨λw=>?_,fun⟨k,hk,w⟩=>?_⟩
     ·injection w with w;injection w with w;omega
     ·injection w with w
      have:=lt2 k _ hk;have:k=1 - i:=by omega
      rw [this,z] at hk;cases hk
    ·rw [if_neg z];refine⟨λ_=>⟨1 - i,?_,by rw [show 1 - (1 - i)=i by omega]⟩,λ_=>rfl⟩;rcases two (1 - i) (by omega) with w|w
     ·exact absurd w z
     ·exact w
   ·have l2:=lt2 i _ hi;refine (hm _).mp ⟨1 - i,?_,rfl⟩;rcases two (1 - i) (by omega) with w|w
    ·exact w
    ·exfalso;obtain⟨k,hk⟩:=Jl t3;have:=lt2 k _ hk;have:k=i\/k=1 - i:=by omega
     rcases this with v|v
     ·rw [v,hi] at hk;cases hk
     ·rw [v,w] at hk;cases hk
  ·refine iV .aX (λi=>.gap i) _ nd (λi j hi hj e=>by injection e) (λp hp=>?_) (λi hi=>(hm _).mp ⟨i,hi,rfl⟩);obtain⟨i,hi,rfl⟩:=(hm p).mpr hp;rw [decide_eq_true_eq];exact⟨λ_=>⟨i,hi,rfl⟩,λ_=>(hl i hi).1⟩
end K55
namespace KR
open PySem L2 L2.L3 K55
def bN:Fw:=F2 wB
def jq:bG:=(aG (gG (aN (aH Fm (ag 1) (aB jj (af (ag 0) aw)))) (b9 (aH cA (ag 0) (ag 1))) bM) (b9 (cC (.int 0))))
theorem mQ:∀ds Q,bN ds Q->ds.length=2:=jo
theorem nK:∀ds (Q:D->Prop),bN ds Q->jq { nx:=λ_=>Q .non,rt:=Q } (aE ["_law_script","_law_k"] ds):=by
 exact tP
def qt (x y:D) (Q:D->Prop):Prop:=∃m:Int,x=.obj c8/\y=.int m/\0 < m/\m<=1000000000000/\∀d:Int,0<=d->d < m->Q (.int d)
def aD:Fw:=F2 qt
def gZ:bG:=(aG (bH 2 (aH oD (wN (ag 0)) (ag 1))) (aG (oH (ag 0) (aH Cu (wN (ag 0)) (ag 1))) (b9 (ag 2))))
theorem pB:∀ds Q,aD ds Q->ds.length=2:=jo
theorem qL:∀ds (Q:D->Prop),aD ds Q->gZ { nx:=λ_=>Q .non,rt:=Q } (aE ["_law_rest","_law_many","_law_digit_here"] ds):=by
 rintro ds Q ⟨x,y,rfl,m,rfl,rfl,h0,h1,h⟩
 simp_arith only [gZ,wN,oH]
 intro r;have f:=jD (a:=r) (b:=m) h0;have hm:m.natAbs < 2 ^ 256:=JQ (show m.natAbs<=1000000000000 by omega) (by decide);refine⟨t5 _ (by omega),λr2=>⟨Gn _ ⟨by omega,hm⟩,?_⟩⟩;exact h _ f.1 f.2
def E1 (x y:D) (Q:D->Prop):Prop:=∃n:Nat,x=.obj c8/\y=.int (n:Int)/\2<=n/\n<=22/\∀fs,bJ n fs->Q (.tup (fs.map e7))
def bW:Fw:=F2 E1
def eZ:bG:=(aG (bR 2 (kd (af (cf (af (x9 ve (cC (.int 1))) (af (cC (.int 0)) aw))) (af (cf (af (cC (.int 0)) (af (cC (.int 1)) aw))) (af (cf (af (cC (.int 1)) (af (cC (.int 0)) aw))) aw))))) (aG (fG jA (af (aH lA (ag 1) (cC (.int 2))) aw) (aW 3) (aG (bH 4 (aB aD (af (ag 0) (af (aH lA (cp 2) (cC (.int 1))) aw)))) (m3 2 (aH dg (ag 4) (cC (.int 1))) (cf (af (aH dg (aH cA (cL 2 (ag 4)) (cC (.int 0))) (aH cA (cL 2 (aH dg (ag 4) (cC (.int 1)))) (cC (.int 0)))) (af (aH dg (aH cA (cL 2 (ag 4)) (cC (.int 1))) (aH cA (cL 2 (aH dg (ag 4) (cC (.int 1)))) (cC (.int 1)))) aw)))))) (cX 2 (b9 (aB fH (af (aH dg (iy (af (cf (af (cC (.int 1)) (af (cC (.int 0)) aw))) aw)) (B8 (ag 2) (kJ (cC (.int 1))) (kJ (aH lA (aB jj (af (ag 2) aw)) (cC (.int 1)))))) aw))))))
theorem j5:∀ds Q,bW ds Q->ds.length=2:=jo
theorem lK:∀ds (Q:D->Prop),bW ds Q->eZ { nx:=λ_=>Q .non,rt:=Q } (aE ["_law_rest","_law_many","_law_row","_law_k","_law_at"] ds):=by
 rintro ds Q ⟨x,y,rfl,n,rfl,rfl,h2,h22,h⟩
 simp_arith only [eZ]
 refine⟨by omega,by omega,?_⟩;refine bY (λi e=>∃(row:List Z2) (k1 k2:Option Lo),e=[some (.d (.obj c8)),some (.d (.int n)),some (.own (row.map e7)),k1,k2]/\tR i row) ?_ ?_ ⟨[(-1,0),(0,1),(1,0)],_,_,rfl,Hu⟩
 ·rintro i x env N hx ⟨row,k1,k2,rfl,hr⟩ hN
  have hi:i < n - 2:=by
   have:=(Iy.mp hx).1;simp [aU] at this;omega
  have hxe:x=.int (i:Int):=by
   unfold aU at hx;rw [IJ,Jv (by omega)] at hx;cases hx;simp
  subst hxe;have hl:=hr.len
  simp_arith only [IK,aD,gj,qt]
  have hk:((row.length:Int) - 1)=((i + 2:Nat):Int):=by omega
  rw [hk];refine⟨by omega,by omega,λv v0 v1=>?_⟩;obtain⟨a,ea⟩:∃a:Nat,v=(a:Int):=⟨_,(JN v0).symm⟩;subst ea;have ha:a < i + 2:=by omega
  have hp:row[a]?=some row[a]:=IE (by omega);have hq:row[a + 1]?=some row[a + 1]:=IE (by omega);have e1:jz (row.map e7) (a:Int)=some (e7 row[a]):=fe _ _ _ _ hp;have e2:jz (row.map e7) ((a:Int) + 1)=some (e7 row[a + 1]):=fe _ _ (a + 1) _ hq;refine⟨_,_,rfl,e1,?_⟩;rw [vT];refine⟨_,_,rfl,e2,?_⟩;rw [vT];refine⟨_,_,rfl,e1,?_⟩;rw [wX];refine⟨_,_,rfl,e2,?_⟩;rw [wX];refine⟨by omega,by omega,by omega,hN _ ⟨row.take (a + 1) ++ (row[a].1 + row[a + 1].1,row[a].2 + row[a + 1].2) :: row.drop (a + 1),some (.d (.int i)),some (.d (.int a)),?_,CI hr ha hp hq⟩⟩
  rw [show ((a:Int) + 1).toNat=a + 1 by omega,List.map_append,Ji,List.map_take,List.map_drop];rfl
 ·rintro env ⟨row,k1,k2,rfl,hr⟩
  simp_arith only [and_true]
  have el:(aU 0 ((n:Int) - 2).toNat).length=n - 2:=by simp [aU];omega
  rw [el] at hr;have hl:=hr.len
  have ec:cutD (row.map e7) (some 1) (some (((row.map e7).length:Int) - 1))=((row.drop 1).take (n - 2 + 1)).map e7:=by
   unfold cutD;rw [IK,show ((row.length:Int) - 1)=((row.length - 1:Nat):Int) by omega,show (1:Int)=((1:Nat):Int) from rfl,HT.vY,HT.vY];rw [List.map_take,List.map_drop]
   congr 1
   ·omega
   ·congr 1;omega
  rw [ec];refine⟨by simp;omega,?_⟩;have:=h _ (by have:=yz hr (by omega);rw [show n - 2 + 2=n by omega] at this;exact this);exact this
def Fc (x y:D) (Q:D->Prop):Prop:=∃n:Nat,x=.obj c8/\y=.int (n:Int)/\2<=n/\n<=22/\∀ms,nL n ms->Q (.tup (ms.map kj))
def dF:Fw:=F2 Fc
def eV:bG:=(gG (mL (aN (aH E8 (ag 5) (cC (.int 1)))) (oF 3)) (aG (iY 6 3 (aB aD (af (ag 0) (af (cp 3) aw)))) (aG (oY 2 (ag 4) (ag 6)) (oY 2 (ag 6) (ag 4)))) bM)
def jy:bG:=(aG (cX 2 (gG (mL (aN (aH gX (ag 1) (cC (.int 2)))) (aN (aH (DN true) (cC (.str "third")) (ag 2)))) (bH 2 (iy (af (cC (.str "third")) (af (cC (.str "half")) aw)))) bM)) (b9 (aB fH (af (ag 2) aw))))
def gT:bG:=(aG (gG (aN (aH gX (ag 5) (cC (.int 1)))) (oY 2 (ag 4) (cC (.str "third"))) bM) eV)
def ic:bG:=(aG (bR 2 (fZ jA [] (af (ag 1) aw) eT (cC (.str "half")))) (aG (bR 3 (qH (af (ag 1) aw))) (aG (gL (oF 3) (aG (iY 4 3 (cC (.int 0))) (aG (bH 5 (aB aD (af (ag 0) (af (cC (.int 4)) aw)))) gT))) jy)))
theorem oW:∀ds Q,dF ds Q->ds.length=2:=jo
theorem qP:∀ds (Q:D->Prop),dF ds Q->ic { nx:=λ_=>Q .non,rt:=Q } (aE ["_law_rest","_law_many","_law_marks_here","_law_left","_law_gap","_law_way","_law_other"] ds):=by
 rintro ds Q ⟨x,y,rfl,n,rfl,rfl,h2,h22,h⟩
 simp_arith only [ic,gL]
 refine⟨by omega,by omega,?_⟩;refine iS (λ_=>.str "half") _ _ (λx hx N hN=>by simp_arith only [e8];exact hN) (by simp [aU,IX];omega) ?_
 refine⟨by omega,by omega,?_⟩
 have ints_nats:aU 0 (n:Int).toNat=aC (List.range n):=by
  unfold aU aC;rw [show (n:Int).toNat=n by omega];refine List.map_congr_left λi _=>?_;rw [Int.zero_add]
 refine⟨λe=>∃(left:List Nat) (ms:List Mk) (k5 k6 k7:Option Lo),e=[some (.d (.obj c8)),some (.d (.int n)),some (.own (ms.map kj)),some (.own (aC left)),k5,k6,k7]/\fY n left ms,
  zG 3,⟨List.range n,List.replicate n .half,none,none,none,?_,?_⟩,?_⟩
 ·rw [ints_nats]
  have e:[] ++ (aC (List.range n)).map (λ_=>D.str (Str.ofString "half"))=(List.replicate n Mk.half).map kj:=by
   unfold aC;rw [List.nil_append,List.map_map,List.map_replicate];apply List.ext_getElem?
   intro i
   by_cases hi:i < n
   ·rw [IJ,Jv hi,Jp,if_pos hi];rfl
   ·rw [Ja (by simp;omega),Ja (by simp;omega)]
  rw [e]
 ·refine⟨by simp,List.nodup_range,λi hi=>JB.mp hi,λi hi=>?_,λi j hij=>?_⟩
  ·rw [Jp,if_pos (JB.mp hi)]
  ·rw [Jp] at hij;split at hij <;> cases hij
 rintro env ⟨left,ms,k5,k6,k7,rfl,hm⟩;refine⟨aC left,rfl,by rw [aC,pZ];decide,?_⟩
 cases left with
 | nil =>
  rw [if_neg (by simp [aC])]
  simp_arith only [jy]
  have fin:∀ms:List Mk,nL n ms->Q (.tup (ms.map kj)):=h
  by_cases e2:(n:Int)=2
  ·rw [if_pos e2];have en:n=2:=by omega
   refine⟨ms.map kj,rfl,by rw [L2.L3.Be];decide,by decide,_,rfl,?_⟩;rw [if_pos rfl,xj]
   by_cases ht:Mk.aX∈ms
   ·rw [decide_eq_true ht]
    simp_arith only [and_true]
    refine fin ms ⟨hm.len,hm.pair,λ_=>⟨ht,λi j hij=>?_⟩⟩;obtain⟨h1,h2⟩:=hm.pair i j hij;have l1:=(Iy.mp hij).1;have l2:=(Iy.mp h2).1;rw [hm.len] at l1 l2;obtain⟨q,hq,eq⟩:=List.getElem_of_mem ht;rw [hm.len] at hq;have hqi:q=i\/q=j:=by omega
    rcases hqi with z|z
    ·subst z;rw [IE (by rw [hm.len];exact hq),eq] at hij;cases hij
    ·subst z;rw [IE (by rw [hm.len];exact hq),eq] at h2;cases h2
   ·rw [decide_eq_false ht]
    simp_arith only [and_true]
    refine fin [.aX,.half] ⟨by rw [en];rfl,λi j hij=>?_,λ_=>⟨by simp,λi j hij=>?_⟩⟩
    ·match i with
     | 0=>cases hij
     | 1=>cases hij
     | i + 2=>cases hij
    ·match i with
     | 0=>cases hij
     | 1=>cases hij
     | i + 2=>cases hij
  ·rw [if_neg e2]
   exact fin ms ⟨hm.len,hm.pair,λz=>absurd (by omega) e2⟩
 | cons g left =>
  rw [if_pos (by simp [aC])];have hg:=hm.lt g Jb;refine⟨_,rfl,0,.int g,rfl,rfl,by decide,?_⟩;have eE:(aC (g :: left)).eraseIdx 0=aC left:=rfl;rw [eE]
  simp_arith only [aD,gj,qt]
  intro w w0 w1
  simp_arith only [gT]
  have hml:(ms.map kj).length=n:=by rw [IK,hm.len]
  have ixg:∀(l:List D) (j:Nat),l.length=n->j < n->rZ l.length (j:Int)=some j:=λl j hl hj=>by
   unfold rZ;rw [if_pos (by omega),if_pos (by omega)];rfl
  have mset:∀(j:Nat) (m:Mk),(ms.map kj).set j (kj m)=(ms.set j m).map kj:=λj m=>by rw [List.map_set]
  have less:(aC left).length < (aC (g :: left)).length:=by simp [aC]
  by_cases c1:w=1
  ·rw [if_pos c1];subst c1;refine⟨_,g,rfl,ixg _ _ hml hg,?_⟩
   simp_arith only [eV]
   exact⟨⟨left,ms.set g .aX,_,_,_,mset g .aX,rfl,rfl,rfl,rfl,hm.aX⟩,less⟩
  ·rw [if_neg c1]
   simp_arith only [eV]
   by_cases c2:1 < w
   ·rw [if_pos c2];refine⟨by rw [aC,pZ];decide,?_⟩
    by_cases c3:(aC left).isEmpty=false
    ·rw [if_pos c3]
     have hl0:0 < left.length:=by
      cases left with
      | nil=>cases c3
      | cons _ _=>simp
     have ll:=hm.nd
     have lln:left.length<=n:=by
      have:=f7 _ (List.range n) (Jx.mp ll).2 (λy hy=>JB.mpr (hm.lt y (IT _ hy)))
      rwa [List.length_range] at this
     have hll:(aC left).length=left.length:=by simp [aC]
     rw [hll];refine⟨_,_,rfl,_,rfl,rfl,by omega,by omega,λu u0 u1=>?_⟩;obtain⟨a,ea⟩:∃a:Nat,u=(a:Int):=⟨_,(JN u0).symm⟩;subst ea;have ha:a < left.length:=by omega
     have ho:left[a]?=some left[a]:=IE ha;have hol:left[a] < n:=hm.lt _ (IT _ (JK ha));refine⟨a,.int left[a],rfl,by unfold aC;rw [IJ,ho];rfl,by omega,_,g,rfl,ixg _ _ hml hg,_,left[a],rfl,ixg _ _ (by rw [List.length_set];exact hml) hol,?_⟩;refine⟨⟨left.eraseIdx a,(ms.set g (.gap left[a])).set left[a] (.gap g),_,_,_,?_,?_,rfl,rfl,rfl,hm.two ho⟩,?_⟩
     ·rw [List.map_set,List.map_set];rfl
     ·unfold aC;rw [zp]
     ·unfold aC;simp only [zG,Jf,Je];rw [List.length_eraseIdx,IK,if_pos ha];simp;omega
    ·rw [if_neg c3];exact⟨⟨left,ms,_,_,_,rfl,rfl,rfl,rfl,rfl,hm.skip⟩,less⟩
   ·rw [if_neg c2];exact⟨⟨left,ms,_,_,_,rfl,rfl,rfl,rfl,rfl,hm.skip⟩,less⟩
def Cp (x y z:D) (Q:D->Prop):Prop:=∃m g:Int,x=.obj c8/\y=.int m/\z=.int g/\2<=m/\m<=22/\2<=g/\g<=22/\∀fs ms,jr fs ms->(fs.length:Int)<=max m g->Q (pq fs ms)
def fz:Fw:=F3 Cp
def iF:bG:=(b9 (cf (af (aB bW (af (ag 0) (af (ag 3) aw))) (af (aB dF (af (ag 0) (af (ag 3) aw))) aw))))
def lh:bG:=(aG (bH 3 (aH dg (cC (.int 2)) (aB aD (af (ag 0) (af (aH lA (ag 1) (cC (.int 1))) aw))))) (aG (gG (aN (aH gX (aB aD (af (ag 0) (af (cC (.int 8)) aw))) (cC (.int 1)))) (bH 3 (aH dg (cC (.int 2)) (aB aD (af (ag 0) (af (aH lA (ag 2) (cC (.int 1))) aw))))) bM) iF))
theorem tH:∀ds Q,fz ds Q->ds.length=3:=wd
theorem u5:∀ds (Q:D->Prop),fz ds Q->lh { nx:=λ_=>Q .non,rt:=Q } (aE ["_law_rest","_law_most","_law_great","_law_many"] ds):=by
 rintro ds Q ⟨x,y,z,rfl,m,g,rfl,rfl,rfl,m2,m22,g2,g22,h⟩
 have fin:∀n:Int,2<=n->n<=max m g->iF { nx:=λ_=>Q .non,rt:=Q } [some (.d (.obj c8)),some (.d (.int m)),some (.d (.int g)),some (.d (.int n))]:=λn h1 h2=>by
  obtain⟨k,rfl⟩:∃k:Nat,n=(k:Int):=⟨_,(JN (by omega)).symm⟩
  simp_arith only [iF,bW,dF,gj,E1,Fc]
  refine⟨k,rfl,by omega,by omega,λfs hfs=>⟨k,rfl,by omega,by omega,λms hms=>?_⟩⟩;have e:=hfs.len;exact h fs ms ⟨by rw [e];exact hfs,by rw [e];exact hms⟩ (by omega)
 simp_arith only [lh,aD,gj,qt]
 refine⟨by omega,by omega,λd d0 d1 e e0 e1=>?_⟩
 by_cases c:e=1
 ·rw [if_pos c];exact⟨by omega,by omega,λd d0 d1=>fin _ (by omega) (by omega)⟩
 ·rw [if_neg c];exact fin _ (by omega) (by omega)
def EZ (x y:D) (Q:D->Prop):Prop:=∃(ns:List Int) (k:Int),x=.lst (ns.map D.int)/\y=.int k/\0<=k/\k<=1000/\∀r:Int,Q (.int r)
def ft:Fw:=F2 EZ
theorem HN {l:List Int} (hl:l.length=8) (P:Int->Prop) (hP:∀x∈l,P x) {i:Int} (h0:0<=i) (h8:i < 8) {Q:D->Prop} (q:∀x,P x->Q (.int x)):cA (.tup (l.map D.int)) (.int i) Q:=by
 obtain⟨k,rfl⟩:∃k:Nat,i=(k:Int):=⟨_,(JN h0).symm⟩;have hk:k < l.length:=by omega
 refine⟨.int l[k],?_,q _ (hP _ (JK hk))⟩;have e1:rZ (l.map D.int).length (k:Int)=some k:=by unfold rZ;rw [IK,if_pos (by omega),if_pos (by omega)];simp
 unfold jz;rw [e1];simp [hk]
def jx:bG:=(bH 5 (aH dg (aH xI (ag 5) (cC (.int 7919))) (aH oD (aH oD (aH xI (ag 7) (aH cA (ag 2) (aH oD (ag 6) (cC (.int 8))))) (aH cA (ag 3) (aH oD (ag 6) (cC (.int 8))))) (cC (.int 7919)))))
def mF:bG:=(aG (bH 5 (cC (.int 0))) (aG (fG jA (af (cC (.int 60)) aw) (aW 6) (aG (bH 7 (aH dg (aH dg (aH oD (aB bN (af (ag 0) (af (aH dg (ag 1) (aH oD (ag 6) (cC (.int 9)))) aw))) (aH Dc (cC (.int 10)) (cC (.int 18)))) (cC (.int 1))) (aH xI (ag 6) (ag 6)))) jx)) (b9 (ag 5))))
def lV:bG:=(aG (bH 2 (cf (af (cC (.int 48271)) (af (cC (.int 69621)) (af (cC (.int 16807)) (af (cC (.int 39373)) (af (cC (.int 21401)) (af (cC (.int 60493)) (af (cC (.int 87721)) (af (cC (.int 31337)) aw)))))))))) (aG (bH 3 (cf (af (cC (.int 99991)) (af (cC (.int 99989)) (af (cC (.int 99971)) (af (cC (.int 99961)) (af (cC (.int 99929)) (af (cC (.int 99923)) (af (cC (.int 99907)) (af (cC (.int 99901)) aw)))))))))) (aG (bH 4 (aB bN (af (ag 0) (af (ag 1) aw)))) (aG (gG (aN (aH HP (ag 4) (aH Dc (cC (.int 10)) (cC (.int 18))))) (b9 (ag 4)) bM) mF))))
theorem sr:∀ds Q,ft ds Q->ds.length=2:=jo
theorem vh:∀ds (Q:D->Prop),ft ds Q->lV { nx:=λ_=>Q .non,rt:=Q } (aE ["_law_script","_law_at","_law_by","_law_prime","_law_cell","_law_big_here","_law_k","_law_one"] ds):=by
 rintro ds Q ⟨x,y,rfl,ns,k,rfl,rfl,k0,k1,h⟩
 simp_arith only [lV,bN,gj,wB]
 refine⟨ns,k,rfl,rfl,k0,DM _ _ (by decide),?_⟩
 by_cases c:1000000000000000000<=wy ns k
 ·rw [if_pos c];exact h _
 ·rw [if_neg c]
  simp_arith only [mF]
  refine bY (λ_ e=>∃(b:Int) (k6 k7:Option Lo),e=[some (.d (.lst (ns.map D.int))),some (.d (.int k)),some (.d (.tup ([48271,69621,16807,39373,21401,60493,87721,31337].map D.int))),some (.d (.tup ([99991,99989,99971,99961,99929,99923,99907,99901].map D.int))),some (.d (.int (wy ns k))),some (.d (.int b)),k6,k7]) ?_ ?_ ⟨0,none,none,rfl⟩
  ·rintro i x env N hx ⟨b,k6,k7,rfl⟩ hN
   have hi:i < 60:=by
    have:=(Iy.mp hx).1
    simpa [aU] using this
   have hxe:x=.int (i:Int):=by
    unfold aU at hx;rw [IJ,Jv (by omega)] at hx;cases hx;simp
   subst hxe;have f9:=jD (a:=(i:Int)) (b:=9) (by decide);have f8:=jD (a:=(i:Int)) (b:=8) (by decide);simp only [ag,aH,cC,aB,af,aw,aG,bH,aW,List.set_cons_zero,List.set_cons_succ,Jf,Je,Option.some.injEq,Lo.d.injEq,exists_eq_left',nQ,gF,gj,wB,bN,jx];refine⟨t5 _ (by decide),ns,_,rfl,rfl,by omega,DM _ _ (by decide),t5 _ (by decide),sP (by omega) (by omega),nJ (by decide) (by decide),t5 _ (by decide),?_⟩;refine HN rfl (λx=>-(2 ^ 64) < x/\x < 2 ^ 64) (by decide) f8.1 f8.2 λy hy=>?_
   refine⟨nJ hy.1 hy.2,t5 _ (by decide),?_⟩;refine HN rfl (λx=>x≠0) (by decide) f8.1 f8.2 λz hz=>?_;exact⟨t5 _ hz,t5 _ (by decide),hN _ ⟨_,_,_,rfl⟩⟩
  ·rintro env ⟨b,k6,k7,rfl⟩
   simp_arith only [and_true]
   exact h b
def et:Fw:=F1 λx Q=>∃fs:List Z2,x=.tup (fs.map e7)/\0 < fs.length/\fs.length<=22/\Q (.lst (rX fs))
def jI:bG:=(b9 (fL (fZ jA [0] (af (aB jj (af (ag 0) aw)) aw) eT (cf (af (aH cA (ag 1) (ag 0)) (af (aH cA (ag 1) (aH oD (aH dg (ag 0) (cC (.int 1))) (aB jj (af (ag 1) aw)))) aw))))))
theorem rS:∀ds Q,et ds Q->ds.length=1:=sV
theorem sD:∀ds (Q:D->Prop),et ds Q->jI { nx:=λ_=>Q .non,rt:=Q } (aE ["_law_fractions_here"] ds):=by
 rintro ds Q ⟨x,rfl,fs,rfl,h0,h22,h⟩
 simp_arith only [jI,IK]
 refine⟨by omega,by omega,?_⟩;refine iS (λx=>match x with|.int i=>cY (.edge (bh fs i.toNat))|_=>.non) _ _ (λx hx N hN=>?_) (by simp [aU,IX];omega) ?_
 ·obtain⟨i,hi,rfl⟩:∃i:Nat,i < fs.length/\x=.int (i:Int):=by
   unfold aU at hx;obtain⟨i,hi,rfl⟩:=Jn.mp hx;exact⟨i,by simpa using hi,by simp⟩
  simp_arith only [e8,IK]
  have hm:(i + 1) % fs.length < fs.length:=Nat.mod_lt _ (by omega)
  have e2:((i:Int) + 1).fmod (fs.length:Int)=(((i + 1) % fs.length:Nat):Int):=by
   rw [Int.fmod_eq_emod_of_nonneg _ (by omega),Int.natCast_emod,show (((i + 1:Nat)):Int)=(i:Int) + 1 by omega]
  refine yC (kM hi) ⟨by show (fs.length:Int)≠0;omega,?_⟩;rw [e2];refine yC (kM hm) ?_;rw [yd hi];exact hN
 ·have eg:[] ++ (aU 0 (fs.length:Int).toNat).map (λx=>match x with|.int i=>cY (.edge (bh fs i.toNat))|_=>.non)=rX fs:=by
   unfold rX aU;simp
  rw [eg];exact h
def dE:Fw:=F1 yZ
def de:bG:=(aG (bH 11 (cf (af (cf (af (cC (.int 1)) (af (cC (.int 0)) aw))) (af (cf (af (cC (.int 0)) (af (cC (.int 1)) aw))) aw)))) (aG (dJ 4 (gG (aN (aH gX (aB jj (af (ag 1) aw)) (cC (.int 2)))) (aG (bH 11 (aH cA (iy (af (cC (.int 1)) (af (cC (.int 0)) aw))) (aB rd (af (aH oS (aH cA (ag 2) (cC (.int 1))) (cC (.str "third"))) aw)))) (kE (iy (af (cC (.int 0)) (af (cC (.int 1)) aw))) (aW 9) (gG (aN (aH gX (aH cA (ag 2) (ag 9)) (cC (.str "third")))) (aQ 8 (ag 9) (aH cA (iy (af (ag 9) (af (aH lA (cC (.int 1)) (ag 9)) aw))) (aB rd (af (aH gX (aH cA (ag 2) (aH lA (cC (.int 1)) (ag 9))) (cC (.str "third"))) aw)))) bM))) (gG (aN (aH (FU true) (ag 11) (ag 4))) (bH 11 (cM 8 (aH cA (ag 3) (x9 ve (cC (.int 1)))))) bM))) (dJ 8 (b9 (cf (af (ag 8) (af (ag 4) (af (ag 11) aw))))))))
def di:bG:=(aG (qg (af (ag 2) aw) (gV 2 (cw (aW 9) (cw (aW 10) gU))) (gG (aN (aH gX (ag 10) (cC (.str "third")))) (aG (aQ 4 (ag 9) (ag 9)) (aG (aQ 8 (ag 9) (aH cA (ag 3) (ag 9))) (aQ 8 (aH cA (ag 3) (ag 9)) (ag 9)))) (gG (aN (aH gX (ag 10) (cC (.str "half")))) (aQ 8 (aH cA (ag 3) (ag 9)) (aH cA (ag 3) (ag 9))) (aQ 8 (aH cA (ag 3) (ag 9)) (aH cA (ag 3) (ag 10)))))) de)
def eI:bG:=(aG (iZ 8) (aG (mU 4 (gV 2 (cw (aW 5) (cw (aW 7) gU))) (aQ 8 (cf (af (ag 5) (af (ag 7) aw))) (cf (af (ag 7) (af (ag 5) aw))))) di))
def ig:bG:=(aG (mP (ag 0) (gV 2 (cw (aW 1) (cw (aW 2) gU)))) (aG (bH 3 (aB et (af (ag 1) aw))) (aG (iZ 4) (aG (kE (aB dC (af (ag 1) aw)) (gV 3 (cw (aW 5) (cw (aW 6) (cw (aW 7) gU)))) (aG (aQ 4 (cf (af (ag 5) (af (ag 6) aw))) (cf (af (ag 6) (af (ag 7) aw)))) (aG (aQ 4 (cf (af (ag 6) (af (ag 7) aw))) (cf (af (ag 7) (af (ag 5) aw)))) (aQ 4 (cf (af (ag 7) (af (ag 5) aw))) (cf (af (ag 5) (af (ag 6) aw))))))) eI))))
theorem pv:∀ds Q,dE ds Q->ds.length=1:=sV
theorem rW:∀ds (Q:D->Prop),dE ds Q->ig { nx:=λ_=>Q .non,rt:=Q } (aE ["_law_fan_here","_law_fractions_here","_law_marks_here","_law_gaps_here","_law_thirds","_law_one","_law_mid","_law_other","_law_halves","_law_i","_law_mark","_law_first"] ds):=by
 rintro ds Q ⟨x,rfl,fs,ms,rfl,hf,h⟩;have two:=hf.fr.two;have most:=hf.fr.most;have rest4:=vD hf h
 simp_arith only [ig,pq,et,dC,w8,zI,iZ]
 refine⟨fs,rfl,by omega,by omega,fs,rfl,hf.fr,λts htl hlen=>?_⟩;have ok:=tV htl hf.fr;refine bY (λi e=>∃(tk:List (D×D)) (th:bI->Option bI) (k5 k6 k7:Option Lo),e=[some (.d (pq fs ms)),some (.d (.tup (fs.map e7))),some (.d (.tup (ms.map kj))),some (.d (.lst (rX fs))),some (.dic tk),k5,k6,k7,none,none,none,none]/\fj tk th/\sU (ts.take i) th/\tk.length<=3 * i) ?_ ?_ ⟨[],_,none,none,none,rfl,fj.nil,by simpa using sU.nil,by simp⟩
 ·rintro i x env N hx ⟨tk,th,k5,k6,k7,rfl,hd,ht,hl⟩ hN;have hi:i < ts.length:=by have:=(Iy.mp hx).1;simpa using this
  obtain⟨t,hti⟩:∃t,ts[i]?=some t:=⟨ts[i],IE hi⟩;rw [IJ,hti] at hx;cases hx;have tke:ts.take (i + 1)=ts.take i ++ [t]:=by rw [JP,hti];rfl
  have nd:(dX (ts.take i ++ [t])).Nodup:=by
   rw [<- tke];have q:=ok.dif;rw [<- List.take_append_drop (i + 1) ts] at q;unfold dX at q ⊢;rw [List.flatMap_append,JJ] at q;exact q.1
  have d1:=hd.put (.edge (t.1,t.2.1)) (.edge (t.2.1,t.2.2));have d2:=d1.put (.edge (t.2.1,t.2.2)) (.edge (t.2.2,t.1));have d3:=d2.put (.edge (t.2.2,t.1)) (.edge (t.1,t.2.1));have l1:=cR (kvs:=tk) (k:=cY (.edge (t.1,t.2.1))) (v:=cY (.edge (t.2.1,t.2.2)));have l2:=cR (kvs:=putN tk (cY (.edge (t.1,t.2.1))) (cY (.edge (t.2.1,t.2.2)))) (k:=cY (.edge (t.2.1,t.2.2))) (v:=cY (.edge (t.2.2,t.1)));have l3:=cR (kvs:=putN (putN tk (cY (.edge (t.1,t.2.1))) (cY (.edge (t.2.1,t.2.2)))) (cY (.edge (t.2.1,t.2.2))) (cY (.edge (t.2.2,t.1)))) (k:=cY (.edge (t.2.2,t.1))) (v:=cY (.edge (t.1,t.2.1)))
  have sz:=IX;have k1:=bL (.edge (t.1,t.2.1));have k2:=bL (.edge (t.2.1,t.2.2));have k3:=bL (.edge (t.2.2,t.1));simp only [cY] at l1 l2 l3
  simp_arith only [GP,aQ,Lo.dic.injEq]
  refine⟨k1.1,k1.2,hd.ok,by omega,k2.1,k2.2,d1.ok,by omega,k3.1,k3.2,d2.ok,by omega,?_⟩;exact hN _ ⟨_,_,_,_,_,rfl,d3,by rw [tke];exact ht.snoc nd,by omega⟩
 ·rintro env ⟨tk,th,k5,k6,k7,rfl,hd,ht,hl⟩;rw [IK,List.take_length] at ht;rw [IK] at hl;exact rest4 ts tk th k5 k6 k7 htl hlen hd ht hl
section
variable {β:Type} [DecidableEq β]
def bK (met:List β) (q:β):List β:=if q∈met then met else met ++ [q]
def nh (ha th:β->β):Nat->Nat->List β->List β
 | 0,_,met=>met
 | n + 1,at_,met=>match met[at_]? with
  | none=>met
  | some p=>nh ha th n (at_ + 1) (bK (bK met (ha p)) (th p))
def bj (met:List β) (g:β->β):List Nat:=met.map λp=>met.idxOf (g p)
structure Code (c:β->D):Prop where
 eq:∀p q,aT (c p) (c q)=decide (p=q)
 dp:∀p,dep (c p)<=8
def Look (x:D) (g:β->β) (c:β->D) (P:β->Prop):Prop:=∀p,P p->∀Q:D->Prop,Q (c (g p))->Cc x (c p) Q
structure Sy (ha th:β->β) (f:β) (P:β->Prop) (all:List β):Prop where
 f0:P f
 cl:∀p,P p->P (ha p)/\P (th p)
 al:∀p,P p->p∈all
 few:all.length<=500
structure Me (P:β->Prop) (met:List β):Prop where
 nd:met.Nodup
 inn:∀p∈met,P p
theorem Me.add {P:β->Prop} {met:List β} (m:Me P met) {q:β} (hq:P q):Me P (bK met q):=by
 unfold bK
 by_cases c:q∈met
 ·rw [if_pos c];exact m
 ·rw [if_neg c];refine⟨JJ.mpr ⟨m.nd,by simp,λa ha b hb e=>c (by rw [IY] at hb;rw [<- hb,<- e];exact ha)⟩,λp hp=>?_⟩;rcases Jc.mp hp with z|z
  ·exact m.inn p z
  ·rw [IY] at z;rw [z];exact hq
def AB (met l:List β) (i:Nat):List β:=(l.take i).foldl bK met
theorem xv {l met:List β} {i:Nat} {q:β} (h:l[i]?=some q):AB met l (i + 1)=bK (AB met l i) q:=by
 unfold AB;rw [JP,h,List.foldl_append];rfl
theorem bD {met:List β} {q p:β} {i:Nat} (h:met[i]?=some p):(bK met q)[i]?=some p:=by
 unfold bK
 by_cases c:q∈met
 ·rw [if_pos c];exact h
 ·rw [if_neg c,IW (Iy.mp h).1];exact h
theorem eO {met:List β} {q:β}:q∈bK met q:=by
 unfold bK
 by_cases c:q∈met
 ·rw [if_pos c];exact c
 ·rw [if_neg c];simp
theorem cS {met:List β} {q p:β} (h:p∈met):p∈bK met q:=by
 unfold bK
 by_cases c:q∈met
 ·rw [if_pos c];exact h
 ·rw [if_neg c];exact Jc.mpr (.inl h)
theorem Me.len {ha th:β->β} {f:β} {P:β->Prop} {all met:List β} (s:Sy ha th f P all) (m:Me P met):met.length<=all.length:=f7 met all m.nd λp hp=>s.al p (m.inn p hp)
theorem Gd {c:β->D} (k:Code c) (met:List β) (q:β):((met.map c).any λe=>aT e (c q))=decide (q∈met):=by
 rw [Bool.eq_iff_iff,List.any_eq_true,decide_eq_true_eq]
 constructor
 ·rintro⟨e,h1,h2⟩;obtain⟨z,hz,rfl⟩:=Jn.mp h1;rw [k.eq,decide_eq_true_eq] at h2;exact h2▸hz
 ·exact λh=>⟨_,Jn.mpr ⟨q,h,rfl⟩,by rw [k.eq];simp⟩
theorem vO {c:β->D} (k:Code c):∀met:List β,b8 (met.map c)<=8
 | []=>by simp [b8]
 | a :: l=>by
  have:=vO k l;have:=k.dp a;simp only [Ji,b8];omega
theorem cV {met:List β} {q:β} (h:q∈met):met[met.idxOf q]?=some q:=by
 rw [IE (List.idxOf_lt_length_iff.mpr h),List.getElem_idxOf]
theorem v7 {met:List β} {x:D} {g:β->β} {c:β->D} {P:β->Prop} (k:Code c) (lk:Look x g c P) (m:Me P met) (cl:∀p∈met,g p∈met) (hl:met.length<=500) {Q:List D->Prop} (h:Q (aC (bj met g))) :
  comps eT (nW (ag 2) (aH Cc (ag 1) (ag 0))) [none,some (.d x),some (.d (.lst (met.map c)))] Q (met.map c) []:=by
 refine pP (λx y=>∀p,x=c p->p∈met->y=.int ((met.idxOf (g p):Nat):Int)) _ _ (λx' hx N hN=>?_) (by simp [IX];omega) (λys hy hR=>?_)
 ·obtain⟨p,hp,rfl⟩:=Jn.mp hx;have mq:=cl p hp;have dl:=vO k met;have kq:=k.dp (g p)
  have at_:∀j,(((met.map c)[j]?).map λd=>aT d (c (g p)))=(met[j]?).map λz=>decide (z=g p):=λj=>by
   rw [IJ,Option.map_map]
   congr 1
   funext z;exact k.eq z (g p)
  simp_arith only [nW]
  refine⟨by omega,lk p (m.inn p hp) _ ⟨by omega,met.idxOf (g p),?_,λj hj=>?_,hN _ λp' ep mp=>?_⟩⟩
  ·rw [at_,cV mq];simp
  ·have hkl:j < met.length:=Nat.lt_trans hj (List.idxOf_lt_length_iff.mpr mq);rw [at_,IE hkl];simp only [Option.map_some,Option.some.injEq,decide_eq_false_iff_not];intro z;have:=(List.getElem?_inj hkl m.nd).mp (show met[j]?=met[met.idxOf (g p)]? by rw [cV mq,IE hkl,z]);omega
  ·have e:=k.eq p p';rw [<- ep,k.eq] at e;have:p=p':=by simpa using e
   subst this;rfl
 ·have:[] ++ ys=aC (bj met g):=by
   rw [List.nil_append];unfold aC bj;rw [List.map_map];apply List.ext_getElem?
   intro i;rw [IK] at hy;rw [IJ]
   by_cases cc:i < met.length
   ·have h1:ys[i]?=some (ys[i]'(by omega)):=IE _;have h2:met[i]?=some met[i]:=IE cc;rw [h1,h2];have:=hR i (c met[i]) _ (by rw [IJ,h2];rfl) h1 met[i] rfl (JK cc);rw [this];rfl
   ·rw [Ja (by omega),Ja (by omega)];rfl
  rw [this];exact h
end
def lr {β:Type} [DecidableEq β] (ha th:β->β) (f:β) (n:Nat):List β:=nh ha th (n + 1) 0 [f]
def Ca (x y z:D) (Q:D->Prop):Prop:=∃(β:Type) (_:DecidableEq β) (c:β->D) (ha th:β->β) (f:β) (P:β->Prop) (all:List β),Code c/\Look x ha c P/\Look y th c P/\z=c f/\Sy ha th f P all /\
 Q (.tup [.tup (aC (bj (lr ha th f all.length) ha)),.tup (aC (bj (lr ha th f all.length) th))])
def cE:Fw:=F3 Ca
def hU:bG:=(bH 4 (aH dg (ag 4) (cC (.int 1))))
def km:bG:=(cX 3 (b9 (cf (af (aB fH (af (fL (js [0,3] (ag 3) eT (nW (ag 2) (aH Cc (ag 1) (ag 0))))) aw)) (af (aB fH (af (fL (js [1,3] (ag 3) eT (nW (ag 2) (aH Cc (ag 1) (ag 0))))) aw)) aw)))))
def jH:bG:=(aG (bR 3 (kd (af (ag 2) aw))) (aG (bH 4 (cC (.int 0))) (aG (gL (aN (aH Fm (ag 4) (cp 3))) (aG (kE (iy (af (aH Cc (ag 0) (cL 3 (ag 4))) (af (aH Cc (ag 1) (cL 3 (ag 4))) aw))) (aW 5) (gG (uR true 3 (ag 5)) (cW 3 (ag 5)) bM)) hU)) km)))
theorem rQ:∀ds Q,cE ds Q->ds.length=3:=wd
theorem su:∀ds (Q:D->Prop),cE ds Q->jH { nx:=λ_=>Q .non,rt:=Q } (aE ["_law_halves","_law_thirds","_law_first","_law_met","_law_at","_law_behind"] ds):=by
 rintro ds Q ⟨x,y,z,rfl,β,inst,c,ha,th,f,P,all,k,lx,ly,rfl,sy,h⟩;have sz:=IX;have few:=sy.few
 simp_arith only [jH,gL]
 refine⟨λe=>∃(met:List β) (at_:Nat) (k5:Option Lo),e=[some (.d x),some (.d y),some (.d (c f)),some (.own (met.map c)),some (.d (.int at_)),k5]/\Me P met/\at_<=met.length/\(∀i p,i < at_->met[i]?=some p->ha p∈met/\th p∈met)/\nh ha th (all.length + 1 - at_) at_ met=lr ha th f all.length,
  λe=>all.length - Gj 4 e,⟨[f],0,none,rfl,⟨by simp,λp hp=>by rw [IY] at hp;rw [hp];exact sy.f0⟩,Ju _,λi p hi=>absurd hi (JA _),rfl⟩,?_⟩
 rintro env ⟨met,at_,k5,rfl,m,mle,cl,hb⟩;have ml:=m.len sy
 simp_arith only [IK]
 by_cases cc:at_ < met.length
 ·rw [if_pos (by omega)];obtain⟨p,hp⟩:∃p,met[at_]?=some p:=⟨met[at_],IE cc⟩;have ip:=m.inn p (IG hp);obtain⟨i1,i2⟩:=sy.cl p ip;have ai:jz (met.map c) (at_:Int)=some (c p):=fe _ _ _ _ hp;refine⟨_,_,rfl,ai,lx p ip _ ⟨_,_,rfl,ai,ly p ip _ ?_⟩⟩;show turns _ _ _ [c (ha p),c (th p)] _
  have m1:=m.add i1;have m2:=m1.add i2
  let mm:Nat->List β:=λi=>match i with
   | 0=>met
   | 1=>bK met (ha p)
   | _=>bK (bK met (ha p)) (th p)
  have hmm:∀i,Me P (mm i):=λi=>match i with
   | 0=>m
   | 1=>m1
   | _ + 2=>m2
  refine bY (λi e=>i<=2/\∃k5,e=[some (.d x),some (.d y),some (.d (c f)),some (.own ((mm i).map c)),some (.d (.int at_)),k5]) ?_ ?_ ⟨by omega,k5,rfl⟩
  ·rintro i x' env N hx ⟨hi2,k5,rfl⟩ hN
   obtain⟨q,rfl,eq⟩:∃q,x'=c q/\mm (i + 1)=bK (mm i) q:=by
    match i,hx with
    | 0,hx=>cases hx;exact⟨_,rfl,rfl⟩
    | 1,hx=>cases hx;exact⟨_,rfl,rfl⟩
   have hi:i < 2:=by have:=(Iy.mp hx).1;simpa using this
   have ml':=(hmm i).len sy;have kq:=k.dp q;have dl:=vO k (mm i)
   simp_arith only [uR,IK]
   refine⟨by omega,by omega,?_⟩;rw [Gd k];unfold bK at eq
   by_cases c2:q∈mm i
   ·rw [if_pos c2] at eq;rw [decide_eq_true c2];refine hN _ ⟨by omega,some (.d (c q)),?_⟩;rw [eq]
   ·rw [if_neg c2] at eq;rw [decide_eq_false c2];refine⟨by omega,hN _ ⟨by omega,some (.d (c q)),?_⟩⟩;rw [eq,List.map_append];rfl
  ·rintro env ⟨_,k5,rfl⟩
   simp_arith only [hU]
   refine⟨⟨bK (bK met (ha p)) (th p),at_ + 1,k5,rfl,by omega,rfl,m2,?_,λi q hi hq=>?_,?_⟩,by simp only [Gj,Jf,Je];omega⟩
   ·have:=(Iy.mp (bD (q:=th p) (bD (q:=ha p) hp))).1;omega
   ·by_cases e:i=at_
    ·subst e;rw [bD (bD hp)] at hq;cases hq;exact⟨cS eO,eO⟩
    ·have hi':i < met.length:=by omega
     have o:met[i]?=some met[i]:=IE hi';rw [bD (bD o)] at hq;cases hq;obtain⟨a1,a2⟩:=cl i _ (by omega) o;exact⟨cS (cS a1),cS (cS a2)⟩
   ·rw [<- hb,show all.length + 1 - at_=(all.length - at_) + 1 by omega,nh,hp];rw [show all.length + 1 - (at_ + 1)=all.length - at_ by omega]
 ·rw [if_neg (by omega)];have ea:at_=met.length:=by omega
  subst ea
  have eM:lr ha th f all.length=met:=by
   rw [<- hb,show all.length + 1 - met.length=(all.length - met.length) + 1 by omega,nh,Ja (II _)]
  rw [eM] at h
  simp_arith only [km,e8]
  refine v7 k lx m (λp hp=>?_) (by omega) (v7 k ly m (λp hp=>?_) (by omega) h)
  ·obtain⟨i,hi⟩:=Jl hp;exact (cl i p (Iy.mp hi).1 hi).1
  ·obtain⟨i,hi⟩:=Jl hp;exact (cl i p (Iy.mp hi).1 hi).2
section
variable {β:Type} [DecidableEq β] {ha th:β->β} {f:β} {P:β->Prop} {all:List β}
structure Full (ha th:β->β) (f:β) (P:β->Prop) (met:List β):Prop where
 me:Me P met
 cl:∀p∈met,ha p∈met/\th p∈met
 head:met[0]?=some f
 num:∀j q,0 < j->met[j]?=some q->∃i p,i < j/\met[i]?=some p/\(ha p=q\/th p=q)
structure Part (ha th:β->β) (f:β) (P:β->Prop) (met:List β) (at_:Nat):Prop where
 me:Me P met
 le:at_<=met.length
 cl:∀i p,i < at_->met[i]?=some p->ha p∈met/\th p∈met
 head:met[0]?=some f
 num:∀j q,0 < j->met[j]?=some q->∃i p,i < j/\i<=at_/\met[i]?=some p/\(ha p=q\/th p=q)
theorem Part.add {met:List β} {at_:Nat} (m:Part ha th f P met at_) {p q:β} (hp:met[at_]?=some p) (hq:P q) (e:ha p=q\/th p=q):Part ha th f P (bK met q) at_:=by
 have hl:=(Iy.mp hp).1;refine⟨m.me.add hq,?_,λi x hi hx=>?_,bD m.head,λj x hj hx=>?_⟩
 ·have:=(Iy.mp (bD (q:=q) hp)).1;omega
 ·have o:met[i]?=some (met[i]'(by omega)):=IE _;rw [bD o] at hx;cases hx;obtain⟨a,b⟩:=m.cl i _ hi o;exact⟨cS a,cS b⟩
 ·by_cases c:j < met.length
  ·have o:met[j]?=some met[j]:=IE c;rw [bD o] at hx;cases hx;obtain⟨i,y,h1,h2,h3,h4⟩:=m.num j _ hj o;exact⟨i,y,h1,h2,bD h3,h4⟩
  ·have hx':=hx;unfold bK at hx
   by_cases cq:q∈met
   ·rw [if_pos cq,Ja (by omega)] at hx;cases hx
   ·rw [if_neg cq,IQ (by omega)] at hx
    have hj0:j - met.length=0:=by
     have:=(Iy.mp hx).1
     simpa using this
    rw [hj0] at hx;have:q=x:=by simpa using hx
    subst this;exact⟨at_,p,by omega,II _,bD hp,e⟩
theorem tT (sy:Sy ha th f P all):∀n at_ met,Part ha th f P met at_->n + at_=all.length + 1->Full ha th f P (nh ha th n at_ met)
 | 0,at_,met,m,e=>by
  have:=m.me.len sy;have:=m.le
  omega
 | n + 1,at_,met,m,e=>by
  rw [nh]
  cases hp:met[at_]? with
  | none =>
   have:=m.le
   have ea:at_=met.length:=by
    have:=List.getElem?_eq_none_iff.mp hp;omega
   refine⟨m.me,λp hp=>?_,m.head,λj q hj hq=>?_⟩
   ·obtain⟨i,hi⟩:=Jl hp;exact m.cl i p (by rw [ea];exact (Iy.mp hi).1) hi
   ·obtain⟨i,p,h1,_,h3,h4⟩:=m.num j q hj hq
    exact⟨i,p,h1,h3,h4⟩
  | some p =>
   have ip:=m.me.inn p (IG hp);obtain⟨c1,c2⟩:=sy.cl p ip;have m1:=m.add hp c1 (.inl rfl);have hp1:=bD (q:=ha p) hp;have m2:=m1.add hp1 c2 (.inr rfl);have hp2:=bD (q:=th p) hp1;refine tT sy n (at_ + 1) _ ⟨m2.me,?_,λi x hi hx=>?_,m2.head,λj q hj hq=>?_⟩ (by omega)
   ·have:=(Iy.mp hp2).1;omega
   ·by_cases e:i=at_
    ·subst e;rw [hp2] at hx;cases hx;exact⟨cS eO,eO⟩
    ·exact m2.cl i x (by omega) hx
   ·obtain⟨i,y,h1,h2,h3,h4⟩:=m2.num j q hj hq;exact⟨i,y,h1,by omega,h3,h4⟩
theorem jY (sy:Sy ha th f P all):Full ha th f P (lr ha th f all.length):=by
 refine tT sy (all.length + 1) 0 [f] ⟨⟨by simp,λp hp=>by rw [IY] at hp;rw [hp];exact sy.f0⟩,Ju _,λi p hi=>absurd hi (JA _),rfl,λj q hj hq=>?_⟩ rfl;have:=(Iy.mp hq).1;simp at this;omega
end
structure iE (a b:List Nat):Prop where
 ok:pM a b
 pos:0 < a.length
 num:∀j,0 < j->j < a.length->∃i,i < j/\(a[i]?=some j\/b[i]?=some j)
theorem gI {β:Type} [DecidableEq β] {met:List β} {g:β->β} {i:Nat} {p:β} (h:met[i]?=some p):(bj met g)[i]?=some (met.idxOf (g p)):=by
 unfold bj;rw [IJ,h];rfl
theorem eu {β:Type} [DecidableEq β] {met:List β} (nd:met.Nodup) {i:Nat} {p:β} (h:met[i]?=some p):met.idxOf p=i:=by
 have h2:=cV (IG h);exact (List.getElem?_inj (Iy.mp h2).1 nd).mp (h2.trans h.symm)
theorem Full.m8 {β:Type} [DecidableEq β] {ha th:β->β} {f:β} {P:β->Prop} {met:List β} (m:Full ha th f P met) (hh:∀p,P p->ha (ha p)=p) (t3:∀p,P p->th (th (th p))=p):iE (bj met ha) (bj met th):=by
 have l1:∀g:β->β,(bj met g).length=met.length:=λg=>by unfold bj;rw [IK]
 have inv:∀(g:β->β) (i x:Nat),(bj met g)[i]?=some x->∃p,met[i]?=some p/\x=met.idxOf (g p):=λg i x h=>by
  unfold bj at h;rw [IJ] at h;obtain⟨p,hp,e⟩:=Js.mp h;exact⟨p,hp,e.symm⟩
 have nd:=m.me.nd;refine⟨⟨by rw [l1,l1],λi x h=>?_,λi x h=>?_,λi x h=>?_,λi x y h1 h2=>?_⟩,?_,λj hj hl=>?_⟩
 ·obtain⟨p,hp,rfl⟩:=inv _ _ _ h;rw [l1];exact List.idxOf_lt_length_iff.mpr (m.cl p (IG hp)).1
 ·obtain⟨p,hp,rfl⟩:=inv _ _ _ h;rw [l1];exact List.idxOf_lt_length_iff.mpr (m.cl p (IG hp)).2
 ·obtain⟨p,hp,rfl⟩:=inv _ _ _ h;have pm:=IG hp;rw [gI (cV (m.cl p pm).1),hh p (m.me.inn p pm),eu nd hp]
 ·obtain⟨p,hp,rfl⟩:=inv _ _ _ h1;have pm:=IG hp;have q1:=(m.cl p pm).2;rw [gI (cV q1)] at h2;cases h2;rw [gI (cV (m.cl _ q1).2),t3 p (m.me.inn p pm),eu nd hp]
 ·rw [l1];exact List.length_pos_of_mem (IG m.head)
 ·rw [l1] at hl;obtain⟨i,p,h1,h2,h3⟩:=m.num j met[j] hj (IE hl);refine⟨i,h1,?_⟩;have ij:met.idxOf met[j]=j:=eu nd (IE hl);rcases h3 with e|e
  ·left;rw [gI h2,e,ij]
  ·right;rw [gI h2,e,ij]
theorem sX {kvs:List (D×D)} {g:bI->Option bI} (e:fj kvs g) {P:bI->Prop} (t:∀p,P p->∃q,g p=some q):Look (.obj (qC kvs)) (λp=>(g p).getD p) cY P:=λp hp Q q=>by
 obtain⟨r,hr⟩:=t p hp;have k:=bL p;have q:Q (cY ((g p).getD p)):=q;rw [hr] at q;exact .inl ⟨kvs,cY r,rfl,k.1,k.2,e.ok,by rw [e.get,hr];rfl,q⟩
theorem BA:Code cY:=⟨va,λp=>(bL p).2⟩
theorem v9 {l:List Nat} {i x:Nat} (h:l[i]?=some x) {Q:D->Prop}:cA (.tup (aC l)) (.int (i:Int)) Q=Q (.int (x:Int)):=by
 have hi:i < l.length:=(Iy.mp h).1
 have e:jz (aC l) (i:Int)=some (.int (x:Int)):=by
  have e1:rZ l.length (i:Int)=some i:=by unfold rZ;rw [if_pos (by omega),if_pos (by omega)];simp
  unfold jz aC;rw [IK,e1];simp [h]
 exact propext ⟨fun⟨v,ev,q⟩=>by rw [e] at ev;cases ev;exact q,λq=>⟨_,e,q⟩⟩
def dG (a:List Nat) (i:Nat):Nat:=a.getD i 0
theorem bA {a:List Nat} {i:Nat} (h:i < a.length):a[i]?=some (dG a i):=by unfold dG;rw [Jy,IE h];rfl
theorem uC {a:List Nat} {n:Nat} (h:a.length=n):Look (.tup (aC a)) (dG a) (λi:Nat=>.int (i:Int)) (λi=>i < n):=λp hp Q q=>by
 refine .inr ?_;rw [v9 (bA (by rw [h];exact hp))];exact q
theorem uf:Code (λi:Nat=>D.int (i:Int)):=⟨λp q=>by
 show aT (.int (p:Int)) (.int (q:Int))=_
 rw [Bool.eq_iff_iff,decide_eq_true_eq];simp [aT]
 omega,λp=>by simp [dep]⟩
theorem iE.sy {a b:List Nat} (t:iE a b) (hl:a.length<=500) {k:Nat} (hk:k < a.length):Sy (dG a) (dG b) k (λi=>i < a.length) (List.range a.length):=by
 have e:=t.ok.len;refine⟨hk,λp hp=>⟨t.ok.al _ _ (bA hp),t.ok.bl _ _ (bA (by omega))⟩,λp hp=>JB.mpr hp,by simpa using hl⟩
theorem iE.hh {a b:List Nat} (t:iE a b) (p:Nat) (hp:p < a.length):dG a (dG a p)=p:=by
 have h1:=bA hp;have h2:=t.ok.aa _ _ h1;rw [bA (t.ok.al _ _ h1)] at h2;exact IL h2
theorem iE.t3 {a b:List Nat} (t:iE a b) (p:Nat) (hp:p < a.length):dG b (dG b (dG b p))=p:=by
 have e:=t.ok.len;have h1:=bA (a:=b) (i:=p) (by omega);have l1:=t.ok.bl _ _ h1;have h2:=bA (a:=b) (i:=dG b p) (by omega);have l2:=t.ok.bl _ _ h2;have h3:=t.ok.bbb _ _ _ h1 h2;rw [bA (a:=b) (by omega)] at h3;exact IL h3
def wM (a b:List Nat) (k:Nat):List Nat:=bj (lr (dG a) (dG b) k a.length) (dG a)
def Cw (a b:List Nat) (k:Nat):List Nat:=bj (lr (dG a) (dG b) k a.length) (dG b)
theorem iE.anew {a b:List Nat} (t:iE a b) (hl:a.length<=500) {k:Nat} (hk:k < a.length):iE (wM a b k) (Cw a b k)/\(wM a b k).length<=a.length:=by
 have f:=jY (t.sy hl hk);rw [List.length_range] at f;refine⟨f.m8 (λp hp=>t.hh p hp) (λp hp=>t.t3 p hp),?_⟩;unfold wM bj;rw [IK];have:=f.me.len (t.sy hl hk)
 rwa [List.length_range] at this
theorem Av {a b:List Nat} (t:iE a b) (hl:a.length<=500) {k:Nat} (hk:k < a.length) {Q:D->Prop} (h:Q (.tup [.tup (aC (wM a b k)),.tup (aC (Cw a b k))])):Ca (.tup (aC a)) (.tup (aC b)) (.int (k:Int)) Q:=by
 refine⟨Nat,inferInstance,λi=>.int (i:Int),dG a,dG b,k,λi=>i < a.length,List.range a.length,uf,uC rfl,uC t.ok.len,rfl,t.sy hl hk,?_⟩;rw [List.length_range];exact h
theorem kF {β γ:Type} [DecidableEq β] [DecidableEq γ] {φ:β->γ} {P:β->Prop} (inj:∀p q,P p->P q->φ p=φ q->p=q) {met:List β} {q:β} (hm:∀p∈met,P p) (hq:P q):bK (met.map φ) (φ q)=(bK met q).map φ:=by
 unfold bK
 by_cases c:q∈met
 ·rw [if_pos c,if_pos (Jn.mpr ⟨q,c,rfl⟩)]
 ·rw [if_neg c,if_neg,List.map_append];rfl;intro z;obtain⟨p,hp,e⟩:=Jn.mp z;exact c (inj p q (hm p hp) hq e▸hp)
theorem kc {β:Type} [DecidableEq β] {P:β->Prop} {met:List β} {q:β} (hm:∀p∈met,P p) (hq:P q):∀p∈bK met q,P p:=by
 intro p hp;unfold bK at hp
 by_cases c:q∈met
 ·rw [if_pos c] at hp;exact hm p hp
 ·rw [if_neg c] at hp;rcases Jc.mp hp with z|z
  ·exact hm p z
  ·rw [IY] at z;rw [z];exact hq
theorem wq {β γ:Type} [DecidableEq β] [DecidableEq γ] {ha th:β->β} {ha' th':γ->γ} {φ:β->γ} {P:β->Prop} (cl:∀p,P p->P (ha p)/\P (th p)) (e1:∀p,P p->ha' (φ p)=φ (ha p)) (e2:∀p,P p->th' (φ p)=φ (th p))
  (inj:∀p q,P p->P q->φ p=φ q->p=q):∀n at_ met,(∀p∈met,P p)->nh ha' th' n at_ (met.map φ)=(nh ha th n at_ met).map φ
 | 0,_,_,_=>rfl
 | n + 1,at_,met,hm=>by
  rw [nh,nh,IJ]
  cases hp:met[at_]? with
  | none=>rfl
  | some p =>
   have ip:=hm p (IG hp);have i1:=kc hm (cl p ip).1;show nh ha' th' n (at_ + 1) (bK (bK (met.map φ) (ha' (φ p))) (th' (φ p)))=_
   rw [e1 p ip,e2 p ip,kF inj hm (cl p ip).1,kF inj i1 (cl p ip).2];exact wq cl e1 e2 inj n (at_ + 1) _ (kc i1 (cl p ip).2)
theorem sZ {β:Type} [DecidableEq β] {ha th:β->β}:∀n k at_ met,(nh ha th n at_ met).length < n + at_->nh ha th (n + k) at_ met=nh ha th n at_ met
 | 0,k,at_,met,h=>by
  have h':met.length < 0 + at_:=h
  cases k with
  | zero=>rfl
  | succ k =>
   show nh ha th (0 + (k + 1)) at_ met=met
   rw [Nat.zero_add,nh,Ja (by omega)]
 | n + 1,k,at_,met,h=>by
  rw [show n + 1 + k=(n + k) + 1 by omega,nh,nh];rw [nh] at h
  cases hp:met[at_]? with
  | none=>rfl
  | some p =>
   rw [hp] at h;exact sZ n k (at_ + 1) _ (by have:(nh ha th n (at_ + 1) (bK (bK met (ha p)) (th p))).length < n + 1 + at_:=h;omega)
def yi (a b:List Nat):Prop:=lr (dG a) (dG b) 0 a.length=List.range a.length
theorem zD {β:Type} [DecidableEq β] {ha th:β->β} {f:β} {P:β->Prop} {all:List β} (sy:Sy ha th f P all) (tb:iE (bj (lr ha th f all.length) ha) (bj (lr ha th f all.length) th)):yi (bj (lr ha th f all.length) ha) (bj (lr ha th f all.length) th):=by
 have F:=jY sy;have l1:=F.me.len sy;have few:=sy.few;unfold yi;generalize hm:lr ha th f all.length=met at *;have la:(bj met ha).length=met.length:=by unfold bj;rw [IK]
 have i0:met.idxOf f=0:=eu F.me.nd F.head
 have nat:∀(g:β->β) (p:β),p∈met->dG (bj met g) (met.idxOf p)=met.idxOf (g p):=λg p hp=>by
  have h1:=gI (g:=g) (cV hp);rw [bA (Iy.mp h1).1] at h1;exact IL h1
 have e:=wq (ha:=ha) (th:=th) (ha':=dG (bj met ha)) (th':=dG (bj met th)) (φ:=met.idxOf) (P:=λp=>p∈met) (λp hp=>F.cl p hp) (nat ha) (nat th) (λp q hp hq z=>by
  have h1:=cV hp;rw [z,cV hq] at h1
  exact (IL h1).symm) (all.length + 1) 0 [f] (λp hp=>by rw [IY] at hp;rw [hp];exact IG F.head)
 have hm':nh ha th (all.length + 1) 0 [f]=met:=hm;rw [hm',Ji,List.map_nil,i0] at e
 have hr:met.map (λp=>met.idxOf p)=List.range met.length:=by
  apply List.ext_getElem?
  intro i;rw [IJ]
  by_cases c:i < met.length
  ·rw [Jv c,IE c];show some (met.idxOf met[i])=_
   rw [eu F.me.nd (IE c)]
  ·rw [Ja (by omega),Ja (by simp;omega)];rfl
 have e':nh (dG (bj met ha)) (dG (bj met th)) (all.length + 1) 0 [0]=List.range met.length:=by rw [e];exact hr
 have sy':=tb.sy (by rw [la];omega) tb.pos;have F':=jY sy';have l2:=F'.me.len sy';rw [List.length_range,la] at l2
 have m:=sZ (ha:=dG (bj met ha)) (th:=dG (bj met th)) (met.length + 1) (all.length - met.length) 0 [0] (by
  have l3:(nh (dG (bj met ha)) (dG (bj met th)) (met.length + 1) 0 [0]).length<=met.length:=l2
  omega)
 rw [show met.length + 1 + (all.length - met.length)=all.length + 1 by omega,e'] at m;rw [la];exact m.symm
theorem vi {row:List Z2} {ts:List d9} (t:dQ row ts):ts.length + 2=row.length:=by
 induction t with
 | done h=>simpa using h.symm
 | cut h e _ ih =>
  have:=e.il;rw [List.length_eraseIdx_of_lt (by omega)] at ih;simp;omega
theorem Bf {fs:List Z2} {ms:List Mk} {ha th:bI->Option bI} {isP:bI->Prop} (hf:jr fs ms) (src:zT fs ms ha th isP) {met:List bI} (nd:met.Nodup) (inn:∀p∈met,isP p):met.length + 6<=4 * fs.length:=by
 rcases src with ⟨hn,ts,_,tl,_,hp⟩|⟨c,_,hp⟩
 ·have:=f7 met ((dX ts).map .edge ++ (List.range fs.length).map .gap) nd λp h=>by
   have q:=(hp p).mp (inn p h)
   cases p with
   | edge e=>exact Jc.mpr (.inl (Jn.mpr ⟨e,q,rfl⟩))
   | gap i=>exact Jc.mpr (.inr (Jn.mpr ⟨i,JB.mpr (c7 hf.mar q),rfl⟩))
  rw [Jd,IK,IK,qy,List.length_range] at this;have:=vi tl;omega
 ·have ml:=hf.mar.len
  have:=f7 met [.gap 0,.gap 1] nd λp h=>by
   obtain⟨i,hi,rfl⟩:=(hp p).mp (inn p h);have:=(Iy.mp hi).1;have:i=0\/i=1:=by omega
   rcases this with rfl|rfl <;> simp
  simp at this;omega
def Cb (x:D) (Q:D->Prop):Prop:=∃fs ms,x=pq fs ms/\jr fs ms/\∀a b:List Nat,iE a b->yi a b->a.length<=500->a.length + 6<=4 * fs.length->Q (.tup [.tup (aC a),.tup (aC b)])
def dD:Fw:=F1 Cb
def g8:bG:=(aG (mP (aB dE (af (ag 0) aw)) (gV 3 (cw (aW 1) (cw (aW 2) (cw (aW 3) gU))))) (b9 (aB cE (af (ag 1) (af (ag 2) (af (ag 3) aw))))))
theorem oX:∀ds Q,dD ds Q->ds.length=1:=sV
theorem qT:∀ds (Q:D->Prop),dD ds Q->g8 { nx:=λ_=>Q .non,rt:=Q } (aE ["_law_fan_here","_law_halves","_law_thirds","_law_first"] ds):=by
 rintro ds Q ⟨x,rfl,fs,ms,rfl,hf,h⟩
 simp_arith only [g8,dE,cE,w8,tO,yZ]
 refine⟨fs,ms,rfl,hf,λhk tk ha th f e1 e2 hr=>?_⟩;obtain⟨isP,all,sys,src,cnt⟩:=DT hf hr
 have sy:Sy (λp=>(ha p).getD p) (λp=>(th p).getD p) f isP all:=⟨sys.f0,λp hp=>by
  obtain⟨q,a1,i1⟩:=sys.h1 p hp;obtain⟨r,a2,i2⟩:=sys.t1 p hp;rw [a1,a2]
  exact⟨i1,i2⟩,sys.al,sys.few⟩
 have fm:=jY sy
 have tb:=fm.m8 (λp hp=>by
  obtain⟨q,a1,i1⟩:=sys.h1 p hp
  rw [a1,Option.getD_some,sys.hh p q hp a1,Option.getD_some]) (λp hp=>by
  obtain⟨q,r,a1,a2,a3⟩:=sys.t3 p hp
  rw [a1,Option.getD_some,a2,Option.getD_some,a3,Option.getD_some])
 refine⟨bI,inferInstance,cY,_,_,f,isP,all,BA,sX e1 (λp hp=>let ⟨q,a,_⟩:=sys.h1 p hp;⟨q,a⟩),sX e2 (λp hp=>let ⟨q,a,_⟩:=sys.t1 p hp;⟨q,a⟩),rfl,sy,h _ _ tb (zD sy tb) ?_ ?_⟩
 ·unfold bj;rw [IK];exact Jz (fm.me.len sy) sys.few
 ·unfold bj;rw [IK];exact Bf hf src fm.me.nd fm.me.inn
abbrev cN:Nat->D:=λi=>.int (i:Int)
theorem iE.high {a b:List Nat} (t:iE a b) {met:List Nat} (cl:∀p∈met,dG a p∈met/\dG b p∈met) (h0:0∈met):∀n j,j<=n->j < a.length->j∈met
 | 0,j,h,_=>by rw [show j=0 by omega];exact h0
 | n + 1,j,h,hj=>by
  by_cases c:j=0
  ·rw [c];exact h0
  ·have le:=t.ok.len;obtain⟨i,hi,e⟩:=t.num j (by omega) hj;have ih:=iE.high t cl h0 n i (by omega) (by omega);rcases e with e|e
   ·rw [bA (by omega)] at e;rw [<- IL e];exact (cl i ih).1
   ·rw [bA (by omega)] at e;rw [<- IL e];exact (cl i ih).2
abbrev bf (a b:List Nat):D:=.tup [.tup (aC a),.tup (aC b)]
theorem l5:∀a b:List Nat,cZ (aC a) (aC b)=decide (a=b)
 | [],[]=>by simp [aC,cZ]
 | [],_ :: _=>by simp [aC,cZ]
 | _ :: _,[]=>by simp [aC,cZ]
 | x :: a,y :: b=>by
  have e:cZ (aC (x :: a)) (aC (y :: b))=(aT (cN x) (cN y) && cZ (aC a) (aC b)):=by simp only [aC,Ji,cZ]
  rw [e,l5 a b,show aT (cN x) (cN y)=decide (x=y) from uf.eq x y,Bool.eq_iff_iff];simp
theorem dP:∀a:List Nat,b8 (aC a)<=8
 | []=>by simp [aC,b8]
 | x :: a=>by
  have:=dP a;simp only [aC,Ji,b8,dep] at this ⊢;omega
theorem Br {a b c d:List Nat} {Q:D->Prop}:gX (bf a b) (bf c d) Q=Q (.bl (decide (a=c/\b=d))):=by
 have d1:=dP a;have d2:=dP b;have d3:=dP c;have d4:=dP d
 have e:aT (bf a b) (bf c d)=decide (a=c/\b=d):=by
  simp only [bf,aT,cZ,l5,JR];rw [Bool.eq_iff_iff];simp
 unfold gX;rw [e];refine propext ⟨λh=>h.2,λh=>⟨?_,h⟩⟩;simp only [fS,bf,dep,b8];omega
theorem wx {n i:Nat} {x:D} (hx:(aU 0 ((n:Nat):Int).toNat)[i]?=some x):i < n/\x=.int (i:Int):=by
 simp only [aU,IJ] at hx;obtain⟨j,hj,rfl⟩:=Js.mp hx;have hl':=(Iy.mp hj).1;rw [List.length_range] at hl';rw [Jv hl'] at hj;cases hj;exact⟨by omega,by rw [Int.zero_add]⟩
end KR
namespace K55
open PySem L2 L2.L3
open Classical in
theorem getD_at {l:List Nat} {i:Nat} (h:i < l.length):l[i]?=some (l.getD i 0):=by
 rw [Jy,IE h];rfl
def lp (a b:List Nat) (p c:Nat):Nat:=if c=115 then a.getD p 0 else if c=114 then b.getD p 0 else b.getD (b.getD p 0) 0
def lw (a b:List Nat) (cs:List Nat) (p:Nat):Nat:=cs.foldl (lp a b) p
theorem C3 (a b u v:List Nat) (p:Nat):lw a b (u ++ v) p=lw a b v (lw a b u p):=List.foldl_append
theorem qp (a b u:List Nat) (c p:Nat):lw a b (u ++ [c]) p=lp a b (lw a b u p) c:=C3 a b u [c] p
section
variable {a b:List Nat} (t:pM a b)
include t
theorem EX {p:Nat} (h:p < a.length):a.getD p 0 < a.length:=t.al _ _ (getD_at h)
theorem uc {p:Nat} (h:p < a.length):b.getD p 0 < a.length:=t.bl _ _ (getD_at (l:=b) (by rw [t.len];exact h))
theorem Cd {p:Nat} (h:p < a.length) (c:Nat):lp a b p c < a.length:=by
 unfold lp;split
 ·exact EX t h
 ·split
  ·exact uc t h
  ·exact uc t (uc t h)
theorem B6 {p:Nat} (h:p < a.length) (cs:List Nat):lw a b cs p < a.length:=by
 refine snoc_ind (P:=λcs=>lw a b cs p < a.length) h (λr c ih=>?_) cs;rw [qp];exact Cd t ih c
end
end K55
namespace KR
open PySem L2 L2.L3 K55
structure AE (a b c d:List Nat) (φ:Nat->Nat):Prop where
 z:φ 0=0
 lt:∀i,i < a.length->φ i < c.length
 h:∀i,i < a.length->φ (dG a i)=dG c (φ i)
 t:∀i,i < a.length->φ (dG b i)=dG d (φ i)
structure St (a b c d:List Nat) (p:Nat) (G:Nat->Option Nat):Prop where
 z:G 0=some 0
 lt:∀i j,G i=some j->i < a.length/\j < c.length
 snd:∀φ,AE a b c d φ->∀i j,G i=some j->φ i=j
 dn:∀i,i < p->∃j,G i=some j/\G (dG a i)=some (dG c j)/\G (dG b i)=some (dG d j)
def Bx (G:Nat->Option Nat) (k v:Nat):Nat->Option Nat:=λi=>if i=k then some v else G i
structure Ec (kvs:List (D×D)) (G:Nat->Option Nat):Prop where
 ok:bO kvs
 get:∀i:Nat,dA kvs (.int (i:Int))=(G i).map λ(j:Nat)=>.int (j:Int)
theorem Ec.put {kvs:List (D×D)} {G:Nat->Option Nat} (m:Ec kvs G) (k v:Nat):Ec (putN kvs (.int (k:Int)) (.int (v:Int))) (Bx G k v):=by
 refine⟨m.ok.put (by simp [aI]) (by simp [dep]),λi=>?_⟩;rw [iB m.ok (by simp [aI]) (by simp [aI]),m.get];unfold Bx
 by_cases c:i=k
 ·subst c;rw [if_pos (by simp [aT]),if_pos rfl];rfl
 ·rw [if_neg (by simp [aT];omega),if_neg c]
theorem BQ:Ec [(.int 0,.int 0)] (λi=>if i=0 then some 0 else none):=by
 refine⟨⟨λkv h=>?_,λi j x y hi hj e=>?_⟩,λi=>?_⟩
 ·rw [IY.mp h];simp [aI,dep]
 ·have h1:=(Iy.mp hi).1;have h2:=(Iy.mp hj).1;simp at h1 h2;omega
 ·unfold dA
  by_cases c:i=0
  ·subst c;simp [aT]
  ·rw [if_neg c];have:¬ ((0:Int)=(i:Int)):=by omega
   simp [aT,this]
theorem St.up {a b c d:List Nat} {p:Nat} {G:Nat->Option Nat} (s:St a b c d p G) {k v:Nat} (hk:G k=none) (h1:k < a.length) (h2:v < c.length) (h3:∀φ,AE a b c d φ->φ k=v):St a b c d p (Bx G k v):=by
 have ex:∀i j,G i=some j->Bx G k v i=some j:=λi j h=>by
  unfold Bx;rw [if_neg λe=>by rw [e,hk] at h;cases h];exact h
 refine⟨ex _ _ s.z,λi j h=>?_,λφ hφ i j h=>?_,λi hi=>?_⟩
 ·unfold Bx at h
  by_cases e:i=k
  ·rw [if_pos e] at h;cases h;exact⟨e▸h1,h2⟩
  ·rw [if_neg e] at h;exact s.lt i j h
 ·unfold Bx at h
  by_cases e:i=k
  ·rw [if_pos e] at h;cases h;rw [e];exact h3 φ hφ
  ·rw [if_neg e] at h;exact s.snd φ hφ i j h
 ·obtain⟨j,q1,q2,q3⟩:=s.dn i hi;exact⟨j,ex _ _ q1,ex _ _ q2,ex _ _ q3⟩
theorem Bh {a b c d:List Nat} (ha:0 < a.length) (hc:0 < c.length):St a b c d 0 (λi=>if i=0 then some 0 else none):=by
 refine⟨rfl,λi j h=>?_,λφ hφ i j h=>?_,λi hi=>absurd hi (JA _)⟩
 ·by_cases e:i=0
  ·simp only [e,if_true] at h;cases h;exact⟨e▸ha,hc⟩
  ·simp only [e,if_false] at h;cases h
 ·by_cases e:i=0
  ·simp only [e,if_true] at h;cases h;rw [e];exact hφ.z
  ·simp only [e,if_false] at h;cases h
theorem St.all {a b c d:List Nat} {G:Nat->Option Nat} (s:St a b c d a.length G):∃φ,AE a b c d φ:=by
 refine⟨λi=>(G i).getD 0,by simp [s.z],λi hi=>?_,λi hi=>?_,λi hi=>?_⟩
 ·obtain⟨j,q,_,_⟩:=s.dn i hi;simp only [q,Option.getD_some];exact (s.lt i j q).2
 ·obtain⟨j,q,q2,_⟩:=s.dn i hi;simp only [q,q2,Option.getD_some]
 ·obtain⟨j,q,_,q3⟩:=s.dn i hi;simp only [q,q3,Option.getD_some]
theorem St.here {a b c d:List Nat} {p:Nat} {G:Nat->Option Nat} (s:St a b c d p G) (t:iE a b) (hp:p < a.length):∃g,G p=some g:=by
 by_cases c0:p=0
 ·exact⟨0,c0▸s.z⟩
 ·have le:=t.ok.len;obtain⟨i,hi,e⟩:=t.num p (by omega) hp;obtain⟨j,_,q2,q3⟩:=s.dn i hi;rcases e with e|e
  ·rw [bA (by omega)] at e;rw [IL e] at q2;exact⟨_,q2⟩
  ·rw [bA (by omega)] at e;rw [IL e] at q3;exact⟨_,q3⟩
open Classical in
noncomputable def FP (x y:D) (Q:D->Prop):Prop:=∃a b c d:List Nat,x=bf a b/\y=bf c d/\iE a b/\iE c d/\a.length<=500/\c.length<=500/\Q (.bl (decide (∃φ,AE a b c d φ)))
noncomputable def cT:Fw:=F2 FP
def dH:bG:=(aG (bH 6 (aH cA (ag 5) (cM 2 (ag 3)))) (yA (yL 2 (aH cA (ag 4) (ag 3)) (ag 6)) (FA (ag 6)) (b9 (cC (.bl false))) bM))
def gO:bG:=(Ab (af (ag 0) (af (ag 1) aw)) (gV 2 (cw (aW 4) (cw (aW 5) gU))) dH)
def iD:bG:=(aG (jQ 2 (cC (.int 0)) (cC (.int 0))) (aG (fG jA (af (aB jj (af (aH cA (ag 0) (cC (.int 0))) aw)) aw) (aW 3) gO) (b9 (cC (.bl true)))))
theorem pA:∀ds Q,cT ds Q->ds.length=2:=jo
theorem rm:∀ds (Q:D->Prop),cT ds Q->iD { nx:=λ_=>Q .non,rt:=Q } (aE ["one","other","images","place","leads","others","image"] ds):=by
 rintro ds Q ⟨x,y,rfl,a,b,c,d,rfl,rfl,ta,tc,la,lc,h⟩;have sz:=IX;have lb:=ta.ok.len;have ld:=tc.ok.len;have na:(aC a).length=a.length:=by simp [aC]
 simp_arith only [iD,jQ,vN,iH,na]
 refine⟨by omega,by omega,?_⟩;refine bY (λi e=>∃kvs G k3 k4 k5 k6,Ec kvs G/\kvs.length<=1 + 2 * i/\St a b c d i G/\e=[some (.d (bf a b)),some (.d (bf c d)),some (.dic kvs),k3,k4,k5,k6]) ?_ ?_ ⟨_,_,_,_,_,_,BQ,by simp,Bh ta.pos tc.pos,rfl⟩
 ·rintro i x env N hx ⟨kvs,G,k3,k4,k5,k6,m,hlen,s,rfl⟩ hN;obtain⟨hi,rfl⟩:=wx hx;obtain⟨g,hg⟩:=s.here ta hi;have hgl:=(s.lt i g hg).2
  have body:∀(Z:Ends3) (l o:List Nat) (kvs:List (D×D)) (G:Nat->Option Nat) (k6:Option Lo),Z.rt=Q->l.length=a.length->o.length=c.length->Ec kvs G->kvs.length<=2000->St a b c d i G->G i=some g->dG l i < a.length->dG o g < c.length ->
    (∀φ,AE a b c d φ->φ (dG l i)=dG o g) ->
    (∀kvs' G' k6',Ec kvs' G'->kvs'.length<=kvs.length + 1->St a b c d i G'->(∀i j,G i=some j->G' i=some j)->G' (dG l i)=some (dG o g)->Z.nx [some (.d (bf a b)),some (.d (bf c d)),some (.dic kvs'),some (.d (.int (i:Int))),some (.d (.tup (aC l))),some (.d (.tup (aC o))),k6']) ->
    dH Z [some (.d (bf a b)),some (.d (bf c d)),some (.dic kvs),some (.d (.int (i:Int))),some (.d (.tup (aC l))),some (.d (.tup (aC o))),k6]:=by
   intro Z l o kvs G k6 hZ hl ho m hlen s hg h1 h2 hφ nx
   simp_arith only [dH,cM,yA,yL,FA]
   have get:=m.get i;rw [hg] at get;refine⟨kvs,rfl,.int (g:Int),by simp [aI],by simp [dep],m.ok,get,?_⟩;rw [v9 (bA (show g < o.length by omega))];refine⟨kvs,rfl,?_⟩;rw [v9 (bA (show i < l.length by omega))];have get2:=m.get (dG l i);refine⟨by simp [aI],by simp [dep],m.ok,by omega,λy hy=>?_,λhy=>?_⟩
   ·cases hG:G (dG l i) with
    | none=>rw [hG] at get2;rw [get2] at hy;cases hy
    | some v =>
     rw [hG] at get2;rw [get2] at hy;cases hy;rw [oA];refine⟨_,rfl,?_⟩
     by_cases e:v=dG o g
     ·rw [if_neg (by simp [e])];exact nx kvs G _ m (by omega) s (λ_ _ z=>z) (e▸hG)
     ·rw [if_pos (by simp;omega),hZ];have none:¬ ∃φ,AE a b c d φ:=fun⟨φ,q⟩=>e ((s.snd φ q _ _ hG).symm.trans (hφ φ q));have e0:∀inst:Decidable (∃φ,AE a b c d φ),@decide _ inst=false:=λ_=>decide_eq_false none;rw [e0] at h;exact h
   ·cases hG:G (dG l i) with
    | some v=>rw [hG] at get2;rw [get2] at hy;cases hy
    | none =>
     rw [oA];refine⟨_,rfl,?_⟩;rw [if_neg (by simp)];refine nx _ _ _ (m.put _ _) (cR) (s.up hG h1 h2 hφ) (λx y z=>?_) (by unfold Bx;rw [if_pos rfl]);unfold Bx;rw [if_neg λe=>by rw [e,hG] at z;cases z];exact z
  simp_arith only [Ab,qB,gO]
  refine⟨_,_,rfl,rfl,by simp,?_⟩
  simp_arith only [List.zipWith_cons_cons,List.zipWith_nil_left,turns]
  refine body _ a c kvs G k6 rfl rfl rfl m (by omega) s hg (ta.ok.al _ _ (bA hi)) (tc.ok.al _ _ (bA hgl)) (λφ q=>by rw [q.h i hi,s.snd φ q i g hg]) λkvs1 G1 k61 m1 l1 s1 x1 e1=>?_
  simp_arith only [turns]
  refine body _ b d kvs1 G1 k61 rfl lb ld m1 (by omega) s1 (x1 _ _ hg) (ta.ok.bl _ _ (bA (by omega))) (tc.ok.bl _ _ (bA (by omega))) (λφ q=>by rw [q.t i hi,s.snd φ q i g hg]) λkvs2 G2 k62 m2 l2 s2 x2 e2=>?_;refine hN _ ⟨kvs2,G2,_,_,_,_,m2,by omega,⟨s2.z,s2.lt,s2.snd,λj hj=>?_⟩,rfl⟩
  by_cases e:j=i
  ·subst e;exact⟨g,x2 _ _ (x1 _ _ hg),x2 _ _ e1,e2⟩
  ·exact s2.dn j (by omega)
 ·rintro env ⟨kvs,G,k3,k4,k5,k6,m,hlen,s,rfl⟩
  simp_arith only [and_true]
  have e1:(aU 0 ((a.length:Nat):Int).toNat).length=a.length:=by simp [aU]
  rw [e1] at s;have e0:∀inst:Decidable (∃φ,AE a b c d φ),@decide _ inst=true:=λ_=>decide_eq_true s.all;rw [e0] at h;exact h
def Ce (x:D) (Q:D->Prop):Prop:=x=.obj c8/\∀a b:List Nat,iE a b->a.length<=500->Q (bf a b)
def cB:Fw:=F1 Ce
def iC:bG:=(aG (bH 1 (aB dD (af (aB fz (af (ag 0) (af (cC (.int 4)) (af (cC (.int 8)) aw)))) aw))) (b9 (aB cE (af (aH cA (ag 1) (cC (.int 0))) (af (aH cA (ag 1) (cC (.int 1))) (af (aB aD (af (ag 0) (af (aB jj (af (aH cA (ag 1) (cC (.int 0))) aw)) aw))) aw))))))
theorem o8:∀ds Q,cB ds Q->ds.length=1:=sV
theorem rC:∀ds (Q:D->Prop),cB ds Q->iC { nx:=λ_=>Q .non,rt:=Q } (aE ["_law_rest","_law_table_here"] ds):=by
 rintro ds Q ⟨x,rfl,rfl,h⟩
 simp_arith only [iC,fz,dD,w8,tO,Cp,Cb]
 refine⟨4,8,rfl,rfl,by omega,by omega,by omega,by omega,λfs ms hf _=>⟨fs,ms,rfl,hf,λa b t sm la _=>?_⟩⟩;have na:(aC a).length=a.length:=by simp [aC]
 simp_arith only [vN,xl,iH,aD,cE,gj,tO,na]
 refine⟨_,rfl,rfl,by have:=t.pos;omega,by omega,λd d0 dm=>?_⟩;obtain⟨k,rfl⟩:∃k:Nat,d=(k:Int):=⟨d.toNat,by omega⟩;have hk:k < a.length:=by omega
 refine Av t la hk ?_;exact h _ _ (t.anew la hk).1 (Jz (t.anew la hk).2 la)
structure PP where
 fst:Nat
 snd:Nat
 deriving DecidableEq
def cP (p:PP):D:=.tup [.int (p.fst:Int),.int (p.snd:Int)]
theorem BE:Code cP:=⟨λp q=>by
 rw [Bool.eq_iff_iff,decide_eq_true_eq];obtain⟨a,b⟩:=p;obtain⟨c,d⟩:=q;simp [cP,aT,cZ]
 omega,λp=>by simp [cP,dep,b8]⟩
def fP (a c:List Nat) (p:PP):PP:=⟨dG a p.fst,dG c p.snd⟩
section
variable {a b c d:List Nat}
def BM (a c:List Nat) (p:PP):Prop:=p.fst < a.length/\p.snd < c.length
end
theorem jJ {a b:List Nat} (t:pM a b) {x:Nat} (h:x < a.length):a[x]?=some (a.getD x 0)/\b[x]?=some (b.getD x 0):=⟨getD_at h,getD_at (l:=b) (by rw [t.len];exact h)⟩
def Iv (t p l:D) (Q:D->Prop):Prop:=∃(a b:List Nat) (x c:Nat),t=bf a b/\p=.int (x:Int)/\l=.str (jg c)/\pM a b/\x < a.length/\isLet c/\Q (.int ((lp a b x c:Nat):Int))
def cu:Fw:=F3 Iv
def fC:bG:=(aG (mP (ag 0) (gV 2 (cw (aW 3) (cw (aW 4) gU)))) (aG (gG (aN (aH gX (ag 2) (cC (.str "s")))) (b9 (aH cA (ag 3) (ag 1))) bM) (aG (bH 5 (aH cA (ag 4) (ag 1))) (aG (gG (mL (aN (aH gX (ag 2) (cC (.str "q")))) (aN (aH (iO true) (ag 5) (cC .non)))) (b9 (aH cA (ag 4) (ag 5))) bM) (b9 (ag 5))))))
theorem lI:∀ds Q,cu ds Q->ds.length=3:=wd
theorem mJ:∀ds (Q:D->Prop),cu ds Q->fC { nx:=λ_=>Q .non,rt:=Q } (aE ["table","place","letter","halves","thirds","behind"] ds):=by
 rintro ds Q ⟨t,p,l,rfl,a,b,x,c,rfl,rfl,rfl,tab,hx,hc,h⟩;have hb:=uc tab hx
 simp_arith only [fC,iO,qG]
 rw [v9 (jJ tab hx).1,v9 (jJ tab hx).2];rcases hc with z|z|z <;> subst z
 ·rw [if_pos (by rfl)];exact h
 ·rw [if_neg (by decide),if_neg (by decide)];exact h
 ·rw [if_neg (by decide),if_pos (by rfl),v9 (jJ tab hb).2];exact h
def HQ (t w p:D) (Q:D->Prop):Prop:=∃(a b:List Nat) (z:Str) (x:Nat),t=bf a b/\w=.str z/\p=.int (x:Int)/\pM a b/\x < a.length/\LW z/\z.length<=100000/\Q (.int ((lw a b z.cps.toList x:Nat):Int))
def cz:Fw:=λds Q=>∃t w p,ds=[t,p,w]/\HQ t w p Q
theorem jU {t w p:D} {Q:D->Prop}:cz [t,p,w] Q=HQ t w p Q:=by
 unfold cz;exact propext ⟨fun⟨_,_,_,e,h⟩=>by cases e;exact h,λh=>⟨_,_,_,rfl,h⟩⟩
def lT:bG:=(aG (kE (ag 2) (aW 3) (gG (aN (aH gX (ag 3) (cC (.str "s")))) (bH 1 (aH cA (aH cA (ag 0) (cC (.int 0))) (ag 1))) (gG (aN (aH gX (ag 3) (cC (.str "r")))) (bH 1 (aH cA (aH cA (ag 0) (cC (.int 1))) (ag 1))) (bH 1 (aH cA (aH cA (ag 0) (cC (.int 1))) (aH cA (aH cA (ag 0) (cC (.int 1))) (ag 1))))))) (b9 (ag 1)))
theorem sQ:∀ds Q,cz ds Q->ds.length=3:=by rintro ds Q ⟨t,w,p,rfl,_⟩;rfl
theorem u3:∀ds (Q:D->Prop),cz ds Q->lT { nx:=λ_=>Q .non,rt:=Q } (aE ["_law_table_here","_law_place","_law_word_here","_law_letter"] ds):=by
 rintro ds Q ⟨t,w,p,rfl,a,b,z,x,rfl,rfl,rfl,tab,hx,hz,hl,h⟩
 simp_arith only [lT,dB]
 refine bY (λi e=>∃k,e=[some (.d (bf a b)),some (.d (.int ((lw a b (z.cps.toList.take i) x:Nat):Int))),some (.d (.str z)),k]) ?_ ?_ ⟨_,rfl⟩
 ·rintro i x' env N hx' ⟨k,rfl⟩ hN;unfold eD at hx';rw [IJ] at hx'
  cases hc:z.cps.toList[i]? with
  | none=>rw [hc] at hx';cases hx'
  | some c =>
   rw [hc] at hx';cases hx';have hcl:=hz c (IG hc);have hi:=B6 tab hx (z.cps.toList.take i);have hb:=uc tab hi
   have fin:N [some (.d (bf a b)),some (.d (.int ((lp a b (lw a b (z.cps.toList.take i) x) c:Nat):Int))),some (.d (.str z)),some (.d (.str ⟨#[c]⟩))]:=by
    refine hN _ ⟨some (.d (.str ⟨#[c]⟩)),?_⟩;rw [JP,hc];simp only [Option.toList];rw [qp]
   simp_arith only [bf,vN,xl]
   rcases hcl with w|w|w <;> subst w
   ·rw [if_pos (by rfl),v9 (jJ tab hi).1];exact fin
   ·rw [if_neg (by decide),if_pos (by rfl),v9 (jJ tab hi).2];exact fin
   ·rw [if_neg (by decide),if_neg (by decide),v9 (jJ tab hi).2,v9 (jJ tab hb).2];exact fin
 ·rintro env ⟨k,rfl⟩
  simp_arith only [and_true]
  rw [JL (by simp [eD])];exact h
end KR
namespace L2.L3
open PySem
end L2.L3
namespace KR
open PySem L2 L2.L3 K55
section
variable {β:Type} [DecidableEq β] {ha th:β->β} {f:β} {P:β->Prop}
def aO (ha th:β->β) (f:β):Nat->List β
 | 0=>[f]
 | n + 1=>match (aO ha th f n)[n]? with
  | some p=>bK (bK (aO ha th f n) (ha p)) (th p)
  | none=>aO ha th f n
theorem pO {n:Nat} {p:β} (h:(aO ha th f n)[n]?=some p):aO ha th f (n + 1)=bK (bK (aO ha th f n) (ha p)) (th p):=by
 rw [aO,h]
structure Done (ha th:β->β) (f:β) (n:Nat):Prop where
 le:∀i,i<=n->(aO ha th f i).length<=60
 lt:∀i,i < n->i < (aO ha th f i).length
 fin:(aO ha th f n).length<=n
structure Over (ha th:β->β) (f:β) (n:Nat):Prop where
 le:∀i,i<=n->(aO ha th f i).length<=60
 lt:∀i,i<=n->i < (aO ha th f i).length
 gt:60 < (aO ha th f (n + 1)).length
theorem Done.uniq {n m:Nat} (a:Done ha th f n) (b:Done ha th f m):n=m:=by
 rcases Nat.lt_trichotomy n m with h|h|h
 ·have:=b.lt n h;have:=a.fin;omega
 ·exact h
 ·have:=a.lt m h;have:=b.fin;omega
theorem Done.over {n m:Nat} (a:Done ha th f n) (b:Over ha th f m):False:=by
 rcases JG m n with h|h
 ·have:=a.le (m + 1) (by omega);have:=b.gt;omega
 ·have:=b.lt n h;have:=a.fin;omega
theorem Part.step {met:List β} {at_:Nat} (m:Part ha th f P met at_) {p:β} (hp:met[at_]?=some p) (c:P (ha p)/\P (th p)):Part ha th f P (bK (bK met (ha p)) (th p)) (at_ + 1):=by
 have m1:=m.add hp c.1 (.inl rfl);have hp1:=bD (q:=ha p) hp;have m2:=m1.add hp1 c.2 (.inr rfl);have hp2:=bD (q:=th p) hp1;refine⟨m2.me,?_,λi x hi hx=>?_,m2.head,λj q hj hq=>?_⟩
 ·have:=(Iy.mp hp2).1;omega
 ·by_cases e:i=at_
  ·subst e;rw [hp2] at hx;cases hx;exact⟨cS eO,eO⟩
  ·exact m2.cl i x (by omega) hx
 ·obtain⟨i,y,h1,h2,h3,h4⟩:=m2.num j q hj hq;exact⟨i,y,h1,by omega,h3,h4⟩
theorem lW (hf:P f) (cl:∀p,P p->P (ha p)/\P (th p)):∀n,(∀i,i < n->i < (aO ha th f i).length)->Part ha th f P (aO ha th f n) n
 | 0,_=>⟨⟨by simp [aO],λq hq=>by simp [aO] at hq;rw [hq];exact hf⟩,by simp [aO],λi q hi=>absurd hi (JA _),rfl,λj q hj hq=>by
  have:=(Iy.mp hq).1;simp [aO] at this
  omega⟩
 | n + 1,h=>by
  have m:=lW hf cl n λi hi=>h i (by omega);have hl:=h n (by omega);have hp:(aO ha th f n)[n]?=some ((aO ha th f n)[n]):=IE hl;rw [pO hp];exact m.step hp (cl _ (m.me.inn _ (IG hp)))
theorem Part.full {met:List β} (m:Part ha th f P met met.length):Full ha th f P met:=⟨m.me,λq hq=>by
 obtain⟨i,hi⟩:=Jl hq
 exact m.cl i q (Iy.mp hi).1 hi,m.head,λj q hj hq=>by
 obtain⟨i,y,h1,_,h3,h4⟩:=m.num j q hj hq
 exact⟨i,y,h1,h3,h4⟩⟩
def gW (met:List β) (g:β->β) (n:Nat):List Nat:=(met.take n).map λp=>met.idxOf (g p)
theorem zj {met:List β} {p q:β} (h:p∈met):(bK met q).idxOf p=met.idxOf p:=by
 unfold bK
 by_cases c:q∈met
 ·rw [if_pos c]
 ·rw [if_neg c,List.idxOf_append,if_pos h]
theorem tU {met:List β} {q:β} {g:β->β} {n:Nat} (hn:n<=met.length) (h:∀i p,i < n->met[i]?=some p->g p∈met):gW (bK met q) g n=gW met g n:=by
 unfold gW
 have e:(bK met q).take n=met.take n:=by
  unfold bK
  split
  ·rfl
  ·rw [List.take_append_of_le_length hn]
 rw [e];refine List.map_congr_left λp hp=>?_;obtain⟨i,hi⟩:=Jl hp;have hin:i < n:=by have:=(Iy.mp hi).1;simp at this;omega
 rw [List.getElem?_take_of_lt hin] at hi;exact zj (h i p hin hi)
theorem xX {met:List β} {g:β->β} {n:Nat} {p:β} (h:met[n]?=some p):gW met g (n + 1)=gW met g n ++ [met.idxOf (g p)]:=by
 unfold gW;rw [JP,h];simp
theorem xb {met:List β} {at_:Nat} (m:Part ha th f P met at_) {p:β} (hp:met[at_]?=some p):∀g:β->β,(g=ha\/g=th)->gW (bK (bK met (ha p)) (th p)) g (at_ + 1)=gW met g at_ ++ [(bK (bK met (ha p)) (th p)).idxOf (g p)]:=λg hg=>by
 have hp1:=bD (q:=ha p) hp;have hp2:=bD (q:=th p) hp1
 have hm:∀i q,i < at_->met[i]?=some q->g q∈met:=λi q hi hq=>by
  obtain⟨a,b⟩:=m.cl i q hi hq;rcases hg with rfl|rfl
  ·exact a
  ·exact b
 have le:=(Iy.mp hp).1;rw [xX hp2,tU (by have:=(Iy.mp hp1).1;omega) (λi x hi hx=>?_),tU (by omega) hm];have o:met[i]?=some (met[i]'(by omega)):=IE _;rw [bD o] at hx;cases hx;exact cS (hm i _ hi o)
structure AD (cd:β->D) (kvs:List (D×D)) (l:List β):Prop where
 ok:bO kvs
 le:kvs.length<=l.length
 get:∀q:β,dA kvs (cd q)=if q∈l then some (cN (l.idxOf q)) else none
theorem AD.one {cd:β->D} (code:Code cd) (key:∀p,aI (cd p)=true) (f:β):AD cd [(cd f,.int 0)] [f]:=by
 have e:[(cd f,D.int 0)]=putN [] (cd f) (.int 0):=by simp [putN]
 refine⟨?_,by simp,λq=>?_⟩
 ·rw [e];exact bO.nil.put (key f) (code.dp f)
 ·rw [e,iB bO.nil (key f) (key q),code.eq]
  by_cases c:f=q
  ·subst c;simp [cN]
  ·rw [decide_eq_false c,if_neg (by simp),if_neg (by simp;exact λz=>c z.symm)];simp [dA]
theorem AD.put {cd:β->D} {kvs:List (D×D)} {l:List β} (code:Code cd) (key:∀p,aI (cd p)=true) (n:AD cd kvs l) {q:β} (h:q∉l):AD cd (putN kvs (cd q) (cN l.length)) (l ++ [q]):=by
 refine⟨n.ok.put (key q) (code.dp q),?_,λr=>?_⟩
 ·have:(putN kvs (cd q) (cN l.length)).length<=kvs.length + 1:=by
   unfold putN
   split <;> simp
  have:=n.le;simp;omega
 ·rw [iB n.ok (key q) (key r),n.get,code.eq]
  by_cases c:q=r
  ·subst c;rw [decide_eq_true rfl,if_pos rfl,if_pos (by simp),List.idxOf_append,if_neg h];simp
  ·rw [decide_eq_false c,if_neg (by simp)]
   by_cases m:r∈l
   ·rw [if_pos m,if_pos (by simp [m]),List.idxOf_append,if_pos m]
   ·rw [if_neg m,if_neg (by simp [m];exact λe=>c e.symm)]
theorem AD.any {cd:β->D} {kvs:List (D×D)} {l:List β} (n:AD cd kvs l) (q:β):(kvs.any λkv=>aT kv.1 (cd q))=decide (q∈l):=by
 rw [ky,n.get]
 by_cases c:q∈l
 ·rw [if_pos c,decide_eq_true c];rfl
 ·rw [if_neg c,decide_eq_false c];rfl
end
def dS (φ:Fw) (Pf:IB->Hp->Addr->Prop):x8:=λds Q R=>∃(β:Type) (_:DecidableEq β) (cd:β->D) (ha th:β->β) (f:β) (P:β->Prop),ds=[cd f,.obj Pf]/\Code cd/\(∀p,aI (cd p)=true)/\P f/\(∀p,P p->P (ha p)/\P (th p)) /\
 (∀p,P p->∀Q':D->Prop,Q' (.tup [cd (ha p),cd (th p)])->φ [cd p] Q')/\(∀n,Over ha th f n->R "TooMany")/\∀n,Done ha th f n->Q (bf (bj (aO ha th f n) ha) (bj (aO ha th f n) th))
theorem nV {φ:Fw} {Pf:IB->Hp->Addr->Prop}:∀ds (Q:D->Prop) (R:Str->Prop),dS φ Pf ds Q R->ds.length=2:=by
 rintro ds Q R ⟨_,_,_,_,_,_,_,rfl,_⟩;rfl
def gH (φ:Fw) (Pf:IB->Hp->Addr->Prop):ui:=(kN (uE (bR 2 (kd (af (ag 0) aw)))) (kN (uE (nU 3 (ag 0) (cC (.int 0)))) (kN (uE (bR 4 (kd aw))) (kN (uE (bR 5 (kd aw))) (kN (vR (aN (aH Fm (cp 4) (cp 2))) (kN (uE (mP (vM 1 Pf φ (af (cL 2 (cp 4)) aw)) (gV 2 (cw (aW 6) (cw (aW 7) gU))))) (kN (uE (kE (cf (af (ag 6) (af (ag 7) aw))) (aW 8) (gG (jN true 3 (ag 8)) (aG (aQ 3 (ag 8) (cp 2)) (cW 2 (ag 8))) bM))) (kN (EH (aN (aH E8 (cp 2) (cC (.int 60)))) (jE "TooMany" (af (cC (.str "there are more than sixty places")) aw)) (uE bM)) (kN (uE (cW 4 (cM 3 (ag 6)))) (uE (cW 5 (cM 3 (ag 7))))))))) (uE (cX 4 (cX 5 (b9 (cf (af (aB fH (af (ag 4) aw)) (af (aB fH (af (ag 5) aw)) aw))))))))))))
theorem oU {φ:Fw} {Pf:IB->Hp->Addr->Prop}:∀ds (Q:D->Prop) (R:Str->Prop),dS φ Pf ds Q R->gH φ Pf { nx:=λ_=>Q .non,rt:=Q,xc:=R } (aE ["first","behind","met","numbers","halves","thirds","half","third","thing"] ds):=by
 rintro ds Q R ⟨β,dec,cd,ha,th,f,P,rfl,code,key,pf,cl,run,hov,hdn⟩;have sz:=IX
 simp_arith! only [gH,vR,nU]
 have pl:∀n,(∀i,i < n->i < (aO ha th f i).length)->Part ha th f P (aO ha th f n) n:=lW pf cl
 have rl:∀n g,(∀i,i < n->i < (aO ha th f i).length)->(aC (gW (aO ha th f n) g n)).length=n:=λn g h=>by
  have:=(pl n h).le;unfold aC gW;simp;omega
 refine⟨key f,code.dp f,λe=>∃n kvs k6 k7 k8,(∀i,i<=n->(aO ha th f i).length<=60)/\(∀i,i < n->i < (aO ha th f i).length)/\AD cd kvs (aO ha th f n)/\e=[some (.d (cd f)),some (.d (.obj Pf)),some (.own ((aO ha th f n).map cd)),some (.dic kvs),some (.own (aC (gW (aO ha th f n) ha n))),some (.own (aC (gW (aO ha th f n) th n))),k6,k7,k8],
  λe=>61 - zG 4 e,⟨0,_,none,none,none,λi hi=>by rw [Nat.le_zero.mp hi];simp [aO],λi hi=>absurd hi (JA _),AD.one code key f,rfl⟩,?_⟩
 rintro env ⟨n,kvs,k6,k7,k8,hle,hlt,nm,rfl⟩;have m:=pl n hlt;have ln:=hle n (II _);refine⟨_,rfl,_,rfl,?_⟩;simp only [rl n _ hlt,IK]
 by_cases cc:n < (aO ha th f n).length
 ·rw [if_pos (by omega)];obtain⟨p,hp⟩:∃p,(aO ha th f n)[n]?=some p:=⟨_,IE cc⟩;have ip:=m.me.inn p (IG hp);have c:=cl p ip;have ai:jz ((aO ha th f n).map cd) (n:Int)=some (cd p):=fe _ _ _ _ hp;have ms:=pO hp;have m2:=m.step hp c
  simp_arith! only [vM,rl n _ hlt]
  refine⟨_,_,rfl,ai,run p ip _ ⟨_,rfl,rfl,?_⟩⟩
  simp_arith! only [wK]
  refine bY (λi e=>i<=2/\∃kvs k8,e=[some (.d (cd f)),some (.d (.obj Pf)),some (.own ((AB (aO ha th f n) [ha p,th p] i).map cd)),some (.dic kvs),some (.own (aC (gW (aO ha th f n) ha n))),some (.own (aC (gW (aO ha th f n) th n))),some (.d (cd (ha p))),some (.d (cd (th p))),k8]/\AD cd kvs (AB (aO ha th f n) [ha p,th p] i)/\(AB (aO ha th f n) [ha p,th p] i).length<=60 + i) ?_ ?_ ⟨by omega,kvs,k8,rfl,nm,ln⟩
  ·rintro i x' env N hx ⟨hi2,kvs,k8,rfl,nm,ml⟩ hN;obtain⟨q,hq,rfl⟩:∃q,[ha p,th p][i]?=some q/\cd q=x':=Js.mp ((IJ (f:=cd) (l:=[ha p,th p]) (i:=i)).symm.trans hx);have eq:AB (aO ha th f n) [ha p,th p] (i + 1)=bK (AB (aO ha th f n) [ha p,th p] i) q:=xv hq;have hi:i < 2:=by have:=(Iy.mp hx).1;simpa using this
   have kl:=nm.le
   simp_arith! only [jN,aQ,Lo.dic.injEq]
   refine⟨key q,code.dp q,nm.ok,?_⟩;rw [nm.any];unfold bK at eq
   by_cases c2:q∈AB (aO ha th f n) [ha p,th p] i
   ·rw [if_pos c2] at eq;rw [decide_eq_true c2];refine hN _ ⟨by omega,kvs,some (.d (cd q)),?_,by rw [eq];exact nm,by rw [eq];omega⟩;rw [eq]
   ·rw [if_neg c2] at eq;rw [decide_eq_false c2];refine⟨key q,code.dp q,nm.ok,by omega,?_⟩;refine⟨by simp;omega,hN _ ⟨by omega,_,some (.d (cd q)),?_,by rw [eq];exact nm.put code key c2,by rw [eq];simp;omega⟩⟩;rw [eq,List.map_append];simp only [IK];rfl
  ·rintro env ⟨_,kvs,k8,rfl,nm,_⟩;have e2:AB (aO ha th f n) [ha p,th p] [cd (ha p),cd (th p)].length=aO ha th f (n + 1):=by rw [ms];rfl
   rw [e2] at nm ⊢;have hp2:=bD (q:=th p) (bD (q:=ha p) hp);rw [<- ms] at hp2;have lt2:=(Iy.mp hp2).1
   simp_arith! only [IK,cM,Lo.dic.injEq]
   by_cases c6:(aO ha th f (n + 1)).length<=60
   ·rw [if_neg (by omega)];have ih:ha p∈aO ha th f (n + 1):=by rw [ms];exact cS eO
    have it:th p∈aO ha th f (n + 1):=by rw [ms];exact eO
    refine⟨by rw [rl n _ hlt];omega,_,key _,code.dp _,nm.ok,by rw [nm.get,if_pos ih],by rw [rl n _ hlt];omega,_,key _,code.dp _,nm.ok,by rw [nm.get,if_pos it],?_⟩
    have lt':∀i,i < n + 1->i < (aO ha th f i).length:=λi hi=>by
     rcases Jm.mp hi with z|z
     ·exact hlt i z
     ·rw [z];exact cc
    have er:∀g,(g=ha\/g=th)->aC (gW (aO ha th f n) g n) ++ [cN (List.idxOf (g p) (aO ha th f (n + 1)))]=aC (gW (aO ha th f (n + 1)) g (n + 1)):=λg hg=>by
     rw [ms,xb m hp g hg];unfold aC;rw [List.map_append];rfl
    refine⟨⟨n + 1,kvs,_,_,_,λi hi=>?_,lt',nm,rfl,rfl,er ha (.inl rfl),er th (.inr rfl),rfl,rfl,rfl⟩,?_⟩
    ·rcases JG i (n + 1) with z|z
     ·exact hle i (by omega)
     ·rw [show i=n + 1 by omega];exact c6
    ·simp only [zG,Jf,Je,Jd,List.length_singleton,rl n _ hlt];omega
   ·rw [if_pos (by omega)]
    exact hov n ⟨hle,λi hi=>by
     rcases JG i n with z|z
     ·exact hlt i z
     ·rw [show i=n by omega];exact cc,by omega⟩
 ·rw [if_neg (by omega)];have ea:n=(aO ha th f n).length:=by have:=m.le;omega
  have rn:∀g,gW (aO ha th f n) g n=bj (aO ha th f n) g:=λg=>by
   unfold gW bj;rw [JL (by omega)]
  simp_arith! only [rn,fE]
  exact hdn n ⟨hle,hlt,by omega⟩
def strN (cs:List Nat):D:=.str ⟨cs.toArray⟩
structure DI (kvs:List (D×D)) (ks:List Nat) (W:Nat->List Nat):Prop where
 ok:bO kvs
 get:∀i:Nat,dA kvs (.int (i:Int))=if i∈ks then some (strN (W i)) else none
 len:kvs.length=ks.length
 nd:ks.Nodup
structure Fn (a b:List Nat) (ks:List Nat) (W:Nat->List Nat):Prop where
 z:0∈ks
 lt:∀i∈ks,i < a.length
 w:∀i∈ks,(∀c∈W i,isLet c)/\lw a b (W i) 0=i/\(W i).length < ks.length
theorem DI.put {kvs:List (D×D)} {ks:List Nat} {W:Nat->List Nat} (m:DI kvs ks W) {k:Nat} (hk:k∉ks) (v:List Nat):DI (putN kvs (.int (k:Int)) (strN v)) (ks ++ [k]) (λi=>if i=k then v else W i):=by
 have g0:dA kvs (.int (k:Int))=none:=by rw [m.get,if_neg hk]
 refine⟨m.ok.put (by simp [aI]) (by simp [dep]),λi=>?_,?_,?_⟩
 ·rw [iB m.ok (by simp [aI]) (by simp [aI]),m.get]
  by_cases c:i=k
  ·subst c;rw [if_pos (by simp [aT]),if_pos (by simp),if_pos rfl]
  ·rw [if_neg (by simp [aT];omega),if_neg c]
   by_cases c2:i∈ks
   ·rw [if_pos c2,if_pos (by simp [c2])]
   ·rw [if_neg c2,if_neg (by simp [c,c2])]
 ·have:(kvs.any λkv=>aT kv.1 (.int (k:Int)))=false:=by rw [ky,g0];rfl
  unfold putN;rw [this];simp [m.len]
 ·exact JJ.mpr ⟨m.nd,by simp,λx hx y hy e=>hk (by rw [IY] at hy;rw [<- hy,<- e];exact hx)⟩
theorem Bc:DI [(.int 0,strN [])] [0] (λ_=>[]):=by
 refine⟨⟨λkv h=>?_,λi j x y hi hj e=>?_⟩,λi=>?_,rfl,by simp⟩
 ·rw [IY.mp h];simp [aI,dep]
 ·have h1:=(Iy.mp hi).1;have h2:=(Iy.mp hj).1;simp at h1 h2;omega
 ·unfold dA
  by_cases c:i=0
  ·subst c;simp [aT]
  ·have:¬ ((0:Int)=(i:Int)):=by omega
   simp [aT,this,c]
theorem Fn.put {a b ks:List Nat} {W:Nat->List Nat} (s:Fn a b ks W) (t:pM a b) {h c:Nat} (hh:h∈ks) (hc:isLet c) (hn:lp a b h c∉ks):Fn a b (ks ++ [lp a b h c]) (λi=>if i=lp a b h c then W h ++ [c] else W i):=by
 obtain⟨w1,w2,w3⟩:=s.w h hh;refine⟨JD _ s.z,λi hi=>?_,λi hi=>?_⟩
 ·rcases Jc.mp hi with hi|hi
  ·exact s.lt i hi
  ·rw [IY.mp hi];exact Cd t (s.lt h hh) c
 ·by_cases e:i=lp a b h c
  ·simp only [if_pos e];refine⟨λx hx=>?_,?_,by simp;omega⟩
   ·rcases Jc.mp hx with hx|hx
    ·exact w1 x hx
    ·rw [IY.mp hx];exact hc
   ·rw [qp,w2,e]
  ·have hi':i∈ks:=by
    rcases Jc.mp hi with hi|hi
    ·exact hi
    ·exact absurd (IY.mp hi) e
   simp only [if_neg e];obtain⟨x1,x2,x3⟩:=s.w i hi';exact⟨x1,x2,by simp;omega⟩
def HA (t p:D) (Q:D->Prop):Prop:=∃(a b:List Nat) (k:Nat),t=bf a b/\p=.int (k:Int)/\iE a b/\a.length<=500/\k < a.length/\∀v:List Nat,(∀c∈v,isLet c)->lw a b v 0=k->v.length<=500->Q (strN v)
def fu:Fw:=F2 HA
def mz:bG:=(b9 (cM 2 (ag 1)))
def jw:bG:=(kE (cC (.str "qrs")) (aW 5) (aG (bH 6 (aB cu (af (ag 0) (af (ag 4) (af (ag 5) aw))))) (gG (jN true 2 (ag 6)) (aG (aQ 2 (ag 6) (aH dg (cM 2 (ag 4)) (ag 5))) (cW 3 (ag 6))) bM)))
def kS:bG:=(aG (jQ 2 (cC (.int 0)) (cC (.str ""))) (aG (bR 3 (kd (af (cC (.int 0)) aw))) (aG (gL (jN true 2 (ag 1)) (aG (iY 4 3 (cC (.int 0))) jw)) mz)))
theorem tQ:∀ds Q,fu ds Q->ds.length=2:=jo
theorem vP:∀ds (Q:D->Prop),fu ds Q->kS { nx:=λ_=>Q .non,rt:=Q } (aE ["table","place","words","met","here","letter","behind"] ds):=by
 rintro ds Q ⟨t,p,rfl,a,b,k,rfl,rfl,tab,la,hk,h⟩;have sz:=IX
 simp_arith only [kS,jQ,gL]
 have few:∀ks:List Nat,ks.Nodup->(∀i∈ks,i < a.length)->ks.length<=a.length:=λks nd lt=>by
  have:=f7 ks (List.range a.length) nd λi hi=>JB.mpr (lt i hi)
  simpa using this
 refine⟨λe=>∃(kvs:List (D×D)) (ks:List Nat) (W:Nat->List Nat) (qs:List Nat) (k4 k5 k6:Option Lo),e=[some (.d (bf a b)),some (.d (.int (k:Int))),some (.dic kvs),some (.own (aC qs)),k4,k5,k6]/\DI kvs ks W/\Fn a b ks W/\(∀q∈qs,q∈ks)/\qs.length<=ks.length/\(∀i∈ks,i∉qs->∀c,isLet c->lp a b i c∈ks),
  λe=>match e with|[_,_,some (.dic kvs),some (.own qs),_,_,_]=>2 * (500 - kvs.length) + qs.length|_=>0,?_,?_⟩
 ·refine⟨_,[0],λ_=>[],[0],none,none,none,rfl,Bc,⟨by simp,λi hi=>by rw [IY.mp hi];exact tab.pos,λi hi=>⟨λc hc=>(nomatch hc),(IY.mp hi).symm,by simp⟩⟩,λq hq=>hq,II _,λi hi hn=>absurd hi hn⟩
 rintro env ⟨kvs,ks,W,qs,k4,k5,k6,rfl,m,s,qi,ql,cl⟩;have lk:=few ks m.nd s.lt;have ml:=m.len
 have any:∀(kvs:List (D×D)) (ks:List Nat) (W:Nat->List Nat) (q:Nat),DI kvs ks W->(kvs.any λkv=>aT kv.1 (.int (q:Int)))=decide (q∈ks):=λkvs ks W q m=>by
  rw [ky,m.get]
  by_cases c:q∈ks
  ·rw [if_pos c,decide_eq_true c];rfl
  ·rw [if_neg c,decide_eq_false c];rfl
 simp_arith only [jN,Lo.dic.injEq]
 refine⟨by simp [aI],by simp [dep],m.ok,?_⟩;rw [any kvs ks W k m]
 by_cases ck:k∈ks
 ·rw [decide_eq_true ck]
  simp_arith only [mz,cM,Lo.dic.injEq]
  obtain⟨w1,w2,w3⟩:=s.w k ck;exact⟨_,by simp [aI],by simp [dep],m.ok,by rw [m.get,if_pos ck],h (W k) w1 w2 (by omega)⟩
 ·rw [decide_eq_false ck]
  cases qs with
  | nil =>
   exact absurd (tab.high (met:=ks) (λp hp=>⟨cl p hp (by simp) 115 (.inl rfl),cl p hp (by simp) 114 (.inr (.inl rfl))⟩) s.z k k (II _) hk) ck
  | cons q qs =>
   simp_arith only [aC,Ji]
   refine⟨0,_,rfl,rfl,by decide,?_⟩;have hq:=qi q Jb;have lq:=s.lt q hq
   simp_arith only [jw,dB,List.eraseIdx_cons_zero]
   have sg:eD (Str.ofString "qrs")=[113,114,115].map λc=>D.str (jg c):=rfl
   rw [sg]
   refine bY (λi e=>∃(kvs':List (D×D)) (ks':List Nat) (W':Nat->List Nat) (qs':List Nat) (k5 k6:Option Lo),e=[some (.d (bf a b)),some (.d (.int (k:Int))),some (.dic kvs'),some (.own (aC qs')),some (.d (.int (q:Int))),k5,k6]/\DI kvs' ks' W'/\Fn a b ks' W'/\q∈ks'/\(∀x∈qs',x∈ks')/\(∀x∈ks',x∉qs'->x≠q->∀c,isLet c->lp a b x c∈ks') /\
    (∀j c,j < i->[113,114,115][j]?=some c->lp a b q c∈ks')/\ks.length<=ks'.length/\qs'.length + ks.length=qs.length + ks'.length) ?_ ?_ ⟨kvs,ks,W,qs,k5,k6,rfl,m,s,hq,λx hx=>qi x (IT _ hx),λx hx hn hne=>cl x hx (λhm=>(IZ.mp hm).elim hne hn),λj c hj=>absurd hj (JA _),II _,rfl⟩
   ·rintro i x env N hx ⟨kvs',ks',W',qs',k5,k6,rfl,m',s',hq',qi',cl',dn,le1,le2⟩ hN;rw [IJ] at hx;obtain⟨c,hc,rfl⟩:=Js.mp hx
    have hcl:isLet c:=by
     have:=IG hc;simp only [IZ,Jg,or_false] at this;unfold isLet;omega
    have lq':=s'.lt q hq';have lk':=few ks' m'.nd s'.lt;have ml':=m'.len
    simp_arith only [cu,tO]
    refine⟨a,b,q,c,rfl,rfl,rfl,tab.ok,lq',hcl,?_⟩
    simp_arith only [jN,Lo.dic.injEq,aQ,cM]
    refine⟨by simp [aI],by simp [dep],m'.ok,?_⟩;rw [any kvs' ks' W' _ m']
    have dn2:∀(ks2:List Nat),(∀x∈ks',x∈ks2)->lp a b q c∈ks2->∀j c',j < i + 1->[113,114,115][j]?=some c'->lp a b q c'∈ks2:=λks2 sub hin j c' hj hc'=>by
     by_cases e:j=i
     ·subst e;rw [hc] at hc';cases hc';exact hin
     ·exact sub _ (dn j c' (by omega) hc')
    by_cases cb:lp a b q c∈ks'
    ·rw [decide_eq_true cb]
     simp_arith only [and_true]
     exact hN _ ⟨kvs',ks',W',qs',_,_,rfl,m',s',hq',qi',cl',dn2 ks' (λ_ z=>z) cb,le1,le2⟩
    ·rw [decide_eq_false cb]
     simp_arith only [and_true]
     obtain⟨w1,w2,w3⟩:=s'.w q hq';have s2:=s'.put tab.ok hq' hcl cb;have m2:=m'.put cb (W' q ++ [c]);have lk2:=few _ m2.nd s2.lt;rw [Jd] at lk2
     have lq2:qs'.length<=1000:=by
      rw [Jo] at ql;omega
     have nq:(aC qs').length=qs'.length:=by simp [aC]
     refine⟨strN (W' q),by simp [aI],by simp [dep],m'.ok,by rw [m'.get,if_pos hq'],?_⟩
     have ap:(⟨(W' q).toArray⟩:Str) ++ jg c=⟨(W' q ++ [c]).toArray⟩:=by
      show (⟨(W' q).toArray ++ #[c]⟩:Str)=_
      simp
     show dg (D.str ⟨(W' q).toArray⟩) (D.str (jg c)) _
     rw [eG,ap];have lz:(⟨(W' q).toArray⟩:Str).length=(W' q).length:=by show (W' q).toArray.size=_;simp
     refine⟨by rw [lz,show (jg c).length=1 from rfl];omega,by simp [aI],by simp [dep],m'.ok,by omega,by omega,hN _ ⟨putN kvs' (.int ((lp a b q c:Nat):Int)) (strN (W' q ++ [c])),ks' ++ [lp a b q c],_,qs' ++ [lp a b q c],some (.d (.str (jg c))),some (.d (.int ((lp a b q c:Nat):Int))),by unfold aC;rw [List.map_append];rfl,m2,s2,JD _ hq',λx hx=>?_,λx hx hn hne c' hc'=>?_,dn2 _ (λx hx=>JD _ hx) (by simp),by simp;omega,by simp;omega⟩⟩
     ·rcases Jc.mp hx with hx|hx
      ·exact JD _ (qi' x hx)
      ·exact Jr _ hx
     ·rcases Jc.mp hx with hx|hx
      ·exact JD _ (cl' x hx (λz=>hn (JD _ z)) hne c' hc')
      ·exact absurd (Jr _ hx) hn
   ·rintro env ⟨kvs',ks',W',qs',k5,k6,rfl,m',s',hq',qi',cl',dn,le1,le2⟩;have lk':=few ks' m'.nd s'.lt;have ml':=m'.len;rw [Jo] at ql;refine⟨⟨kvs',ks',W',qs',_,_,_,rfl,m',s',qi',by omega,λx hx hn c hc=>?_⟩,?_⟩
    ·by_cases e:x=q
     ·subst e;rcases hc with z|z|z <;> subst z
      ·exact dn 2 115 (by simp) rfl
      ·exact dn 1 114 (by simp) rfl
      ·exact dn 0 113 (by simp) rfl
     ·exact cl' x hx hn e c hc
    ·simp only [aC,IK];omega
def Ij (x y:D) (Q:D->Prop):Prop:=∃m:Nat,x=.obj c8/\y=.int (m:Int)/\m<=1000/\∀z:Str,LW z->z.length<=m->Q (.str z)
def eh:Fw:=F2 Ij
theorem nZ (a b:Str):(a ++ b).cps.toList=a.cps.toList ++ b.cps.toList:=by show (a.cps ++ b.cps).toList=_;simp
theorem uH (z:Str):z.length=z.cps.toList.length:=by simp [Str.length]
theorem HJ:LW (Str.ofString ""):=λc hc=>nomatch (show c∈([]:List Nat) from hc)
def jL:bG:=(aG (bH 2 (cC (.str ""))) (aG (bH 3 (aB aD (af (ag 0) (af (cC (.int 2)) aw)))) (aG (fG jA (af (aB aD (af (ag 0) (af (aH dg (ag 1) (cC (.int 1))) aw))) aw) (aW 4) (gG (aN (aH gX (aH oD (aH dg (ag 3) (ag 4)) (cC (.int 2))) (cC (.int 0)))) (bH 2 (aH dg (ag 2) (cC (.str "s")))) (bH 2 (aH dg (ag 2) (aH cA (cC (.str "rq")) (aB aD (af (ag 0) (af (cC (.int 2)) aw)))))))) (b9 (ag 2)))))
theorem rf:∀ds Q,eh ds Q->ds.length=2:=jo
theorem tm:∀ds (Q:D->Prop),eh ds Q->jL { nx:=λ_=>Q .non,rt:=Q } (aE ["_law_rest","_law_most","_law_word_here","_law_first","_law_k"] ds):=by
 rintro ds Q ⟨x,y,rfl,m,rfl,rfl,hm,h⟩
 simp_arith only [jL,aD,gj]
 refine⟨2,rfl,rfl,by decide,by decide,λd0 a0 b0=>?_⟩
 simp_arith only [and_true]
 refine⟨_,rfl,rfl,by omega,by omega,λd1 a1 b1=>?_⟩;obtain⟨n,rfl⟩:=Int.eq_ofNat_of_zero_le a1
 simp_arith only [and_true]
 refine⟨by omega,by omega,?_⟩;refine bY (λi e=>∃z k4,LW z/\z.length<=i/\e=[some (.d (.obj c8)),some (.d (.int (m:Int))),some (.d (.str z)),some (.d (.int d0)),k4]) ?_ ?_ ⟨Str.ofString "",_,HJ,by decide,rfl⟩
 ·rintro i x env N hx ⟨z,k4,hz,hzl,rfl⟩ hN;obtain⟨hi,rfl⟩:=wx hx
  have add:∀w:Str,(∀c∈w.cps.toList,isLet c)->w.length=1->N [some (.d (.obj c8)),some (.d (.int (m:Int))),some (.d (.str (z ++ w))),some (.d (.int d0)),some (.d (.int (i:Int)))]:=λw hw hl=>by
   refine hN _ ⟨z ++ w,_,λc hc=>?_,?_,rfl⟩
   ·rw [nZ] at hc;exact (Jc.mp hc).elim (hz c) (hw c)
   ·rw [uH,nZ,Jd,<- uH,<- uH];omega
  simp_arith only [aD,gj]
  refine⟨by (first|exact Gn _ (by decide)|exact DM _ _ (by decide)|exact t5 _ (by first|decide|omega)|exact sP (by decide) (by decide)|exact nJ (by decide) (by decide)|omega|decide),?_⟩
  split
  ·exact⟨by rw [show (Str.ofString "s").length=1 from rfl];omega,add _ (λc hc=>by have:c∈[115]:=hc;unfold isLet;simp at this;omega) rfl⟩
  ·refine⟨2,rfl,rfl,by decide,by decide,λd a' b'=>?_⟩;have hd:d=0\/d=1:=by omega
   rcases hd with rfl|rfl
   ·refine⟨by decide,114,rfl,?_⟩;show dg (D.str z) (D.str ⟨#[114]⟩) _
    rw [eG];exact⟨by rw [IX,show (⟨#[114]⟩:Str).length=1 from rfl];omega,add _ (λc hc=>by have:c∈[114]:=hc;unfold isLet;simp at this;omega) rfl⟩
   ·refine⟨by decide,113,rfl,?_⟩;show dg (D.str z) (D.str ⟨#[113]⟩) _
    rw [eG];exact⟨by rw [IX,show (⟨#[113]⟩:Str).length=1 from rfl];omega,add _ (λc hc=>by have:c∈[113]:=hc;unfold isLet;simp at this;omega) rfl⟩
 ·rintro env ⟨z,k4,hz,hzl,rfl⟩
  simp_arith only [and_true]
  refine h z hz ?_;simp [aU] at hzl;omega
theorem A9 {a b c d:List Nat} {Q:D->Prop}:oS (bf a b) (bf c d) Q=Q (.bl (!decide (a=c/\b=d))):=by
 have h:=Br (a:=a) (b:=b) (c:=c) (d:=d) (Q:=λx=>∃k,x=.bl k/\Q (.bl (!k)));unfold gX at h;unfold oS
 have e:aT (bf a b) (bf c d)=decide (a=c/\b=d):=by
  simp only [bf,aT,cZ,l5,JR];rw [Bool.eq_iff_iff];simp
 rw [e]
 have dk:fS (bf a b) (bf c d):=by
  have d1:=dP a;have d2:=dP b;have d3:=dP c;have d4:=dP d;simp only [fS,bf,dep,b8];omega
 exact propext ⟨λh=>h.2,λh=>⟨dk,h⟩⟩
section
variable {β γ:Type} [DecidableEq β] [DecidableEq γ] {ha th:β->β} {ha' th':γ->γ} {φ:β->γ} {P:β->Prop} {f:β}
theorem m5 (hf:P f) (cl:∀p,P p->P (ha p)/\P (th p)):∀n,∀p∈aO ha th f n,P p
 | 0,p,hp=>by rw [aO,IY] at hp;rw [hp];exact hf
 | n + 1,p,hp=>by
  have ih:=m5 hf cl n;rw [aO] at hp
  cases e:(aO ha th f n)[n]? with
  | none=>rw [e] at hp;exact ih p hp
  | some q =>
   rw [e] at hp;have iq:=ih q (IG e);exact kc (kc ih (cl q iq).1) (cl q iq).2 p hp
theorem nr (hf:P f) (cl:∀p,P p->P (ha p)/\P (th p)) (e1:∀p,P p->ha' (φ p)=φ (ha p)) (e2:∀p,P p->th' (φ p)=φ (th p)) (inj:∀p q,P p->P q->φ p=φ q->p=q):∀n,aO ha' th' (φ f) n=(aO ha th f n).map φ
 | 0=>rfl
 | n + 1=>by
  have ih:=nr hf cl e1 e2 inj n;have hm:=m5 hf cl n;rw [aO,aO,ih,IJ]
  cases e:(aO ha th f n)[n]? with
  | none=>rfl
  | some p =>
   have ip:=hm p (IG e);show bK (bK ((aO ha th f n).map φ) (ha' (φ p))) (th' (φ p))=_
   rw [e1 p ip,e2 p ip,kF inj hm (cl p ip).1,kF inj (kc hm (cl p ip).1) (cl p ip).2]
theorem idx_map (inj:∀p q,P p->P q->φ p=φ q->p=q) {q:β} (hq:P q):∀l:List β,(∀p∈l,P p)->(l.map φ).idxOf (φ q)=l.idxOf q
 | [],_=>rfl
 | x :: l,h=>by
  rw [Ji,List.idxOf_cons,List.idxOf_cons,idx_map inj hq l λp hp=>h p (IT _ hp)]
  by_cases c:x=q
  ·rw [c];simp
  ·have c':φ x≠φ q:=λz=>c (inj x q (h x Jb) hq z);rw [beq_eq_false_iff_ne.mpr c,beq_eq_false_iff_ne.mpr c']
theorem iQ (cl:∀p,P p->P (ha p)) (e1:∀p,P p->ha' (φ p)=φ (ha p)) (inj:∀p q,P p->P q->φ p=φ q->p=q) {l:List β} (hl:∀p∈l,P p):bj (l.map φ) ha'=bj l ha:=by
 unfold bj;rw [List.map_map];refine List.map_congr_left λp hp=>?_;show (l.map φ).idxOf (ha' (φ p))=_
 rw [e1 p (hl p hp),idx_map inj (cl p (hl p hp)) l hl]
end
section
variable {β γ:Type} [DecidableEq β] [DecidableEq γ] {ha th:β->β} {ha' th':γ->γ} {f:β} {f':γ}
theorem Done.carry (e:∀n,(aO ha' th' f' n).length=(aO ha th f n).length) {n:Nat} (h:Done ha' th' f' n):Done ha th f n:=⟨λi hi=>by rw [<- e];exact h.le i hi,λi hi=>by rw [<- e];exact h.lt i hi,by rw [<- e];exact h.fin⟩
theorem Over.carry (e:∀n,(aO ha' th' f' n).length=(aO ha th f n).length) {n:Nat} (h:Over ha' th' f' n):Over ha th f n:=⟨λi hi=>by rw [<- e];exact h.le i hi,λi hi=>by rw [<- e];exact h.lt i hi,by rw [<- e];exact h.gt⟩
end
abbrev HS (a b c d:List Nat) (n:Nat):Prop:=Over (fP a c) (fP b d) ⟨0,0⟩ n
abbrev EO (a b c d:List Nat) (n:Nat):Prop:=Done (fP a c) (fP b d) ⟨0,0⟩ n
abbrev pW (a b c d:List Nat) (n:Nat):List PP:=aO (fP a c) (fP b d) ⟨0,0⟩ n
theorem Ay {a b c d:List Nat} (ta:iE a b) (tc:iE c d):∀p,BM a c p->BM a c (fP a c p)/\BM a c (fP b d p):=λp ip=>by
 have lb:=ta.ok.len;have ld:=tc.ok.len;have ip2:BM b d p:=⟨by have:=ip.1;omega,by have:=ip.2;omega⟩;exact⟨⟨ta.ok.al _ _ (bA ip.1),tc.ok.al _ _ (bA ip.2)⟩,⟨ta.ok.bl _ _ (bA ip2.1),tc.ok.bl _ _ (bA ip2.2)⟩⟩
structure Mt (a b c d E F:List Nat) (met:List PP):Prop where
 full:Full (fP a c) (fP b d) ⟨0,0⟩ (BM a c) met
 eE:E=bj met (fP a c)
 eF:F=bj met (fP b d)
 le:met.length<=60
theorem EO.mt {a b c d:List Nat} {n:Nat} (ta:iE a b) (tc:iE c d) (h:EO a b c d n):Mt a b c d (bj (pW a b c d n) (fP a c)) (bj (pW a b c d n) (fP b d)) (pW a b c d n):=by
 have m:=lW (P:=BM a c) (f:=⟨0,0⟩) ⟨ta.pos,tc.pos⟩ (Ay ta tc) n h.lt;have e:n=(pW a b c d n).length:=Nat.le_antisymm m.le h.fin;have m':Part (fP a c) (fP b d) ⟨0,0⟩ (BM a c) (pW a b c d n) (pW a b c d n).length:=by rw [<- e];exact m
 exact⟨m'.full,rfl,rfl,h.le n (II _)⟩
section
variable {a b c d E F:List Nat} {met:List PP}
theorem Mt.Gk (m:Mt a b c d E F met):E.length=met.length:=by rw [m.eE];unfold bj;rw [IK]
theorem Mt.m8 (ta:iE a b) (tc:iE c d) (m:Mt a b c d E F met):iE E F:=by
 rw [m.eE,m.eF];exact m.full.m8 (λq hq=>by unfold fP;simp only [ta.hh _ hq.1,tc.hh _ hq.2]) (λq hq=>by unfold fP;simp only [ta.t3 _ hq.1,tc.t3 _ hq.2])
theorem Mt.z (m:Mt a b c d E F met):met.idxOf (⟨0,0⟩:PP)=0:=eu m.full.me.nd m.full.head
theorem Mt.sW (m:Mt a b c d E F met):(⟨0,0⟩:PP)∈met:=IG m.full.head
theorem tW {met:List PP} {g:PP->PP} {p:PP} (hp:p∈met):dG (bj met g) (met.idxOf p)=met.idxOf (g p):=by
 have h:=gI (g:=g) (cV hp);unfold dG;rw [Jy,h];rfl
theorem Mt.sE (m:Mt a b c d E F met) {p:PP} (hp:p∈met):dG E (met.idxOf p)=met.idxOf (fP a c p):=by rw [m.eE];exact tW hp
theorem Mt.sF (m:Mt a b c d E F met) {p:PP} (hp:p∈met):dG F (met.idxOf p)=met.idxOf (fP b d p):=by rw [m.eF];exact tW hp
theorem Mt.inj (m:Mt a b c d E F met) {p q:PP} (hp:p∈met) (hq:q∈met) (e:met.idxOf p=met.idxOf q):p=q:=by
 have h1:=cV hp;have h2:=cV hq;rw [e,h2] at h1;exact (IL h1).symm
theorem nO (l:List Nat) (i:Nat):l.getD i 0=dG l i:=rfl
theorem Mt.Ik (m:Mt a b c d E F met) {p:PP} (hp:p∈met) (x:Nat):(⟨lp a b p.fst x,lp c d p.snd x⟩:PP)∈met/\lp E F (met.idxOf p) x=met.idxOf ⟨lp a b p.fst x,lp c d p.snd x⟩:=by
 obtain⟨c1,c2⟩:=m.full.cl p hp;obtain⟨_,c3⟩:=m.full.cl _ c2;unfold lp
 by_cases h1:x=115
 ·simp only [if_pos h1,nO];exact⟨c1,m.sE hp⟩
 ·simp only [if_neg h1]
  by_cases h2:x=114
  ·simp only [if_pos h2,nO];exact⟨c2,m.sF hp⟩
  ·simp only [if_neg h2,nO];refine⟨c3,?_⟩;rw [m.sF hp,m.sF c2];rfl
theorem Mt.HM (m:Mt a b c d E F met):∀(w:List Nat) (p:PP),p∈met->(⟨lw a b w p.fst,lw c d w p.snd⟩:PP)∈met/\lw E F w (met.idxOf p)=met.idxOf ⟨lw a b w p.fst,lw c d w p.snd⟩
 | [],p,hp=>⟨hp,rfl⟩
 | x :: w,p,hp=>by
  obtain⟨h1,h2⟩:=m.Ik hp x;have ih:=Mt.HM m w _ h1;refine⟨ih.1,?_⟩;show lw E F w (lp E F (met.idxOf p) x)=_
  rw [h2];exact ih.2
theorem Mt.G0 (m:Mt a b c d E F met) (w:List Nat):lw E F w 0=0↔lw a b w 0=0/\lw c d w 0=0:=by
 obtain⟨h1,h2⟩:=m.HM w ⟨0,0⟩ m.sW;rw [m.z] at h2;rw [h2]
 constructor
 ·intro h;have:=m.inj h1 m.sW (by rw [h,m.z]);exact⟨congrArg PP.fst this,congrArg PP.snd this⟩
 ·rintro⟨e1,e2⟩;have:(⟨lw a b w 0,lw c d w 0⟩:PP)=⟨0,0⟩:=by rw [e1,e2]
  show met.idxOf (⟨lw a b w 0,lw c d w 0⟩:PP)=0
  rw [this,m.z]
theorem Mt.at_ (m:Mt a b c d E F met) {i:Nat} (hi:i < E.length):∃p,p∈met/\met.idxOf p=i/\met.getD i ⟨0,0⟩=p:=by
 rw [m.Gk] at hi;have h:met[i]?=some met[i]:=IE hi;refine⟨met[i],IG h,eu m.full.me.nd h,?_⟩;rw [Jy,h];rfl
theorem Mt.getD (m:Mt a b c d E F met) {p:PP} (hp:p∈met):met.getD (met.idxOf p) ⟨0,0⟩=p:=by
 rw [Jy,cV hp];rfl
theorem Mt.Ht (m:Mt a b c d E F met):AE E F a b λi=>(met.getD i ⟨0,0⟩).fst:=by
 refine⟨?_,λi hi=>?_,λi hi=>?_,λi hi=>?_⟩
 ·have:=m.getD m.sW;rw [m.z] at this;simp only [this]
 ·obtain⟨p,hp,e,g⟩:=m.at_ hi;simp only [g];exact (m.full.me.inn p hp).1
 ·obtain⟨p,hp,e,g⟩:=m.at_ hi;simp only [g];rw [<- e,m.sE hp,m.getD (m.full.cl p hp).1];rfl
 ·obtain⟨p,hp,e,g⟩:=m.at_ hi;simp only [g];rw [<- e,m.sF hp,m.getD (m.full.cl p hp).2];rfl
theorem Mt.G4 (m:Mt a b c d E F met):AE E F c d λi=>(met.getD i ⟨0,0⟩).snd:=by
 refine⟨?_,λi hi=>?_,λi hi=>?_,λi hi=>?_⟩
 ·have:=m.getD m.sW;rw [m.z] at this;simp only [this]
 ·obtain⟨p,hp,e,g⟩:=m.at_ hi;simp only [g];exact (m.full.me.inn p hp).2
 ·obtain⟨p,hp,e,g⟩:=m.at_ hi;simp only [g];rw [<- e,m.sE hp,m.getD (m.full.cl p hp).1];rfl
 ·obtain⟨p,hp,e,g⟩:=m.at_ hi;simp only [g];rw [<- e,m.sF hp,m.getD (m.full.cl p hp).2];rfl
end
structure TT where
 x:Nat
 y:Nat
 z:Nat
 deriving DecidableEq
section
variable {a b c d e f E F G H:List Nat} {m1 m2:List PP}
def h3 (a c e:List Nat) (t:TT):TT:=⟨dG a t.x,dG c t.y,dG e t.z⟩
structure uD (e:List Nat) (m1 m2:List PP) (t:TT):Prop where
 l:(⟨t.x,t.y⟩:PP)∈m1
 r:(⟨t.y,t.z⟩:PP)∈m2
theorem uD.cl (M1:Mt a b c d E F m1) (M2:Mt c d e f G H m2):∀t,uD e m1 m2 t->uD e m1 m2 (h3 a c e t)/\uD e m1 m2 (h3 b d f t):=λt i =>
 ⟨⟨(M1.full.cl _ i.l).1,(M2.full.cl _ i.r).1⟩,⟨(M1.full.cl _ i.l).2,(M2.full.cl _ i.r).2⟩⟩
def ya (m1:List PP) (t:TT):PP:=⟨m1.idxOf ⟨t.x,t.y⟩,t.z⟩
def x6 (m2:List PP) (t:TT):PP:=⟨t.x,m2.idxOf ⟨t.y,t.z⟩⟩
theorem Cn (M1:Mt a b c d E F m1) (M2:Mt c d e f G H m2) (n:Nat):pW E F e f n=(aO (h3 a c e) (h3 b d f) ⟨0,0,0⟩ n).map (ya m1)/\bj (pW E F e f n) (fP E e)=bj (aO (h3 a c e) (h3 b d f) ⟨0,0,0⟩ n) (h3 a c e)/\bj (pW E F e f n) (fP F f)=bj (aO (h3 a c e) (h3 b d f) ⟨0,0,0⟩ n) (h3 b d f):=by
 have i0:uD e m1 m2 ⟨0,0,0⟩:=⟨M1.sW,M2.sW⟩;have cl:=uD.cl M1 M2
 have e1:∀t,uD e m1 m2 t->fP E e (ya m1 t)=ya m1 (h3 a c e t):=λt i=>by
  unfold fP ya;rw [M1.sE i.l];rfl
 have e2:∀t,uD e m1 m2 t->fP F f (ya m1 t)=ya m1 (h3 b d f t):=λt i=>by
  unfold fP ya;rw [M1.sF i.l];rfl
 have inj:∀t u,uD e m1 m2 t->uD e m1 m2 u->ya m1 t=ya m1 u->t=u:=λt u it iu q=>by
  have q1:=M1.inj it.l iu.l (congrArg PP.fst q);have q2:t.z=u.z:=congrArg PP.snd q;obtain⟨x,y,z⟩:=t;obtain⟨x',y',z'⟩:=u;cases q1;have q2':z=z':=q2;rw [q2']
 have z0:ya m1 ⟨0,0,0⟩=⟨0,0⟩:=by unfold ya;rw [M1.z]
 have mm:pW E F e f n=(aO (h3 a c e) (h3 b d f) ⟨0,0,0⟩ n).map (ya m1):=by
  have q:=nr (ha':=fP E e) (th':=fP F f) i0 cl e1 e2 inj n;rw [z0] at q;exact q
 have ii:=m5 i0 cl n;refine⟨mm,?_,?_⟩
 ·rw [mm];exact iQ (λp hp=>(cl p hp).1) e1 inj ii
 ·rw [mm];exact iQ (λp hp=>(cl p hp).2) e2 inj ii
theorem zl (M1:Mt a b c d E F m1) (M2:Mt c d e f G H m2) (n:Nat):pW a b G H n=(aO (h3 a c e) (h3 b d f) ⟨0,0,0⟩ n).map (x6 m2)/\bj (pW a b G H n) (fP a G)=bj (aO (h3 a c e) (h3 b d f) ⟨0,0,0⟩ n) (h3 a c e)/\bj (pW a b G H n) (fP b H)=bj (aO (h3 a c e) (h3 b d f) ⟨0,0,0⟩ n) (h3 b d f):=by
 have i0:uD e m1 m2 ⟨0,0,0⟩:=⟨M1.sW,M2.sW⟩;have cl:=uD.cl M1 M2
 have e1:∀t,uD e m1 m2 t->fP a G (x6 m2 t)=x6 m2 (h3 a c e t):=λt i=>by
  unfold fP x6;rw [M2.sE i.r];rfl
 have e2:∀t,uD e m1 m2 t->fP b H (x6 m2 t)=x6 m2 (h3 b d f t):=λt i=>by
  unfold fP x6;rw [M2.sF i.r];rfl
 have inj:∀t u,uD e m1 m2 t->uD e m1 m2 u->x6 m2 t=x6 m2 u->t=u:=λt u it iu q=>by
  have q1:=M2.inj it.r iu.r (congrArg PP.snd q);have q2:t.x=u.x:=congrArg PP.fst q;obtain⟨x,y,z⟩:=t;obtain⟨x',y',z'⟩:=u;cases q1;have q2':x=x':=q2;rw [q2']
 have z0:x6 m2 ⟨0,0,0⟩=⟨0,0⟩:=by unfold x6;rw [M2.z]
 have mm:pW a b G H n=(aO (h3 a c e) (h3 b d f) ⟨0,0,0⟩ n).map (x6 m2):=by
  have q:=nr (ha':=fP a G) (th':=fP b H) i0 cl e1 e2 inj n;rw [z0] at q;exact q
 have ii:=m5 i0 cl n;refine⟨mm,?_,?_⟩
 ·rw [mm];exact iQ (λp hp=>(cl p hp).1) e1 inj ii
 ·rw [mm];exact iQ (λp hp=>(cl p hp).2) e2 inj ii
theorem Fg (M1:Mt a b c d E F m1) (M2:Mt c d e f G H m2) (n:Nat):(pW E F e f n).length=(pW a b G H n).length:=by
 rw [(Cn M1 M2 n).1,(zl M1 M2 n).1,IK,IK]
end
def CF (x y z:D) (Q:D->Prop):Prop:=∃(a b c d:List Nat) (p:PP),x=bf a b/\y=bf c d/\z=cP p/\BM a c p/\a.length=b.length/\c.length=d.length/\Q (.tup [cP (fP a c p),cP (fP b d p)])
def cJ:Fw:=F3 CF
def fW:bG:=(aG (mP (ag 2) (gV 2 (cw (aW 3) (cw (aW 4) gU)))) (b9 (cf (af (cf (af (aH cA (aH cA (ag 0) (cC (.int 0))) (ag 3)) (af (aH cA (aH cA (ag 1) (cC (.int 0))) (ag 4)) aw))) (af (cf (af (aH cA (aH cA (ag 0) (cC (.int 1))) (ag 3)) (af (aH cA (aH cA (ag 1) (cC (.int 1))) (ag 4)) aw))) aw)))))
theorem mS:∀ds Q,cJ ds Q->ds.length=3:=wd
theorem n9:∀ds (Q:D->Prop),cJ ds Q->fW { nx:=λ_=>Q .non,rt:=Q } (aE ["one","other","pair","here","there"] ds):=by
 rintro ds Q ⟨x,y,z,rfl,a,b,c,d,p,rfl,rfl,rfl,ip,lb,ld,h⟩;have sz:=IX
 simp_arith only [fW,cP,vN,xl,bf]
 rw [v9 (bA ip.1),v9 (bA ip.2)];rw [v9 (bA (by have:=ip.1;omega)),v9 (bA (by have:=ip.2;omega))];exact h
theorem Dj (p:PP):aI (cP p)=true:=rfl
def DZ (x y:D) (Q:D->Prop) (R:Str->Prop):Prop:=∃a b c d:List Nat,x=bf a b/\y=bf c d/\iE a b/\iE c d/\(∀n,HS a b c d n->R "TooMany")/\∀n,EO a b c d n->Q (bf (bj (pW a b c d n) (fP a c)) (bj (pW a b c d n) (fP b d)))
def iX:x8:=G2 DZ
def qZ:ui:=(xp (rN dS (cf (af (cC (.int 0)) (af (cC (.int 0)) aw))) [1,0] 1 ["pair","other","one"] (aB cJ (af (ag 2) (af (ag 1) (af (ag 0) aw))))))
theorem xR:∀ds (Q:D->Prop) (R:Str->Prop),iX ds Q R->ds.length=2:=E9
theorem yU:∀ds (Q:D->Prop) (R:Str->Prop),iX ds Q R->qZ { nx:=λ_=>Q .non,rt:=Q,xc:=R } (aE ["one","other"] ds):=by
 rintro ds Q R ⟨x,y,rfl,a,b,c,d,rfl,rfl,ta,tc,ho,hd⟩;have sz:=IX
 simp_arith! only [qZ,rN]
 refine⟨_,rfl,λPf=>⟨PP,inferInstance,cP,fP a c,fP b d,⟨0,0⟩,BM a c,rfl,BE,Dj,⟨ta.pos,tc.pos⟩,Ay ta tc,λp ip Q' hq=>⟨rfl,?_⟩,ho,hd⟩⟩
 simp_arith! only [cJ,tO]
 exact⟨a,b,c,d,p,rfl,rfl,rfl,ip,ta.ok.len.symm,tc.ok.len.symm,hq⟩
def Eo (x y:D) (Q:D->Prop):Prop:=∃a b c d:List Nat,x=bf a b/\y=bf c d/\iE a b/\iE c d/\(∀n,HS a b c d n->Q .non)/\∀n,EO a b c d n->Q (bf (bj (pW a b c d n) (fP a c)) (bj (pW a b c d n) (fP b d)))
def cF:Fw:=F2 Eo
def jO:bG:=(zK "TooMany" (lR iX (af (ag 0) (af (ag 1) aw))) (b9 (cC .non)))
theorem qm:∀ds Q,cF ds Q->ds.length=2:=jo
theorem tK:∀ds (Q:D->Prop),cF ds Q->jO { nx:=λ_=>Q .non,rt:=Q } (aE ["_law_one","_law_other"] ds):=by
 rintro ds Q ⟨x,y,rfl,a,b,c,d,rfl,rfl,ta,tc,ho,hd⟩
 simp_arith only [jO,zK,iX,FX]
 exact⟨a,b,c,d,rfl,rfl,ta,tc,λn hn=>⟨rfl,ho n hn⟩,hd⟩
def zO (c:Nat):Nat:=if c=114 then 113 else if c=113 then 114 else c
def mM (cs:List Nat):List Nat:=cs.reverse.map zO
theorem zy {c:Nat} (h:isLet c):isLet (zO c):=by
 rcases h with z|z|z <;> subst z <;> unfold isLet zO <;> decide
theorem Az {cs:List Nat} (h:∀c∈cs,isLet c):∀c∈mM cs,isLet c:=λc hc=>by
 obtain⟨y,hy,rfl⟩:=Jn.mp hc;exact zy (h y (List.mem_reverse.mp hy))
def Gz (x y:D) (Q:D->Prop):Prop:=∃(a b:List Nat) (z:Str),x=bf a b/\y=.str z/\iE a b/\a.length<=500/\LW z/\z.length<=1000/\∀z':Str,LW z'->z'.length<=2000->Q (.str z')
def ez:Fw:=F2 Gz
def jK:bG:=(aG (bH 2 (aB fu (af (ag 0) (af (aB cz (af (ag 0) (af (cC (.int 0)) (af (ag 1) aw)))) aw)))) (b9 (aH dg (ag 1) (zx (cC (.str "")) (af (fL (js [] (Eh (ag 2) (x9 ve (cC (.int 1)))) eT (aH GR (mi [.inr "s",.inr "r",.inr "q"] (af (cC (.str "s")) (af (cC (.str "q")) (af (cC (.str "r")) aw)))) (ag 0)))) aw)))))
theorem qr:∀ds Q,ez ds Q->ds.length=2:=jo
theorem sY:∀ds (Q:D->Prop),ez ds Q->jK { nx:=λ_=>Q .non,rt:=Q } (aE ["_law_table_here","_law_word_here","_law_way"] ds):=by
 rintro ds Q ⟨x,y,rfl,a,b,z1,rfl,rfl,t,la,hz1,hl1,h⟩;have sz:=IX
 simp_arith only [jK,fu,gj,jU,zx,Eh]
 refine⟨a,b,z1,0,rfl,rfl,rfl,t.ok,t.pos,hz1,by omega,?_⟩;refine⟨a,b,_,rfl,rfl,t,la,B6 t.ok t.pos _,λv hv hv0 hvl=>?_⟩;have vz:(⟨v.toArray⟩:Str).cps.toList=v:=by simp
 have vl:(⟨v.toArray⟩:Str).length=v.length:=by rw [uH,vz]
 have hrl:(rJ ⟨v.toArray⟩).length=v.length:=by rw [rT];simp [Str.length]
 refine⟨_,rfl,⟨v.toArray⟩,rfl,by omega,_,rfl,?_⟩;refine iS (λx=>match x with|.str y=>.str (jg (zO (y.cps.toList.headD 0)))|x=>x) _ _ ?_ (by simp [eD,IX];have:(rJ ⟨v.toArray⟩).cps.size=(rJ ⟨v.toArray⟩).length:=rfl;omega) ?_
 ·intro x hx N2 hN2;unfold eD at hx;obtain⟨c,hc,rfl⟩:=Jn.mp hx;rw [rT] at hc;have hcl:isLet c:=hv c (by simpa using hc)
  simp_arith only [e8,GR,A0]
  have e:r9 [Sum.inr (Str.ofString "s"),Sum.inr (Str.ofString "r"),Sum.inr (Str.ofString "q")] [D.str (Str.ofString "s"),D.str (Str.ofString "q"),D.str (Str.ofString "r")] (Sum.inr ⟨#[c]⟩)=some (D.str (jg (zO c))):=by
   rcases hcl with rfl|rfl|rfl <;> rfl
  exact⟨_,_,rfl,e,hN2⟩
 ·refine⟨(mM v).map jg,?_,by decide,?_,?_⟩
  ·rw [rT];simp [eD,mM,jg]
  ·rw [um];simp only [mM,IK,List.length_reverse];omega
  ·rw [uK];have il2:(mM v).length=v.length:=by simp [mM]
   have iz2:(⟨(mM v).toArray⟩:Str).cps.toList=mM v:=by simp
   show dg (D.str z1) (D.str ⟨(mM v).toArray⟩) _
   rw [eG];have hc:(z1 ++ (⟨(mM v).toArray⟩:Str)).cps.toList=z1.cps.toList ++ mM v:=by rw [nZ,iz2]
   have iz3:(⟨(mM v).toArray⟩:Str).length=v.length:=by rw [uH,iz2,il2]
   have l1:z1.cps.toList.length<=1000:=by rw [<- uH];exact hl1
   refine⟨by rw [iz3];omega,h _ (λc hc'=>?_) (by rw [uH,hc,Jd];omega)⟩;rw [hc] at hc';exact (Jc.mp hc').elim (hz1 c) (Az hv c)
theorem AO {a b:Bool} {Q:D->Prop}:oS (.bl a) (.bl b) Q=Q (.bl (!(a == b))):=by
 unfold oS fS;simp only [dep,aT,Ju,and_self,true_and]
def Fv (x y z r:D) (Q:D->Prop):Prop:=∃(a b c d E F:List Nat) (met:List PP),x=bf a b/\y=bf c d/\z=bf E F/\r=.obj c8/\iE a b/\iE c d/\a.length<=500/\c.length<=500/\Mt a b c d E F met/\Q (.bl true)
def ei:Fw:=F4 Fv
def fI:bG:=(gG (aN (aH oS (aH gX (aB cz (af (ag 2) (af (cC (.int 0)) (af (ag 5) aw)))) (cC (.int 0))) (mr (aH gX (aB cz (af (ag 0) (af (cC (.int 0)) (af (ag 5) aw)))) (cC (.int 0))) (aH gX (aB cz (af (ag 1) (af (cC (.int 0)) (af (ag 5) aw)))) (cC (.int 0)))))) (b9 (cC (.bl false))) bM)
def jG:bG:=(aG (gG (Ck (pb (aN (aB cT (af (ag 2) (af (ag 0) aw))))) (pb (aN (aB cT (af (ag 2) (af (ag 1) aw)))))) (b9 (cC (.bl false))) bM) (aG (fG jA (af (cC (.int 6)) aw) (aW 4) (aG (bH 5 (aB eh (af (ag 3) (af (cC (.int 30)) aw)))) (aG (gG (aN (aH E8 (ag 4) (cC (.int 1)))) (bH 5 (aB ez (af (aH cA (iy (af (ag 0) (af (ag 1) (af (ag 2) (af (ag 2) aw))))) (aH lA (ag 4) (cC (.int 2)))) (af (ag 5) aw)))) bM) fI))) (b9 (cC (.bl true)))))
theorem ra:∀ds Q,ei ds Q->ds.length=4:=FW
theorem uh:∀ds (Q:D->Prop),ei ds Q->jG { nx:=λ_=>Q .non,rt:=Q } (aE ["_law_one","_law_other","_law_both","_law_rest","_law_turn","_law_word_here"] ds):=by
 rintro ds Q ⟨x,y,z,r,rfl,a,b,c,d,E,F,met,rfl,rfl,rfl,rfl,ta,tc,la,lc,m,h⟩;have sz:=IX;have tE:=m.m8 ta tc;have lE:E.length<=500:=by rw [m.Gk];have:=m.le;omega
 simp_arith only [jG,cT,gj]
 refine⟨E,F,a,b,rfl,rfl,tE,ta,lE,la,true,by classical exact congrArg D.bl (decide_eq_true ⟨_,m.Ht⟩),?_⟩;rw [if_neg (by simp)];refine⟨E,F,c,d,rfl,rfl,tE,tc,lE,lc,true,by classical exact congrArg D.bl (decide_eq_true ⟨_,m.G4⟩),?_⟩;rw [if_neg (by simp)]
 have tail:∀(Z:Ends3) (k4:Option Lo) (w:Str) (N:List (Option Lo)->Prop),Z.nx=N->LW w->w.length<=2000->N [some (.d (bf a b)),some (.d (bf c d)),some (.d (bf E F)),some (.d (.obj c8)),k4,some (.d (.str w))]->fI Z [some (.d (bf a b)),some (.d (bf c d)),some (.d (bf E F)),some (.d (.obj c8)),k4,some (.d (.str w))]:=by
  intro Z k4 w N hZ hw lw' hN
  simp_arith only [fI,jU]
  have w1:w.length<=100000:=by omega
  have hm:=m.G0 w.cps.toList;have z3:((lw E F w.cps.toList 0:Nat):Int)=0↔lw E F w.cps.toList 0=0:=by omega
  refine⟨E,F,w,0,rfl,rfl,rfl,tE.ok,tE.pos,hw,w1,?_⟩;simp only [l4];refine⟨a,b,w,0,rfl,rfl,rfl,ta.ok,ta.pos,hw,w1,?_⟩;simp only [l4]
  have fin:∀y:Bool,y=decide (((lw E F w.cps.toList 0:Nat):Int)=0)->oS (D.bl (decide (((lw E F w.cps.toList 0:Nat):Int)=0))) (D.bl y) λx=>∃k,x=D.bl k/\if k=true then Z.rt (D.bl false) else Z.nx [some (.d (bf a b)),some (.d (bf c d)),some (.d (bf E F)),some (.d (.obj c8)),k4,some (.d (.str w))]:=by
   rintro y rfl;rw [AO,beq_self_eq_true];refine⟨false,rfl,?_⟩;rw [if_neg (by simp),hZ];exact hN
  refine⟨_,rfl,?_⟩
  split
  ·rename_i h1;have h1':=of_decide_eq_true h1;refine⟨c,d,w,0,rfl,rfl,rfl,tc.ok,tc.pos,hw,w1,?_⟩;simp only [l4];refine fin _ ?_;rw [decide_eq_decide];omega
  ·rename_i h1;have h1':=of_decide_eq_false (Bool.not_eq_true _▸h1);refine fin _ ?_
   symm;rw [decide_eq_false_iff_not];omega
 refine bY (λ_ e=>∃k4 k5,e=[some (.d (bf a b)),some (.d (bf c d)),some (.d (bf E F)),some (.d (.obj c8)),k4,k5]) ?_ ?_ ⟨_,_,rfl⟩
 ·rintro i x env N hx ⟨k4,k5,rfl⟩ hN;have hi:=(Iy.mp hx).1
  have hxe:x=.int (0 + (i:Int)):=by
   unfold aU at hx;rw [IJ] at hx;simp [aU] at hi;rw [Jv (by omega)] at hx;cases hx;rfl
  subst hxe;have hi2:i < 6:=by simp [aU] at hi;omega
  simp_arith only [eh,ez,gj]
  refine⟨30,rfl,rfl,by decide,λw hw lw'=>?_⟩;show (if _ then _ else _)
  split
  ·refine C0 (by omega) (by simp;omega) λv hv=>?_;have hv':v=bf a b\/v=bf c d\/v=bf E F:=by simpa using hv
   have go:∀z':Str,LW z'->z'.length<=2000->_:=λz' h1 h2=>tail { nx:=N,rt:=Q,bk:=b9 (cC (D.bl true)) { nx:=λx=>Q D.non,rt:=Q },ct:=N } (some (.d (.int (0 + (i:Int))))) z' N rfl h1 h2 (hN _ ⟨_,_,rfl⟩);rcases hv' with rfl|rfl|rfl
   ·exact⟨a,b,w,rfl,rfl,ta,la,hw,by omega,go⟩
   ·exact⟨c,d,w,rfl,rfl,tc,lc,hw,by omega,go⟩
   ·exact⟨E,F,w,rfl,rfl,tE,lE,hw,by omega,go⟩
  ·exact tail _ _ _ N rfl hw (by omega) (hN _ ⟨_,_,rfl⟩)
 ·rintro env ⟨k4,k5,rfl⟩
  simp_arith only [and_true]
  exact h
theorem EA {Q:D->Prop} (q:Q (.bl false)):oS .non .non Q:=by
 unfold oS fS;have e:aT .non .non=true:=by simp [aT]
 simp only [dep,e,Bool.not_true]
 first|exact⟨by decide,q⟩|simpa using q
theorem Bo:∀ds Q,xE 63 ds Q->ds.length=1:=by rintro ds Q ⟨ns,rfl,_⟩;rfl
def yw:bG:=(aG (fG jA (af (aB yW (af (cC (.int 1)) (af (aB zQ (af (cC (.int 4)) (af (aB jj (af (ag 0) aw)) aw))) aw))) aw) (aW 1) (aG (nE 2 (aB ft (af (ag 0) (af (ag 1) aw)))) (aG (bH 3 (aB cB (af (ag 2) aw))) (aG (bH 4 (aB cB (af (ag 2) aw))) (aG (bH 5 (aB cF (af (ag 3) (af (ag 4) aw)))) (gG (aN (aH (iO true) (ag 5) (cC .non))) (aG (gG (pb (aN (aB ei (af (ag 3) (af (ag 4) (af (ag 5) (af (ag 2) aw))))))) (b9 (cC (.bl false))) bM) (aG (bH 6 (aB cB (af (ag 2) aw))) (aG (bH 7 (aB cF (af (ag 4) (af (ag 6) aw)))) (gG (mL (aN (aH (iO true) (ag 7) (cC .non))) (aN (aH oS (aB cF (af (ag 5) (af (ag 6) aw))) (aB cF (af (ag 3) (af (ag 7) aw)))))) (b9 (cC (.bl false))) bM)))) bM)))))) (b9 (cC (.bl true))))
theorem Dl:∀ds (Q:D->Prop),xE 63 ds Q->yw { nx:=λ_=>Q .non,rt:=Q } (aE ["_law_script","_law_k","_law_rest","_law_one","_law_other","_law_both","_law_third","_law_near"] ds):=by
 rintro ds Q ⟨ns,rfl,hl,h⟩;have sz:=IX
 simp_arith only [yw,IK]
 refine⟨by omega,by omega,?_⟩;refine bY (λ_ e=>∃k1 k2 k3 k4 k5 k6 k7,e=[some (.d (.lst (ns.map D.int))),k1,k2,k3,k4,k5,k6,k7]) ?_ ?_ ⟨_,_,_,_,_,_,_,rfl⟩
 ·rintro i x env N hx ⟨k1,k2,k3,k4,k5,k6,k7,rfl⟩ hN;have hi:=(Iy.mp hx).1
  have hxe:x=.int (0 + (i:Int)):=by
   unfold aU at hx;rw [IJ] at hx;simp [aU] at hi;rw [Jv (by omega)] at hx;cases hx;rfl
  subst hxe;have hi2:i < 4:=by simp [aU] at hi;omega
  simp_arith only [nE,ft,cB,cF,ei,w8,gj,Gw,EZ,Ce]
  refine⟨ns,_,rfl,rfl,by omega,by omega,λr a b t1 l1 c d t2 l2=>?_⟩;refine⟨a,b,c,d,rfl,rfl,t1,t2,λn hn=>⟨rfl,false,rfl,?_⟩,λn hn=>⟨rfl,true,rfl,?_⟩⟩
  ·rw [if_neg (by simp)];exact hN _ ⟨_,_,_,_,_,_,_,rfl⟩
  ·rw [if_pos rfl];have M1:=EO.mt t1 t2 hn;have tE:=M1.m8 t1 t2;refine⟨a,b,c,d,_,_,_,rfl,rfl,rfl,rfl,t1,t2,l1,l2,M1,true,rfl,?_⟩;rw [if_neg (by simp)];refine λe f t3 l3=>?_;refine⟨c,d,e,f,rfl,rfl,t2,t3,λm hm=>⟨rfl,false,rfl,?_⟩,λm hm=>⟨rfl,true,rfl,?_⟩⟩
   ·rw [if_neg (by simp)];exact hN _ ⟨_,_,_,_,_,_,_,rfl⟩
   ·rw [if_pos rfl];have M2:=EO.mt t2 t3 hm;have tG:=M2.m8 t2 t3;have L:=λn=>(Fg M1 M2 n).symm;refine⟨_,_,e,f,rfl,rfl,tE,t3,λp hp=>?_,λp hp=>?_⟩
    ·refine⟨a,b,_,_,rfl,rfl,t1,tG,λq hq=>?_,λq hq=>?_⟩
     ·refine EA ⟨false,rfl,?_⟩;rw [if_neg (by simp)];exact hN _ ⟨_,_,_,_,_,_,_,rfl⟩
     ·exact (Done.over (Done.carry L hq) hp).elim
    ·refine⟨a,b,_,_,rfl,rfl,t1,tG,λq hq=>?_,λq hq=>?_⟩
     ·exact (Done.over hp (Over.carry L hq)).elim
     ·obtain rfl:=Done.uniq hp (Done.carry L hq);have R:=zl M1 M2 p;have LL:=Cn M1 M2 p;rw [A9,LL.2.1,LL.2.2,R.2.1,R.2.2];refine⟨false,by simp,?_⟩;rw [if_neg (by simp)];exact hN _ ⟨_,_,_,_,_,_,_,rfl⟩
 ·rintro env ⟨k1,k2,k3,k4,k5,k6,k7,rfl⟩
  simp_arith only [and_true]
  exact h
open PySem L2 L2.L3
open K55
def top (i:Nat):Stmt:=PySem.Challenge.pw_fanglue_k42_whole_meets_by_words.main.body.getD i (.Pass ⟨0,0,0,0⟩)
structure GQ where
 c_TooMany:Addr
 t_MOST_PLACES:Tok
structure Tc (K:IB) (w:World) (n:GQ):Prop where
 g_MOST_PLACES:PySem.W.nsIn K mainGlobals "MOST_PLACES" = some (some (.int 60 n.t_MOST_PLACES))
 n_TooMany:PySem.W.nsIn K mainGlobals "TooMany" = some (some (.ref n.c_TooMany))
 e_TooMany:PySem.W.excIn K n.c_TooMany [.type "ValueError",.type "Exception",.type "BaseException",.type "object"] "ValueError.__new__" = true
 o1_TooMany:PySem.W.findIn K (.ref n.c_TooMany) "__getattribute__" = some (some (.builtin "BaseException.__getattribute__"))
 o2_TooMany:PySem.W.findIn K (.ref n.c_TooMany) "__getattr__" = some none
 o3_TooMany:PySem.W.hasDictIn K n.c_TooMany=true
 o4_TooMany:PySem.W.findIn K (.ref n.c_TooMany) "__class__" = some (some (.builtin "object.__class__"))
 o5_TooMany:PySem.W.specialIn K (.builtin "object.__class__") "__get__" = some (some (.builtin "getset_descriptor.__get__"))
 o6_TooMany:PySem.W.takesIn K (.builtin "object.__class__")=some true
 o7_TooMany:PySem.W.mroIn K n.c_TooMany (.type "object")=some true
 o8_TooMany:PySem.W.subIn K (.ref n.c_TooMany) (.type "BaseException")=some true
 u1_TooMany_TooMany:PySem.W.typeIn K (.ref n.c_TooMany)=some (.type "type")
 u2_TooMany_TooMany:PySem.W.hasDictIn K n.c_TooMany=true
 u3_TooMany_TooMany:PySem.W.subIn K (.ref n.c_TooMany) (.type "BaseException")=some true
 u4_TooMany_TooMany:PySem.W.subIn K (.ref n.c_TooMany) (.ref n.c_TooMany)=some true
theorem Tc.kh {K:IB} {w:World} {n:GQ} (TC:Tc K w n):yf K n.c_TooMany n.c_TooMany:=⟨TC.u1_TooMany_TooMany,TC.u2_TooMany_TooMany,TC.u3_TooMany_TooMany,TC.u4_TooMany_TooMany⟩
abbrev fN:Stmt:=top 5
abbrev dN:Stmt:=top 6
abbrev iM:Stmt:=top 7
abbrev eJ:Stmt:=top 9
abbrev n5:Stmt:=top 10
abbrev fO:Stmt:=top 11
abbrev eN:Stmt:=top 13
abbrev iJ:Stmt:=top 14
abbrev fT:Stmt:=top 15
abbrev dq:Stmt:=top 16
abbrev eS:Stmt:=top 17
abbrev iI:Stmt:=top 18
abbrev fR:Stmt:=top 19
abbrev fJ:Stmt:=top 20
abbrev fM:Stmt:=top 21
abbrev d8:Stmt:=top 22
abbrev fU:Stmt:=top 23
abbrev iW:Stmt:=top 24
abbrev fQ:Stmt:=top 25
abbrev gE:Stmt:=top 26
abbrev gy:Stmt:=top 27
abbrev fK:Stmt:=top 28
abbrev gz:Stmt:=top 29
abbrev yX:Stmt:=top 30
structure Txt (mg:Str->Option Value):Prop where
 abs:mg "abs" = none
 enumerate:mg "enumerate" = none
 int:mg "int" = none
 len:mg "len" = none
 list:mg "list" = none
 max:mg "max" = none
 min:mg "min" = none
 range:mg "range" = none
 tuple:mg "tuple" = none
 zip:mg "zip" = none
theorem j7:aK ["first","behind","met","numbers","halves","thirds","half","third","thing"] ["first","behind"] (ar fN):=m6
theorem gS:aK ["table","place","letter","halves","thirds","behind"] ["table","place","letter"] (ar dN):=m6
theorem nA:aK ["table","place","words","met","here","letter","behind"] ["table","place"] (ar iM):=m6
theorem iA:aK ["one","other","pair","here","there"] ["one","other","pair"] (ar eJ):=m6
theorem wD:aK ["one","other"] ["one","other"] (ar n5):=m6
theorem kr:aK ["one","other","images","place","leads","others","image"] ["one","other"] (ar fO):=m6
theorem iz:aK ["_law_script","_law_k"] ["_law_script","_law_k"] (ar eN):=m6
theorem n6:aK ["_law_script","_law_at","_law_by","_law_prime","_law_cell","_law_big_here","_law_k","_law_one"] ["_law_script","_law_at"] (ar iJ):=m6
theorem jX:aK ["_law_rest","_law_many","_law_digit_here"] ["_law_rest","_law_many"] (ar fT):=m6
theorem gk:aK ["_law_rest","_law_many","_law_row","_law_k","_law_at"] ["_law_rest","_law_many"] (ar dq):=m6
theorem kL:aK ["_law_rest","_law_many","_law_marks_here","_law_left","_law_gap","_law_way","_law_other"] ["_law_rest","_law_many"] (ar eS):=m6
theorem oM:aK ["_law_rest","_law_most","_law_great","_law_many"] ["_law_rest","_law_most","_law_great"] (ar iI):=m6
theorem jS:aK ["_law_fractions_here","_law_row","_law_tiles_here","_law_i","_law_near","_law_far"] ["_law_fractions_here"] (ar fR):=m6
theorem mf:aK ["_law_fractions_here"] ["_law_fractions_here"] (ar fJ):=m6
theorem j9:aK ["_law_fan_here","_law_fractions_here","_law_marks_here","_law_gaps_here","_law_thirds","_law_one","_law_mid","_law_other","_law_halves","_law_i","_law_mark","_law_first"] ["_law_fan_here"] (ar fM):=m6
theorem mx:aK ["_law_halves","_law_thirds","_law_first","_law_met","_law_at","_law_behind"] ["_law_halves","_law_thirds","_law_first"] (ar d8):=m6
theorem ko:aK ["_law_fan_here","_law_halves","_law_thirds","_law_first"] ["_law_fan_here"] (ar fU):=m6
theorem oa:aK ["_law_table_here","_law_place","_law_word_here","_law_letter"] ["_law_table_here","_law_place","_law_word_here"] (ar iW):=m6
theorem kQ:aK ["_law_rest","_law_table_here"] ["_law_rest"] (ar fQ):=m6
theorem mn:aK ["_law_rest","_law_most","_law_word_here","_law_first","_law_k"] ["_law_rest","_law_most"] (ar gE):=m6
theorem ma:aK ["_law_one","_law_other"] ["_law_one","_law_other"] (ar gy):=m6
theorem mj:aK ["_law_table_here","_law_word_here","_law_way"] ["_law_table_here","_law_word_here"] (ar fK):=m6
theorem my:aK ["_law_one","_law_other","_law_both","_law_rest","_law_turn","_law_word_here"] ["_law_one","_law_other","_law_both","_law_rest"] (ar gz):=m6
theorem Am:aK ["_law_script","_law_k","_law_rest","_law_one","_law_other","_law_both","_law_third","_law_near"] ["_law_script"] (ar yX):=m6
section
variable {P:Program} {w:World} {K:IB} {mg:Str->Option Value} {base:Heap}
theorem o7 (F:Df K mg "table_led" fN ["first","behind"]) (T:Txt mg) {n:GQ} (TC:Tc K w n) {Pf:IB->Hp->Addr->Prop} {φ:Fw} (hF:lO P w K mg base 2 Pf φ):gA P w K mg base 3 "table_led" (dS φ Pf) :=
 have nd:=j7.nd;F.uY j7 nV λfa cdv A outer s H E hr=>⟨gH φ Pf,(dW (jn (jZ (cU 2 nd (jM (ae (qv 0) aj))))) (dW (jn (jZ (uV 3 nd hr.units (qv 0) az))) (dW (jn (jZ (cU 4 nd (jM aj)))) (dW (jn (jZ (cU 5 nd (jM aj)))) (dW (zA (CK (cO 4 T.len) (cO 2 T.len)) (dW (jn (jZ (oI (BG 1 hF hr.md (ae (dU 2 (cO 4 T.len) (λ_ _=>rfl)) aj)) (gC rfl (a7 (aL 6 nd) (a7 (aL 7 nd) fg)))))) (dW (jn (jZ (lD Jk rfl (a9 (ae (qv 6) (ae (qv 7) aj))) (aL 8 nd) (aq (cD (oK 3 hr.units (qv 8)) (ah (bV 3 hr.units (qv 8) (cO 2 T.len)) (aq (fA 2 (qv 8)))) bp))))) (dW (jn (Fb (A6 (cO 2 T.len) (Io TC.g_MOST_PLACES)) (vX (xD TC.n_TooMany TC.e_TooMany (ae fi aj))) (Dk bp))) (dW (jn (jZ (fA 4 (gp 3 hr.units (qv 6) (λ_ _=>rfl))))) (wo (jn (jZ (fA 5 (gp 3 hr.units (qv 7) (λ_ _=>rfl))))))))))) (wo (jn (jZ (fq 4 (fq 5 (aY (a9 (ae (fv T.tuple (ae (qv 4) aj)) (ae (fv T.tuple (ae (qv 5) aj)) aj)))))))))))))),oU⟩
theorem mO (F:Df K mg "place_behind" dN ["table","place","letter"]):Known P w K mg base 1 "place_behind" cu :=
 have nd:=gS.nd;F.known gS lI λfa cdv A outer s H E hr=>⟨fC,(ah (oI (qv 0) (gC rfl (a7 (aL 3 nd) (a7 (aL 4 nd) fg)))) (ah (cD (lB hr.units (qv 2) fi) (aq (aY (bF (qv 3) (qv 1) (λ_ _=>rfl)))) bp) (ah (aP 5 nd (bF (qv 4) (qv 1) (λ_ _=>rfl))) (ah (cD (QW.t (nH (lB hr.units (qv 2) fi) (kz (vd (qv 5) Bn)))) (aq (aY (bF (qv 4) (qv 5) (λ_ _=>rfl)))) bp) (aq (aY (qv 5))))))),mJ⟩
theorem vf (F:Df K mg "word_to" iM ["table","place"]) (k_place_behind:Known P w K mg base 1 "place_behind" cu):Known P w K mg base 2 "word_to" fu :=
 have nd:=nA.nd;F.known nA tQ λfa cdv A outer s H E hr=>⟨kS,(ah (pF 2 nd az fi) (ah (cU 3 nd (jM (ae az aj))) (ah (kG Jk (oK 2 hr.units (qv 1)) (ah (lY 4 3 nd az) (aq (lD Jk rfl fi (aL 5 nd) (ah (aP 6 nd (aM k_place_behind hr.md (ae (qv 0) (ae (qv 4) (ae (qv 5) aj))))) (aq (cD (oK 2 hr.units (qv 6)) (ah (bV 2 hr.units (qv 6) (c9 (gp 2 hr.units (qv 4) (λ_ _=>rfl)) (qv 5))) (aq (fA 3 (qv 6)))) bp))))))) (aq (aY (gp 2 hr.units (qv 1) (λ_ _=>rfl))))))),vP⟩
theorem ia (F:Df K mg "pair_behind" eJ ["one","other","pair"]):Known P w K mg base 1 "pair_behind" cJ :=
 have nd:=iA.nd;F.known iA mS λfa cdv A outer s H E hr=>⟨fW,(ah (oI (qv 2) (gC rfl (a7 (aL 3 nd) (a7 (aL 4 nd) fg)))) (aq (aY (a9 (ae (a9 (ae (bF (bF (qv 0) az (λ_ _=>rfl)) (qv 3) (λ_ _=>rfl)) (ae (bF (bF (qv 1) az (λ_ _=>rfl)) (qv 4) (λ_ _=>rfl)) aj))) (ae (a9 (ae (bF (bF (qv 0) az (λ_ _=>rfl)) (qv 3) (λ_ _=>rfl)) (ae (bF (bF (qv 1) az (λ_ _=>rfl)) (qv 4) (λ_ _=>rfl)) aj))) aj)))))),n9⟩
theorem Aa (F:Gu K mg "meet" n5 ["one","other"] "meet.<locals>.<lambda>") (kxA_table_led:∀(base:Heap) (Pf:IB->Hp->Addr->Prop) (φ:Fw),lO P w K mg base 2 Pf φ->gA P w K mg base 3 "table_led" (dS φ Pf)) (at_table_led:∃fa,mg "table_led" = some (.ref fa)/\PySem.W.keepIn K (.ref fa)=true) (kA_pair_behind:∀base:Heap,Known P w K mg base 1 "pair_behind" cJ):gA P w K mg base 4 "meet" iX :=
 have nd:=wD.nd;F.CN wD xR λfa cdv A outer s H E ck hr=>⟨qZ,(vX (C7 (yR (ps:=["pair"]) [1,0] ["other","one"] kxA_table_led at_table_led hr.md (a9 (ae az (ae az aj))) ck HX (λ_ _ _ _=>DQ λ_=>rfl) (λbase cg f c A outer s H hr=>(aM (kA_pair_behind base) hr.md (ae (qv 2) (ae (qv 1) (ae (qv 0) aj))))) (hcell:=(show ∀x∈(["other","one"]:List Str),((ar n5)).names.lookup x=some .cell by decide +kernel))))),yU⟩
theorem qE (F:Df K mg "is_within" fO ["one","other"]) (T:Txt mg):Known P w K mg base 1 "is_within" cT :=
 have nd:=kr.nd;F.known kr pA λfa cdv A outer s H E hr=>⟨iD,(ah (pF 2 nd az az) (ah (gb Jk rfl rfl T.range (ae (l8 T.len (ae (bF (qv 0) az (λ_ _=>rfl)) aj)) aj) (aL 3 nd) (aq (BU Jk rfl rfl T.zip (ae (qv 0) (ae (qv 1) aj)) (gC rfl (a7 (aL 4 nd) (a7 (aL 5 nd) fg))) (ah (aP 6 nd (bF (qv 5) (gp 2 hr.units (qv 3) (λ_ _=>rfl)) (λ_ _=>rfl))) (aq (Bi hr.units (A8 2 hr.units (bF (qv 4) (qv 3) (λ_ _=>rfl)) (qv 6)) (EK.up (qv 6)) (aq (aY Cm)) bp)))))) (aq (aY Cm)))),rm⟩
theorem nk (F:Df K mg "_law_cell_at" eN ["_law_script","_law_k"]) (T:Txt mg):Known P w K mg base 1 "_law_cell_at" bN :=
 have nd:=iz.nd;F.known iz mQ λfa cdv A outer s H E hr=>⟨jq,(ah (cD (CK (qv 1) (l8 T.len (ae (qv 0) aj))) (aq (aY (bF (qv 0) (qv 1) (λ_ _=>rfl)))) bp) (aq (aY az))),nK⟩
theorem vF (F:Df K mg "_law_big" iJ ["_law_script","_law_at"]) (T:Txt mg) (k_law_cell_at:Known P w K mg base 1 "_law_cell_at" bN):Known P w K mg base 2 "_law_big" ft :=
 have nd:=n6.nd;F.known n6 sr λfa cdv A outer s H E hr=>⟨lV,(ah (aP 2 nd (a9 (ae az (ae az (ae az (ae az (ae az (ae az (ae az (ae az aj)))))))))) (ah (aP 3 nd (a9 (ae az (ae az (ae az (ae az (ae az (ae az (ae az (ae az aj)))))))))) (ah (aP 4 nd (aM k_law_cell_at hr.md (ae (qv 0) (ae (qv 1) aj)))) (ah (cD (Hl (qv 4) (Cs az az)) (aq (aY (qv 4))) bp) (ah (aP 5 nd az) (ah (gb Jk rfl rfl T.range (ae az aj) (aL 6 nd) (ah (aP 7 nd (c9 (c9 (jv (aM k_law_cell_at hr.md (ae (qv 0) (ae (c9 (qv 1) (jv (qv 6) az)) aj))) (Cs az az)) az) (sA (qv 6) (qv 6)))) (aq (aP 5 nd (c9 (sA (qv 5) az) (jv (jv (sA (qv 7) (bF (qv 2) (jv (qv 6) az) (λ_ _=>rfl))) (bF (qv 3) (jv (qv 6) az) (λ_ _=>rfl))) az)))))) (aq (aY (qv 5))))))))),vh⟩
theorem qQ (F:Df K mg "_law_digit" fT ["_law_rest","_law_many"]):Known P w K mg base 1 "_law_digit" aD :=
 have nd:=jX.nd;F.known jX pB λfa cdv A outer s H E hr=>⟨gZ,(ah (aP 2 nd (jv (zU (qv 0)) (qv 1))) (ah (vB (qv 0) (CM (zU (qv 0)) (qv 1))) (aq (aY (qv 2))))),qL⟩
theorem kX (F:Df K mg "_law_fractions" dq ["_law_rest","_law_many"]) (T:Txt mg) (k_law_digit:Known P w K mg base 1 "_law_digit" aD):Known P w K mg base 2 "_law_fractions" bW :=
 have nd:=gk.nd;F.known gk j5 λfa cdv A outer s H E hr=>⟨eZ,(ah (cU 2 nd (jM (ae (a9 (ae (Al az) (ae az aj))) (ae (a9 (ae az (ae az aj))) (ae (a9 (ae az (ae az aj))) aj))))) (ah (gb Jk rfl rfl T.range (ae (ju (qv 1) az) aj) (aL 3 nd) (ah (aP 4 nd (aM k_law_digit hr.md (ae (qv 0) (ae (ju (cO 2 T.len) az) aj)))) (aq (xo 2 (c9 (qv 4) az) (a9 (ae (c9 (bF (dU 2 (qv 4) (λ_ _=>rfl)) az (λ_ _=>rfl)) (bF (dU 2 (c9 (qv 4) az) (λ_ _=>rfl)) az (λ_ _=>rfl))) (ae (c9 (bF (dU 2 (qv 4) (λ_ _=>rfl)) az (λ_ _=>rfl)) (bF (dU 2 (c9 (qv 4) az) (λ_ _=>rfl)) az (λ_ _=>rfl))) aj))))))) (aq (fq 2 (aY (fv T.tuple (ae (c9 (jC (ae (a9 (ae az (ae az aj))) aj)) (Hj (qv 2) (w6 az) (w6 (ju (l8 T.len (ae (qv 2) aj)) az)))) aj))))))),lK⟩
theorem qY (F:Df K mg "_law_marks" eS ["_law_rest","_law_many"]) (T:Txt mg) (k_law_digit:Known P w K mg base 1 "_law_digit" aD):Known P w K mg base 2 "_law_marks" dF :=
 have nd:=kL.nd;F.known kL oW λfa cdv A outer s H E hr=>⟨ic,(ah (mR 2 nd (N':=["_law_gap"]) (ix:=[]) rfl (c5.of (ar eS) rfl rfl (by decide +kernel) (by decide +kernel) (by decide +kernel) (λj i h=>by simp at h) rfl) (by decide) rfl rfl rfl T.range (ae (qv 1) aj) (λC s H fp pins=>hV) (λC s H fp pins=>fi)) (ah (cU 3 nd (zt T.list T.range (ae (qv 1) aj))) (ah (kG Jk (wZ 3 hr.units) (ah (lY 4 3 nd az) (ah (aP 5 nd (aM k_law_digit hr.md (ae (qv 0) (ae az aj)))) (ah (cD (lB hr.units (qv 5) az) (aq (uZ 2 (qv 4) fi)) bp) (aq (cD (QW.t (nH (A6 (qv 5) az) (kz (wZ 3 hr.units)))) (ah (lY 6 3 nd (aM k_law_digit hr.md (ae (qv 0) (ae (cO 3 T.len) aj)))) (ah (uZ 2 (qv 4) (qv 6)) (aq (uZ 2 (qv 6) (qv 4))))) bp)))))) (ah (fq 2 (cD (QW.t (nH (lB hr.units (qv 1) az) (kz (DH hr.units fi (qv 2))))) (aq (aP 2 nd (jC (ae fi (ae fi aj))))) bp)) (aq (aY (fv T.tuple (ae (qv 2) aj)))))))),qP⟩
theorem vK (F:Df K mg "_law_fan" iI ["_law_rest","_law_most","_law_great"]) (k_law_digit:Known P w K mg base 1 "_law_digit" aD) (k_law_fractions:Known P w K mg base 2 "_law_fractions" bW) (k_law_marks:Known P w K mg base 2 "_law_marks" dF):Known P w K mg base 3 "_law_fan" fz :=
 have nd:=oM.nd;F.known oM tH λfa cdv A outer s H E hr=>⟨lh,(ah (aP 3 nd (c9 az (aM k_law_digit hr.md (ae (qv 0) (ae (ju (qv 1) az) aj))))) (ah (cD (lB hr.units (aM k_law_digit hr.md (ae (qv 0) (ae az aj))) az) (aq (aP 3 nd (c9 az (aM k_law_digit hr.md (ae (qv 0) (ae (ju (qv 2) az) aj)))))) bp) (aq (aY (a9 (ae (aM k_law_fractions hr.md (ae (qv 0) (ae (qv 3) aj))) (ae (aM k_law_marks hr.md (ae (qv 0) (ae (qv 3) aj))) aj))))))),u5⟩
theorem qo (F:Df K mg "_law_tiles" fR ["_law_fractions_here"]) (T:Txt mg):Known P w K mg base 1 "_law_tiles" dC :=
 have nd:=jS.nd;F.known jS pC λfa cdv A outer s H E hr=>⟨gY,(ah (cU 1 nd (xn T.list (ae (qv 0) aj))) (ah (cU 2 nd (jM aj)) (ah (kG Jk (A6 (cO 1 T.len) az) (aq (yt Jk rfl rfl T.range (ae az (ae (cO 1 T.len) aj)) (aL 3 nd) (ah (aP 4 nd (dU 1 (ju (qv 3) az) (λ_ _=>rfl))) (ah (aP 5 nd (dU 1 (jv (c9 (qv 3) az) (cO 1 T.len)) (λ_ _=>rfl))) (aq (cD (QW.t (nH (Dq hr.units (dU 1 (qv 3) (λ_ _=>rfl)) (a9 (ae az (ae az aj)))) (kz (lB hr.units (FN T.abs (ae (ju (sA (bF (qv 4) az (λ_ _=>rfl)) (bF (qv 5) az (λ_ _=>rfl))) (sA (bF (qv 4) az (λ_ _=>rfl)) (bF (qv 5) az (λ_ _=>rfl)))) aj)) az)))) (ah (fA 2 (a9 (ae (qv 4) (ae (dU 1 (qv 3) (λ_ _=>rfl)) (ae (qv 5) aj))))) (ah (BJ 1 (qv 3)) (aq zR))) bp))))))) (aq (fq 2 (aY (qv 2))))))),rH⟩
theorem sJ (F:Df K mg "_law_gaps" fJ ["_law_fractions_here"]) (T:Txt mg):Known P w K mg base 1 "_law_gaps" et :=
 have nd:=mf.nd;F.known mf rS λfa cdv A outer s H E hr=>⟨jI,(aq (aY (QF.e (xN (N':=["_law_i","_law_fractions_here"]) (ix:=[0]) rfl (c5.of (ar fJ) rfl rfl (by decide +kernel) (by decide +kernel) (by decide +kernel) (λj i h=>match j,h with | 0,h=>by cases h;exact⟨_,rfl,rfl,by decide,rfl⟩ | _ + 1,h=>by simp at h) rfl) (by decide) rfl rfl rfl T.range (ae (l8 T.len (ae (qv 0) aj)) aj) (λC s H fp pins=>hV) (λC s H fp pins=>(a9 (ae (bF (qv 1) (qv 0) (λ_ _=>rfl)) (ae (bF (qv 1) (jv (c9 (qv 0) az) (l8 T.len (ae (qv 1) aj))) (λ_ _=>rfl)) aj)))))))),sD⟩
theorem rO (F:Df K mg "_law_links" fM ["_law_fan_here"]) (T:Txt mg) (k_law_gaps:Known P w K mg base 1 "_law_gaps" et) (k_law_tiles:Known P w K mg base 1 "_law_tiles" dC):Known P w K mg base 2 "_law_links" dE :=
 have nd:=j9.nd;F.known j9 pv λfa cdv A outer s H E hr=>⟨ig,(ah (oI (qv 0) (gC rfl (a7 (aL 1 nd) (a7 (aL 2 nd) fg)))) (ah (aP 3 nd (aM k_law_gaps hr.md (ae (qv 1) aj))) (ah (pR 4 nd) (ah (lD Jk rfl (aM k_law_tiles hr.md (ae (qv 1) aj)) (gC rfl (a7 (aL 5 nd) (a7 (aL 6 nd) (a7 (aL 7 nd) fg)))) (ah (bV 4 hr.units (a9 (ae (qv 5) (ae (qv 6) aj))) (a9 (ae (qv 6) (ae (qv 7) aj)))) (ah (bV 4 hr.units (a9 (ae (qv 6) (ae (qv 7) aj))) (a9 (ae (qv 7) (ae (qv 5) aj)))) (aq (bV 4 hr.units (a9 (ae (qv 7) (ae (qv 5) aj))) (a9 (ae (qv 5) (ae (qv 6) aj)))))))) (ah (pR 8 nd) (ah (xa 4 Jk rfl (gC rfl (a7 (aL 5 nd) (a7 (aL 7 nd) fg))) (aq (bV 8 hr.units (a9 (ae (qv 5) (ae (qv 7) aj))) (a9 (ae (qv 7) (ae (qv 5) aj)))))) (ah (AH Jk rfl rfl T.enumerate (ae (qv 2) aj) (gC rfl (a7 (aL 9 nd) (a7 (aL 10 nd) fg))) (aq (cD (lB hr.units (qv 10) fi) (ah (bV 4 hr.units (qv 9) (qv 9)) (ah (bV 8 hr.units (qv 9) (bF (qv 3) (qv 9) (λ_ _=>rfl))) (aq (bV 8 hr.units (bF (qv 3) (qv 9) (λ_ _=>rfl)) (qv 9))))) (aq (cD (lB hr.units (qv 10) fi) (aq (bV 8 hr.units (bF (qv 3) (qv 9) (λ_ _=>rfl)) (bF (qv 3) (qv 9) (λ_ _=>rfl)))) (aq (bV 8 hr.units (bF (qv 3) (qv 9) (λ_ _=>rfl)) (bF (qv 3) (qv 10) (λ_ _=>rfl))))))))) (ah (aP 11 nd (a9 (ae (a9 (ae az (ae az aj))) (ae (a9 (ae az (ae az aj))) aj)))) (ah (oB 4 (cD (lB hr.units (l8 T.len (ae (qv 1) aj)) az) (ah (aP 11 nd (bF (jC (ae az (ae az aj))) (wk T.int (ae (Hs hr.units (bF (qv 2) az (λ_ _=>rfl)) fi) aj)) (λ_ _=>rfl))) (aq (lD Jk rfl (jC (ae az (ae az aj))) (aL 9 nd) (aq (cD (lB hr.units (bF (qv 2) (qv 9) (λ_ _=>rfl)) fi) (aq (bV 8 hr.units (qv 9) (bF (jC (ae (qv 9) (ae (ju az (qv 9)) aj))) (wk T.int (ae (A1 hr.units (bF (qv 2) (ju az (qv 9)) (λ_ _=>rfl)) fi) aj)) (λ_ _=>rfl)))) bp))))) (aq (cD (Ej hr.units (qv 11) (qv 4)) (aq (aP 11 nd (gp 8 hr.units (bF (qv 3) (Al az) (λ_ _=>rfl)) (λ_ _=>rfl)))) bp)))) (aq (oB 8 (aY (a9 (ae (qv 8) (ae (qv 4) (ae (qv 11) aj)))))))))))))))),rW⟩
theorem sS (F:Df K mg "_law_anew" d8 ["_law_halves","_law_thirds","_law_first"]) (T:Txt mg):Known P w K mg base 1 "_law_anew" cE :=
 have nd:=mx.nd;F.known mx rQ λfa cdv A outer s H E hr=>⟨jH,(ah (cU 3 nd (jM (ae (qv 2) aj))) (ah (aP 4 nd az) (ah (kG Jk (CK (qv 4) (cO 3 T.len)) (ah (lD Jk rfl (jC (ae (qO hr.units (qv 0) (dU 3 (qv 4) (λ_ _=>rfl)) (λ_ _=>rfl)) (ae (qO hr.units (qv 1) (dU 3 (qv 4) (λ_ _=>rfl)) (λ_ _=>rfl)) aj))) (aL 5 nd) (aq (cD (zc 3 hr.units (qv 5)) (aq (fA 3 (qv 5))) bp))) (aq (aP 4 nd (c9 (qv 4) az))))) (aq (fq 3 (aY (a9 (ae (fv T.tuple (ae (QF.e (rj (N':=["_law_one","_law_halves","_law_met"]) (ix:=[0,3]) rfl (c5.of (ar d8) rfl rfl (by decide +kernel) (by decide +kernel) (by decide +kernel) (λj i h=>match j,h with | 0,h=>by cases h;exact⟨_,rfl,rfl,by decide,rfl⟩ | 1,h=>by cases h;exact⟨_,rfl,rfl,by decide,rfl⟩ | _ + 2,h=>by simp at h) rfl) (by decide) rfl rfl (qv 3) (λC s H fp pins=>hV) (λC s H fp pins=>(vV hr.units (qv 2) (qO hr.units (qv 1) (qv 0) (λ_ _=>rfl)))))) aj)) (ae (fv T.tuple (ae (QF.e (rj (N':=["_law_one","_law_thirds","_law_met"]) (ix:=[1,3]) rfl (c5.of (ar d8) rfl rfl (by decide +kernel) (by decide +kernel) (by decide +kernel) (λj i h=>match j,h with | 0,h=>by cases h;exact⟨_,rfl,rfl,by decide,rfl⟩ | 1,h=>by cases h;exact⟨_,rfl,rfl,by decide,rfl⟩ | _ + 2,h=>by simp at h) rfl) (by decide) rfl rfl (qv 3) (λC s H fp pins=>hV) (λC s H fp pins=>(vV hr.units (qv 2) (qO hr.units (qv 1) (qv 0) (λ_ _=>rfl)))))) aj)) aj))))))))),su⟩
theorem qD (F:Df K mg "_law_table" fU ["_law_fan_here"]) (k_law_anew:Known P w K mg base 1 "_law_anew" cE) (k_law_links:Known P w K mg base 2 "_law_links" dE):Known P w K mg base 3 "_law_table" dD :=
 have nd:=ko.nd;F.known ko oX λfa cdv A outer s H E hr=>⟨g8,(ah (oI (aM k_law_links hr.md (ae (qv 0) aj)) (gC rfl (a7 (aL 1 nd) (a7 (aL 2 nd) (a7 (aL 3 nd) fg))))) (aq (aY (aM k_law_anew hr.md (ae (qv 1) (ae (qv 2) (ae (qv 3) aj))))))),qT⟩
theorem u4 (F:Df K mg "_law_led" iW ["_law_table_here","_law_place","_law_word_here"]):Known P w K mg base 1 "_law_led" cz :=
 have nd:=oa.nd;F.known oa sQ λfa cdv A outer s H E hr=>⟨lT,(ah (lD Jk rfl (qv 2) (aL 3 nd) (aq (cD (lB hr.units (qv 3) fi) (aq (aP 1 nd (bF (bF (qv 0) az (λ_ _=>rfl)) (qv 1) (λ_ _=>rfl)))) (aq (cD (lB hr.units (qv 3) fi) (aq (aP 1 nd (bF (bF (qv 0) az (λ_ _=>rfl)) (qv 1) (λ_ _=>rfl)))) (aq (aP 1 nd (bF (bF (qv 0) az (λ_ _=>rfl)) (bF (bF (qv 0) az (λ_ _=>rfl)) (qv 1) (λ_ _=>rfl)) (λ_ _=>rfl))))))))) (aq (aY (qv 1)))),u3⟩
theorem qX (F:Df K mg "_law_drawn" fQ ["_law_rest"]) (T:Txt mg) (k_law_anew:Known P w K mg base 1 "_law_anew" cE) (k_law_digit:Known P w K mg base 1 "_law_digit" aD) (k_law_fan:Known P w K mg base 3 "_law_fan" fz) (k_law_table:Known P w K mg base 3 "_law_table" dD):Known P w K mg base 4 "_law_drawn" cB :=
 have nd:=kQ.nd;F.known kQ o8 λfa cdv A outer s H E hr=>⟨iC,(ah (aP 1 nd (aM k_law_table hr.md (ae (aM k_law_fan hr.md (ae (qv 0) (ae az (ae az aj)))) aj))) (aq (aY (aM k_law_anew hr.md (ae (bF (qv 1) az (λ_ _=>rfl)) (ae (bF (qv 1) az (λ_ _=>rfl)) (ae (aM k_law_digit hr.md (ae (qv 0) (ae (l8 T.len (ae (bF (qv 1) az (λ_ _=>rfl)) aj)) aj))) aj))))))),rC⟩
theorem tu (F:Df K mg "_law_word" gE ["_law_rest","_law_most"]) (T:Txt mg) (k_law_digit:Known P w K mg base 1 "_law_digit" aD):Known P w K mg base 2 "_law_word" eh :=
 have nd:=mn.nd;F.known mn rf λfa cdv A outer s H E hr=>⟨jL,(ah (aP 2 nd fi) (ah (aP 3 nd (aM k_law_digit hr.md (ae (qv 0) (ae az aj)))) (ah (gb Jk rfl rfl T.range (ae (aM k_law_digit hr.md (ae (qv 0) (ae (c9 (qv 1) az) aj))) aj) (aL 4 nd) (aq (cD (lB hr.units (jv (c9 (qv 3) (qv 4)) az) az) (aq (aP 2 nd (c9 (qv 2) fi))) (aq (aP 2 nd (c9 (qv 2) (bF fi (aM k_law_digit hr.md (ae (qv 0) (ae az aj))) (λ_ _=>rfl)))))))) (aq (aY (qv 2)))))),tm⟩
theorem ux (F:Df K mg "_law_told" gy ["_law_one","_law_other"]) {n:GQ} (TC:Tc K w n) (kx_meet:gA P w K mg base 4 "meet" iX):Known P w K mg base 5 "_law_told" cF :=
 have nd:=ma.nd;F.known ma qm λfa cdv A outer s H E hr=>⟨jO,(aq (A5 rfl rfl TC.n_TooMany TC.n_TooMany TC.kh (AV kx_meet hr.md (ae (qv 0) (ae (qv 1) aj))) (λ_=>(aq (aY Bn))))),tK⟩
theorem uA (F:Df K mg "_law_home" fK ["_law_table_here","_law_word_here"]) (k_law_led:Known P w K mg base 1 "_law_led" cz) (k_word_to:Known P w K mg base 2 "word_to" fu):Known P w K mg base 3 "_law_home" ez :=
 have nd:=mj.nd;F.known mj qr λfa cdv A outer s H E hr=>⟨jK,(ah (aP 2 nd (aM k_word_to hr.md (ae (qv 0) (ae (aM k_law_led hr.md (ae (qv 0) (ae az (ae (qv 1) aj)))) aj)))) (aq (aY (c9 (qv 1) (CB fi (ae (QF.e (rj (N':=["_law_letter"]) (ix:=[]) rfl (c5.of (ar fK) rfl rfl (by decide +kernel) (by decide +kernel) (by decide +kernel) (λj i h=>by simp at h) rfl) (by decide) rfl rfl (Fq (qv 2) (Al az)) (λC s H fp pins=>hV) (λC s H fp pins=>(FD hr.units (CJ (DV fi (DV fi (DV fi DU)))) (qv 0) (λ_ _=>rfl))))) aj)))))),sY⟩
theorem ua (F:Df K mg "_law_good" gz ["_law_one","_law_other","_law_both","_law_rest"]) (T:Txt mg) (k_law_home:Known P w K mg base 3 "_law_home" ez) (k_law_led:Known P w K mg base 1 "_law_led" cz) (k_law_word:Known P w K mg base 2 "_law_word" eh) (k_is_within:Known P w K mg base 1 "is_within" cT):Known P w K mg base 4 "_law_good" ei :=
 have nd:=my.nd;F.known my ra λfa cdv A outer s H E hr=>⟨jG,(ah (cD (QW.t (E5 (uI (vS (aM k_is_within hr.md (ae (qv 2) (ae (qv 0) aj))))) (CQ (uI (vS (aM k_is_within hr.md (ae (qv 2) (ae (qv 1) aj)))))))) (aq (aY Cm)) bp) (ah (gb Jk rfl rfl T.range (ae az aj) (aL 4 nd) (ah (aP 5 nd (aM k_law_word hr.md (ae (qv 3) (ae az aj)))) (ah (cD (A6 (qv 4) az) (aq (aP 5 nd (aM k_law_home hr.md (ae (bF (jC (ae (qv 0) (ae (qv 1) (ae (qv 2) (ae (qv 2) aj))))) (ju (qv 4) az) (λ_ _=>rfl)) (ae (qv 5) aj))))) bp) (aq (cD (Dq hr.units (A1 hr.units (aM k_law_led hr.md (ae (qv 2) (ae az (ae (qv 5) aj)))) az) (C8 (A1 hr.units (aM k_law_led hr.md (ae (qv 0) (ae az (ae (qv 5) aj)))) az) (DA (A1 hr.units (aM k_law_led hr.md (ae (qv 1) (ae az (ae (qv 5) aj)))) az)))) (aq (aY Cm)) bp))))) (aq (aY Cm)))),uh⟩
theorem Ez {fa:Addr} {fd:FuncData} (F:rD K "law" "law" yX fa fd) (T:Txt mg) (k_law_big:Known P w K mg base 2 "_law_big" ft) (k_law_drawn:Known P w K mg base 4 "_law_drawn" cB) (k_law_good:Known P w K mg base 4 "_law_good" ei) (k_law_told:Known P w K mg base 5 "_law_told" cF):oq P w K mg base yb 6 fa fd ["_law_script"] (ER K (xE 63)) :=
 have nd:=Am.nd;rD.EY F Am Bo λcdv A outer s H E hr=>⟨yw,(ah (gb Jk rfl rfl T.range (ae (Gg T.max (ae az (ae (E7 T.min (ae az (ae (l8 T.len (ae (qv 0) aj)) aj))) aj))) aj) (aL 1 nd) (ah (uP 2 nd (aM k_law_big hr.md (ae (qv 0) (ae (qv 1) aj)))) (ah (aP 3 nd (aM k_law_drawn hr.md (ae (qv 2) aj))) (ah (aP 4 nd (aM k_law_drawn hr.md (ae (qv 2) aj))) (ah (aP 5 nd (aM k_law_told hr.md (ae (qv 3) (ae (qv 4) aj)))) (aq (cD (vd (qv 5) Bn) (ah (cD (uI (vS (aM k_law_good hr.md (ae (qv 3) (ae (qv 4) (ae (qv 5) (ae (qv 2) aj))))))) (aq (aY Cm)) bp) (ah (aP 6 nd (aM k_law_drawn hr.md (ae (qv 2) aj))) (ah (aP 7 nd (aM k_law_told hr.md (ae (qv 4) (ae (qv 6) aj)))) (aq (cD (QW.t (nH (vd (qv 7) Bn) (kz (Dq hr.units (aM k_law_told hr.md (ae (qv 5) (ae (qv 6) aj))) (aM k_law_told hr.md (ae (qv 3) (ae (qv 7) aj))))))) (aq (aY Cm)) bp))))) bp))))))) (aq (aY Cm))),Dl⟩
end
theorem all_mk {l:PySem.W.OpenLaw} {w:World} {K:IB} {h:Heap} {mg:Str->Option Value} {fa:Addr} {c_TooMany:Addr} {t_MOST_PLACES:Tok} (X:K.In h) (G:h.Ns mainGlobals mg) (hfa:mg "law" = some (.ref fa))
  (D1:cy K "table_led" fN)
  (D2:cy K "place_behind" dN)
  (D3:cy K "word_to" iM)
  (D4:cy K "pair_behind" eJ)
  (D6:cy K "is_within" fO)
  (D7:cy K "_law_cell_at" eN)
  (D8:cy K "_law_big" iJ)
  (D9:cy K "_law_digit" fT)
  (D10:cy K "_law_fractions" dq)
  (D11:cy K "_law_marks" eS)
  (D12:cy K "_law_fan" iI)
  (D13:cy K "_law_tiles" fR)
  (D14:cy K "_law_gaps" fJ)
  (D15:cy K "_law_links" fM)
  (D16:cy K "_law_anew" d8)
  (D17:cy K "_law_table" fU)
  (D18:cy K "_law_led" iW)
  (D19:cy K "_law_drawn" fQ)
  (D20:cy K "_law_word" gE)
  (D21:cy K "_law_told" gy)
  (D22:cy K "_law_home" fK)
  (D23:cy K "_law_good" gz)
  (D24:cy K "law" yX)
  (D5:vL K "meet" n5 "meet.<locals>.<lambda>")
  (z0:PySem.W.nsIn K mainGlobals "abs" = some none)
  (z1:PySem.W.nsIn K mainGlobals "enumerate" = some none)
  (z2:PySem.W.nsIn K mainGlobals "int" = some none)
  (z3:PySem.W.nsIn K mainGlobals "len" = some none)
  (z4:PySem.W.nsIn K mainGlobals "list" = some none)
  (z5:PySem.W.nsIn K mainGlobals "max" = some none)
  (z6:PySem.W.nsIn K mainGlobals "min" = some none)
  (z7:PySem.W.nsIn K mainGlobals "range" = some none)
  (z8:PySem.W.nsIn K mainGlobals "tuple" = some none)
  (z9:PySem.W.nsIn K mainGlobals "zip" = some none)
  (g_MOST_PLACES:PySem.W.nsIn K mainGlobals "MOST_PLACES" = some (some (.int 60 t_MOST_PLACES)))
  (n_TooMany:PySem.W.nsIn K mainGlobals "TooMany" = some (some (.ref c_TooMany)))
  (e_TooMany:PySem.W.excIn K c_TooMany [.type "ValueError",.type "Exception",.type "BaseException",.type "object"] "ValueError.__new__" = true)
  (o1_TooMany:PySem.W.findIn K (.ref c_TooMany) "__getattribute__" = some (some (.builtin "BaseException.__getattribute__")))
  (o2_TooMany:PySem.W.findIn K (.ref c_TooMany) "__getattr__" = some none)
  (o3_TooMany:PySem.W.hasDictIn K c_TooMany=true)
  (o4_TooMany:PySem.W.findIn K (.ref c_TooMany) "__class__" = some (some (.builtin "object.__class__")))
  (o5_TooMany:PySem.W.specialIn K (.builtin "object.__class__") "__get__" = some (some (.builtin "getset_descriptor.__get__")))
  (o6_TooMany:PySem.W.takesIn K (.builtin "object.__class__")=some true)
  (o7_TooMany:PySem.W.mroIn K c_TooMany (.type "object")=some true)
  (o8_TooMany:PySem.W.subIn K (.ref c_TooMany) (.type "BaseException")=some true)
  (u1_TooMany_TooMany:PySem.W.typeIn K (.ref c_TooMany)=some (.type "type"))
  (u2_TooMany_TooMany:PySem.W.hasDictIn K c_TooMany=true)
  (u3_TooMany_TooMany:PySem.W.subIn K (.ref c_TooMany) (.type "BaseException")=some true)
  (u4_TooMany_TooMany:PySem.W.subIn K (.ref c_TooMany) (.ref c_TooMany)=some true)
  : ∃fd:FuncData,(∀(s:Shared) (v:Value),BindsTo s fd ⟨[v],[]⟩ [("_law_script",v)])/\∀base:Heap,K.In base->base.Ns mainGlobals mg->oq l.prog w K mg base yb 6 fa fd ["_law_script"] (ER K (xE 63)):=by
 have T:Txt mg:=⟨PySem.W.mg_none_of X G z0,PySem.W.mg_none_of X G z1,PySem.W.mg_none_of X G z2,PySem.W.mg_none_of X G z3,PySem.W.mg_none_of X G z4,PySem.W.mg_none_of X G z5,PySem.W.mg_none_of X G z6,PySem.W.mg_none_of X G z7,PySem.W.mg_none_of X G z8,PySem.W.mg_none_of X G z9⟩;have TC:Tc K w ⟨c_TooMany,t_MOST_PLACES⟩:=⟨g_MOST_PLACES,n_TooMany,e_TooMany,o1_TooMany,o2_TooMany,o3_TooMany,o4_TooMany,o5_TooMany,o6_TooMany,o7_TooMany,o8_TooMany,u1_TooMany_TooMany,u2_TooMany_TooMany,u3_TooMany_TooMany,u4_TooMany_TooMany⟩
 obtain⟨dl,FL,bl⟩:=D24.Ib X G hfa λ_ _ _ _ _ _ _=>rfl;refine⟨dl,bl,λbase _ _=>?_⟩;have F2:Df K mg _ dN ["table","place","letter"]:=⟨D2.get X G λ_ _ _ _ _ _=>EI λ_ _ _=>rfl⟩
 have k_place_behind:=mO (P:=l.prog) (w:=w) (mg:=mg) (base:=base) F2;have F4:Df K mg _ eJ ["one","other","pair"]:=⟨D4.get X G λ_ _ _ _ _ _=>EI λ_ _ _=>rfl⟩
 have kA_pair_behind:=λbase:Heap=>ia (P:=l.prog) (w:=w) (mg:=mg) (base:=base) F4;have k_pair_behind:=ia (P:=l.prog) (w:=w) (mg:=mg) (base:=base) F4;have F6:Df K mg _ fO ["one","other"]:=⟨D6.get X G λ_ _ _ _ _ _=>xW λ_ _=>rfl⟩
 have k_is_within:=qE (P:=l.prog) (w:=w) (mg:=mg) (base:=base) F6 T;have F7:Df K mg _ eN ["_law_script","_law_k"]:=⟨D7.get X G λ_ _ _ _ _ _=>xW λ_ _=>rfl⟩
 have k_law_cell_at:=nk (P:=l.prog) (w:=w) (mg:=mg) (base:=base) F7 T;have F9:Df K mg _ fT ["_law_rest","_law_many"]:=⟨D9.get X G λ_ _ _ _ _ _=>xW λ_ _=>rfl⟩
 have k_law_digit:=qQ (P:=l.prog) (w:=w) (mg:=mg) (base:=base) F9;have F13:Df K mg _ fR ["_law_fractions_here"]:=⟨D13.get X G λ_ _ _ _ _ _=>DQ λ_=>rfl⟩
 have k_law_tiles:=qo (P:=l.prog) (w:=w) (mg:=mg) (base:=base) F13 T;have F14:Df K mg _ fJ ["_law_fractions_here"]:=⟨D14.get X G λ_ _ _ _ _ _=>DQ λ_=>rfl⟩
 have k_law_gaps:=sJ (P:=l.prog) (w:=w) (mg:=mg) (base:=base) F14 T;have F16:Df K mg _ d8 ["_law_halves","_law_thirds","_law_first"]:=⟨D16.get X G λ_ _ _ _ _ _=>EI λ_ _ _=>rfl⟩
 have k_law_anew:=sS (P:=l.prog) (w:=w) (mg:=mg) (base:=base) F16 T;have F18:Df K mg _ iW ["_law_table_here","_law_place","_law_word_here"]:=⟨D18.get X G λ_ _ _ _ _ _=>EI λ_ _ _=>rfl⟩
 have k_law_led:=u4 (P:=l.prog) (w:=w) (mg:=mg) (base:=base) F18;have F3:Df K mg _ iM ["table","place"]:=⟨D3.get X G λ_ _ _ _ _ _=>xW λ_ _=>rfl⟩
 have k_word_to:=vf (P:=l.prog) (w:=w) (mg:=mg) (base:=base) F3 k_place_behind;have F8:Df K mg _ iJ ["_law_script","_law_at"]:=⟨D8.get X G λ_ _ _ _ _ _=>xW λ_ _=>rfl⟩
 have k_law_big:=vF (P:=l.prog) (w:=w) (mg:=mg) (base:=base) F8 T k_law_cell_at;have F10:Df K mg _ dq ["_law_rest","_law_many"]:=⟨D10.get X G λ_ _ _ _ _ _=>xW λ_ _=>rfl⟩
 have k_law_fractions:=kX (P:=l.prog) (w:=w) (mg:=mg) (base:=base) F10 T k_law_digit;have F11:Df K mg _ eS ["_law_rest","_law_many"]:=⟨D11.get X G λ_ _ _ _ _ _=>xW λ_ _=>rfl⟩
 have k_law_marks:=qY (P:=l.prog) (w:=w) (mg:=mg) (base:=base) F11 T k_law_digit;have F15:Df K mg _ fM ["_law_fan_here"]:=⟨D15.get X G λ_ _ _ _ _ _=>DQ λ_=>rfl⟩
 have k_law_links:=rO (P:=l.prog) (w:=w) (mg:=mg) (base:=base) F15 T k_law_gaps k_law_tiles;have F20:Df K mg _ gE ["_law_rest","_law_most"]:=⟨D20.get X G λ_ _ _ _ _ _=>xW λ_ _=>rfl⟩
 have k_law_word:=tu (P:=l.prog) (w:=w) (mg:=mg) (base:=base) F20 T k_law_digit;have F1:Df K mg _ fN ["first","behind"]:=⟨D1.get X G λ_ _ _ _ _ _=>xW λ_ _=>rfl⟩
 have at_table_led:=F1.at_;have kxA_table_led:=λ(base:Heap) (Pf:IB->Hp->Addr->Prop) (φ:Fw) (hF:lO l.prog w K mg base 2 Pf φ)=>o7 (P:=l.prog) (w:=w) (mg:=mg) (base:=base) F1 T TC hF;have F12:Df K mg _ iI ["_law_rest","_law_most","_law_great"]:=⟨D12.get X G λ_ _ _ _ _ _=>EI λ_ _ _=>rfl⟩
 have k_law_fan:=vK (P:=l.prog) (w:=w) (mg:=mg) (base:=base) F12 k_law_digit k_law_fractions k_law_marks;have F17:Df K mg _ fU ["_law_fan_here"]:=⟨D17.get X G λ_ _ _ _ _ _=>DQ λ_=>rfl⟩
 have k_law_table:=qD (P:=l.prog) (w:=w) (mg:=mg) (base:=base) F17 k_law_anew k_law_links;have F22:Df K mg _ fK ["_law_table_here","_law_word_here"]:=⟨D22.get X G λ_ _ _ _ _ _=>xW λ_ _=>rfl⟩
 have k_law_home:=uA (P:=l.prog) (w:=w) (mg:=mg) (base:=base) F22 k_law_led k_word_to;have F5:Gu K mg _ n5 ["one","other"] _:=D5.get X G λ_ _ _ _ _ _=>xW λ_ _=>rfl
 have kx_meet:=Aa (P:=l.prog) (w:=w) (mg:=mg) (base:=base) F5 kxA_table_led at_table_led kA_pair_behind;have F19:Df K mg _ fQ ["_law_rest"]:=⟨D19.get X G λ_ _ _ _ _ _=>DQ λ_=>rfl⟩
 have k_law_drawn:=qX (P:=l.prog) (w:=w) (mg:=mg) (base:=base) F19 T k_law_anew k_law_digit k_law_fan k_law_table;have F23:Df K mg _ gz ["_law_one","_law_other","_law_both","_law_rest"]:=⟨D23.get X G λ_ _ _ _ _ _=>Iq λ_ _ _ _=>rfl⟩
 have k_law_good:=ua (P:=l.prog) (w:=w) (mg:=mg) (base:=base) F23 T k_law_home k_law_led k_law_word k_is_within;have F21:Df K mg _ gy ["_law_one","_law_other"]:=⟨D21.get X G λ_ _ _ _ _ _=>xW λ_ _=>rfl⟩
 have k_law_told:=ux (P:=l.prog) (w:=w) (mg:=mg) (base:=base) F21 TC kx_meet;exact Ez FL T k_law_big k_law_drawn k_law_good k_law_told
end KR
namespace PySem.W.Fast
theorem tw10769487091695317169:True:=trivial
theorem tw15459349699244886259:True:=trivial
theorem tw16183448502071354060:True:=trivial
theorem tw16365040160362224499:True:=trivial
theorem tw745831820774705201:True:=trivial
theorem tw15411056091513741454:True:=trivial
theorem tw10419437951847796284:True:=trivial
theorem tw175947935710581494:True:=trivial
theorem tw9938548622834198817:True:=trivial
theorem tw11412896391321157219:True:=trivial
theorem tw16430305554547678984:True:=trivial
theorem tw9450234281040324895:True:=trivial
theorem tw9734383064679486760:True:=trivial
theorem tw13183332562097463269:True:=trivial
theorem tw350293861462156807:True:=trivial
theorem tw4698244114193588379:True:=trivial
theorem tw13351224478917641646:True:=trivial
theorem tw3016802206370181684:True:=trivial
theorem tw6998275412684307480:True:=trivial
theorem tw8248810360649797859:True:=trivial
theorem tw6381882915899023265:True:=trivial
theorem tw16838522831983464439:True:=trivial
theorem tw7594070557737789851:True:=trivial
theorem tw7325250927846962248:True:=trivial
theorem tw1920637921628563054:True:=trivial
theorem tw7946587126573415606:True:=trivial
theorem tw7512212425319665034:True:=trivial
theorem tw6193159729441248598:True:=trivial
theorem tw3884803194400725806:True:=trivial
theorem tw3236003871542604732:True:=trivial
theorem tw74269557194162876:True:=trivial
theorem tw9624148029838975716:True:=trivial
theorem tw6484846917509832452:True:=trivial
theorem tw3355367783053380340:True:=trivial
theorem tw636522737626616584:True:=trivial
theorem tw14921618568298450037:True:=trivial
theorem tw1121735013078604546:True:=trivial
theorem tw6386054904514841861:True:=trivial
theorem tw16772623646092640402:True:=trivial
theorem tw17269473902274419688:True:=trivial
theorem tw3544847912205020754:True:=trivial
theorem tw2163566298746676903:True:=trivial
theorem tw11635324085256273205:True:=trivial
theorem tw1973488785380098281:True:=trivial
theorem tw17743059682109824813:True:=trivial
theorem tw3829096617475277544:True:=trivial
theorem tw14028599434518639878:True:=trivial
theorem tw16729175393567581526:True:=trivial
theorem tw13471582146228669287:True:=trivial
theorem tw14159266403510405165:True:=trivial
theorem tw15616931902025162369:True:=trivial
theorem tw17709262926669791606:True:=trivial
theorem tw1285795273971241910:True:=trivial
theorem tw12239017323776509919:True:=trivial
theorem tw11722469600801241825:True:=trivial
theorem tw5025030037690036963:True:=trivial
theorem tw8602316524956811489:True:=trivial
theorem tw7171924222715716761:True:=trivial
theorem tw9115075909198460872:True:=trivial
theorem tw7276925106544627707:True:=trivial
theorem tw12486859015103086399:True:=trivial
end PySem.W.Fast
open PySem PySem.W PyProof.Rows
set_option maxRecDepth 100000 in
set_option maxHeartbeats 0 in
theorem PySem.Challenge.cw_fanglue_k42_whole_meets_by_words_holds : PySem.Challenge.rw_fanglue_k42_whole_meets_by_words.Holds := by
 w_on;o_law;k_head;(case hw=>w_witness2)
 k_fill
 refine L2.BV (l:=PySem.Challenge.rw_fanglue_k42_whole_meets_by_words) (n:=63) (k:=6) (x:="_law_script") (CX:=λ_=>L2.yb) (sp:=λw=>L2.L3.ER _ (L2.L3.xE 63)) rfl (by decide) rfl ⟨rfl,by decide,by decide⟩ (λw=>by kernel_rfl) (λw=>by kernel_rfl) (λw h Y=>PySem.W.km_in_of Y) ?F (λ_ _ a ns hl hS=>L2.L3.DO hl hS) (λ_ _ _ _ _ z=>z)
 case F =>
  intro w mg fa h KX G hmg
  refine' KR.all_mk KX G hmg ?_ ?_ ?_ ?_ ?_ ?_ ?_ ?_ ?_ ?_ ?_ ?_ ?_ ?_ ?_ ?_ ?_ ?_ ?_ ?_ ?_ ?_ ?_ ?_ ?_ ?_ ?_ ?_ ?_ ?_ ?_ ?_ ?_ ?_ ?_ ?_ ?_ ?_ ?_ ?_ ?_ ?_ ?_ ?_ ?_ ?_ ?_ ?_ ?_
  rotate_left 2
  iterate 23 exact⟨⟨_,_,_,_,_,_,_,_,_,_,by k_is,by k_is,by k_is,by k_is⟩⟩
  exact⟨⟨_,_,_,_,_,_,_,_,_,_,by k_is,by k_is,by k_is,by k_is,L2.L3.FG (by rfl) (by k_is) (by rfl) (by rfl) (by rfl) (by rfl) (by rfl) (by rfl) (by rfl) (by rfl) (by decide) (by kernel_rfl)⟩⟩
  iterate 10 k_is
  iterate 2 (k_is)
  k_exc
  iterate 12 (k_is)
