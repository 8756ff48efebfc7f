import PyProof.Rows.All
import Wide.All
import OpenK.AllK
import Wide.FinOn
import Lean
import PyProof.EqAt
import PyProof.EqKinds
import PyProof.TupleCall
import PyProof.NeKinds
import PyProof.CompFree
import KE.KIsAll
import OpenK.KOwn
import PyProof.RulesAs
import KE.RegKIsAll
import PyProof.ExcAttrAll.ValueError
import KE.KUnpack
import PyProof.Rows.StrWeight2
import PyProof.StrBlockI
import OpenK.KTop
import PyProof.ListStr
import PyProof.EnumMake
import PyProof.TupleIter
import PyProof.ListRange
import PyProof.PassesOwn
import PyProof.ExcInit
import PyProof.InstStoreFacts
import PyProof.DictFindH
import PyProof.DictIter
import PyProof.DictWalks
import PyProof.DictCompW
import PyProof.DictUpdate
import PyProof.SumWalk
import PyProof.ZipIter
import PyProof.TupleOfStr
import PySem.Challenge.RW_fanglue_k46_cores
set_option Elab.async false
set_option linter.all false
set_option maxRecDepth 100000
open List renaming getElem?_eq_some_iff->G7,getElem?_set_ne->G9,getElem?_eq_getElem->Hb,getElem?_set_self->Hg,length_map->Hh,getElem?_map->Hi,mem_of_getElem?->Hm,mem_cons_of_mem->Hq,size_toArray->Hr,getElem?_append_right->Hu,getElem?_eq_none->Hv,getElem?_append_left->Hw,mem_cons->Hx,mem_cons_self->Hy,mem_singleton->HA,getElem?_cons_succ->HB,getElem?_cons_zero->HD,mem_map->HG,length_append->HH,getElem?_replicate->HI,mem_append->HJ,map_cons->HL,getElem?_of_mem->HM,not_mem_nil->HN,mem_append_right->HP,append_nil->HR,nodup_cons->HS,length_cons->HY,drop_eq_nil_of_le->Ib,getElem?_range->Ie,mem_range->Ig,length_nil->Ij,getElem_mem->Im,take_of_length_le->Io,getD_eq_getElem?_getD->Ip,nodup_append->Iu,take_succ->Iw,mem_append_left->IA,getElem?_drop->IC
open PySem renaming wpAny_bind->G8,wpAny_pure->Hd,sizeLine_eq->Ht,wpAny_mono->HE,wpAny_callSpecial?_slot->HQ,foldedSetIterable->HW
open PySem.W renaming Frag->Ha,mg_of->Il
open Bool renaming false_eq_true->He,and_true->IB
open PySem.Heap renaming get?_push_of_some->Hf,lt_size->Ho,get?_push_size->Hs
open Nat renaming lt_of_lt_of_le->Hk,le_refl->Hl,ne_of_lt->HC,lt_succ_iff_lt_or_eq->HF,zero_le->HU,le_trans->HX,not_lt_zero->Ia,lt_or_ge->Ih,le_of_lt->Iv,lt_of_le_of_lt->Iy
open Option.some renaming inj->Hn
open PySem.PassesOwn renaming never->HK
open Option renaming map_eq_some_iff->HV
open Array renaming getElem?_eq_some_iff->HZ,getElem?_toList->Ii
open Prod renaming ext->Ik
open Int renaming toNat_of_nonneg->Iq
open PySem.Calls renaming spliced_cons->Ir
namespace L2
open PySem PySem.Spec PyProof.Rows
abbrev Key:=Sum Int Str
def vi:Key->Value->Bool
 | .inl k,v=>Value.isInt k v
 | .inr x,v=>Value.isStrOf x v
def FO (w:World):Key->Int
 | .inl k=>hashInt k
 | .inr x=>hashStr w x
theorem bQ:∀{k:Key} {v:Value},vi k v=true->(∃i t,k=Sum.inl i/\v=Value.int i t)\/(∃x t,k=Sum.inr x/\v=Value.str x t)
 | .inl i,v,h=>by
  obtain⟨t,e⟩:=Value.isInt_shape (k:=i) (v:=v) h
  exact .inl ⟨i,t,rfl,e⟩
 | .inr x,v,h=>by
  obtain⟨t,e⟩:=Value.isStrOf_shape (x:=x) (v:=v) h;exact .inr ⟨x,t,rfl,e⟩
theorem xq (i:Int) (t:Tok):vi (.inl i) (.int i t)=true:=by simp [vi,Value.isInt]
theorem Dz (a b:Int):decide ((Sum.inl a:Key)=Sum.inl b)=(a == b):=by
 by_cases e:a=b
 ·subst e;simp
 ·have h:¬ (Sum.inl a:Key)=Sum.inl b:=λq=>e (Sum.inl.inj q);rw [decide_eq_false h];exact (beq_eq_false_iff_ne.mpr e).symm
theorem Cc (a b:Str):decide ((Sum.inr a:Key)=Sum.inr b)=decide (a=b):=by
 by_cases e:a=b
 ·subst e;simp
 ·have h:¬ (Sum.inr a:Key)=Sum.inr b:=λq=>e (Sum.inr.inj q);rw [decide_eq_false h,decide_eq_false e]
theorem CW (a:Int) (b:Str):decide ((Sum.inl a:Key)=Sum.inr b)=false:=decide_eq_false (λq=>nomatch q)
theorem BU (a:Str) (b:Int):decide ((Sum.inr a:Key)=Sum.inl b)=false:=decide_eq_false (λq=>nomatch q)
def qT (prog:Program) (w:World):PySem.KeyKind prog w Key where
 is:=vi
 hash:=FO w
 inj:=λv a b ha hb=>by
  rcases bQ ha with ⟨i,t,rfl,rfl⟩|⟨x,t,rfl,rfl⟩
  ·rcases bQ hb with ⟨j,u,rfl,e⟩|⟨y,u,rfl,e⟩
   ·injection e with e1 _;rw [e1]
   ·exact nomatch e
  ·rcases bQ hb with ⟨j,u,rfl,e⟩|⟨y,u,rfl,e⟩
   ·exact nomatch e
   ·injection e with e1 _;rw [e1]
 byValue:=λk v h=>by
  rcases bQ h with ⟨i,t,rfl,rfl⟩|⟨x,t,rfl,rfl⟩ <;> rfl
 pyHash:=λhv h=>by
  rcases bQ hv with ⟨i,t,rfl,rfl⟩|⟨x,t,rfl,rfl⟩
  ·exact wpAny_pyHash_int h
  ·exact wpAny_pyHash_str h
 eqBool:=λhu hv h=>by
  rcases bQ hu with ⟨i,t,rfl,rfl⟩|⟨x,t,rfl,rfl⟩
  ·rcases bQ hv with ⟨j,u,rfl,rfl⟩|⟨y,u,rfl,rfl⟩
   ·rw [Dz] at h;exact wpAny_eqBool_int h
   ·rw [CW] at h;exact SeqAt.EqAt.int_str i t y u _ _ _ _ h
  ·rcases bQ hv with ⟨j,u,rfl,rfl⟩|⟨y,u,rfl,rfl⟩
   ·rw [BU] at h;exact SeqAt.EqAt.str_int x t j u _ _ _ _ h
   ·rw [Cc] at h;exact wpAny_eqBool_str h
 «strs»:=λk x t v h=>by
  rcases bQ h with ⟨i,u,rfl,e⟩|⟨y,u,rfl,e⟩
  ·exact nomatch e
  ·injection e with e1 _
   subst e1;cases v <;> rfl
inductive V where
 | non|bl (b:Bool)|int (i:Int)|str (x:Str)|byt (b:Array UInt8)|flt (b:UInt64)|ref (a:Addr)|ty (n:String)
 deriving DecidableEq
def RelV:V->Value->Prop
 | .non,u=>u=Value.none
 | .bl b,u=>u=Value.bool b
 | .int i,u=>∃t,u=Value.int i t
 | .str x,u=>∃t,u=Value.str x t
 | .byt b,u=>∃t,u=Value.bytes b t
 | .flt b,u=>∃t,u=Value.float b t
 | .ref a,u=>u=Value.ref a
 | .ty n,u=>u=Value.type n
abbrev Vals:List V->List Value->Prop:=Paired RelV
theorem Vals.length {xs:List V} {us:List Value} (r:Vals xs us):xs.length=us.length:=Paired.length r
theorem Vals.get:∀{xs:List V} {us:List Value} {i:Nat} {x:V},Vals xs us->xs[i]?=some x->∃u,us[i]?=some u/\RelV x u
 | _,_,_,_,.nil,e=>by simp at e
 | _,_,0,_,.cons r _,e=>by simp at e;subst e;exact⟨_,rfl,r⟩
 | _,_,i + 1,x,.cons _ t,e=>by
  obtain⟨u,h1,h2⟩:=Vals.get (i:=i) (x:=x) t (by simpa using e);exact⟨u,by simpa using h1,h2⟩
theorem Vals.set {x:V} {u:Value} (r:RelV x u):∀{xs:List V} {us:List Value} (i:Nat),Vals xs us->Vals (xs.set i x) (us.set i u)
 | _,_,_,.nil=>.nil
 | _,_,0,.cons _ t=>.cons r t
 | _,_,i + 1,.cons q t=>.cons q (Vals.set r i t)
theorem Vals.append:∀{xs ys:List V} {us ws:List Value},Vals xs us->Vals ys ws->Vals (xs ++ ys) (us ++ ws)
 | _,_,_,_,.nil,s=>s
 | _,_,_,_,.cons r t,s=>.cons r (Vals.append t s)
theorem Vals.take:∀{xs:List V} {us:List Value} (n:Nat),Vals xs us->Vals (xs.take n) (us.take n)
 | _,_,0,_=>.nil
 | _,_,_ + 1,.nil=>.nil
 | _,_,n + 1,.cons r t=>.cons r (Vals.take n t)
theorem Vals.drop:∀{xs:List V} {us:List Value} (n:Nat),Vals xs us->Vals (xs.drop n) (us.drop n)
 | _,_,0,r=>r
 | _,_,_ + 1,.nil=>.nil
 | _,_,n + 1,.cons _ t=>Vals.drop n t
def E6:Option V->Option Value->Prop
 | some v,some u=>RelV v u
 | none,none=>True
 | _,_=>False
def KV {κ:Type}:List (κ×V)->List (κ×Value)->Prop:=Paired λ(p:κ×V) (q:κ×Value)=>p.1=q.1/\RelV p.2 q.2
def kV:Key->V
 | .inl i=>.int i
 | .inr x=>.str x
inductive HO where
 | lst (xs:List V)
 | tup (xs:List V)
 | dK (kvs:List (Key×V))|dT (kvs:List (List Key×V))
 | set (S:Int->Bool) (n:Nat)
 | ins (C dx:Addr) (fs:List (Str×V))
 | own (x:Addr)
 | xd (fs:List (Str×V))
 | met (f x:Addr)
 | rng (lo hi:Int)
 | frz (o:Obj) (u:HO)
 | pL (q:Str)
 | cdr (c:Addr) (q:Str)
 | ext (φ:Heap->Prop)
abbrev Hp:=Addr->Option HO
def upd (H:Hp) (a:Addr) (o:HO):Hp:=λb=>if b=a then some o else H b
theorem ao {H:Hp} {a:Addr} {o:HO}:upd H a o a=some o:=by unfold upd;rw [if_pos rfl]
theorem aj {H:Hp} {a b:Addr} {o:HO} (h:b≠a):upd H a o b=H b:=by unfold upd;rw [if_neg h]
theorem bc {H:Hp} {a b:Addr} {o:HO} (h:H a=some o) (h':H b=none):a≠b:=by
 intro e;subst e;rw [h] at h';cases h'
def oM (h:Heap) (a:Addr) (its:Array Value):Prop:=∃o,h.get? a=some o/\o.cls=.type "tuple"/\(∃n,o.data=.seq its n)/\o.dict=none
theorem oM.tup {h:Heap} {a:Addr} {its:Array Value} (x:oM h a its):IsTup h a its:=let ⟨o,e,c,d,_⟩:=x;⟨o,e,c,d⟩
theorem oM.new (h:Heap) (its:Array Value):oM (h.push { cls:=.type "tuple",data:=.seq its }) h.objs.size its:=⟨_,Hs _ rfl,rfl,⟨_,rfl⟩,rfl⟩
section
variable (P:Program) (w:World)
def bL (H:Hp) (h:Heap) (a:Addr):HO->Prop
 | .lst xs=>xs.length<=sizeLine/\∃(its:List Value) (n:Nat),Vals xs its/\h.get? a=some { cls:=.type "list",data:=.seq its.toArray n }
 | .tup xs=>xs.length<=sizeLine/\∃its:List Value,Vals xs its/\oM h a its.toArray
 | .dK kvs=>kvs.length<=sizeLine/\(a == sysModules)=false/\∃vs,KV kvs vs/\h.DictOf (qT P w) a vs
 | .dT kvs=>kvs.length<=sizeLine/\(a == sysModules)=false/\∃xs:List (List Key×Addr×Value),
   Paired (λ(p:List Key×V) (q:List Key×Addr×Value)=>p.1=q.1/\H q.2.1=some (.tup (p.1.map kV))/\RelV p.2 q.2.2) kvs xs /\
   ∃o es ep,h.get? a=some o/\o.ExactDict/\o.data=.dict es ep/\es.toList=xs.map (entryOfKey (tupleKind (qT P w)))/\(xs.map (·.1)).Nodup
 | .set S n=>h.SetOf (intKind P w) a S n
 | .ins C dx fs=>H dx=some (.own a)/\fs.length<=1000/\dx≠a/\h.get? a=some (PySem.W.instObj C dx) /\
   ∃mA,h.Ns1 dx mA/\(∀f,E6 (fs.lookup f) (mA f))/\PySem.Within mA (fs.map (·.1))
 | .own _=>∃o,h.get? a=some o
 | .xd fs=>∃mA,h.Ns1 a mA/\∀f,E6 (fs.lookup f) (mA f)
 | .rng lo hi=>∃t u v,h.get? a=some { cls:=.type "range",data:=.fields #[.int lo t,.int hi u,.int 1 v] }
 | .frz o u=>h.get? a=some o/\bL H h a u
 | .pL q=>∃ps:Array Value,h.get? a=some { cls:=.none,data:=.fields ps }/\TriplesOk ps.toList/\∀pos cv,codeAmong pos ps.toList=some cv->∃c oc vs t,cv=.ref c/\H c=some (.frz oc (.own c))/\oc.data=.fields vs/\vs[1]?=some (.str q t)
 | .cdr c q=>(∃o,h.get? a=some o)/\∃oc vs t,H c=some (.frz oc (.own c))/\oc.data=.fields vs/\vs[1]?=some (.str q t)
 | .met f x=>h.get? a=some (PySem.W.methodObj (.ref f) (.ref x))
 | .ext φ=>φ h/\(∃o,h.get? a=some o)/\∀h1 h2:Heap,φ h1->(∀o,h1.get? a=some o->h2.get? a=some o)->φ h2
def kA (H:Hp) (h:Heap):Prop:=∀a o,H a=some o->bL P w H h a o
end
section
variable {P:Program} {w:World} {H H':Hp} {h h':Heap} {a:Addr} {o:HO}
theorem bL.lt (x:bL P w H h a o):a < h.objs.size:=by
 cases o with
 | lst xs=>obtain⟨_,_,_,_,e⟩:=x;exact Ho e
 | tup xs=>obtain⟨_,_,_,p⟩:=x;exact p.tup.lt
 | dK kvs=>obtain⟨_,_,_,_,o,_,_,e,_⟩:=x;exact Ho e
 | dT kvs=>obtain⟨_,_,_,_,o,_,_,e,_⟩:=x;exact Ho e
 | set S n=>obtain⟨o,_,_,_,e,_⟩:=x;exact Ho e
 | ins C dx fs=>obtain⟨_,_,_,e,_⟩:=x;exact Ho e
 | own y=>obtain⟨_,e⟩:=x;exact Ho e
 | xd fs=>obtain⟨_,⟨_,_,_,e,_⟩,_⟩:=x;exact Ho e
 | rng lo hi=>obtain⟨_,_,_,e⟩:=x;exact Ho e
 | frz ob u=>obtain⟨e,_⟩:=x;exact Ho e
 | pL q=>obtain⟨_,e,_⟩:=x;exact Ho e
 | cdr c q=>obtain⟨⟨_,e⟩,_⟩:=x;exact Ho e
 | met f y=>exact Ho (show h.get? a=some _ from x)
 | ext φ=>obtain⟨_,⟨_,e⟩,_⟩:=x;exact Ho e
theorem Paired.EV {α β:Type} {F G:α->β->Prop}:∀{l₁:List α} {l₂:List β},Paired F l₁ l₂->(∀a b,F a b->G a b)->Paired G l₁ l₂
 | _,_,.nil,_=>.nil
 | _,_,.cons r t,f=>.cons (f _ _ r) (Paired.EV t f)
theorem bL.mn (x:bL P w H h a o) (k:∀b u,(b=a\/H b=some (.own a))->h.get? b=some u->h'.get? b=some u)
  (ho:∀b,H b=some (.own a)->H' b=some (.own a)) (ht:∀b xs,H b=some (.tup xs)->H' b=some (.tup xs)) (hz:∀b o u,H b=some (.frz o u)->H' b=some (.frz o u)):bL P w H' h' a o:=by
 induction o with
 | lst xs=>obtain⟨z,its,n,r,e⟩:=x;exact⟨z,its,n,r,k _ _ (.inl rfl) e⟩
 | tup xs=>obtain⟨z,its,r,ob,e,c⟩:=x;exact⟨z,its,r,ob,k _ _ (.inl rfl) e,c⟩
 | dK kvs=>obtain⟨z,y,vs,r,ob,es,ep,e,c⟩:=x;exact⟨z,y,vs,r,ob,es,ep,k _ _ (.inl rfl) e,c⟩
 | dT kvs =>
  obtain⟨z,y,xs,r,ob,es,ep,e,c⟩:=x
  exact⟨z,y,xs,Paired.EV r λp q z=>⟨z.1,ht _ _ z.2.1,z.2.2⟩,ob,es,ep,k _ _ (.inl rfl) e,c⟩
 | set S n=>obtain⟨ob,es,ep,t,e,c⟩:=x;exact⟨ob,es,ep,t,k _ _ (.inl rfl) e,c⟩
 | ins C dx fs =>
  obtain⟨d,z,ne,e,mA,⟨od,es,ep,e2,c⟩,r⟩:=x
  exact⟨ho _ d,z,ne,k _ _ (.inl rfl) e,mA,⟨od,es,ep,k _ _ (.inr d) e2,c⟩,r⟩
 | own y=>obtain⟨ob,e⟩:=x;exact⟨ob,k _ _ (.inl rfl) e⟩
 | xd fs=>obtain⟨mA,⟨od,es,ep,e,c⟩,r⟩:=x;exact⟨mA,⟨od,es,ep,k _ _ (.inl rfl) e,c⟩,r⟩
 | rng lo hi=>obtain⟨t,u,v,e⟩:=x;exact⟨t,u,v,k _ _ (.inl rfl) e⟩
 | frz ob u ih=>obtain⟨e,q⟩:=x;exact⟨k _ _ (.inl rfl) e,ih q⟩
 | pL q =>
  obtain⟨ps,e,t,r⟩:=x;refine⟨ps,k _ _ (.inl rfl) e,t,λpos cv hc=>?_⟩;obtain⟨c,oc,vs,tt,e1,e2,e3⟩:=r pos cv hc
  exact⟨c,oc,vs,tt,e1,hz _ _ _ e2,e3⟩
 | cdr c q =>
  obtain⟨⟨o,e⟩,oc,vs,t,r1,r2⟩:=x
  exact⟨⟨o,k _ _ (.inl rfl) e⟩,oc,vs,t,hz _ _ _ r1,r2⟩
 | met f y =>
  have e:h.get? a=some (PySem.W.methodObj (.ref f) (.ref y)):=x;show h'.get? a=some (PySem.W.methodObj (.ref f) (.ref y))
  exact k a _ (.inl rfl) e
 | ext φ=>obtain⟨p,⟨o,e⟩,st⟩:=x;exact⟨st _ _ p λo q=>k _ _ (.inl rfl) q,⟨o,k _ _ (.inl rfl) e⟩,st⟩
theorem kA.lt (x:kA P w H h) (e:H a=some o):a < h.objs.size:=(x a o e).lt
theorem kA.fresh (x:kA P w H h) (e:h.objs.size<=a):H a=none:=by
 cases q:H a with
 | none=>rfl
 | some u=>exact absurd (Hk (x.lt q) e) (Nat.lt_irrefl _)
theorem kA.kept (x:kA P w H h) (k:∀b u,h.get? b=some u->h'.get? b=some u):kA P w H h':=λa o e =>
 (x a o e).mn (λb u _ q=>k b u q) (λ_ q=>q) (λ_ _ q=>q) λ_ _ _ q=>q
theorem kA.laid (x:kA P w H h) (k:∀b u,h.get? b=some u->h'.get? b=some u) (hp:h.objs.size<=a) (new:bL P w (upd H a o) h' a o):kA P w (upd H a o) h':=λb u e=>by
 have hn:=x.fresh hp
 by_cases hb:b=a
 ·subst hb;rw [ao] at e;cases e;exact new
 ·rw [aj hb] at e;exact (x b u e).mn (λc v _ q=>k c v q) (λc q=>by rw [aj (bc q hn)];exact q) (λc xs q=>by rw [aj (bc q hn)];exact q) λc o xs q=>by rw [aj (bc q hn)];exact q
end
def Rd (H:Hp) (a:Addr) (u:HO):Prop:=H a=some u\/∃o,H a=some (.frz o u)
theorem Rd.ok {P:Program} {w:World} {H:Hp} {h:Heap} {a:Addr} {u:HO} (r:Rd H a u) (x:kA P w H h):bL P w H h a u:=by
 rcases r with r|⟨o,r⟩
 ·exact x a u r
 ·obtain⟨_,q⟩:=x a _ r;exact q
def EC:Option HO->Prop
 | some (.lst _)=>True
 | some (.dK _)=>True
 | some (.dT _)=>True
 | some (.set _ _)=>True
 | some (.ins _ _ _)=>True
 | some (.ext _)=>True
 | _=>False
section
variable {P:Program} {w:World} {H:Hp} {h h':Heap} {x e:Addr} {o':HO}
theorem kA.write (ok:kA P w H h) (mu:EC (H x)) (he:e=x\/H e=some (.own x)) (k:∀b u,b≠e->h.get? b=some u->h'.get? b=some u) (heo:∃u,h'.get? e=some u)
  (new:bL P w (upd H x o') h' x o'):kA P w (upd H x o') h':=λb u q=>by
 have nown:∀c y,H c=some (.own y)->c≠x:=λc y r z=>by subst z;rw [r] at mu;exact mu
 have ntup:∀c xs,H c=some (.tup xs)->c≠x:=λc xs r z=>by subst z;rw [r] at mu;exact mu
 have nfrz:∀c o xs,H c=some (.frz o xs)->c≠x:=λc o xs r z=>by subst z;rw [r] at mu;exact mu
 by_cases hb:b=x
 ·subst hb;rw [ao] at q;cases q;exact new
 ·rw [aj hb] at q
  by_cases hbe:b=e
  ·have q':H b=some (.own x):=by
    rcases he with z|z
    ·exact absurd (hbe.trans z) hb
    ·rw [hbe];exact z
   rw [q] at q';cases q';obtain⟨v,hv⟩:=heo;exact⟨v,by rw [hbe];exact hv⟩
  ·refine (ok b u q).mn (λc v hc r=>k c v ?_ r) (λc r=>by rw [aj (nown c b r)];exact r) (λc xs r=>by rw [aj (ntup c xs r)];exact r) λc o xs r=>by rw [aj (nfrz c o xs r)];exact r
   rcases hc with rfl|hc
   ·exact hbe
   ·rintro rfl;rcases he with z|z
    ·exact nown c b hc z
    ·rw [hc] at z;cases z;exact hb rfl
end
structure Un (fs ex:List Addr) (H H':Hp) (h h':Heap):Prop where
 keep:∀b o,h.get? b=some o->H b=none->b∉fs->b∉ex->h'.get? b=some o
 slot:∀b o,h.get? b=some o->H b=none->b∈fs->b∉ex->∃sl,h'.get? b=some { o with slots:=sl }
 free:∀b o,h.get? b=some o->H b=none->b∉ex->H' b=none
 there:∀b o,h.get? b=some o->b∉ex->∃o',h'.get? b=some o'
 tups:∀b xs,H b=some (.tup xs)->H' b=some (.tup xs)
 frzs:∀b o u,H b=some (.frz o u)->H' b=some (.frz o u)
 tbls:∀b q,H b=some (.pL q)->H' b=some (.pL q)
section
variable {fs fs' ex ex':List Addr} {H H1 H2:Hp} {h h1 h2 h':Heap} {a x e:Addr} {o:HO}
theorem Un.any (u:Un fs ex H H1 h h1) {b:Addr} {ob:Obj} (q:h.get? b=some ob) (n:H b=none) (hx:b∉ex):∃sl,h1.get? b=some { ob with slots:=sl }:=by
 by_cases hb:b∈fs
 ·exact u.slot b ob q n hb hx
 ·exact⟨ob.slots,u.keep b ob q n hb hx⟩
theorem Un.kept (k:∀b u,h.get? b=some u->h'.get? b=some u):Un fs ex H H h h' :=
 ⟨λb ob q _ _ _=>k b ob q,λb ob q _ _ _=>⟨ob.slots,k b ob q⟩,λ_ _ _ n _=>n,λb ob q _=>⟨ob,k b ob q⟩,λ_ _ q=>q,λ_ _ _ q=>q,λ_ _ q=>q⟩
theorem Un.refl:Un fs ex H H h h:=Un.kept λ_ _ q=>q
theorem Un.laid (k:∀b u,h.get? b=some u->h'.get? b=some u) (hp:h.objs.size<=a) (hn:H a=none):Un fs ex H (upd H a o) h h' where
 keep:=λb u q _ _ _=>k b u q
 slot:=λb u q _ _ _=>⟨u.slots,k b u q⟩
 free:=λb u q n _=>by rw [aj (HC (Hk (Ho q) hp))];exact n
 there:=λb u q _=>⟨u,k b u q⟩
 tups:=λb xs q=>by rw [aj (bc q hn)];exact q
 frzs:=λb u xs q=>by rw [aj (bc q hn)];exact q
 tbls:=λb ps q=>by rw [aj (bc q hn)];exact q
theorem Un.write (mu:EC (H x)) (he:e=x\/H e=some (.own x)) (k:∀b u,b≠e->h.get? b=some u->h'.get? b=some u) (heo:∃u,h'.get? e=some u):Un fs ex H (upd H x o) h h':=by
 have hx:∀b,H b=none->b≠x:=λb n z=>by subst z;rw [n] at mu;exact mu
 have hb:∀b,H b=none->b≠e:=λb n z=>by
  subst z;rcases he with r|r
  ·exact hx b n r
  ·rw [n] at r;cases r
 have hm:∀b u,H b=some u->¬ EC (some u)->b≠x:=λb u q nm z=>by subst z;rw [q] at mu;exact nm mu
 refine⟨λb u q n _ _=>k b u (hb b n) q,λb u q n _ _=>⟨u.slots,k b u (hb b n) q⟩,λb u q n _=>by rw [aj (hx b n)];exact n,λb u q _=>?_,
  λb xs q=>by rw [aj (hm b _ q λz=>z)];exact q,λb u xs q=>by rw [aj (hm b _ q λz=>z)];exact q,λb ps q=>by rw [aj (hm b _ q λz=>z)];exact q⟩
 by_cases hbe:b=e
 ·subst hbe;exact heo
 ·exact⟨u,k b u hbe q⟩
end
def BV (h:Heap) (H:Hp):List Addr:=(List.range h.objs.size).filter λa=>(H a).isSome
def qV (h:Heap) (H:Hp):Heap:=PySem.W.hideAll h (BV h H)
theorem wt (h:Heap) (H:Hp):(qV h H).objs.size=h.objs.size:=PySem.W.hideAll_size _ _
theorem xG {h:Heap} {H:Hp} {b:Addr} {o:Obj} (e:h.get? b=some o) (n:H b=none):(qV h H).get? b=some o :=
 PySem.W.hideAll_get _ e λhm=>by
  have q:(H b).isSome=true:=(List.mem_filter.mp hm).2;rw [n] at q;simp at q
theorem As {h:Heap} {H:Hp} {b:Addr} {o:Obj} (e:(qV h H).get? b=some o):h.get? b=some o/\H b=none:=by
 have e':h.get? b=some o:=PySem.W.of_hideAll (BV h H) e;refine⟨e',?_⟩
 cases q:H b with
 | none=>rfl
 | some x =>
  have hm:b∈BV h H:=List.mem_filter.mpr ⟨Ig.mpr (Ho e'),by simp [q]⟩;have z:(qV h H).get? b=none:=PySem.W.hideAll_none (BV h H) hm;rw [z] at e;cases e
structure Mod (K:Ha) (mg:Str->Option Value) (base:Heap):Prop where
 kin:K.In base
 glob:base.Ns mainGlobals mg
 blt:∃mb,base.Ns builtinsNs mb/\∀x:Str,x≠"__name__"->mb x=bootBuiltins x
 nolimit:base.NoLimit
 bm:∃bm ob,mg "__builtins__" = some (.ref bm)/\bm≠builtinsNs/\base.get? bm=some ob/\ob.cls=.type "module"/\ob.dict=some builtinsNs/\ob.data=.plain
structure Cx where
 prog:Program
 w:World
 K:Ha
 mg:Str->Option Value
 base:Heap
 A:Around
 N:List Str
 s₀:Shared
 H₀:Hp
 env:Env
 outer:List Env
 stack:List Env
 ex:List Addr
 fn:Str->Bool
 calm:Bool
 pn:List (Addr×Obj)
 xe:Value->Shared->Prop
def jx (l:List Env):List Addr:=l.filterMap (·.frame)
abbrev Cx.fs (X:Cx):List Addr:=jx X.outer
def jW:List (Str×Str):=[("meet","meet.<locals>.<lambda>"),("core","core.<locals>.<lambda>"),("by_rests","by_rests.<locals>.behind")]
def tq (K:Ha) (b:Addr):Option Str:=(jW.find? λp=>match PySem.W.tabIn K p.1 with|some (_,P)=>P == b|none=>false).map (·.2)
def AR (K:Ha) (H:Hp):Prop:=∀b q,tq K b=some q->H b=some (.pL q)
def qF (sc:Scope) (x:Str):Prop:=sc.names.lookup x=some .local\/sc.names.lookup x=some .cell\/sc.names.lookup x=some .free
def Loc (sc:Scope) (x:Str):Prop:=sc.names.lookup x=some .local\/sc.names.lookup x=some .cell
def Look (env:Env) (h:Heap) (m:Str->Option Value) (x:Str) (u:Value):Prop :=
 (env.kindOf x=some .local/\m x=some u)\/((env.kindOf x=some .cell\/env.kindOf x=some .free)/\∃c,env.cells.lookup x=some c/\h.IsCell c (some u))
structure Cx.Ok (X:Cx):Prop where
 mod:Mod X.K X.mg X.base
 kind:X.env.scope.kind=.function
 glob:X.env.globals=mainGlobals
 blt:X.env.builtins=builtinsNs
 above:X.s₀.heap.objs.size<=X.env.locals
 inj:∀x y c,X.env.cells.lookup x=some c->X.env.cells.lookup y=some c->x=y
 has:∀x,(X.env.kindOf x=some .cell\/X.env.kindOf x=some .free)->∃c,X.env.cells.lookup x=some c
 cab:∀x c,X.fn x=true->X.env.cells.lookup x=some c->X.s₀.heap.objs.size<=c
 hd:X.calm=true->X.A.handled=none
 frames:X.A.frames=some X.stack
 stk:X.stack=X.outer\/(X.stack=X.env :: X.outer/\X.env.frame=some X.env.locals)
 exf:∀b∈X.ex,b≠X.env.locals/\∀x c,X.env.cells.lookup x=some c->c≠b
 bs:∀b o,X.base.get? b=some o->X.s₀.heap.get? b=some o/\X.H₀ b=none
 bsz:X.base.objs.size<=X.s₀.heap.objs.size
 noex:∀b o,X.base.get? b=some o->b∉X.ex
 exfs:∀b∈X.ex,b∉X.fs
 iT:X.s₀.heap.FunFrames X.base X.outer
 frf:(∀b∈X.fs,X.H₀ b=none)/\AR X.K X.H₀
structure Inv (X:Cx) (pins:List (Addr×Obj)) (σ:List (Option V)) (H:Hp) (s:Shared):Prop where
 ok:X.Ok
 os:s.os=X.s₀.os
 bare:AllBare s.gens
 base:Un X.fs X.ex X.H₀ H X.s₀.heap s.heap
 loc:∃m,s.heap.Ns X.env.locals m/\∀(i:Nat) (x:Str) (v:V),X.N[i]?=some x->σ[i]?=some (some v)->qF X.env.scope x->∃u,RelV v u/\Look X.env s.heap m x u
 cell:∀x c,X.env.cells.lookup x=some c->∃v,s.heap.IsCell c v
 free:H X.env.locals=none
 freeC:∀x c,X.env.cells.lookup x=some c->H c=none
 pin:∀p∈X.pn ++ pins,s.heap.get? p.1=some p.2/\H p.1=none/\p.1≠X.env.locals/\p.1∉X.fs/\∀v,p.2.data≠.cell v
 hok:kA X.prog X.w H s.heap
 len:σ.length=X.N.length
section
variable {X:Cx} {pins:List (Addr×Obj)} {σ:List (Option V)} {H H':Hp} {s:Shared} {h':Heap}
theorem Cx.Ok.Ga (ok:X.Ok) {b:Addr} {o:Obj} (e:X.base.get? b=some o):b∉X.fs:=λhb=>by
 have:=(ok.iT.mem hb).1;rw [e] at this;cases this
theorem Inv.bs (I:Inv X pins σ H s):∀b o,X.base.get? b=some o->s.heap.get? b=some o/\H b=none:=λb o e =>
 ⟨I.base.keep b o (I.ok.bs b o e).1 (I.ok.bs b o e).2 (I.ok.Ga e) (I.ok.noex b o e),I.base.free b o (I.ok.bs b o e).1 (I.ok.bs b o e).2 (I.ok.noex b o e)⟩
theorem Inv.bk (I:Inv X pins σ H s):∀b o,X.base.get? b=some o->s.heap.get? b=some o:=λb o e=>(I.bs b o e).1
theorem Inv.mod (I:Inv X pins σ H s):Mod X.K X.mg X.base:=I.ok.mod
theorem Inv.oh (I:Inv X pins σ H s):X.K.In s.heap:=I.ok.mod.kin.keeps I.bk
theorem Inv.lt (I:Inv X pins σ H s):X.env.locals < s.heap.objs.size:=let ⟨_,hn,_⟩:=I.loc;hn.lt
theorem Inv.sz (I:Inv X pins σ H s):X.s₀.heap.objs.size<=s.heap.objs.size:=HX I.ok.above (Iv I.lt)
theorem Inv.FZ (I:Inv X pins σ H s) {a:Addr} (h:s.heap.objs.size<=a):a∉X.fs:=λhb=>by
 obtain⟨_,o,ho,_⟩:=I.ok.iT.mem hb;exact absurd (Hk (Ho ho) (HX I.sz h)) (Nat.lt_irrefl _)
theorem Inv.zZ (I:Inv X pins σ H s):∀x c,X.env.cells.lookup x=some c->c≠X.env.locals:=λx c e z=>by
 obtain⟨v,o,ho,hd⟩:=I.cell x c e;obtain⟨m,⟨o',es,ep,ho',hd',_⟩,_⟩:=I.loc;rw [z,ho'] at ho;cases ho;rw [hd'] at hd;cases hd
theorem Inv.iT (I:Inv X pins σ H s):s.heap.FunFrames X.base X.outer:=by
 have all:∀(l:List Env),(∀b∈jx l,b∈X.fs)->X.s₀.heap.FunFrames X.base l->s.heap.FunFrames X.base l:=by
  intro l
  induction l with
  | nil=>intro _ _;trivial
  | cons env r ih =>
   intro hs hl;obtain⟨hk,⟨L,o,hf,hn,ho,hd⟩,hr⟩:=hl;have hL:L∈X.fs:=hs L (by unfold jx;rw [List.filterMap_cons,hf];exact Hy);obtain⟨sl,e⟩:=I.base.slot L o ho (I.ok.frf.1 L hL) hL λz=>I.ok.exfs L z hL;exact⟨hk,⟨L,_,hf,hn,e,hd⟩,ih (λb hb=>hs b (by unfold jx;rw [List.filterMap_cons,hf];exact Hq _ hb)) hr⟩
 exact all X.outer (λ_ hb=>hb) I.ok.iT
theorem Inv.stack (I:Inv X pins σ H s):s.heap.FunFrames X.base X.stack:=by
 rcases I.ok.stk with e|⟨e,hf⟩
 ·rw [e];exact I.iT
 ·rw [e];obtain⟨m,hn,_⟩:=I.loc;refine .cons (by rw [I.ok.kind];decide) hf hn ?_ I.iT;exact Heap.get?_none_of_le (HX I.ok.bsz I.ok.above)
theorem Inv.kU (I:Inv X pins σ H s):∀b∈jx X.stack,b∈X.env.locals :: X.fs:=λb hb=>by
 rcases I.ok.stk with e|⟨e,hf⟩
 ·rw [e] at hb;exact Hq _ hb
 ·rw [e] at hb;unfold jx at hb;rw [List.filterMap_cons,hf] at hb;exact hb
theorem Inv.mG (I:Inv X pins σ H s):∀b∈jx X.stack,H b=none:=λb hb=>by
 rcases Hx.mp (I.kU b hb) with e|hb
 ·rw [e];exact I.free
 ·obtain⟨_,o,ho,_⟩:=I.ok.iT.mem hb;exact I.base.free b o ho (I.ok.frf.1 b hb) λz=>I.ok.exfs b z hb
theorem Inv.tb (I:Inv X pins σ H s):AR X.K H:=λb q e=>I.base.tbls b q (I.ok.frf.2 b q e)
theorem Inv.step {g':Array GenState} {t':Nat} {d':Drawn} {ch:List Addr} (I:Inv X pins σ H s)
  (hch:∀b∈ch,(b∈X.ex\/X.s₀.heap.objs.size<=b)/\b≠X.env.locals/\(∀x c,X.env.cells.lookup x=some c->c≠b)/\∀p∈X.pn ++ pins,p.1≠b)
  (keep:∀b o,b≠X.env.locals->b∉X.fs->b∉ch->s.heap.get? b=some o->H b=none->h'.get? b=some o)
  (slot:∀b o,b≠X.env.locals->b∈X.fs->b∉ch->s.heap.get? b=some o->H b=none->∃sl,h'.get? b=some { o with slots:=sl }) (free:∀b o,b∉ch->s.heap.get? b=some o->H b=none->H' b=none)
  (there:∀b o,b∉ch->s.heap.get? b=some o->∃o',h'.get? b=some o')
  (tups:∀b xs,H b=some (.tup xs)->H' b=some (.tup xs)) (frzs:∀b o u,H b=some (.frz o u)->H' b=some (.frz o u)) (tbls:∀b q,H b=some (.pL q)->H' b=some (.pL q))
  (ns:∀m,s.heap.Ns X.env.locals m->h'.Ns X.env.locals m) (hok:kA X.prog X.w H' h') (hg:AllBare g') :
  Inv X pins σ H' { s with heap:=h',gens:=g',drawn:=d',toks:=t' }:=by
 have neL:∀b o,X.s₀.heap.get? b=some o->b≠X.env.locals:=λb o e=>HC (Hk (Ho e) I.ok.above)
 have neC:∀b o,X.s₀.heap.get? b=some o->b∉X.ex->b∉ch:=λb o e hx hb=>by
  rcases (hch b hb).1 with z|z
  ·exact hx z
  ·exact absurd (Hk (Ho e) z) (Nat.lt_irrefl _)
 have cellK:∀x c,X.env.cells.lookup x=some c->∀v,s.heap.IsCell c v->h'.IsCell c v:=λx c e v ⟨o,ho,hd⟩=>by
  have nch:c∉ch:=λz=>(hch c z).2.2.1 x c e rfl
  by_cases hc:c∈X.fs
  ·obtain⟨sl,q⟩:=slot c o (I.zZ x c e) hc nch ho (I.freeC x c e);exact⟨_,q,hd⟩
  ·exact⟨o,keep c o (I.zZ x c e) hc nch ho (I.freeC x c e),hd⟩
 refine⟨I.ok,I.os,hg,⟨λb o e n hb hx=>?_,λb o e n hb hx=>?_,λb o e n hx=>?_,λb o e hx=>?_,λb xs e=>tups b xs (I.base.tups b xs e),λb o xs e=>frzs b o xs (I.base.frzs b o xs e),λb q e=>tbls b q (I.base.tbls b q e)⟩,?_,λx c e=>?_,?_,λx c e=>?_,λp hp=>?_,hok,I.len⟩
 ·exact keep b o (neL b o e) hb (neC b o e hx) (I.base.keep b o e n hb hx) (I.base.free b o e n hx)
 ·obtain⟨sl,e1⟩:=I.base.slot b o e n hb hx;obtain⟨sl',e2⟩:=slot b _ (neL b o e) hb (neC b o e hx) e1 (I.base.free b o e n hx);exact⟨sl',e2⟩
 ·obtain⟨o',e1⟩:=I.base.there b o e hx;exact free b o' (neC b o e hx) e1 (I.base.free b o e n hx)
 ·obtain⟨o',e1⟩:=I.base.there b o e hx;exact there b o' (neC b o e hx) e1
 ·obtain⟨m,hn,hl⟩:=I.loc;refine⟨m,ns m hn,λi x v e1 e2 e3=>?_⟩;obtain⟨u,r,l⟩:=hl i x v e1 e2 e3;refine⟨u,r,?_⟩;rcases l with l|⟨k,c,e,z⟩
  ·exact .inl l
  ·exact .inr ⟨k,c,e,cellK x c e _ z⟩
 ·obtain⟨v,z⟩:=I.cell x c e;exact⟨v,cellK x c e v z⟩
 ·obtain⟨m,⟨o,_,_,ho,_⟩,_⟩:=I.loc;exact free _ o (λz=>(hch _ z).2.1 rfl) ho I.free
 ·obtain⟨v,o,ho,hd⟩:=I.cell x c e;exact free c o (λz=>(hch c z).2.2.1 x c e rfl) ho (I.freeC x c e)
 ·obtain⟨e,n,ne,nf,d⟩:=I.pin p hp;have nch:p.1∉ch:=λz=>(hch p.1 z).2.2.2 p hp rfl;exact⟨keep p.1 p.2 ne nf nch e n,free p.1 p.2 nch e n,ne,nf,d⟩
theorem Inv.un {t':Nat} (I:Inv X pins σ H s) (u:Un X.fs [] H H' s.heap h') (hok:kA X.prog X.w H' h'):Inv X pins σ H' { s with heap:=h',toks:=t' }:=by
 obtain⟨m,⟨o,es,ep,ho,r⟩,_⟩:=id I.loc;obtain⟨sl,hL⟩:=u.any ho I.free (by simp)
 exact I.step (g':=s.gens) (d':=s.drawn) (ch:=[]) (λ_ z=>nomatch z) (λb o _ hb _ e n=>u.keep b o e n hb (by simp)) (λb o _ hb _ e n=>u.slot b o e n hb (by simp)) (λb o _ e n=>u.free b o e n (by simp)) (λb o _ e=>u.there b o e (by simp)) u.tups u.frzs u.tbls (λm' hm=>by
  obtain⟨o',es',ep',ho',r'⟩:=hm;rw [ho] at ho';cases ho'
  exact⟨_,es',ep',hL,r'⟩) hok I.bare
theorem Inv.call {g':Array GenState} {t':Nat} {d':Drawn} {ch:List Addr} (I:Inv X pins σ H s) (u:Un (jx X.stack) ch H H' s.heap h') (hok:kA X.prog X.w H' h') (hg:AllBare g')
  (hch:∀b∈ch,(b∈X.ex\/X.s₀.heap.objs.size<=b)/\b≠X.env.locals/\(∀x c,X.env.cells.lookup x=some c->c≠b)/\∀p∈X.pn ++ pins,p.1≠b) :
  Inv X pins σ H' { s with heap:=h',gens:=g',drawn:=d',toks:=t' }:=by
 obtain⟨m,⟨o,es,ep,ho,r⟩,_⟩:=id I.loc;obtain⟨sl,hL⟩:=u.any ho I.free λz=>(hch _ z).2.1 rfl
 exact I.step (ch:=ch) hch (λb o hL hb hc e n=>u.keep b o e n (λz=>(Hx.mp (I.kU b z)).elim hL hb) hc) (λb o _ _ hc e n=>u.any e n hc) (λb o hc e n=>u.free b o e n hc) (λb o hc e=>u.there b o e hc) u.tups u.frzs u.tbls (λm' hm=>by
  obtain⟨o',es',ep',ho',r'⟩:=hm;rw [ho] at ho';cases ho'
  exact⟨_,es',ep',hL,r'⟩) hok hg
theorem Inv.turned {t':Nat} {it:Addr} (I:Inv X pins σ H s) (k:∀b o,b≠it->s.heap.get? b=some o->h'.get? b=some o) (hn:H it=none) (hL:it≠X.env.locals)
  (h1:it∈X.ex\/X.s₀.heap.objs.size<=it) (h2:∀x c,X.env.cells.lookup x=some c->c≠it) (h3:∀p∈X.pn ++ pins,p.1≠it):Inv X pins σ H { s with heap:=h',toks:=t' }:=by
 have nit:∀b u,H b=some u->b≠it:=λb u e z=>by rw [z,hn] at e;cases e
 refine I.step (g':=s.gens) (d':=s.drawn) (ch:=[it]) (λb hb=>?_) (λb o _ _ hc e _=>k b o (λz=>hc (by simp [z])) e) (λb o _ _ hc e _=>⟨o.slots,k b o (λz=>hc (by simp [z])) e⟩) (λ_ _ _ _ n=>n)
  (λb o hc e=>⟨o,k b o (λz=>hc (by simp [z])) e⟩) (λ_ _ e=>e) (λ_ _ _ e=>e) (λ_ _ e=>e) (λm hm=>?_) (λb u e=>?_) I.bare
 ·have e:b=it:=by simpa using hb
  subst e;exact⟨h1,hL,h2,h3⟩
 ·obtain⟨o,es,ep,ho,r⟩:=hm;exact⟨o,es,ep,k _ o (Ne.symm hL) ho,r⟩
 ·refine (I.hok b u e).mn (λc v hc q=>k c v ?_ q) (λ_ q=>q) (λ_ _ q=>q) λ_ _ _ q=>q;rcases hc with z|z
  ·rw [z];exact nit b u e
  ·exact nit c _ z
theorem Inv.tok (I:Inv X pins σ H s) (t:Nat):Inv X pins σ H { s with toks:=t }:=I.un (h':=s.heap) (t':=t) Un.refl I.hok
theorem Inv.kept {t':Nat} (I:Inv X pins σ H s) (k:∀b u,s.heap.get? b=some u->h'.get? b=some u):Inv X pins σ H { s with heap:=h',toks:=t' }:=I.un (Un.kept k) (I.hok.kept k)
theorem Inv.laid {a:Addr} {o:HO} {t':Nat} (I:Inv X pins σ H s) (k:∀b u,s.heap.get? b=some u->h'.get? b=some u) (hp:s.heap.objs.size<=a) (new:bL X.prog X.w (upd H a o) h' a o) :
  Inv X pins σ (upd H a o) { s with heap:=h',toks:=t' }:=I.un (Un.laid k hp (I.hok.fresh hp)) (I.hok.laid k hp new)
theorem Inv.write {x e:Addr} {o:HO} {t':Nat} (I:Inv X pins σ H s) (mu:EC (H x)) (he:e=x\/H e=some (.own x)) (k:∀b u,b≠e->s.heap.get? b=some u->h'.get? b=some u) (heo:∃u,h'.get? e=some u)
  (new:bL X.prog X.w (upd H x o) h' x o):Inv X pins σ (upd H x o) { s with heap:=h',toks:=t' }:=I.un (Un.write mu he k heo) (I.hok.write mu he k heo new)
theorem Inv.vA {pins':List (Addr×Obj)} (I:Inv X pins σ H s) (h:∀p∈pins',s.heap.get? p.1=some p.2/\H p.1=none/\p.1≠X.env.locals/\p.1∉X.fs/\∀v,p.2.data≠.cell v):Inv X pins' σ H s :=
 ⟨I.ok,I.os,I.bare,I.base,I.loc,I.cell,I.free,I.freeC,λp hp=>(HJ.mp hp).elim (λz=>I.pin p (IA _ z)) (h p),I.hok,I.len⟩
theorem sk {N:List Str} (hN:N.Nodup) {i j:Nat} {x:Str} (a:N[i]?=some x) (b:N[j]?=some x):i=j:=by
 obtain⟨h1,e1⟩:=G7.mp a;obtain⟨h2,e2⟩:=G7.mp b;exact (List.getElem_inj hN).mp (e1.trans e2.symm)
theorem pw {M:Model} {A:Around} {E:Value->Shared->Prop} {i:Nat} {x:Str} {v:V} {u:Value} {Q:Unit->Shared->Prop} (I:Inv X pins σ H s) (hN:X.N.Nodup) (hi:X.N[i]?=some x) (hx:Loc X.env.scope x) (r:RelV v u)
  (h:∀s',Inv X pins (σ.set i (some v)) H s'->(∃a,Heap.SameBut a s.heap s'.heap/\(a=X.env.locals\/X.env.cells.lookup x=some a))->Q () s') (hf:X.fn x=true\/X.env.scope.names.lookup x=some .local:=by first|exact .inl rfl|exact .inr rfl|assumption):wpAny M A (storeName X.env x u) Q E s:=by
 obtain⟨m,hn,hl⟩:=id I.loc;have hcls:(X.env.scope.kind == .class || (X.env.scope.kind == .module && X.env.locals != X.env.globals))=false:=by rw [I.ok.kind];rfl
 have hiσ:i < σ.length:=by rw [I.len];exact (G7.mp hi).1
 have zZ:=I.zZ
 have tracked:∀{a:Addr} {h':Heap},(∃o,s.heap.get? a=some o/\H a=none)->Heap.SameBut a s.heap h'->kA X.prog X.w H h':=λ{a h'} ha hs b ob e=>by
  obtain⟨_,_,hfree⟩:=ha;refine (I.hok b ob e).mn (λc w' hc q=>(hs.2 c ?_).trans q) (λ_ q=>q) (λ_ _ q=>q) λ_ _ _ q=>q
  rintro rfl;rcases hc with rfl|hc
  ·rw [hfree] at e;cases e
  ·rw [hfree] at hc;cases hc
 rcases hx with hk|hk
 ·refine wpAny_storeName_local hk hn (λh' hn' hs=>?_) hcls;obtain⟨oL,_,_,hoL,_⟩:=id hn;refine h _ ⟨I.ok,I.os,I.bare,⟨λb o e n hb hx=>?_,λb o e n hb hx=>?_,I.base.free,λb o e hx=>?_,I.base.tups,I.base.frzs,I.base.tbls⟩,⟨_,hn',λj y v' e1 e2 e3=>?_⟩,λy c e=>?_,I.free,I.freeC,λp hp=>?_,tracked ⟨oL,hoL,I.free⟩ hs,by simpa using I.len⟩ ⟨_,hs,.inl rfl⟩
  ·exact (hs.2 b (HC (Hk (Ho e) I.ok.above))).trans (I.base.keep b o e n hb hx)
  ·obtain⟨sl,e1⟩:=I.base.slot b o e n hb hx;exact⟨sl,(hs.2 b (HC (Hk (Ho e) I.ok.above))).trans e1⟩
  ·obtain⟨o',e1⟩:=I.base.there b o e hx;exact⟨o',(hs.2 b (HC (Hk (Ho e) I.ok.above))).trans e1⟩
  ·by_cases hj:j=i
   ·subst hj;rw [hi] at e1;cases e1;rw [Hg hiσ] at e2;cases e2;exact⟨u,r,.inl ⟨hk,by simp⟩⟩
   ·rw [G9 (Ne.symm hj)] at e2;obtain⟨u',r',q⟩:=hl j y v' e1 e2 e3;refine⟨u',r',?_⟩;rcases q with ⟨k,e⟩|⟨k,c,e,z⟩
    ·refine .inl ⟨k,?_⟩;have:y≠x:=λe=>hj (sk hN e1 (e▸hi));simp [this,e]
    ·exact .inr ⟨k,c,e,z.sameBut hs (zZ y c e)⟩
  ·obtain⟨w',z⟩:=I.cell y c e;exact⟨w',z.sameBut hs (zZ y c e)⟩
  ·obtain⟨e,n,ne,nf,d⟩:=I.pin p hp;exact⟨(hs.2 p.1 ne).trans e,n,ne,nf,d⟩
 ·have hfn:X.fn x=true:=by
   rcases hf with z|z
   ·exact z
   ·rw [z] at hk;cases hk
  obtain⟨c,hc⟩:=I.ok.has x (.inl hk);obtain⟨w',z⟩:=I.cell x c hc;refine wpAny_storeName_cell I.ok.kind hk hc z (λh' hc' hs=>?_);obtain⟨oc,hoc,hocd⟩:=id z;refine h { s with heap:=h' } ⟨I.ok,I.os,I.bare,⟨λb o e n hb hx=>?_,λb o e n hb hx=>?_,I.base.free,λb o e hx=>?_,I.base.tups,I.base.frzs,I.base.tbls⟩,⟨m,hn.sameBut hs (Ne.symm (zZ x c hc)),λj y v' e1 e2 e3=>?_⟩,λy c' e=>?_,I.free,I.freeC,λp hp=>?_,tracked ⟨oc,hoc,I.freeC x c hc⟩ hs,by simpa using I.len⟩ ⟨c,hs,.inr hc⟩
  ·exact (hs.2 b (HC (Hk (Ho e) (I.ok.cab x c hfn hc)))).trans (I.base.keep b o e n hb hx)
  ·obtain⟨sl,e1⟩:=I.base.slot b o e n hb hx;exact⟨sl,(hs.2 b (HC (Hk (Ho e) (I.ok.cab x c hfn hc)))).trans e1⟩
  ·obtain⟨o',e1⟩:=I.base.there b o e hx;exact⟨o',(hs.2 b (HC (Hk (Ho e) (I.ok.cab x c hfn hc)))).trans e1⟩
  ·by_cases hj:j=i
   ·subst hj;rw [hi] at e1;cases e1;rw [Hg hiσ] at e2;cases e2;exact⟨u,r,.inr ⟨.inl hk,c,hc,hc'⟩⟩
   ·rw [G9 (Ne.symm hj)] at e2;obtain⟨u',r',q⟩:=hl j y v' e1 e2 e3;refine⟨u',r',?_⟩;rcases q with q|⟨k,c',e,z'⟩
    ·exact .inl q
    ·refine .inr ⟨k,c',e,z'.sameBut hs ?_⟩
     rintro rfl;exact hj (sk hN e1 (I.ok.inj _ _ _ e hc▸hi))
  ·by_cases hcc:c'=c
   ·subst hcc;exact⟨_,hc'⟩
   ·obtain⟨w2,z2⟩:=I.cell y c' e;exact⟨w2,z2.sameBut hs hcc⟩
  ·obtain⟨e,n,ne,nf,d⟩:=I.pin p hp;refine⟨(hs.2 p.1 ?_).trans e,n,ne,nf,d⟩;intro q;rw [q,hoc] at e;have q':oc=p.2:=Hn e;exact d w' (by rw [<- q'];exact hocd)
theorem ko {M:Model} {A:Around} {E:Value->Shared->Prop} {i:Nat} {x:Str} {v:V} {u:Value} {Q:Unit->Shared->Prop} (I:Inv X pins σ H s) (hN:X.N.Nodup) (hi:X.N[i]?=some x) (hx:Loc X.env.scope x) (r:RelV v u)
  (h:∀s',Inv X pins (σ.set i (some v)) H s'->Q () s') (hf:X.fn x=true\/X.env.scope.names.lookup x=some .local:=by first|exact .inl rfl|exact .inr rfl|assumption):wpAny M A (storeName X.env x u) Q E s :=
 pw I hN hi hx r (λs' I' _=>h s' I') hf
theorem Inv.yO {s':Shared} {ch:List Addr} (I:Inv X pins σ H s) (ho:s'.os=s.os) (u:Un (jx X.stack) ch H H' s.heap s'.heap) (hok:kA X.prog X.w H' s'.heap) (hg:AllBare s'.gens)
  (hch:∀b∈ch,(b∈X.ex\/X.s₀.heap.objs.size<=b)/\b≠X.env.locals/\(∀x c,X.env.cells.lookup x=some c->c≠b)/\∀p∈X.pn ++ pins,p.1≠b):Inv X pins σ H' s':=by
 obtain⟨h',g',d',t',o'⟩:=s';have e:o'=s.os:=ho;subst e;exact I.call (g':=g') (t':=t') (d':=d') u hok hg hch
end
abbrev XK:=Value->Option Addr->Hp->Prop
abbrev St:=List (Option V)
abbrev VK:=V->Hp->Prop
abbrev TE:=St->Hp->VK->Prop
abbrev TT:=St->Hp->(Bool->Hp->Prop)->Prop
abbrev TA:=St->Hp->(List V->Hp->Prop)->Prop
structure Ends where
 nx:St->Hp->Prop
 rt:VK
 bk:St->Hp->Prop:=λ_ _=>False
 ct:St->Hp->Prop:=λ_ _=>False
abbrev TS:=Ends->St->Hp->Prop
def EP (X:Cx) (pins:List (Addr×Obj)) (σ:St) (Q:VK) (u:Value) (s':Shared):Prop:=∃v H',Inv X pins σ H' s'/\RelV v u/\Q v H'
def TP (X:Cx) (pins:List (Addr×Obj)) (σ:St) (Q:Bool->Hp->Prop) (b:Bool) (s':Shared):Prop:=∃H',Inv X pins σ H' s'/\Q b H'
def AP (X:Cx) (pins:List (Addr×Obj)) (σ:St) (Q:List V->Hp->Prop) (us:List Value) (s':Shared):Prop:=∃vs H',Inv X pins σ H' s'/\Vals vs us/\Q vs H'
def SP (X:Cx) (pins:List (Addr×Obj)) (D:Ends) (f:Flow) (s':Shared):Prop :=
 match f with
 | .next=>∃σ' H',Inv X pins σ' H' s'/\D.nx σ' H'
 | .brk=>∃σ' H',Inv X pins σ' H' s'/\D.bk σ' H'
 | .cont=>∃σ' H',Inv X pins σ' H' s'/\D.ct σ' H'
 | .ret u=>∃v σ' H',Inv X pins σ' H' s'/\RelV v u/\D.rt v H'
def PE (X:Cx) (e:Expr) (t:TE):Prop :=
 ∀(pins:List (Addr×Obj)) (s:Shared) (σ:St) (H:Hp) (Q:VK),Inv X pins σ H s->t σ H Q->wpAny (model X.prog X.w) X.A (eval e X.env) (EP X pins σ Q) X.xe s
def PT (X:Cx) (e:Expr) (t:TT):Prop :=
 ∀(pins:List (Addr×Obj)) (s:Shared) (σ:St) (H:Hp) (Q:Bool->Hp->Prop),Inv X pins σ H s->t σ H Q->wpAny (model X.prog X.w) X.A (isTrue e X.env (eval e X.env)) (TP X pins σ Q) X.xe s
def PW (X:Cx) (e:Expr) (t:TT):Prop :=
 ∀(whole:Sem Value) (pins:List (Addr×Obj)) (s:Shared) (σ:St) (H:Hp) (Q:Bool->Hp->Prop),Inv X pins σ H s->t σ H Q->wpAny (model X.prog X.w) X.A (isTrue e X.env whole) (TP X pins σ Q) X.xe s
def PA (X:Cx) (es:List Expr) (t:TA):Prop :=
 ∀(pos:Pos) (pins:List (Addr×Obj)) (s:Shared) (σ:St) (H:Hp) (Q:List V->Hp->Prop),Inv X pins σ H s->t σ H Q->wpAny (model X.prog X.w) X.A (spliced (backTo pos (starEach es X.env))) (AP X pins σ Q) X.xe s
def PS (X:Cx) (st:Stmt) (t:TS):Prop :=
 ∀(pins:List (Addr×Obj)) (s:Shared) (σ:St) (H:Hp) (D:Ends),Inv X pins σ H s->t D σ H->wpAny (model X.prog X.w) X.A (exec st X.env) (SP X pins D) X.xe s
def tN (X:Cx) (st:List Stmt) (t:TS):Prop :=
 ∀(pins:List (Addr×Obj)) (s:Shared) (σ:St) (H:Hp) (D:Ends),Inv X pins σ H s->t D σ H->wpAny (model X.prog X.w) X.A (execs st X.env) (SP X pins D) X.xe s
theorem bK {α:Type} {t:Sem α} {Q Q':α->Shared->Prop} {M:Model} {A:Around} {E:Value->Shared->Prop} {s:Shared} (h:wpAny M A t Q E s) (hQ:∀a s,Q a s->Q' a s):wpAny M A t Q' E s:=HE h hQ λ_ _ x=>x
section
variable {X:Cx}
def GA (i:Nat):TE:=λσ H Q=>∃v,σ[i]?=some (some v)/\Q v H
def tC (v:V):TE:=λ_ H Q=>Q v H
theorem cF {i:Nat} {x:Str} {pos:Pos} (hN:X.N[i]?=some x) (hv:qF X.env.scope x) (hd:(x == ("__debug__" : Str))=false:=by decide) (hcd:(x == ("__classdict__" : Str))=false:=by decide):PE X (.Name x pos) (GA i):=by
 intro pins s σ H Q I h;obtain⟨v,e,h⟩:=h;obtain⟨m,hn,hl⟩:=I.loc;obtain⟨u,r,l⟩:=hl i x v hN e hv;have fin:EP X pins σ Q u s:=⟨v,H,I,r,h⟩;rcases l with ⟨hk,hm⟩|⟨hk,c,hc,hcell⟩
 ·exact wpAny_Name (wpAny_loadName_local I.ok.kind hk hn hm fin) hd
 ·rcases hk with hk|hk
  ·exact wpAny_Name (wpAny_loadName_cell I.ok.kind hk hc hcell fin) hd
  ·exact wpAny_Name (wpAny_loadName_free I.ok.kind hk hc hcell fin hcd) hd
theorem uY {i j pos}:PE X (.Constant (.int i) j pos) (tC (.int i)):=λ_ _ _ H _ I h=>wpAny_Constant_int ⟨.int i,H,I.tok _,⟨_,rfl⟩,h⟩
theorem ES {b j pos}:PE X (.Constant (.bool b) j pos) (tC (.bl b)):=λ_ _ _ H _ I h=>Constant_bool ⟨.bl b,H,I,rfl,h⟩
theorem C8 {j pos}:PE X (.Constant .none j pos) (tC .non):=λ_ _ _ H _ I h=>Constant_none ⟨.non,H,I,rfl,h⟩
theorem CD {x j pos}:PE X (.Constant (.str x) j pos) (tC (.str x)):=λ_ _ _ H _ I h=>Calls.Constant_str ⟨.str x,H,I.tok _,⟨_,rfl⟩,h⟩
def Gl (X:Cx) (x:Str):Prop:=X.env.kindOf x=some .globalImplicit
theorem fK {E:Value->Shared->Prop} {pins:List (Addr×Obj)} {s:Shared} {σ:St} {H:Hp} {x:Str} {u:Value} {pos:Pos} {Q:Value->Shared->Prop} (I:Inv X pins σ H s) (hg:Gl X x) (hm:X.mg x=some u) (h:Q u s)
  (hd:(x == ("__debug__" : Str))=false:=by decide):wpAny (model X.prog X.w) X.A (eval (.Name x pos) X.env) Q E s :=
 Calls.Name_function_global I.ok.kind hg (Calls.loadGlobal_global (by rw [I.ok.glob];exact I.mod.glob.keeps I.bk) hm h) hd
theorem je {E:Value->Shared->Prop} {pins:List (Addr×Obj)} {s:Shared} {σ:St} {H:Hp} {x:Str} {u:Value} {pos:Pos} {Q:Value->Shared->Prop} (I:Inv X pins σ H s) (hg:Gl X x) (hm:X.mg x=none) (hv:bootBuiltins x=some u) (h:Q u s)
  (hn:x≠"__name__":=by decide) (hd:(x == ("__debug__" : Str))=false:=by decide):wpAny (model X.prog X.w) X.A (eval (.Name x pos) X.env) Q E s:=by
 obtain⟨mb,h1,h2⟩:=I.mod.blt;exact Calls.Name_function_global I.ok.kind hg (Calls.loadGlobal_builtin (by rw [I.ok.glob];exact I.mod.glob.keeps I.bk) hm (by rw [I.ok.blt];exact h1.keeps I.bk) ((h2 x hn).trans hv) h) hd
theorem zS {x:Str} {v:V} {u:Value} {pos:Pos} (hg:Gl X x) (hm:X.mg x=none) (hv:bootBuiltins x=some u) (r:RelV v u) (hn:x≠"__name__":=by decide) (hd:(x == ("__debug__" : Str))=false:=by decide):PE X (.Name x pos) (tC v) :=
 λ_ _ _ H _ I h=>je I hg hm hv ⟨v,H,I,r,h⟩ hn hd
variable {a b:Expr} {ta tb:TE} {pos:Pos}
def tB (t:TE):TT:=λσ H Q=>t σ H λx H1=>∃c,x=.bl c/\Q c H1
theorem DG {e:Expr} {t:TE} (h:PE X e t) (he:∀whole,isTrue e X.env whole=(do let v <- whole;standAt e.pos;holding [v] (truthy v)):=by intro _;rfl):PT X e (tB t):=by
 intro pins s σ H Q I hw;refine isTrue_plain (bK (h pins s σ H _ I hw) λv s1 ⟨x,H1,I1,r1,q1⟩=>?_) (he _);obtain⟨d,rfl,q⟩:=q1;cases r1;exact wpAny_truthy_bool ⟨H1,I1,q⟩
variable {tA tB':TT} {rest:List Expr}
def FK (t u:TT):TT:=λσ H Q=>t σ H λc H1=>if c=true then u σ H1 Q else Q false H1
def GS (t u:TT):TT:=λσ H Q=>t σ H λc H1=>if c=true then Q true H1 else u σ H1 Q
def Gm (t:TT):TT:=λσ H Q=>t σ H λc H1=>Q (!c) H1
theorem AO (ha:PT X a tA):PW X (.BoolOp .And [a] pos) tA:=by
 intro wh pins s σ H Q I h;refine isTrue_and (bK (ha pins s σ H Q I h) λc s1 e=>?_)
 cases c with
 | true=>exact isTrue_and_nil e
 | false=>exact e
theorem DA (ha:PT X a tA):PW X (.BoolOp .Or [a] pos) tA:=by
 intro wh pins s σ H Q I h;refine isTrue_or (bK (ha pins s σ H Q I h) λc s1 e=>?_)
 cases c with
 | false=>exact isTrue_or_nil e
 | true=>exact e
theorem Ca (ha:PT X a tA) (hb:PW X (.BoolOp .And (b :: rest) pos) tB'):PW X (.BoolOp .And (a :: b :: rest) pos) (FK tA tB'):=by
 intro wh pins s σ H Q I h;refine isTrue_and (bK (ha pins s σ H _ I h) λc s1 ⟨H1,I1,q1⟩=>?_)
 cases c with
 | true=>exact hb wh pins s1 σ H1 Q I1 q1
 | false=>exact⟨H1,I1,q1⟩
theorem EZ (ha:PT X a tA) (hb:PW X (.BoolOp .Or (b :: rest) pos) tB'):PW X (.BoolOp .Or (a :: b :: rest) pos) (GS tA tB'):=by
 intro wh pins s σ H Q I h;refine isTrue_or (bK (ha pins s σ H _ I h) λc s1 ⟨H1,I1,q1⟩=>?_)
 cases c with
 | true=>exact⟨H1,I1,q1⟩
 | false=>exact hb wh pins s1 σ H1 Q I1 q1
theorem Dw (ha:PT X a tA):PT X (.UnaryOp .Not a pos) (Gm tA):=by
 intro pins s σ H Q I h;exact isTrue_not (ha pins s σ H (λc H1=>Q (!c) H1) I h)
def E9 (ta tb:TE):TE:=λσ H Q=>ta σ H λx H1=>∃c,x=.bl c/\if c=true then tb σ H1 Q else Q (.bl false) H1
def EH (ta:TE):TE:=λσ H Q=>ta σ H λx H1=>∃c,x=.bl c/\Q (.bl (!c)) H1
theorem CP {op} {t:TE} (h:PE X a t):PE X (.BoolOp op [a] pos) t:=λpins s σ H Q I hw=>BoolOp_one (h pins s σ H Q I hw)
theorem Dd (ha:PE X a ta) (hb:PE X (.BoolOp .And (b :: rest) pos) tb):PE X (.BoolOp .And (a :: b :: rest) pos) (E9 ta tb):=by
 intro pins s σ H Q I h;refine BoolOp_and (bK (ha pins s σ H _ I h) λv s1 hq0=>?_);obtain⟨x,H1,I1,r1,q1⟩:=hq0;obtain⟨c,rfl,q1⟩:=q1;cases r1;refine wpAny_truthy_bool ?_
 cases c with
 | true=>exact hb pins s1 σ H1 Q I1 q1
 | false=>exact⟨.bl false,H1,I1,rfl,q1⟩
theorem C7 (ha:PE X a ta):PE X (.UnaryOp .Not a pos) (EH ta):=by
 intro pins s σ H Q I h;refine UnaryOp_ (bK (ha pins s σ H _ I h) λv s1 hq0=>?_);obtain⟨x,H1,I1,r1,q1⟩:=hq0;obtain⟨c,rfl,q1⟩:=q1;cases r1;exact not_of (wpAny_truthy_bool ⟨.bl (!c),H1,I1,rfl,q1⟩)
end
def dE (K:Ha) (H:Hp) (a:Addr) (xs:List V):Prop :=
 Rd H a (.lst xs) \/
  ∃(o:Obj) (its:Array Value) (n:Nat),K.lookup a=some o/\o.cls=.type "list"/\o.dict=none/\o.data=.seq its n/\its.size<=sizeLine/\Vals xs its.toList
def gw (K:Ha) (H:Hp) (a:Addr) (xs:List V):Prop :=
 Rd H a (.tup xs) \/
  ∃(o:Obj) (its:Array Value) (n:Nat),K.lookup a=some o/\o.cls=.type "tuple"/\o.data=.seq its n/\its.size<=sizeLine/\Vals xs its.toList/\o.dict=none
def GB:Value->Option V
 | .none=>some .non
 | .bool b=>some (.bl b)
 | .int i _=>some (.int i)
 | .str x _=>some (.str x)
 | .bytes b _=>some (.byt b)
 | .float b _=>some (.flt b)
 | .ref a=>some (.ref a)
 | .type n=>some (.ty n)
 | _=>none
theorem RelV.abs {x:V} {u:Value} (r:RelV x u):GB u=some x:=by
 cases x with
 | non=>cases r;rfl
 | bl _=>cases r;rfl
 | int _=>obtain⟨t,rfl⟩:=r;rfl
 | str _=>obtain⟨t,rfl⟩:=r;rfl
 | byt _=>obtain⟨t,rfl⟩:=r;rfl
 | flt _=>obtain⟨t,rfl⟩:=r;rfl
 | ref _=>cases r;rfl
 | ty _=>cases r;rfl
theorem RelV.inj {x y:V} {u:Value} (r:RelV x u) (q:RelV y u):x=y:=Hn (r.abs.symm.trans q.abs)
theorem Vals.inj:∀{xs ys:List V} {us:List Value},Vals xs us->Vals ys us->xs=ys
 | _,_,_,.nil,.nil=>rfl
 | _,_,_,.cons r t,.cons r' t'=>by rw [r.inj r',Vals.inj t t']
section
variable {X:Cx} {pins:List (Addr×Obj)} {σ:St} {H:Hp} {s:Shared} {a:Addr} {xs ys:List V}
theorem dE.of {K:Ha} (h:H a=some (.lst xs)):dE K H a xs:=.inl (.inl h)
theorem gw.of {K:Ha} (h:H a=some (.tup xs)):gw K H a xs:=.inl (.inl h)
theorem Inv.list (I:Inv X pins σ H s) (h:dE X.K H a xs):∃its:List Value,Vals xs its/\PlainL s.heap a its.toArray/\xs.length<=sizeLine:=by
 rcases h with h|⟨o,its,n,hk,hc,hd,hs,hz,r⟩
 ·obtain⟨z,its,n,r,e⟩:=h.ok I.hok;exact⟨its,r,⟨_,n,e,rfl,rfl,rfl⟩,z⟩
 ·refine⟨its.toList,r,⟨o,n,I.oh a o hk,hc,hd,by simpa using hs⟩,?_⟩;have e:=r.length;simp only [Array.length_toList] at e;omega
theorem Inv.tuple (I:Inv X pins σ H s) (h:gw X.K H a xs):∃its:List Value,Vals xs its/\IsTup s.heap a its.toArray/\xs.length<=sizeLine:=by
 rcases h with h|⟨o,its,n,hk,hc,hs,hz,r,_⟩
 ·obtain⟨z,its,r,p⟩:=h.ok I.hok;exact⟨its,r,p.tup,z⟩
 ·refine⟨its.toList,r,⟨o,I.oh a o hk,hc,n,by simpa using hs⟩,?_⟩;have e:=r.length;simp only [Array.length_toList] at e;omega
theorem Inv.nW (I:Inv X pins σ H s) (h:dE X.K H a xs) (h':dE X.K H a ys):xs=ys:=by
 obtain⟨its,r,⟨o,n,e,_,_,d⟩,_⟩:=I.list h;obtain⟨its',r',⟨o',n',e',_,_,d'⟩,_⟩:=I.list h';rw [e] at e';cases e';rw [d] at d';injection d' with d1 _
 have:its=its':=by simpa using congrArg Array.toList d1
 subst this;exact r.inj r'
theorem Inv.kH (I:Inv X pins σ H s) (h:gw X.K H a xs) (h':gw X.K H a ys):xs=ys:=by
 obtain⟨its,r,⟨o,e,_,n,d⟩,_⟩:=I.tuple h;obtain⟨its',r',⟨o',e',_,n',d'⟩,_⟩:=I.tuple h';rw [e] at e';cases e';rw [d] at d';injection d' with d1 _
 have:its=its':=by simpa using congrArg Array.toList d1
 subst this;exact r.inj r'
end
abbrev Cx.bU (X:Cx) (E:Value->Shared->Prop):Cx:={ X with xe:=E }
abbrev Cx.pq (X:Cx):Cx:=X.bU λ_ _=>False
theorem Cx.Ok.bU {X:Cx} (ok:X.Ok) (E:Value->Shared->Prop):(X.bU E).Ok :=
 ⟨ok.mod,ok.kind,ok.glob,ok.blt,ok.above,ok.inj,ok.has,ok.cab,ok.hd,ok.frames,ok.stk,ok.exf,ok.bs,ok.bsz,ok.noex,ok.exfs,ok.iT,ok.frf⟩
theorem Cx.Ok.a9 {X:Cx} {E:Value->Shared->Prop} (ok:(X.bU E).Ok):X.Ok :=
 ⟨ok.mod,ok.kind,ok.glob,ok.blt,ok.above,ok.inj,ok.has,ok.cab,ok.hd,ok.frames,ok.stk,ok.exf,ok.bs,ok.bsz,ok.noex,ok.exfs,ok.iT,ok.frf⟩
section
variable {X:Cx} {pins:List (Addr×Obj)} {σ:St} {H:Hp} {s:Shared} {E:Value->Shared->Prop}
theorem Inv.bU (I:Inv X pins σ H s) (E:Value->Shared->Prop):Inv (X.bU E) pins σ H s:=⟨I.ok.bU E,I.os,I.bare,I.base,I.loc,I.cell,I.free,I.freeC,I.pin,I.hok,I.len⟩
theorem Inv.a9 (I:Inv (X.bU E) pins σ H s):Inv X pins σ H s:=⟨I.ok.a9,I.os,I.bare,I.base,I.loc,I.cell,I.free,I.freeC,I.pin,I.hok,I.len⟩
theorem SP.a9 {D:Ends} {f:Flow} {s':Shared} (h:SP (X.bU E) pins D f s'):SP X pins D f s':=by
 cases f with
 | next=>obtain⟨σ',H',I,q⟩:=h;exact⟨σ',H',I.a9,q⟩
 | brk=>obtain⟨σ',H',I,q⟩:=h;exact⟨σ',H',I.a9,q⟩
 | cont=>obtain⟨σ',H',I,q⟩:=h;exact⟨σ',H',I.a9,q⟩
 | ret u=>obtain⟨v,σ',H',I,r,q⟩:=h;exact⟨v,σ',H',I.a9,r,q⟩
theorem tN.pq {st:List Stmt} {t:TS} (h:tN X.pq st t):tN X st t:=λpins s σ H D I hw =>
 HE (h pins s σ H D (I.bU _) hw) (λ_ _ q=>q.a9) λ_ _ z=>False.elim z
end
section
variable {X:Cx} {st:Stmt} {rest:List Stmt} {t u:TS} {e:Expr} {te:TE} {pos:Pos}
def Ec:TS:=λD σ H=>D.nx σ H
def FY (t u:TS):TS:=λD σ H=>t { D with nx:=u D } σ H
theorem AM:tN X [] Ec:=λ_ _ σ H _ I h=>wpAny_execs_nil ⟨σ,H,I,h⟩
theorem hW (h1:PS X st t) (h2:tN X rest u):tN X (st :: rest) (FY t u):=by
 intro pins s σ H D I h;refine wpAny_execs_cons (bK (h1 pins s σ H { D with nx:=u D } I h) λf s1 q=>?_)
 cases f with
 | next =>
  obtain⟨σ',H',I',q⟩:=q
  exact h2 pins s1 σ' H' D I' q
 | ret v=>exact q
 | brk=>exact q
 | cont=>exact q
theorem mF (h1:PS X st t):tN X [st] t:=by
 intro pins s σ H D I h;refine wpAny_execs_cons (bK (h1 pins s σ H D I h) λf s1 q=>?_)
 cases f with
 | next=>exact wpAny_execs_nil q
 | ret v=>exact q
 | brk=>exact q
 | cont=>exact q
def CZ:TS:=λD σ H=>D.bk σ H
theorem yB:PS X (.Break pos) CZ:=λ_ _ σ H _ I h=>wpAny_Break ⟨σ,H,I,h⟩
theorem Inv.quiet {pins:List (Addr×Obj)} {σ:St} {H:Hp} {s:Shared} (I:Inv X pins σ H s):interactive X.env=false:=by simp [interactive,I.ok.kind]
def E4 (te:TE):TS:=λD σ H=>te σ H λ_ H1=>D.nx σ H1
theorem mI (he:PE X e te) (hs:swapsWith e none pos.line X.env=pure false:=by rfl):PS X (.Expr e pos) (E4 te):=by
 intro pins s σ H D I h;exact wpAny_Expr_any (bK (he pins s σ H _ I h) λv s1 ⟨x,H1,I1,r1,q1⟩=>⟨σ,H1,I1,q1⟩) I.quiet hs
def Gh (te:TE):TS:=λD σ H=>te σ H D.rt
theorem zE (he:PE X e te):PS X (.Return (some e) pos) (Gh te):=by
 intro pins s σ H D I h;exact wpAny_Return_some (bK (he pins s σ H _ I h) λv s1 ⟨x,H1,I1,r1,q1⟩=>⟨x,σ,H1,I1,r1,q1⟩)
def FE (c:TT) (t u:TS):TS:=λD σ H=>c σ H λb H1=>if b=true then t D σ H1 else u D σ H1
theorem BA {c:Expr} {a b:List Stmt} {tc:TT} (hc:PT X c tc) (ha:tN X a t) (hb:tN X b u):PS X (.If c a b pos) (FE tc t u):=by
 intro pins s σ H D I h;refine wpAny_If (bK (hc pins s σ H _ I h) λd s1 ⟨H1,I1,q1⟩=>?_)
 cases d with
 | true=>exact ha pins s1 σ H1 D I1 q1
 | false=>exact hb pins s1 σ H1 D I1 q1
end
abbrev TG:=V->St->Hp->(St->Hp->Prop)->Prop
abbrev An:=List V->St->Hp->(St->Hp->Prop)->Prop
def PG (X:Cx) (target:Expr) (t:TG):Prop :=
 ∀(pins:List (Addr×Obj)) (s:Shared) (σ:St) (H:Hp) (v:V) (u:Value) (Q:St->Hp->Prop),Inv X pins σ H s->RelV v u->t v σ H Q ->
  wpAny (model X.prog X.w) X.A (assign target X.env u) (λ_ s'=>∃σ' H',Inv X pins σ' H' s'/\Q σ' H') X.xe s
def DQ (X:Cx) (ts:List Expr) (t:An):Prop :=
 ∀(pins:List (Addr×Obj)) (s:Shared) (σ:St) (H:Hp) (vs:List V) (us:List Value) (Q:St->Hp->Prop),Inv X pins σ H s->Vals vs us->t vs σ H Q ->
  wpAny (model X.prog X.w) X.A (assignInOrder ((assignEach ts X.env).map (·.2)) us) (λ_ s'=>∃σ' H',Inv X pins σ' H' s'/\Q σ' H') X.xe s
abbrev BW:=V->V->V->Hp->(Hp->Prop)->Prop
def Du (X:Cx) (t:BW):Prop :=
 ∀(pins:List (Addr×Obj)) (s:Shared) (σ:St) (H:Hp) (o i v:V) (ov iv u:Value) (Q:Hp->Prop),Inv X pins σ H s->RelV o ov->RelV i iv->RelV v u->t o i v H Q ->
  wpAny (model X.prog X.w) X.A (setItem ov iv u) (λ_ s'=>∃H',Inv X pins σ H' s'/\Q H') X.xe s
section
variable {X:Cx} {pos:Pos}
def Bg (i:Nat):TG:=λv σ H Q=>Q (σ.set i (some v)) H
theorem AI {i:Nat} {x:Str} (hN:X.N.Nodup) (hi:X.N[i]?=some x) (hx:Loc X.env.scope x) (hf:X.fn x=true\/X.env.scope.names.lookup x=some .local:=by first|exact .inl rfl|exact .inr rfl|assumption):PG X (.Name x pos) (Bg i):=by
 intro pins s σ H v u Q I r h;exact wpAny_assign_Name (ko I hN hi hx r (λs' I'=>⟨_,H,I',h⟩) hf)
def FH:An:=λvs σ H Q=>vs=[]/\Q σ H
def Fg (t:TG) (u:An):An:=λvs σ H Q=>∃v r,vs=v :: r/\t v σ H λσ' H'=>u r σ' H' Q
theorem A0:DQ X [] FH:=by
 intro pins s σ H vs us Q I r h;obtain⟨e,h⟩:=h;subst e;cases r;exact assignInOrder_nil ⟨σ,H,I,h⟩
theorem yU {e:Expr} {es:List Expr} {t:TG} {u:An} (h1:PG X e t) (h2:DQ X es u)
  (hs:(assignEach (e :: es) X.env).map (·.2)=assign e X.env :: (assignEach es X.env).map (·.2):=by rfl):DQ X (e :: es) (Fg t u):=by
 intro pins s σ H vs us Q I r h;obtain⟨v,vr,e1,h⟩:=h;subst e1
 cases r with
 | cons r rr =>
  rw [hs];refine assignInOrder_cons (bK (h1 pins s σ H _ _ _ I r h) λ_ s1 ⟨σ1,H1,I1,q1⟩=>?_);exact h2 pins s1 σ1 H1 _ _ Q I1 rr q1
def Gw (K:Ha) (n:Nat) (t:An):TG:=λv σ H Q=>∃a xs,v=.ref a/\gw K H a xs/\xs.length=n/\t xs σ H Q
theorem BZ {es:List Expr} {k:Nat} {t:An} {n:Nat} (hc:X.calm=true) (h:DQ X es t)
  (hn:(assignEach es X.env).length=n:=by rfl) (hst:(assignEach es X.env).findIdx? (·.1)=none:=by rfl):PG X (.Tuple es k pos) (Gw X.K n t):=by
 intro pins s σ H v u Q I r hw;obtain⟨a,xs,e1,hq,hl,hw⟩:=hw;subst e1;cases r;obtain⟨its,rv,ht,hz⟩:=I.tuple hq;refine assign_Tuple_tuple (I.ok.hd hc) ht (by simp [hn,<- hl,rv.length]) hst λh' hx=>?_;have I1:Inv X pins σ H { s with heap:=h' }:=I.kept (t':=s.toks) λb o e=>hx b o (HC (Ho e)) e;exact h pins _ σ H xs _ Q I1 (by simpa using rv) hw
def GC (to ti:TE) (t:BW):TG:=λv σ H Q=>to σ H λo H1=>ti σ H1 λi H2=>t o i v H2 λH3=>Q σ H3
theorem y4 {o i:Expr} {to ti:TE} {t:BW} (ho:PE X o to) (hi:PE X i ti) (hs:Du X t)
  (ha:∀v,assign (.Subscript o i pos) X.env v=(do
   let ov <- holding [v] (eval o X.env)
   let iv <- holding [v,ov] (eval i X.env)
   standAt pos
   holding [v,ov,iv] (setItem ov iv v)
   release [v,ov,iv] []):=by intro _;rfl):PG X (.Subscript o i pos) (GC to ti t):=by
 intro pins s σ H v u Q I r h;rw [ha];refine G8 (wpAny_holding (bK (ho pins s σ H _ I h) λov s1 hq0=>?_));obtain⟨x,H1,I1,r1,q1⟩:=hq0;refine G8 (wpAny_holding (bK (hi pins s1 σ H1 _ I1 q1) λiv s2 hq0=>?_));obtain⟨y,H2,I2,r2,q2⟩:=hq0;refine G8 (wpAny_standAt (G8 (wpAny_holding (bK (hs pins s2 σ H2 x y v ov iv u _ I2 r1 r2 r q2) λ_ s3 ⟨H3,I3,q3⟩=>?_))));exact wpAny_release ⟨σ,H3,I3,q3⟩
def EI (te:TE) (g:TG):TS:=λD σ H=>te σ H λx H1=>g x σ H1 D.nx
theorem uo {tg e:Expr} {te:TE} {g:TG} (he:PE X e te) (hg:PG X tg g) (hs:swapsWithSole [tg] e pos.line X.env=pure false:=by rfl) (hw:swappedStores [tg] e X.env=pure none:=by rfl)
  (h1:(assignEach [tg] X.env).map (·.2)=[assign tg X.env]:=by rfl):PS X (.Assign [tg] e pos) (EI te g):=by
 intro pins s σ H D I h;refine wpAny_Assign_stores (bK (he pins s σ H _ I h) λv s1 hq0=>?_) hs hw;obtain⟨x,H1,I1,r1,q1⟩:=hq0;rw [h1];exact bK (hg pins s1 σ H1 x v _ I1 r1 q1) λ_ s2 q=>q
theorem lA {i:Nat} {x:Str} {e:Expr} {te:TE} {pos':Pos} (hN:X.N.Nodup) (hi:X.N[i]?=some x) (hx:Loc X.env.scope x) (he:PE X e te) (hs:swapsWith e (some (.Name x pos')) pos.line X.env=pure false:=by rfl) (hf:X.fn x=true\/X.env.scope.names.lookup x=some .local:=by first|exact .inl rfl|exact .inr rfl|assumption) :
  PS X (.Assign [.Name x pos'] e pos) (EI te (Bg i)):=by
 intro pins s σ H D I h;refine wpAny_Assign_Name (bK (he pins s σ H _ I h) λv s1 hq0=>?_) hs;obtain⟨y,H1,I1,r1,q1⟩:=hq0;exact ko I1 hN hi hx r1 (λs2 I2=>⟨_,H1,I2,q1⟩) hf
end
section
variable {X:Cx} {pos:Pos}
def CH (c:TT) (tb:TS):TS:=λD σ H=>∃W:Nat->St->Hp->Prop,(∃m,W m σ H)/\∀m σ H,W m σ H ->
 c σ H λb H1=>if b=true then ∃N:St->Hp->Prop,(∀σ' H',N σ' H'->∃m',m' < m/\W m' σ' H')/\tb { D with nx:=N,ct:=N,bk:=D.nx } σ H1 else D.nx σ H1
theorem nA {c:Expr} {body:List Stmt} {tc:TT} {tb:TS} (hp:PassesOwn (model X.prog X.w) X.A X.env X.xe) (hc:PT X c tc) (hb:tN X body tb):PS X (.While c body [] pos) (CH tc tb):=by
 intro pins s σ H D I h;obtain⟨W,⟨m0,w0⟩,turn⟩:=h;refine wpAny_While (codeAny_whileLoop (λn s'=>∃σ' H',Inv X pins σ' H' s'/\W n σ' H') ?_ m0 ⟨σ,H,I,w0⟩)
 rintro n s1 ⟨σ1,H1,I1,w1⟩;refine wpAny_passesOwn hp (bK (hc pins s1 σ1 H1 _ I1 (turn n σ1 H1 w1)) λb s2 ⟨H2,I2,q2⟩=>?_)
 cases b with
 | true =>
  obtain⟨N,hN,q2⟩:=q2;rw [if_pos rfl];refine wpAny_passesOwn hp (bK (hb pins s2 σ1 H2 _ I2 q2) λf s3 q3=>?_)
  cases f with
  | next =>
   obtain⟨σ3,H3,I3,n3⟩:=q3;obtain⟨m',hm,w3⟩:=hN σ3 H3 n3
   exact⟨m',hm,σ3,H3,I3,w3⟩
  | cont =>
   obtain⟨σ3,H3,I3,n3⟩:=q3;obtain⟨m',hm,w3⟩:=hN σ3 H3 n3
   exact⟨m',hm,σ3,H3,I3,w3⟩
  | brk=>exact q3
  | ret v=>exact q3
 | false =>
  rw [if_neg Bool.false_ne_true];exact wpAny_execs_nil ⟨σ1,H2,I2,q2⟩
end
structure It where
 go:Nat->Hp->Prop
 yld:Nat->Hp->V->Hp->Prop
 stop:Nat->Hp->Prop
def kN (X:Cx) (pins:List (Addr×Obj)) (H:Hp) (b:Addr):Prop :=
 H b=none/\b≠X.env.locals/\b∉X.fs/\(b∈X.ex\/X.s₀.heap.objs.size<=b)/\(∀x c,X.env.cells.lookup x=some c->c≠b)/\∀p∈X.pn ++ pins,p.1≠b
theorem Inv.w6 {X:Cx} {pins:List (Addr×Obj)} {σ:St} {H H':Hp} {s:Shared} {b:Addr} (I:Inv X pins σ H s) (hb:s.heap.objs.size<=b) (hn:H' b=none):kN X pins H' b:=by
 refine⟨hn,Nat.ne_of_gt (Hk I.lt hb),I.FZ hb,.inr (HX I.sz hb),λx c e z=>?_,λp hp z=>?_⟩
 ·obtain⟨v,q⟩:=I.cell x c e;exact absurd (Hk q.lt (by rw [z];exact hb)) (Nat.lt_irrefl _)
 ·exact absurd (Hk (Ho (I.pin p hp).1) (by rw [z];exact hb)) (Nat.lt_irrefl _)
structure Turn (P:Program) (w:World) (K:Ha) (tg:Expr) (J:It) (fp:List Addr) (it:Addr) (tn:Nat->Heap->Prop):Prop where
 mem:it∈fp
 obj:∀i h,tn i h->∀b∈fp,∃o,h.get? b=some o/\∀v,o.data≠.cell v
 keep:∀i h h',tn i h->(∀b∈fp,∀o,h.get? b=some o->h'.get? b=some o)->tn i h'
 item:∀(X:Cx),X.prog=P->X.w=w->X.K=K->X.calm=true->∀(i:Nat) (pins:List (Addr×Obj)) (s:Shared) (σ:St) (H:Hp) (E:Value->Shared->Prop),Inv X pins σ H s->(∀b∈fp,kN X pins H b)->tn i s.heap->J.go i H ->
  wpAny (model P w) X.A (pyNext (.ref it)) (λr s1=>∃u,r=some u /\
   wpAny (model P w) X.A (letOwnedTupleGo tg (.ref it) u) (λ_ s2=>∃x H',Inv X pins σ H' s2/\RelV x u/\J.yld i H x H'/\tn (i + 1) s2.heap/\∀b∈fp,H' b=none) E s1) E s
 done:∀(X:Cx),X.prog=P->X.w=w->X.K=K->X.calm=true->∀(i:Nat) (pins:List (Addr×Obj)) (s:Shared) (σ:St) (H:Hp) (E:Value->Shared->Prop),Inv X pins σ H s->(∀b∈fp,kN X pins H b)->tn i s.heap->J.stop i H ->
  wpAny (model P w) X.A (pyNext (.ref it)) (λr s1=>r=none/\Inv X pins σ H s1) E s
 self:∀(A:Around) (i:Nat) (s:Shared) (Q:Value->Shared->Prop) (E:Value->Shared->Prop),tn i s.heap->Q (.ref it) s->wpAny (model P w) A (pyIter (.ref it)) Q E s
abbrev TI:=St->Hp->(It->Hp->Prop)->Prop
def Fq (X:Cx) (pins:List (Addr×Obj)) (σ:St) (tg:Expr) (R:It->Hp->Prop) (itv:Value) (s2:Shared):Prop :=
 ∃(it:Addr) (fp:List Addr) (tn:Nat->Heap->Prop) (J:It) (H':Hp),itv=.ref it/\Inv X pins σ H' s2/\Turn X.prog X.w X.K tg J fp it tn/\tn 0 s2.heap/\(∀b∈fp,kN X pins H' b)/\R J H'
def PI (X:Cx) (tg iter:Expr) (wi:TI):Prop :=
 ∀(pins:List (Addr×Obj)) (s:Shared) (σ:St) (H:Hp) (R:It->Hp->Prop),Inv X pins σ H s->wi σ H R ->
  wpAny (model X.prog X.w) X.A (eval iter X.env) (λv s1=>wpAny (model X.prog X.w) X.A (pyIter v) (Fq X pins σ tg R) X.xe s1) X.xe s
theorem tJ {M:Model} {A:Around} {E:Value->Shared->Prop} {s:Shared} {tg:Expr} {it:Addr} {u:Value} {o:Obj} {n:String} {vs:Array Value} {Q:Unit->Shared->Prop} (ho:s.heap.get? it=some o) (hc:o.cls=.type n) (hd:o.data=.fields vs)
    (hn:["enumerate","zip","dict_itemiterator","dict_reverseitemiterator","odict_iterator","itertools.zip_longest","itertools.pairwise"].contains n=false) (hQ:Q () s):wpAny M A (letOwnedTupleGo tg (.ref it) u) Q E s:=by
  unfold letOwnedTupleGo
  cases tg <;> first
    | exact Hd hQ
    | (cases u <;> first
        | exact Hd hQ
        | (refine G8 (wpAny_load ho ?_)
           rw [hc,hd];show wpAny M A (if (["enumerate","zip","dict_itemiterator","dict_reverseitemiterator","odict_iterator","itertools.zip_longest","itertools.pairwise"].contains n && vs[0]? == some (rawInt _))=true then _ else _) Q E s
           rw [if_neg (by intro h;rw [hn,Bool.false_and] at h;cases h)]
           exact Hd hQ))
def Fu (K:Ha) (a:Addr):It :=
 ⟨λi H=>∃xs x,dE K H a xs/\xs[i]?=some x,λi H x H'=>H'=H/\∀xs,dE K H a xs->xs[i]?=some x,λi H=>∃xs,dE K H a xs/\xs.length<=i⟩
def Fz (K:Ha) (a:Addr):It :=
 ⟨λi H=>∃xs x,gw K H a xs/\xs[i]?=some x,λi H x H'=>H'=H/\∀xs,gw K H a xs->xs[i]?=some x,λi H=>∃xs,gw K H a xs/\xs.length<=i⟩
def yD (lo:Int) (n:Nat):It:=⟨λi _=>i < n,λi H x H'=>H'=H/\x=.int (lo + i),λi _=>n<=i⟩
theorem wM {P:Program} {w:World} {K:Ha} {tg:Expr} (a it:Addr):Turn P w K tg (Fu K a) [it] it (λi h=>h.IsListIter it a i) where
 mem:=by simp
 obj:=λi h st b hb=>by
  have e:b=it:=by simpa using hb
  subst e;obtain⟨o,e,c,d⟩:=st;exact⟨o,e,λv z=>by rw [d] at z;cases z⟩
 keep:=λi h h' st k=>st.at λo e=>k it (by simp) o e
 item:=by
  intro X hP hw hK hc i pins s σ H E I hf st hg;subst hP hw hK;obtain⟨xs,x,hq,hx⟩:=hg;obtain⟨its,rv,p,hz⟩:=I.list hq;obtain⟨u,hu,ru⟩:=rv.get hx;obtain⟨f0,f1,f2,f3,f4,f5⟩:=hf it (by simp);refine wpAny_pyNext_list_item st p.isList (x:=u) (by simpa using hu) λh' st' sb=>?_;have I1:Inv X pins σ H { s with heap:=h' }:=I.turned (t':=s.toks) (λb o hb e=>(sb.2 b hb).trans e) f0 f1 f3 f4 f5;obtain⟨o,e,c,d⟩:=id st'
  exact⟨u,rfl,tJ (s:={ s with heap:=h' }) e c d (by decide) ⟨x,H,I1,ru,⟨rfl,λys hy=>by rw [I.nW hy hq];exact hx⟩,st',λb hb=>(hf b hb).1⟩⟩
 done:=by
  intro X hP hw hK hc i pins s σ H E I hf st hg;subst hP hw hK;obtain⟨xs,hq,hx⟩:=hg;obtain⟨its,rv,p,hz⟩:=I.list hq;obtain⟨f0,f1,f2,f3,f4,f5⟩:=hf it (by simp);have hl:=rv.length;exact wpAny_pyNext_list_end (I.ok.hd hc) st p.isList (by simp;omega) λh' eb=>⟨rfl,I.turned (t':=s.toks) (λb o hb e=>eb b o hb e) f0 f1 f3 f4 f5⟩
 self:=λ_ _ _ _ _ st h=>wpAny_pyIter_listiter st h
theorem uV {P:Program} {w:World} {K:Ha} {tg:Expr} (a it:Addr):Turn P w K tg (Fz K a) [it] it (λi h=>h.IsTupleIter it a i) where
 mem:=by simp
 obj:=λi h st b hb=>by
  have e:b=it:=by simpa using hb
  subst e;obtain⟨o,e,c,d⟩:=st;exact⟨o,e,λv z=>by rw [d] at z;cases z⟩
 keep:=λi h h' st k=>st.at λo e=>k it (by simp) o e
 item:=by
  intro X hP hw hK hc i pins s σ H E I hf st hg;subst hP hw hK;obtain⟨xs,x,hq,hx⟩:=hg;obtain⟨its,rv,p,hz⟩:=I.tuple hq;obtain⟨u,hu,ru⟩:=rv.get hx;obtain⟨f0,f1,f2,f3,f4,f5⟩:=hf it (by simp);refine wpAny_pyNext_tuple_item st (show s.heap.IsTuple a its.toArray from p) (x:=u) (by simpa using hu) λh' st' sb=>?_;have I1:Inv X pins σ H { s with heap:=h' }:=I.turned (t':=s.toks) (λb o hb e=>(sb.2 b hb).trans e) f0 f1 f3 f4 f5
  obtain⟨o,e,c,d⟩:=id st';exact⟨u,rfl,tJ (s:={ s with heap:=h' }) e c d (by decide) ⟨x,H,I1,ru,⟨rfl,λys hy=>by rw [I.kH hy hq];exact hx⟩,st',λb hb=>(hf b hb).1⟩⟩
 done:=by
  intro X hP hw hK hc i pins s σ H E I hf st hg;subst hP hw hK;obtain⟨xs,hq,hx⟩:=hg;obtain⟨its,rv,p,hz⟩:=I.tuple hq;obtain⟨f0,f1,f2,f3,f4,f5⟩:=hf it (by simp);have hl:=rv.length;exact wpAny_pyNext_tuple_end (I.ok.hd hc) st (show s.heap.IsTuple a its.toArray from p) (by simp;omega) λh' eb=>⟨rfl,I.turned (t':=s.toks) (λb o hb e=>eb b o hb e) f0 f1 f3 f4 f5⟩
 self:=λ_ _ _ _ _ st h=>wpAny_pyIter_tupleiter st h
theorem uZ {P:Program} {w:World} {K:Ha} {tg:Expr} (it:Addr) (lo:Int) (n:Nat):Turn P w K tg (yD lo n) [it] it (λi h=>IsRangeIter h it (lo + (i:Nat) * 1) ((n:Int) - (i:Nat)) 1) where
 mem:=by simp
 obj:=λi h st b hb=>by
  have e:b=it:=by simpa using hb
  subst e
  exact⟨_,st,λv z=>by
   have z':Data.fields _=Data.cell v:=z
   cases z'⟩
 keep:=λi h h' st k=>k it (by simp) _ st
 item:=by
  intro X hP hw hK hc i pins s σ H E I hf st hg;subst hP hw hK;obtain⟨f0,f1,f2,f3,f4,f5⟩:=hf it (by simp);have W:=Walks.range (prog:=X.prog) (w:=X.w) (I.ok.hd hc) it lo 1 n;refine W.item i s _ _ hg st λv h' tk hv st' kk=>?_;obtain⟨t,rfl⟩:=hv;have I1:Inv X pins σ H { s with heap:=h',toks:=tk }:=I.turned (λb o hb e=>kk b o (by simpa using hb) e) f0 f1 f3 f4 f5;refine⟨_,rfl,tJ (s:={ s with heap:=h',toks:=tk }) (n:="range_iterator") st' rfl rfl (by decide) ⟨.int (lo + i),H,I1,⟨t,?_⟩,⟨rfl,rfl⟩,st',λb hb=>(hf b hb).1⟩⟩
  rw [Int.mul_one]
 done:=by
  intro X hP hw hK hc i pins s σ H E I hf st hg;subst hP hw hK;obtain⟨f0,f1,f2,f3,f4,f5⟩:=hf it (by simp);exact wpAny_pyNext_range_end (I.ok.hd hc) st (by have:n<=i:=hg;omega) λh' eb=>⟨rfl,I.turned (t':=s.toks) (λb o hb e=>eb b o hb e) f0 f1 f3 f4 f5⟩
 self:=λ_ _ _ _ _ st h=>wpAny_pyIter_rangeiter st h
section
variable {X:Cx} {tg:Expr}
theorem rP {pins:List (Addr×Obj)} {σ:St} {H:Hp} {s:Shared} {R:It->Hp->Prop} {E:Value->Shared->Prop} {lo hi:Int} {t u v:Tok} {tk:Nat} (I:Inv X pins σ H s) (h1:-(2 ^ 62)<=lo) (h2:lo < 2 ^ 62) (h3:-(2 ^ 62)<=hi) (h4:hi < 2 ^ 62)
  (q:R (yD lo (hi - lo).toNat) H):wpAny (model X.prog X.w) X.A (pyIter (.ref s.heap.objs.size)) (Fq X pins σ tg R) E { s with heap:=s.heap.push { cls:=.type "range",data:=.fields #[.int lo t,.int hi u,.int 1 v] },toks:=tk }:=by
 refine wpAny_pyIter_range (IsRange.new ..) (small_one h1 h2 h3 h4) ?_;have I1:Inv X pins σ H { s with heap:=s.heap.push { cls:=.type "range",data:=.fields #[.int lo t,.int hi u,.int 1 v] },toks:=tk }:=I.kept λb o e=>Hf _ e
 refine⟨(s.heap.push { cls:=.type "range",data:=.fields #[.int lo t,.int hi u,.int 1 v] }).objs.size,[(s.heap.push { cls:=.type "range",data:=.fields #[.int lo t,.int hi u,.int 1 v] }).objs.size],_,_,H,rfl,
  I1.kept (t':=tk) λb o e=>Hf _ e,uZ _ lo (hi - lo).toNat,?_,λb hb=>?_,q⟩
 ·have e1:lo + ((0:Nat):Int) * 1=lo:=by simp
  have e2:(((hi - lo).toNat:Nat):Int) - ((0:Nat):Int)=Builtin.Range.rangeSize lo hi 1:=by rw [rangeSize_one];split <;> omega
  show IsRangeIter _ _ (lo + ((0:Nat):Int) * 1) ((((hi - lo).toNat:Nat):Int) - ((0:Nat):Int)) 1
  rw [e1,e2];exact Hs _ rfl
 ·have e:b=(s.heap.push { cls:=.type "range",data:=.fields #[.int lo t,.int hi u,.int 1 v] }).objs.size:=by simpa using hb
  subst e;exact I1.w6 (Hl _) (I1.hok.fresh (Hl _))
def EW (ta:TA):TI:=λσ H R=>ta σ H λvs H1=>∃j:Int,vs=[.int j]/\-(2 ^ 62)<=j/\j < 2 ^ 62/\R (yD 0 j.toNat) H1
def EA (ta:TA):TI:=λσ H R=>ta σ H λvs H1=>∃i j:Int,vs=[.int i,.int j]/\(-(2 ^ 62)<=i/\i < 2 ^ 62/\-(2 ^ 62)<=j/\j < 2 ^ 62)/\R (yD i (j - i).toNat) H1
theorem iA {a:Expr} {ta:TA} {p pos:Pos} (hg:Gl X "range") (hm:X.mg "range" = none) (ha:PA X [a] ta) (hs:starEach [a] X.env=[(false,eval a X.env)]:=by rfl):PI X tg (.Call (.Name "range" p) [a] [] pos) (EW ta):=by
 intro pins s σ H R I h;refine Call_ (je I hg hm boot_range (PyProof.Rows.callWith_type1 (bK (ha pos pins s σ H _ I h) λus s1 ⟨vs,H1,I1,r1,q1⟩=>?_) hs rfl));obtain⟨j,e,q1,q2,q⟩:=q1;subst e
 cases r1 with
 | cons r rr =>
  cases rr;obtain⟨t,rfl⟩:=r;exact call_range_1 (rP I1 (by omega) (by omega) q1 q2 (by simpa using q))
theorem wk {a b:Expr} {ta:TA} {p pos:Pos} (hg:Gl X "range") (hm:X.mg "range" = none) (ha:PA X [a,b] ta) (hs:starEach [a,b] X.env=[(false,eval a X.env),(false,eval b X.env)]:=by rfl) (hs2:starEach [b] X.env=[(false,eval b X.env)]:=by rfl) :
  PI X tg (.Call (.Name "range" p) [a,b] [] pos) (EA ta):=by
 intro pins s σ H R I h;refine Call_ (je I hg hm boot_range (PyProof.Rows.callWith_type1 (bK (ha pos pins s σ H _ I h) λus s1 ⟨vs,H1,I1,r1,q1⟩=>?_) (by rw [hs,hs2]) (by rw [hs2];rfl)));obtain⟨i,j,e,⟨q1,q2,q3,q4⟩,q⟩:=q1;subst e
 cases r1 with
 | cons r rr =>
  cases rr with
  | cons r' rr =>
   cases rr;obtain⟨t,rfl⟩:=r;obtain⟨t',rfl⟩:=r';exact call_range_2 (rP I1 q1 q2 q3 q4 q)
def FT (wi:TI) (g:TG) (tb:TS):TS:=λD σ H=>wi σ H λJ H1=>∃W:Nat->Nat->St->Hp->Prop,(∃m,W 0 m σ H1)/\∀i m σ H,W i m σ H ->
 (J.stop i H/\D.nx σ H)\/(J.go i H/\∃N:St->Hp->Prop,(∀σ' H',N σ' H'->∃m',m' < m/\W (i + 1) m' σ' H')/\∀x H',J.yld i H x H'->g x σ H' λσ2 H2=>tb { D with nx:=N,ct:=N,bk:=D.nx } σ2 H2)
def nC (fp:List Addr) (h:Heap):List (Addr×Obj):=fp.filterMap λb=>(h.get? b).map λo=>(b,o)
theorem gu {fp:List Addr} {h:Heap} {b:Addr} {o:Obj} (hb:b∈fp) (e:h.get? b=some o):(b,o)∈nC fp h:=List.mem_filterMap.mpr ⟨b,hb,by rw [e];rfl⟩
theorem xi {fp:List Addr} {h:Heap} {p:Addr×Obj} (hp:p∈nC fp h):p.1∈fp/\h.get? p.1=some p.2:=by
 obtain⟨b,hb,e⟩:=List.mem_filterMap.mp hp
 cases q:h.get? b with
 | none=>rw [q] at e;cases e
 | some o =>
  rw [q] at e;have e':(b,o)=p:=Hn e;subst e';exact⟨hb,q⟩
theorem Inv.pinned {pins:List (Addr×Obj)} {σ:St} {H:Hp} {s:Shared} {fp:List Addr} (I:Inv X pins σ H s) (hf:∀b∈fp,kN X pins H b) (ho:∀b∈fp,∃o,s.heap.get? b=some o/\∀v,o.data≠.cell v):Inv X (pins ++ nC fp s.heap) σ H s :=
 I.vA λp hp=>(HJ.mp hp).elim (λz=>I.pin p (HP _ z)) λz=>by
  obtain⟨hb,e⟩:=xi z;obtain⟨f0,f1,f2,_⟩:=hf p.1 hb;obtain⟨o,e',d⟩:=ho p.1 hb;rw [e] at e';cases e';exact⟨e,f0,f1,f2,d⟩
theorem Inv.j5 {pins pl:List (Addr×Obj)} {σ:St} {H:Hp} {s:Shared} (I:Inv X (pins ++ pl) σ H s):Inv X pins σ H s:=I.vA λp hp=>I.pin p (HP _ (IA _ hp))
theorem kO {iter:Expr} {body:List Stmt} {wi:TI} {g:TG} {tb:TS} {pos:Pos} (hp:PassesOwn (model X.prog X.w) X.A X.env X.xe) (hc:X.calm=true) (hi:PI X tg iter wi) (hg:PG X tg g) (hb:tN X body tb)
  (hs:∀x,HW iter X.env x=pure x:=by intro _;rfl):PS X (.For tg iter body [] pos) (FT wi g tb):=by
 intro pins s σ H D I h;refine wpAny_For (bK (hi pins s σ H _ I h) λv s1 h1=>bK h1 λitv s2 h2=>?_) hs;obtain⟨it,fp,tn,J,H2,e,I2,T,st2,f2,W,⟨m0,w0⟩,turn⟩:=h2;subst e;have stat:∀{H':Hp},(∀b∈fp,H' b=none)->∀b∈fp,kN X pins H' b:=λhn b hb=>⟨hn b hb,(f2 b hb).2⟩;refine codeAny_forLoop_any (λn s'=>∃i σ' H',Inv X pins σ' H' s'/\tn i s'.heap/\(∀b∈fp,H' b=none)/\W i n σ' H') ?_ m0 ⟨0,σ,H2,I2,st2,λb hb=>(f2 b hb).1,w0⟩
 rintro n s3 ⟨i,σ3,H3,I3,st3,fr3,w3⟩;rcases turn i n σ3 H3 w3 with ⟨stop,qn⟩|⟨go,N,hN,step⟩
 ·refine wpAny_passesOwn hp (bK (T.done X rfl rfl rfl hc i pins s3 σ3 H3 X.xe I3 (stat fr3) st3 stop) λr s4 ⟨hr,I4⟩=>?_);subst hr;exact wpAny_execs_nil ⟨σ3,H3,I4,qn⟩
 ·refine wpAny_passesOwn hp (bK (T.item X rfl rfl rfl hc i pins s3 σ3 H3 X.xe I3 (stat fr3) st3 go) λr s4 ⟨u,hr,h4⟩=>?_);subst hr;refine wpAny_passesOwn hp (bK h4 λ_ s5 hq0=>?_);obtain⟨x,H5,I5,r5,y5,st5,fr5⟩:=hq0;have I5':=I5.pinned (stat fr5) (T.obj _ _ st5);refine wpAny_passesOwn hp (bK (hg _ s5 σ3 H5 x u _ I5' r5 (step x H5 y5)) λ_ s6 ⟨σ6,H6,I6,q6⟩=>?_);refine wpAny_passesOwn hp (bK (hb _ s6 σ6 H6 _ I6 q6) λf s7 q7=>?_)
  have again:∀{σ7:St} {H7:Hp},Inv X (pins ++ nC fp s5.heap) σ7 H7 s7->N σ7 H7->∃m,m < n/\∃i σ' H',Inv X pins σ' H' s7/\tn i s7.heap/\(∀b∈fp,H' b=none)/\W i m σ' H':=λ{σ7 H7} I7 n7=>by
   obtain⟨m',hm,w7⟩:=hN σ7 H7 n7;refine⟨m',hm,i + 1,σ7,H7,I7.j5,T.keep _ _ _ st5 λb hb o e=>(I7.pin (b,o) (HP _ (HP _ (gu hb e)))).1,λb hb=>?_,w7⟩;obtain⟨o,e,d⟩:=T.obj _ _ st5 b hb;exact (I7.pin (b,o) (HP _ (HP _ (gu hb e)))).2.1
  cases f with
  | next=>obtain⟨σ7,H7,I7,n7⟩:=q7;exact again I7 n7
  | cont=>obtain⟨σ7,H7,I7,n7⟩:=q7;exact again I7 n7
  | brk=>obtain⟨σ7,H7,I7,q7⟩:=q7;exact⟨σ7,H7,I7.j5,q7⟩
  | ret v=>obtain⟨x7,σ7,H7,I7,r7,q7⟩:=q7;exact⟨x7,σ7,H7,I7.j5,r7,q7⟩
end
abbrev R2:=V->V->Hp->VK->Prop
def iS (X:Cx) (f:Value->Value->Sem Value) (r:R2):Prop :=
 ∀(pins:List (Addr×Obj)) (s:Shared) (σ:St) (H:Hp) (x y:V) (v u:Value) (Q:VK),Inv X pins σ H s->RelV x v->RelV y u->r x y H Q ->
  wpAny (model X.prog X.w) X.A (f v u) (EP X pins σ Q) X.xe s
def Fv (X:Cx) (f:Value->Sem Value) (r:V->Hp->VK->Prop):Prop :=
 ∀(pins:List (Addr×Obj)) (s:Shared) (σ:St) (H:Hp) (x:V) (v:Value) (Q:VK),Inv X pins σ H s->RelV x v->r x H Q ->
  wpAny (model X.prog X.w) X.A (f v) (EP X pins σ Q) X.xe s
def cV (X:Cx) (f:Value) (r:List V->Hp->VK->Prop):Prop :=
 ∀(pins:List (Addr×Obj)) (s:Shared) (σ:St) (H:Hp) (xs:List V) (us:List Value) (Q:VK),Inv X pins σ H s->Vals xs us->r xs H Q ->
  wpAny (model X.prog X.w) X.A (call f us) (EP X pins σ Q) X.xe s
def DM (r:R2) (ta tb:TE):TE:=λσ H Q=>ta σ H λx H1=>tb σ H1 λy H2=>r x y H2 Q
def G4 (r:V->Hp->VK->Prop) (ta:TE):TE:=λσ H Q=>ta σ H λx H1=>r x H1 Q
def rI (C:Int->Int->Prop) (g:Int->Int->V):R2:=λx y H Q=>∃i j,x=.int i/\y=.int j/\C i j/\Q (g i j) H
def zK (g:Int->Int->V):R2:=λx y H Q=>∃i j,x=.int i/\y=.int j/\Q (g i j) H
def rU (g:Int->V):V->Hp->VK->Prop:=λx H Q=>∃i,x=.int i/\Q (g i) H
section
variable {X:Cx} {a b c:Expr} {ta tb tc:TE} {pos:Pos}
theorem C4 (ha:PE X a ta) (hb:PE X b tb) {pins:List (Addr×Obj)} {s:Shared} {σ:St} {H:Hp} {R:V->V->Hp->Prop} (I:Inv X pins σ H s)
  (h:ta σ H λx H1=>tb σ H1 λy H2=>R x y H2) {Q:Value->Shared->Prop} {f:Value->Value->Sem Value}
  (hf:∀v u s2 x y H2,Inv X pins σ H2 s2->RelV x v->RelV y u->R x y H2->wpAny (model X.prog X.w) X.A (f v u) Q X.xe s2) :
  wpAny (model X.prog X.w) X.A (eval a X.env) (λv s₁=>wpAny (model X.prog X.w) X.A (eval b X.env) (λu s₂=>wpAny (model X.prog X.w) X.A (f v u) Q X.xe s₂) X.xe s₁) X.xe s:=by
 refine bK (ha pins s σ H _ I h) λv s1 hq0=>?_;obtain⟨x,H1,I1,r1,q1⟩:=hq0;refine bK (hb pins s1 σ H1 _ I1 q1) λu s2 hq0=>?_;obtain⟨y,H2,I2,r2,q2⟩:=hq0;exact hf v u s2 x y H2 I2 r1 r2 q2
theorem Ex {op:Operator} {r:R2} (ho:iS X (binaryOp op) r) (ha:PE X a ta) (hb:PE X b tb):PE X (.BinOp a op b pos) (DM r ta tb):=by
 intro pins s σ H Q I h;exact wpAny_BinOp (C4 ha hb I h λv u s2 x y H2 I2 rx ry q=>ho pins s2 σ H2 x y v u Q I2 rx ry q)
theorem Eh {op:UnaryOp} {r:V->Hp->VK->Prop} (ho:Fv X (unaryOp op) r) (ha:PE X a ta):PE X (.UnaryOp op a pos) (G4 r ta):=by
 intro pins s σ H Q I h;exact UnaryOp_ (bK (ha pins s σ H _ I h) λv s1 ⟨x,H1,I1,r1,q1⟩=>ho pins s1 σ H1 x v Q I1 r1 q1)
theorem Fy {f:Value->Value->Sem Value} {C:Int->Int->Prop} {g:Int->Int->Int}
  (rule:∀(i j:Int) (t u:Tok) (s:Shared) (Q:Value->Shared->Prop) (E:Value->Shared->Prop),C i j->Q (.int (g i j) s.toks) { s with toks:=s.toks + 1 }->wpAny (model X.prog X.w) X.A (f (.int i t) (.int j u)) Q E s) :
  iS X f (rI C λi j=>.int (g i j)):=by
 intro pins s σ H x y v u Q I rx ry h;obtain⟨i,j,rfl,rfl,hc,q⟩:=h;obtain⟨t,rfl⟩:=rx;obtain⟨t',rfl⟩:=ry;exact rule i j t t' s _ _ hc ⟨.int (g i j),H,I.tok _,⟨_,rfl⟩,q⟩
theorem DW {f:Value->Value->Sem Value} {g:Int->Int->Int}
  (rule:∀(i j:Int) (t u:Tok) (s:Shared) (Q:Value->Shared->Prop) (E:Value->Shared->Prop),Q (.int (g i j) s.toks) { s with toks:=s.toks + 1 }->wpAny (model X.prog X.w) X.A (f (.int i t) (.int j u)) Q E s) :
  iS X f (zK λi j=>.int (g i j)):=by
 intro pins s σ H x y v u Q I rx ry h;obtain⟨i,j,rfl,rfl,q⟩:=h;obtain⟨t,rfl⟩:=rx;obtain⟨t',rfl⟩:=ry;exact rule i j t t' s _ _ ⟨.int (g i j),H,I.tok _,⟨_,rfl⟩,q⟩
theorem C1 {f:Value->Value->Sem Value} {g:Int->Int->Bool}
  (rule:∀(i j:Int) (t u:Tok) (s:Shared) (Q:Value->Shared->Prop) (E:Value->Shared->Prop),Q (.bool (g i j)) s->wpAny (model X.prog X.w) X.A (f (.int i t) (.int j u)) Q E s) :
  iS X f (zK λi j=>.bl (g i j)):=by
 intro pins s σ H x y v u Q I rx ry h;obtain⟨i,j,rfl,rfl,q⟩:=h;obtain⟨t,rfl⟩:=rx;obtain⟨t',rfl⟩:=ry;exact rule i j t t' s _ _ ⟨.bl (g i j),H,I,rfl,q⟩
def Cq (i j:Int):Prop:=0<=j/\j<=1000000/\i.natAbs < 2 ^ 64
theorem BN:iS X (binaryOp .Add) (zK λi j=>.int (i + j)):=DW λ_ _ _ _ _ _ _ q=>add_int q
theorem Cm:iS X (binaryOp .Sub) (zK λi j=>.int (i - j)):=DW λ_ _ _ _ _ _ _ q=>sub_int q
theorem AG:iS X (binaryOp .Mod) (rI (λ_ j=>j≠0) λi j=>.int (i.fmod j)):=Fy λ_ _ _ _ _ _ _ hc q=>mod_int' hc q
theorem B3:iS X (binaryOp .Pow) (rI Cq λi j=>.int (i ^ j.toNat)):=Fy λ_ _ _ _ _ _ _ hc q=>pow_int_small hc.1 hc.2.1 hc.2.2 q
theorem GY {f:Value->Sem Value} {g:Int->Int}
  (rule:∀(i:Int) (t:Tok) (s:Shared) (Q:Value->Shared->Prop) (E:Value->Shared->Prop),Q (.int (g i) s.toks) { s with toks:=s.toks + 1 }->wpAny (model X.prog X.w) X.A (f (.int i t)) Q E s) :
  Fv X f (rU λi=>.int (g i)):=by
 intro pins s σ H x v Q I rx h;obtain⟨i,rfl,q⟩:=h;obtain⟨t,rfl⟩:=rx;exact rule i t s _ _ ⟨.int (g i),H,I.tok _,⟨_,rfl⟩,q⟩
theorem De:Fv X (unaryOp .USub) (rU λi=>.int (-i)):=GY λ_ _ _ _ _ q=>neg_int q
end
section
variable {X:Cx} {a b c:Expr} {ta tb tc:TE} {pos:Pos}
theorem Di {pins:List (Addr×Obj)} {σ:St} {H:Hp} {s:Shared} {Q:VK} {k k':Bool} (I:Inv X pins σ H s) (q:Q (.bl k) H) (e:k=k'):EP X pins σ Q (.bool k') s:=by
 subst e;exact⟨.bl k,H,I,rfl,q⟩
theorem El:iS X (compareOp .Lt) (zK λi j=>.bl (decide (i < j))):=C1 λ_ _ _ _ _ _ _ q=>lt_int q
theorem Ep:iS X (compareOp .Gt) (zK λi j=>.bl (decide (j < i))):=C1 λ_ _ _ _ _ _ _ q=>gt_int q
theorem DV:iS X (compareOp .GtE) (zK λi j=>.bl (decide (j<=i))):=C1 λ_ _ _ _ _ _ _ q=>ge_int q
theorem Cs:iS X (compareOp .Is) (λx y H Q=>y=.non/\Q (.bl (decide (x=.non))) H):=by
 intro pins s σ H x y v u Q I rx ry h;obtain⟨rfl,q⟩:=h;cases ry;refine is_none_gen (Di I q ?_)
 cases x <;> first
  | (cases rx;rfl)
  | (obtain⟨t,rfl⟩:=rx;rfl)
theorem iS.or {f:Value->Value->Sem Value} {r r':R2} (h:iS X f r) (h':iS X f r'):iS X f (λx y H Q=>r x y H Q\/r' x y H Q):=by
 intro pins s σ H x y v u Q I rx ry q;rcases q with q|q
 ·exact h pins s σ H x y v u Q I rx ry q
 ·exact h' pins s σ H x y v u Q I rx ry q
theorem gy (b:Expr) {op:CmpOp} (h:op≠.In:=by decide) (h2:op≠.NotIn:=by decide):behindInMarks op b=false:=by
 have e1:(op == CmpOp.In)=false:=by cases op <;> first|rfl|exact absurd rfl h
 have e2:(op == CmpOp.NotIn)=false:=by cases op <;> first|rfl|exact absurd rfl h2
 cases b <;> simp [behindInMarks,e1,e2]
theorem AA {op:CmpOp} {r:R2} (ho:iS X (compareOp op) r) (ha:PE X a ta) (hb:PE X b tb) (hm:behindInMarks op b=false):PE X (.Compare a [op] [b] pos) (DM r ta tb):=by
 intro pins s σ H Q I h;exact wpAny_Compare1 (C4 ha hb I h λv u s2 x y H2 I2 rx ry q=>ho pins s2 σ H2 x y v u Q I2 rx ry q) hm
def Eu (t:TE):TT:=λσ H Q=>t σ H λx H'=>∃k,x=.bl k/\Q k H'
theorem mK {op:CmpOp} {r:R2} (ho:iS X (compareOp op) r) (ha:PE X a ta) (hb:PE X b tb) (hm:behindInMarks op b=false):PT X (.Compare a [op] [b] pos) (Eu (DM r ta tb)):=by
 intro pins s σ H Q I h
 refine wpAny_isTrue_Compare1 (bK (ha pins s σ H _ I h) λv s1 ⟨x,H1,I1,r1,q1⟩=>bK (hb pins s1 σ H1 _ I1 q1) λu s2 ⟨y,H2,I2,r2,q2⟩ =>
  bK (ho pins s2 σ H2 x y v u _ I2 r1 r2 q2) λc s3 ⟨z,H3,I3,r3,k,e,q3⟩=>?_) hm
 subst e;cases r3;exact wpAny_truthy_bool ⟨H3,I3,q3⟩
theorem kR:(sizeLine:Nat) < 2 ^ 63:=by rw [sizeLine_eq];decide
theorem tY:iS X (binaryOp .Add) (λx y H Q=>∃i j,x=.str i/\y=.str j/\i.length + j.length<=sizeLine/\Q (.str (i ++ j)) H):=by
 intro pins s σ H x y v u Q I rx ry h;obtain⟨i,j,rfl,rfl,hz,q⟩:=h;obtain⟨t,rfl⟩:=rx;obtain⟨t',rfl⟩:=ry;exact add_str (λt' tk=>⟨.str (i ++ j),H,I.tok _,⟨_,rfl⟩,q⟩) hz
theorem vals1 {x:V} {us:List Value} (r:Vals [x] us):∃u,us=[u]/\RelV x u:=by
 cases r with
 | cons r1 r2=>cases r2;exact⟨_,rfl,r1⟩
theorem vals2 {x y:V} {us:List Value} (r:Vals [x,y] us):∃u w',us=[u,w']/\RelV x u/\RelV y w':=by
 cases r with
 | cons r1 r2 =>
  cases r2 with
  | cons r3 r4=>cases r4;exact⟨_,_,rfl,r1,r3⟩
theorem yu:cV X (.builtin "abs") (λxs H Q=>∃i,xs=[.int i]/\Q (.int (if i < 0 then -i else i)) H):=by
 intro pins s σ H xs us Q I r h;obtain⟨i,rfl,q⟩:=h;obtain⟨u,rfl,t,rfl⟩:=vals1 r;exact call_abs_int λu tk=>⟨.int (if i < 0 then -i else i),H,I.tok _,⟨_,rfl⟩,q⟩
theorem wd (hc:X.calm=true):cV X (.builtin "max") (λxs H Q=>∃i j,xs=[.int i,.int j]/\Q (.int (if j > i then j else i)) H):=by
 intro pins s σ H xs us Q I r h;obtain⟨i,j,rfl,q⟩:=h;obtain⟨u,w',rfl,⟨t,rfl⟩,⟨t',rfl⟩⟩:=vals2 r;refine max_two_ints (I.ok.hd hc) λh' tk k=>⟨_,H,I.kept k,?_,q⟩
 by_cases hj:j > i
 ·rw [if_pos hj,if_pos hj];exact⟨_,rfl⟩
 ·rw [if_neg hj,if_neg hj];exact⟨_,rfl⟩
theorem xj (hc:X.calm=true):cV X (.builtin "min") (λxs H Q=>∃i j,xs=[.int i,.int j]/\Q (.int (if j < i then j else i)) H):=by
 intro pins s σ H xs us Q I r h;obtain⟨i,j,rfl,q⟩:=h;obtain⟨u,w',rfl,⟨t,rfl⟩,⟨t',rfl⟩⟩:=vals2 r;refine min_two_ints (I.ok.hd hc) λh' tk k=>⟨_,H,I.kept k,?_,q⟩
 by_cases hj:j < i
 ·rw [if_pos hj,if_pos hj];exact⟨_,rfl⟩
 ·rw [if_neg hj,if_neg hj];exact⟨_,rfl⟩
theorem wX:cV X (.type "int") (λxs H Q=>(∃i,xs=[.int i]/\Q (.int i) H)\/∃k,xs=[.bl k]/\Q (.int (if k then 1 else 0)) H):=by
 intro pins s σ H xs us Q I r h;rcases h with ⟨i,rfl,q⟩|⟨k,rfl,q⟩
 ·obtain⟨u,rfl,t,rfl⟩:=vals1 r;exact call_int_int ⟨.int i,H,I,⟨_,rfl⟩,q⟩
 ·obtain⟨u,rfl,r1⟩:=vals1 r;cases r1;exact call_int_bool ⟨.int (if k then 1 else 0),H,I.tok _,⟨_,rfl⟩,q⟩
end
section
variable {P:Program} {w:World} {H H':Hp} {h h':Heap} {a C dx:Addr} {fs fs':List (Str×V)}
end
section
variable {X:Cx} {pins:List (Addr×Obj)} {σ:St} {H:Hp} {s:Shared} {a C dx:Addr} {fs:List (Str×V)} {f:Str} {v:V} {A:Around} {E:Value->Shared->Prop}
end
structure cI (k:Nat) (A:Around):Prop where
 hd:A.handled=none
 dp:A.depth + 3 * k + 5 < recursionLimit
 un:A.units + 16 * k + 200 < cLine
theorem cI.mono {j k:Nat} {A:Around} (r:cI k A) (h:j<=k):cI j A:=⟨r.hd,by have:=r.dp;omega,by have:=r.un;omega⟩
theorem cI.deeper {k:Nat} {A:Around} (r:cI (k + 1) A) (env:Env):cI k (A.deeper env) :=
 ⟨r.hd,by have:=r.dp;show A.depth + 1 + 3 * k + 5 < _;omega,by have:=r.un;show A.units + 3 + 16 * k + 200 < _;omega⟩
theorem cI.depth {k:Nat} {A:Around} (r:cI k A):A.depth < recursionLimit:=by have:=r.dp;omega
theorem cI.units {k:Nat} {A:Around} (r:cI k A):A.units + 64 < cLine:=by have:=r.un;omega
def Gp:TA:=λ_ H Q=>Q [] H
def DY (ta:TE) (tr:TA):TA:=λσ H Q=>ta σ H λx H1=>tr σ H1 λxs H2=>Q (x :: xs) H2
section
variable {X:Cx} {e:Expr} {es:List Expr} {te:TE} {t:TA} {pos:Pos}
theorem c9:PA X [] Gp:=λ_ _ _ _ H Q I h=>Calls.spliced_nil ⟨[],H,I,.nil,h⟩
theorem cj (ha:PE X e te) (hr:PA X es t) (hs:starEach (e :: es) X.env=(false,eval e X.env) :: starEach es X.env:=by rfl):PA X (e :: es) (DY te t):=by
 intro pos pins s σ H Q I h;rw [hs];show wpAny _ _ (spliced ((false,eval e X.env) :: backTo pos (starEach es X.env))) _ _ s
 refine Ir (bK (ha pins s σ H _ I h) λu s1 hq0=>?_);obtain⟨x,H1,I1,r1,q1⟩:=hq0;exact bK (hr pos pins s1 σ H1 _ I1 q1) λus s2 ⟨xs,H2,I2,r2,q2⟩=>⟨x :: xs,H2,I2,.cons r1 r2,q2⟩
def FR (t:TA):TE:=λσ H Q=>t σ H λxs H1=>xs.length<=sizeLine/\∀p,H1 p=none->Q (.ref p) (upd H1 p (.tup xs))
def Ge (t:TA):TE:=λσ H Q=>t σ H λxs H1=>xs.length<=sizeLine/\∀p,H1 p=none->Q (.ref p) (upd H1 p (.lst xs))
theorem Cp {x1} (h:PA X es t):PE X (.Tuple es x1 pos) (FR t):=by
 intro pins s σ H Q I hq;refine wpAny_Tuple_spliced (bK (h pos pins s σ H _ I hq) λus s1 ⟨xs,H1,I1,r,z,q⟩=>⟨by rw [<- r.length];exact z,?_⟩);have hf:H1 s1.heap.objs.size=none:=I1.hok.fresh (Hl _);refine⟨.ref s1.heap.objs.size,upd H1 s1.heap.objs.size (.tup xs),I1.laid (t':=s1.toks) (λb u e=>Hf _ e) (Hl _) ?_,rfl,q _ hf⟩;exact⟨z,us,r,⟨_,Hs _ rfl,rfl,⟨_,rfl⟩,rfl⟩⟩
theorem lE (h:PA X es t):PE X (.List es pos) (Ge t):=by
 intro pins s σ H Q I hq;refine wpAny_List_spliced (bK (h pos pins s σ H _ I hq) λus s1 ⟨xs,H1,I1,r,z,q⟩=>⟨by rw [<- r.length];exact z,?_⟩);have hf:H1 s1.heap.objs.size=none:=I1.hok.fresh (Hl _);refine⟨.ref s1.heap.objs.size,upd H1 s1.heap.objs.size (.lst xs),I1.laid (t':=s1.toks) (λb u e=>Hf _ e) (Hl _) ?_,rfl,q _ hf⟩;exact⟨z,us,0,r,Hs _ rfl⟩
end
abbrev Sp:=List V->Hp->VK->XK->Prop
abbrev xW:=List Env->Hp->Shared->XK->Value->Shared->Prop
structure qJ (P:Program) (w:World) (K:Ha) (mg:Str->Option Value) (base:Heap) (A:Around) (outer:List Env) (s:Shared) (H:Hp):Prop where
 frames:A.frames=some outer
 mod:Mod K mg base
 bs:∀b o,base.get? b=some o->s.heap.get? b=some o/\H b=none
 bsz:base.objs.size<=s.heap.objs.size
 iT:s.heap.FunFrames base outer
 frf:(∀b∈jx outer,H b=none)/\AR K H
 hok:kA P w H s.heap
 bare:AllBare s.gens
def CE (outer:List Env) (P:Program) (w:World) (H:Hp) (s:Shared) (Q:VK) (u:Value) (s':Shared):Prop :=
 ∃v H',s'.os=s.os/\AllBare s'.gens/\Un (jx outer) [] H H' s.heap s'.heap/\kA P w H' s'.heap/\RelV v u/\Q v H'
def CR (CX:xW) (outer:List Env) (P:Program) (w:World) (H:Hp) (s:Shared) (Q:VK) (E:XK) (r:Result) (s':Shared):Prop :=
 match r with
 | .ok (.ret u)=>CE outer P w H s Q u s'
 | .ok _=>False
 | .error e=>CX outer H s E e s'
structure nN (P:Program) (w:World) (K:Ha) (mg:Str->Option Value) (base:Heap) (CX:xW) (k:Nat) (f:Addr) (fd:FuncData) (ps:List Str) (sp:Sp):Prop where
 len:∀vs H Q E,sp vs H Q E->vs.length=ps.length
 run:∀(A:Around) (outer:List Env) (s:Shared) (H:Hp) (args:Args) (us:List Value) (vs:List V) (Q:VK) (E:XK),cI k A->qJ P w K mg base A outer s H->BindsTo s fd args (ps.zip us)->Vals vs us->sp vs H Q E ->
  codeAny (model P w) A (.call (.ref f) args) (CR CX outer P w H s Q E) s
section
variable {X:Cx} {pins:List (Addr×Obj)} {σ:St} {H:Hp} {s s':Shared}
theorem Inv.eU (I:Inv X pins σ H s):qJ X.prog X.w X.K X.mg X.base X.A X.stack s H :=
 ⟨I.ok.frames,I.ok.mod,I.bs,HX I.ok.bsz I.sz,I.stack,⟨I.mG,I.tb⟩,I.hok,I.bare⟩
theorem Inv.after {Q:VK} {u:Value} (I:Inv X pins σ H s) (h:CE X.stack X.prog X.w H s Q u s'):EP X pins σ Q u s':=by
 obtain⟨v,H',os,bare,un,hok,r,q⟩:=h;obtain⟨hh,g,d,t,os'⟩:=s';obtain rfl:os'=s.os:=os;exact⟨v,H',I.call (h':=hh) (g':=g) (d':=d) (t':=t) (ch:=[]) un hok bare (λb z=>absurd z (by simp)),r,q⟩
end
def Bl (sp:Sp) (dvs:List V) (E:XK) (t:TA):TE:=λσ H Q=>t σ H λvs H1=>sp (vs ++ dvs) H1 Q E
def Binds (K:Ha) (fd:FuncData) (ps:List Str) (ds:List Value):Prop :=
 ∀(s:Shared) (us:List Value),K.In s.heap->(us ++ ds).length=ps.length->BindsTo s fd ⟨us,[]⟩ (ps.zip (us ++ ds))
theorem Binds.all {K:Ha} {fd:FuncData} {ps:List Str} (h:∀us:List Value,us.length=ps.length->bindArgs fd ⟨us,[]⟩=pure (ps.zip us)):Binds K fd ps []:=λs us _ hl=>by
 rw [HR] at hl ⊢;exact .of_eq (h us hl)
def Passes (CX:xW) (X:Cx) (E:XK):Prop:=∀(pins:List (Addr×Obj)) (σ:St) (H:Hp) (s:Shared) (e:Value) (s':Shared),Inv X pins σ H s->CX X.stack H s E e s'->X.xe e s'
section
variable {X:Cx} {CX:xW} {k:Nat} {f C:Addr} {fd:FuncData} {ps:List Str} {sp:Sp} {dvs:List V} {ds:List Value} {E:XK} {x m:Str} {p pos apos:Pos} {e o:Expr} {es:List Expr} {ta:TE} {t:TA}
theorem Dy {pins:List (Addr×Obj)} {σ:St} {H:Hp} {s:Shared} {Q:VK} {us:List Value} {vs:List V} (F:nN X.prog X.w X.K X.mg X.base CX k f fd ps sp) (hr:cI k X.A) (hb:Binds X.K fd ps ds) (hd:Vals dvs ds) (hx:Passes CX X E)
  (I:Inv X pins σ H s) (r:Vals vs us) (h:sp (vs ++ dvs) H Q E):wpAny (model X.prog X.w) X.A (call (.ref f) us) (EP X pins σ Q) X.xe s:=by
 have r2:Vals (vs ++ dvs) (us ++ ds):=r.append hd;have hl:(us ++ ds).length=ps.length:=by rw [<- r2.length];exact F.len _ _ _ _ h
 refine wpAny_call (codeAny_mono (F.run X.A X.stack s H ⟨us,[]⟩ (us ++ ds) (vs ++ dvs) Q E hr I.eU (hb s us I.oh hl) r2 h) λr s' hq=>?_)
 cases r with
 | error e=>exact hx pins σ H s e s' I hq
 | ok fl =>
  cases fl with
  | ret u=>exact I.after hq
  | next=>exact False.elim hq
  | brk=>exact False.elim hq
  | cont=>exact False.elim hq
theorem Ak (F:nN X.prog X.w X.K X.mg X.base CX k f fd ps sp) (hr:cI k X.A) (hg:Gl X x) (hm:X.mg x=some (.ref f)) (hk:PySem.W.keepIn X.K (.ref f)=true) (hb:Binds X.K fd ps ds) (hd:Vals dvs ds) (hx:Passes CX X E)
  (ha:PA X (e :: es) t) (hdb:(x == ("__debug__" : Str))=false:=by decide) (he:starEach (e :: es) X.env=(false,eval e X.env) :: starEach es X.env:=by rfl) (hpl:(backTo pos (starEach es X.env)).any (·.1)=false:=by rfl) :
  PE X (.Call (.Name x p) (e :: es) [] pos) (Bl sp dvs E t):=by
 intro pins s σ H Q I h;refine wpAny_Call_Name_kw (fK I hg hm ?_ hdb);refine PySem.W.callWith_K (h₀:=X.base) I.ok.mod.kin hk (bK (ha pos pins s σ H _ I h) λus s1 ⟨vs,H1,I1,r,q⟩=>⟨I1.oh,?_⟩) he hpl;exact Dy F hr hb hd hx I1 r q
end
structure aG (N P:List Str) (sc:Scope):Prop where
 kind:sc.kind=.function
 co:sc.isCoroutine=false
 gen:sc.isGenerator=false
 nd:N.Nodup
 pre:N.take P.length=P
 par:∀x∈P,sc.names.lookup x=some .local\/sc.names.lookup x=some .cell
 nofree:∀y∈sc.names,y.2≠.free
theorem pH {kindOf:Str->Option NameKind} {x:Str}:∀{binds:List (Str×Value)} {m:Str->Option Value},(∀v,(x,v)∉binds)->bindL kindOf binds m x=m x
 | [],_,_=>rfl
 | (n,v) :: r,m,h=>by
  unfold bindL;rw [pH λw hw=>h w (Hq _ hw)]
  split
  ·have:x≠n:=by rintro rfl;exact h v Hy
   simp [this]
  ·rfl
theorem o7 {kindOf:Str->Option NameKind} {x:Str}:∀{binds:List (Str×Value)} {m:Str->Option Value},(∀v,(x,v)∉binds)->bindC kindOf binds m x=m x
 | [],_,_=>rfl
 | (n,v) :: r,m,h=>by
  unfold bindC;rw [o7 λw hw=>h w (Hq _ hw)]
  split
  ·rfl
  ·have:x≠n:=by rintro rfl;exact h v Hy
   simp [this]
theorem pD {kindOf:Str->Option NameKind} {x:Str} {v:Value}:∀{P:List Str} {vs:List Value} {i:Nat} {m:Str->Option Value},P.Nodup->P[i]?=some x->vs[i]?=some v->kindOf x=some .local ->
  bindL kindOf (P.zip vs) m x=some v
 | [],_,_,_,_,h,_,_=>by simp at h
 | _ :: _,[],_,_,_,_,h,_=>by simp at h
 | p :: P,w :: vs,0,m,nd,h1,h2,hk=>by
  simp at h1 h2;subst h1;subst h2;show bindL kindOf ((p,w) :: P.zip vs) m p=_
  unfold bindL;rw [pH λv hv=>(HS.mp nd).1 (List.of_mem_zip hv).1,if_pos hk]
  simp
 | p :: P,w :: vs,i + 1,m,nd,h1,h2,hk=>by
  show bindL kindOf ((p,w) :: P.zip vs) m x=_
  unfold bindL;exact pD (i:=i) (HS.mp nd).2 (by simpa using h1) (by simpa using h2) hk
theorem oX {kindOf:Str->Option NameKind} {x:Str} {v:Value}:∀{P:List Str} {vs:List Value} {i:Nat} {m:Str->Option Value},P.Nodup->P[i]?=some x->vs[i]?=some v->kindOf x≠some .local ->
  bindC kindOf (P.zip vs) m x=some v
 | [],_,_,_,_,h,_,_=>by simp at h
 | _ :: _,[],_,_,_,_,h,_=>by simp at h
 | p :: P,w :: vs,0,m,nd,h1,h2,hk=>by
  simp at h1 h2;subst h1;subst h2;show bindC kindOf ((p,w) :: P.zip vs) m p=_
  unfold bindC;rw [o7 λv hv=>(HS.mp nd).1 (List.of_mem_zip hv).1,if_neg hk]
  simp
 | p :: P,w :: vs,i + 1,m,nd,h1,h2,hk=>by
  show bindC kindOf ((p,w) :: P.zip vs) m x=_
  unfold bindC;exact oX (i:=i) (HS.mp nd).2 (by simpa using h1) (by simpa using h2) hk
def start (N:List Str) (vs:List V):St:=vs.map some ++ List.replicate (N.length - vs.length) none
def gM (CX:xW) (P:Program) (w:World) (K:Ha) (mg:Str->Option Value) (base:Heap) (N:List Str) (qual:Str) (scope:Scope) (f:Addr) (cd:Value) (A:Around) (outer:List Env) (s:Shared) (H:Hp) (E:XK):Cx where
 prog:=P
 w:=w
 K:=K
 mg:=mg
 base:=base
 A:=A.deeper (envOfC qual scope s.heap.objs.size f cd)
 N:=N
 s₀:=s
 H₀:=H
 env:=envOfC qual scope s.heap.objs.size f cd
 outer:=outer
 stack:=envOfC qual scope s.heap.objs.size f cd :: outer
 ex:=[]
 calm:=true
 fn:=λ_=>true
 pn:=[]
 xe:=λe s'=>wpAny (model P w) (A.deeper (envOfC qual scope s.heap.objs.size f cd)) (leaving (envOfC qual scope s.heap.objs.size f cd) e) (λ_ s''=>CX outer H s E e s'') (λe' s''=>CX outer H s E e' s'') s'
theorem sh {sc:Scope} {n:Nat} {x:Str} (h:sc.names.lookup x=some .cell):∃c,(cellsFrom n sc.names []).lookup x=some c:=by
 have q:=PySem.W.cellsFrom_some sc.names n [] (.inl h);exact Option.isSome_iff_exists.mp q
theorem o5 {CX:xW} {P:Program} {w:World} {K:Ha} {mg:Str->Option Value} {base:Heap} {N ps:List Str} {qual:Str} {scope:Scope} {f:Addr} {cd:Value} {A:Around} {outer:List Env} {s s1:Shared} {H:Hp} {E:XK} {us:List Value} {vs:List V}
  (S:aG N ps scope) (hd:A.handled=none) (e0:qJ P w K mg base A outer s H) (hl:vs.length=ps.length) (r:Vals vs us)
  (x:InCallC s s.heap.objs.size (bindL (envOfC qual scope s.heap.objs.size f cd).kindOf (ps.zip us) λ_=>none) (cellsFrom (s.heap.objs.size + 1) scope.names []) (bindC (envOfC qual scope s.heap.objs.size f cd).kindOf (ps.zip us) λ_=>none) s1) :
  Inv (gM CX P w K mg base N qual scope f cd A outer s H E) [] (start N vs) H s1:=by
 have hpl:ps.length<=N.length:=by have:=congrArg List.length S.pre;rw [List.length_take] at this;omega
 obtain⟨h1,tk,rfl,hk⟩:=x.done;have noA:∀b:Addr,b∉(gM CX P w K mg base N qual scope f cd A outer s H E).ex:=λb z=>absurd (show b∈([]:List Addr) from z) (by simp)
 refine⟨⟨e0.mod,S.kind,rfl,rfl,Hl _,λy z c h1 h2=>?_,λy hy=>?_,λy c _ h=>?_,λ_=>hd,Around.frames_deeper e0.frames,.inr ⟨rfl,rfl⟩,λb z=>absurd z (noA b),e0.bs,e0.bsz,λb _ _=>noA b,λb z=>absurd z (noA b),e0.iT,e0.frf⟩,
  rfl,e0.bare,Un.kept hk,⟨_,x.toInCall.ns,λi y v h1 h2 h3=>?_⟩,λy c h=>⟨_,x.cell y c h⟩,e0.hok.fresh (Hl _),λy c h=>?_,λp hp=>absurd (show p∈([]:List (Addr×Obj)) from hp) (by simp),e0.hok.kept hk,?_⟩
 ·exact name_of_addr x.apart (PySem.mem_of_lookup h1) (PySem.mem_of_lookup h2)
 ·have hy:scope.names.lookup y=some .cell\/scope.names.lookup y=some .free:=hy;rcases hy with hy|hy
  ·exact sh hy
  ·exact absurd rfl (S.nofree _ (PySem.mem_of_lookup hy))
 ·exact Iv (x.above y c (PySem.mem_of_lookup h))
 ·have hi:i < vs.length:=by
   unfold start at h2
   by_cases hi:i < vs.length
   ·exact hi
   ·rw [Hu (by simpa using hi)] at h2;rw [HI] at h2
    split at h2 <;> cases h2
  have ha:vs[i]?=some v:=by
   unfold start at h2;rw [Hw (by simpa using hi),Hi] at h2
   cases e:vs[i]? with
   | none=>rw [e] at h2;cases h2
   | some a=>rw [e] at h2;cases h2;rfl
  obtain⟨u,hu,rv⟩:=r.get ha
  have hp:ps[i]?=some y:=by
   rw [<- S.pre,List.getElem?_take_of_lt (by omega)];exact h1
  have ndP:ps.Nodup:=by rw [<- S.pre];exact S.nd.sublist (List.take_sublist _ _)
  refine⟨u,rv,?_⟩;rcases S.par y (Hm hp) with k|k
  ·exact .inl ⟨k,pD ndP hp hu k⟩
  ·obtain⟨c,e⟩:=sh (n:=s.heap.objs.size + 1) k;refine .inr ⟨.inl k,c,e,?_⟩;have q:=x.cell y c e;rw [oX ndP hp hu (by show scope.names.lookup y≠_;rw [k];decide)] at q;exact q
 ·exact e0.hok.fresh (Iv (x.above y c (PySem.mem_of_lookup h)))
 ·unfold start;show _=N.length
  rw [HH,Hh,List.length_replicate];omega
theorem yh {CX:xW} {P:Program} {w:World} {K:Ha} {mg:Str->Option Value} {base:Heap} {k:Nat} {f:Addr} {name qual:Str} {params:Arguments} {body:List Stmt} {scope:Scope} {dV kV doc pm cdv ct oc:Value} {an od:Option Addr}
  {osl:Array (Option Value)} {N ps:List Str} {sp:Sp} (lk:K.lookup f=some ⟨oc,od,.func (PySem.W.fnOf name qual params body scope dV kV doc pm an cdv ct),osl⟩) (hcd:PySem.W.codeIn K cdv qual=true) (S:aG N ps scope)
  (len:∀vs H Q E,sp vs H Q E->vs.length=ps.length)
  (hbody:∀(A:Around) (outer:List Env) (s:Shared) (H:Hp) (vs:List V) (Q:VK) (E:XK),cI k (A.deeper (envOfC qual scope s.heap.objs.size f cdv))->sp vs H Q E ->
   ∃t,tN (gM CX P w K mg base N qual scope f cdv A outer s H E) body t/\t { nx:=λ_ H'=>Q .non H',rt:=Q } (start N vs) H) :
  nN P w K mg base CX (k + 1) f (PySem.W.fnOf name qual params body scope dV kV doc pm an cdv ct) ps sp:=by
 refine⟨len,λA outer s H args us vs Q E hr e0 hb r hsp=>?_⟩;have hl:=len _ _ _ _ hsp;have KX:K.In s.heap:=e0.mod.kin.keeps λb o e=>(e0.bs b o e).1;have lim:s.heap.NoLimit:=e0.mod.nolimit.keeps λb o e=>(e0.bs b o e).1
 have hkind:∀y∈ps.zip us,scope.names.lookup y.1=some .local\/(scope.names.lookup y.1=some .cell/\((cellsFrom (s.heap.objs.size + 1) scope.names []).lookup y.1).isSome=true):=fun⟨n,v⟩ hy=>by
  rcases S.par n (List.of_mem_zip hy).1 with q|q
  ·exact .inl q
  ·exact .inr ⟨q,PySem.W.cellsFrom_some _ _ _ (.inl q)⟩
 refine codeAny_call_function hr.depth (KX _ _ lk) rfl S.co S.gen rfl (PySem.W.codeRec_of KX hcd) (hb _ _ _ _ ?_);refine wpAny_newFunctionEnv_cells S.kind hkind λenv he s1 x=>?_;subst he;refine⟨lim.keeps x.toInCall.keep,codeAny_func ?_⟩;obtain⟨t,ht,hq⟩:=hbody A outer s H vs Q E (hr.deeper _) hsp;have I:Inv (gM CX P w K mg base N qual scope f cdv A outer s H E) [] (start N vs) H s1:=o5 S hr.hd e0 hl r x
 refine HE (ht [] s1 (start N vs) H _ I hq) (λfl s' hs=>?_) λe s' hs=>hs
 have fin:∀{σ':St} {H':Hp} {v:V} {u:Value},Inv (gM CX P w K mg base N qual scope f cdv A outer s H E) [] σ' H' s'->RelV v u->Q v H'->CE outer P w H s Q u s' :=
  λ{σ' H' v u} J rv q=>⟨v,H',J.os,J.bare,J.base,J.hok,rv,q⟩
 cases fl with
 | ret u =>
  obtain⟨v,σ',H',J,rv,q⟩:=hs
  exact fin J rv q
 | next =>
  obtain⟨σ',H',J,q⟩:=hs
  exact fin (v:=V.non) (u:=Value.none) J rfl q
 | brk =>
  obtain⟨_,_,_,q⟩:=hs
  exact False.elim q
 | cont =>
  obtain⟨_,_,_,q⟩:=hs;exact False.elim q
section
variable {X:Cx} {x:Str} {p pos:Pos} {e:Expr} {es:List Expr} {t:TA} {id T:String} {r:List V->Hp->VK->Prop}
def Gq (r:List V->Hp->VK->Prop) (t:TA):TE:=λσ H Q=>t σ H λvs H1=>r vs H1 Q
theorem si (hc:cV X (.builtin id) r) (hg:Gl X x) (hm:X.mg x=none) (hv:bootBuiltins x=some (.builtin id)) (ha:PA X (e :: es) t) (hn:x≠"__name__":=by decide) (hdb:(x == ("__debug__" : Str))=false:=by decide)
  (he:starEach (e :: es) X.env=(false,eval e X.env) :: starEach es X.env:=by rfl) (hpl:(backTo pos (starEach es X.env)).any (·.1)=false:=by rfl):PE X (.Call (.Name x p) (e :: es) [] pos) (Gq r t):=by
 intro pins s σ H Q I h;refine wpAny_Call_Name_kw (je I hg hm hv ?_ hn hdb);exact PyProof.Rows.callWith_builtin1 (bK (ha pos pins s σ H _ I h) λus s1 ⟨vs,H1,I1,r1,q1⟩=>hc pins s1 σ H1 vs us Q I1 r1 q1) he hpl
theorem iF (hc:cV X (.type T) r) (hg:Gl X x) (hm:X.mg x=none) (hv:bootBuiltins x=some (.type T)) (ha:PA X (e :: es) t) (hn:x≠"__name__":=by decide) (hdb:(x == ("__debug__" : Str))=false:=by decide)
  (he:starEach (e :: es) X.env=(false,eval e X.env) :: starEach es X.env:=by rfl) (hpl:(backTo pos (starEach es X.env)).any (·.1)=false:=by rfl):PE X (.Call (.Name x p) (e :: es) [] pos) (Gq r t):=by
 intro pins s σ H Q I h;refine wpAny_Call_Name_kw (je I hg hm hv ?_ hn hdb);exact PyProof.Rows.callWith_type1 (bK (ha pos pins s σ H _ I h) λus s1 ⟨vs,H1,I1,r1,q1⟩=>hc pins s1 σ H1 vs us Q I1 r1 q1) he hpl
end
end L2
namespace HT
open PySem PyProof.Rows
section
variable {prog:Program} {w:World} {A:Around} {E:Value->Shared->Prop} {s:Shared}
theorem AW {t b:Addr} {vs ws:List Value} {Q:Value->Shared->Prop} (ht:IsTup s.heap t vs.toArray) (hb:IsTup s.heap b ws.toArray) (hv:vs≠[])
  (h1:ws=[]->Q (.ref t) s) (h2:ws≠[]->Q (.ref s.heap.objs.size) { s with heap:=s.heap.push { cls:=.type "tuple",data:=.seq (vs ++ ws).toArray } })
  (hsz:vs.length + ws.length<=sizeLine):wpAny (model prog w) A (binaryOp .Add (.ref t) (.ref b)) Q E s:=by
 obtain⟨⟨cls,dd,data,sl⟩,ho,hc,n,hd⟩:=id ht;obtain⟨⟨cls2,dd2,data2,sl2⟩,ho2,hc2,n2,hd2⟩:=id hb;simp only at hc hd hc2 hd2;subst hc hd hc2 hd2;have e:vs.toArray ++ ws.toArray=(vs ++ ws).toArray:=by simp
 by_cases hw:ws=[]
 ·exact concat_meets ⟨_,ho,rfl⟩ ⟨_,ho2,rfl⟩ noFill_tuple_add seq_tuple_add PySem.F.slot_tuple_add PySem.F.entry_tuple_add (PySem.F.args_tuple_add_2 _ _)
   (tuple_addW1 t b vs.toArray ws.toArray n n2 dd dd2 sl sl2 (by simpa using hv) (by simp [hw])) ⟨ho,ho2,h1 hw⟩
 ·refine concat_meets ⟨_,ho,rfl⟩ ⟨_,ho2,rfl⟩ noFill_tuple_add seq_tuple_add PySem.F.slot_tuple_add PySem.F.entry_tuple_add (PySem.F.args_tuple_add_2 _ _)
   (tuple_addW2 t b vs.toArray ws.toArray n n2 dd dd2 sl sl2 (by simpa using hv) (by simpa using hw) (by rw [Hr,Hr];exact hsz)) ⟨ho,ho2,?_⟩
  rw [e];exact h2 hw
def dP (n d:Nat):Option Int->Nat
 | none=>d
 | some v=>if v < 0 then (v + (n:Int)).toNat else min v.toNat n
theorem vU (n d k:Nat):dP n d (some (k:Int))=min k n:=by
 show (if (k:Int) < 0 then ((k:Int) + (n:Int)).toNat else min (k:Int).toNat n)=min k n
 rw [if_neg (by omega),Int.toNat_natCast]
theorem Cd (n d:Nat) (hd:d<=n) (o:Option Int):dP n d o<=n:=by
 cases o with
 | none=>exact hd
 | some v =>
  show (if v < 0 then (v + (n:Int)).toNat else min v.toNat n)<=n
  by_cases hv:v < 0
  ·rw [if_pos hv];omega
  ·rw [if_neg hv];exact Nat.min_le_right _ _
theorem vG (v:Int) (n d:Nat):(if v < 0 then max (v + (n:Int)) 0 else min v (n:Int))=((dP n d (some v):Nat):Int):=by
 show (if v < 0 then max (v + (n:Int)) 0 else min v (n:Int))=(((if v < 0 then (v + (n:Int)).toNat else min v.toNat n):Nat):Int)
 by_cases hv:v < 0
 ·simp only [if_pos hv];omega
 ·simp only [if_neg hv];omega
theorem uz (lo hi:Option Int) (n:Nat):Builtin.Slice.sliceAdjust lo hi 1 (n:Int)=(((dP n 0 lo:Nat):Int),((dP n n hi:Nat):Int)):=by
 have h1:¬ ((1:Int) < 0):=by omega
 unfold Builtin.Slice.sliceAdjust;simp only [h1,if_false];refine Ik ?_ ?_
 ·cases lo with
  | none=>rfl
  | some v=>exact vG v n 0
 ·cases hi with
  | none=>rfl
  | some v=>exact vG v n n
theorem uk (i j:Nat):Builtin.Slice.slicePlaces (i:Int) (j:Int) 1=j - i:=by
 unfold Builtin.Slice.slicePlaces;have h1:(1:Int) > 0:=by omega
 simp only [h1,if_true,Int.ediv_one]
 split <;> omega
theorem nL {v:Value} {o:Option Int} {Q:Option Int->Shared->Prop} (p:IsPart v o) (h:Q o s):wpAny (model prog w) A (Builtin.Slice.slicePartIndex v) Q E s:=by
 cases p with
 | none=>exact slicePart_none h
 | int i t=>exact slicePart_int h
theorem kF {sl:Addr} {vl vu:Value} {lo hi:Option Int} {n:Nat} {Q:Int×Int×Nat->Shared->Prop} (hs:s.heap.IsSliceOf sl vl vu .none) (pl:IsPart vl lo) (pu:IsPart vu hi)
  (h:Q (((dP n 0 lo:Nat):Int),1,dP n n hi - dP n 0 lo) s):wpAny (model prog w) A (Builtin.Slice.sliceApplied (.ref sl) (pure (n:Int))) Q E s:=by
 obtain⟨os,hos,hcs,hds⟩:=id hs;unfold Builtin.Slice.sliceApplied Builtin.Slice.sliceFields;refine G8 (G8 (wpAny_field hos hds (x:=vl) rfl (G8 (wpAny_field hos hds (x:=vu) rfl (G8 (wpAny_field hos hds (x:=.none) rfl (Hd ?_)))))));refine G8 (slicePart_none ?_);show wpAny _ _ (if ((1:Int) == 0)=true then _ else _) _ _ s
 rw [if_neg (by decide)];refine G8 (nL pl (G8 (nL pu (G8 (Hd ?_)))));show wpAny _ _ (match Builtin.Slice.sliceAdjust lo hi 1 (n:Int) with|(lo,hi)=>pure (lo,(1:Int),Builtin.Slice.slicePlaces lo hi 1)) _ _ s
 rw [uz lo hi n];show wpAny _ _ (pure (((dP n 0 lo:Nat):Int),(1:Int),Builtin.Slice.slicePlaces ((dP n 0 lo:Nat):Int) ((dP n n hi:Nat):Int) 1)) _ _ s
 rw [uk];exact Hd h
theorem x8 (xs:Array Value) (i k:Nat):((List.range k).filterMap λ(m:Nat)=>xs[((i:Int) + (m:Int) * 1).toNat]?).toArray=((xs.toList.drop i).take k).toArray:=by
 have e:(λ(m:Nat)=>xs[((i:Int) + (m:Int) * 1).toNat]?)=λm=>xs[i + m]?:=by
  funext m;have:((i:Int) + (m:Int) * 1).toNat=i + m:=by omega
  rw [this]
 rw [e];have:=pick_run xs i k;rw [List.filterMap_map] at this;have e2:((λx=>xs[x]?)∘λx=>i + x)=λm=>xs[i + m]?:=rfl;rw [e2] at this;rw [this]
theorem jI {t sl:Addr} {items:Array Value} {vl vu:Value} {lo hi:Option Int} {Q:Value->Shared->Prop} (ht:IsTup s.heap t items) (hs:s.heap.IsSliceOf sl vl vu .none) (pl:IsPart vl lo) (pu:IsPart vu hi)
  (hw:¬ (dP items.size 0 lo=0/\dP items.size items.size hi=items.size))
  (h:Q (.ref s.heap.objs.size) { s with heap:=s.heap.push { cls:=.type "tuple",data:=.seq ((items.toList.drop (dP items.size 0 lo)).take (dP items.size items.size hi - dP items.size 0 lo)).toArray } })
  (hsz:items.size<=sizeLine):wpAny (model prog w) A (getItem (.ref t) (.ref sl)) Q E s:=by
 have htake:sizeOk (.seq ((items.toList.drop (dP items.size 0 lo)).take (dP items.size items.size hi - dP items.size 0 lo)).toArray):=by
  show ((items.toList.drop (dP items.size 0 lo)).take (dP items.size items.size hi - dP items.size 0 lo)).toArray.size<=sizeLine
  rw [Hr,List.length_take,List.length_drop,Array.length_toList];omega
 have hj:dP items.size items.size hi<=items.size:=Cd _ _ (Hl _) hi;obtain⟨os,hos,hcs,hds⟩:=id hs;have hTs:s.TypeIs (.ref sl) "slice":=⟨os,hos,hcs⟩
 unfold getItem
 try with_reducible refine wpAny_holding ?_
 first|refine G8 (Hd ?_)|skip
 refine G8 (wpAny_sequenceKey ht.typeIs (by decide) ?_)
 refine G8 (HQ (name:=Str.ofString "__getitem__") ht.typeIs PyProof.Rows.slot_tuple_getitem
  (wpAny_call_entry PyProof.Rows.slot_tuple_getitem ht.typeIs entry_tuple_getitem ?_ (args_tuple_getitem _ _)))
 show wpAny _ _ (Builtin.Tuple.tupleItemsOf (.ref t) >>= _) _ _ s
 refine G8 (tupleItemsOf_ ht ?_);refine G8 (wpAny_typeOf hTs ?_);rw [if_pos (by decide)];refine G8 (kF hs pl pu ?_)
 have hno:¬ ((((dP items.size 0 lo:Nat):Int) == 0 && (1:Int) == 1 && (dP items.size items.size hi - dP items.size 0 lo) == items.size)=true):=by
  intro q;rw [Bool.and_eq_true,Bool.and_eq_true] at q;have q1:((dP items.size 0 lo:Nat):Int)=0:=eq_of_beq q.1.1;have q2:dP items.size items.size hi - dP items.size 0 lo=items.size:=eq_of_beq q.2;exact hw ⟨by omega,by omega⟩
 show wpAny _ _ (if (((dP items.size 0 lo:Nat):Int) == 0 && (1:Int) == 1 && (dP items.size items.size hi - dP items.size 0 lo) == items.size)=true then _ else _) _ _ s
 rw [if_neg hno,x8]
 first
  | exact G8 (m:=Builtin.Tuple.tupleExact _) (wpAny_newObj_type (Hd ⟨_,rfl,Hd h⟩) htake)
  | exact G8 (m:=Builtin.Tuple.tupleExact _) (wpAny_newObj_type (G8 (Hd (Hd ⟨_,rfl,Hd h⟩))) htake)
  | exact G8 (G8 (m:=Builtin.Tuple.tupleExact _) (wpAny_newObj_type (Hd (Hd ⟨_,rfl,Hd h⟩)) htake))
  | exact G8 (G8 (m:=Builtin.Tuple.tupleExact _) (wpAny_newObj_type (Hd ⟨_,rfl,Hd h⟩) htake))
end
end HT
namespace L2
open PySem PySem.Spec PyProof.Rows
abbrev TO:=St->Hp->(Option Int->Hp->Prop)->Prop
def PO (X:Cx) (e:Option Expr) (t:TO):Prop :=
 ∀(pins:List (Addr×Obj)) (s:Shared) (σ:St) (H:Hp) (Q:Option Int->Hp->Prop),Inv X pins σ H s->t σ H Q ->
  wpAny (model X.prog X.w) X.A (evalPart e X.env) (λu s'=>∃o H',Inv X pins σ H' s'/\IsPart u o/\Q o H') X.xe s
def Es (t:TE):TO:=λσ H Q=>t σ H λx H1=>∃i,x=.int i/\Q (some i) H1
section
variable {X:Cx} {e:Expr} {te:TE} {lo hi:Option Expr} {tl th:TO} {pos p2:Pos}
theorem Ap (h:PE X e te):PO X (some e) (Es te):=by
 intro pins s σ H Q I hw;rw [evalPart_some];refine bK (h pins s σ H _ I hw) λu s1 hq0=>?_;obtain⟨x,H1,I1,r1,q1⟩:=hq0;obtain⟨i,rfl,q⟩:=q1;obtain⟨t,rfl⟩:=r1;exact⟨some i,H1,I1,.int i t,q⟩
def Bp (X:Cx) (r:V->Option Int->Option Int->Hp->VK->Prop):Prop :=
 ∀(pins:List (Addr×Obj)) (s:Shared) (σ:St) (H:Hp) (x:V) (v vl vu:Value) (lo hi:Option Int) (sl:Addr) (Q:VK),Inv X pins σ H s->RelV x v->s.heap.IsSliceOf sl vl vu .none->IsPart vl lo->IsPart vu hi->r x lo hi H Q ->
  ∃T id,typeLookup (.type T) "__getitem__" = pure (some (.builtin id))/\s.TypeIs v T/\wpAny (model X.prog X.w) X.A (getItem v (.ref sl)) (EP X pins σ Q) X.xe s
theorem Bp.or {r r':V->Option Int->Option Int->Hp->VK->Prop} (h:Bp X r) (h':Bp X r'):Bp X (λx lo hi H Q=>r x lo hi H Q\/r' x lo hi H Q):=by
 intro pins s σ H x v vl vu lo hi sl Q I rx hs pl pu q;rcases q with q|q
 ·exact h pins s σ H x v vl vu lo hi sl Q I rx hs pl pu q
 ·exact h' pins s σ H x v vl vu lo hi sl Q I rx hs pl pu q
def GX (r:V->Option Int->Option Int->Hp->VK->Prop) (te:TE) (tl th:TO):TE:=λσ H Q=>te σ H λx H1=>tl σ H1 λl H2=>th σ H2 λu H3=>r x l u H3 Q
theorem zA {r:V->Option Int->Option Int->Hp->VK->Prop} (hr:Bp X r) (he:PE X e te) (hl:PO X lo tl) (hu:PO X hi th):PE X (.Subscript e (.Slice lo hi none p2) pos) (GX r te tl th):=by
 intro pins s σ H Q I h;refine Subscript_ (bK (he pins s σ H _ I h) λv s1 hq0=>?_);obtain⟨x,H1,I1,r1,q1⟩:=hq0;refine wpAny_Slice (bK (hl pins s1 σ H1 _ I1 q1) λvl s2 ⟨l,H2,I2,pl,q2⟩=>bK (hu pins s2 σ H2 _ I2 q2) λvu s3 hq0=>?_);obtain⟨u,H3,I3,pu,q3⟩:=hq0;rw [evalPart_none];refine Hd ?_;have I4:Inv X pins σ H3 { s3 with heap:=s3.heap.push { cls:=.type "slice",data:=.fields #[vl,vu,.none] } }:=I3.kept (t':=s3.toks) λb ob q=>Hf _ q
 obtain⟨T,id,hT,ht,hg⟩:=hr pins { s3 with heap:=s3.heap.push { cls:=.type "slice",data:=.fields #[vl,vu,.none] } } σ H3 x v vl vu l u s3.heap.objs.size Q I4 r1 (Heap.IsSliceOf.new ..) pl pu q3
 show wpAny (model X.prog X.w) X.A (subscriptTail e (.Slice lo hi none p2) v (.ref s3.heap.objs.size)) (EP X pins σ Q) X.xe { s3 with heap:=s3.heap.push { cls:=.type "slice",data:=.fields #[vl,vu,.none] } }
 exact tail_any (ops:=[.ref s3.heap.objs.size,v]) ht hT hg (by with_unfolding_all rfl)
def oB (xs:List V) (lo hi:Option Int):List V:=(xs.drop (HT.dP xs.length 0 lo)).take (HT.dP xs.length xs.length hi - HT.dP xs.length 0 lo)
theorem lT (xs:List V) (lo hi:Option Int):(oB xs lo hi).length<=xs.length:=by
 unfold oB;rw [List.length_take,List.length_drop];omega
def Gv (K:Ha):V->Option Int->Option Int->Hp->VK->Prop:=λx lo hi H Q=>∃a xs,x=.ref a/\gw K H a xs /\
 ¬ (HT.dP xs.length 0 lo=0/\HT.dP xs.length xs.length hi=xs.length)/\∀p,H p=none->Q (.ref p) (upd H p (.tup (oB xs lo hi)))
theorem B0:Bp X (Gv X.K):=by
 intro pins s σ H x v vl vu lo hi sl Q I rx hs pl pu h;obtain⟨a,xs,rfl,hx,hw,q⟩:=h;cases rx;obtain⟨its,r,ht,hz⟩:=I.tuple hx;have hlen:its.toArray.size=xs.length:=by rw [Hr];exact r.length.symm
 refine⟨"tuple",_,PyProof.Rows.slot_tuple_getitem.lookup,ht.typeIs,?_⟩
 refine HT.jI ht hs pl pu (by rw [hlen];exact hw) ?_ (by rw [hlen];exact hz);rw [hlen];refine⟨.ref s.heap.objs.size,_,I.laid (t':=s.toks) (o:=.tup (oB xs lo hi)) (λb ob q=>Hf _ q) (Hl _) ?_,rfl,q _ (I.hok.fresh (Hl _))⟩;exact⟨HX (lT xs lo hi) hz,_,(r.drop (HT.dP xs.length 0 lo)).take (HT.dP xs.length xs.length hi - HT.dP xs.length 0 lo),oM.new _ _⟩
def BI (K:Ha):R2:=λx y H Q=>∃a b xs ys,x=.ref a/\y=.ref b/\gw K H a xs/\gw K H b ys/\xs≠[]/\xs.length + ys.length<=sizeLine /\
 (ys=[]->Q (.ref a) H)/\(ys≠[]->∀p,H p=none->Q (.ref p) (upd H p (.tup (xs ++ ys))))
theorem Vals.qX {xs:List V} {us:List Value} (r:Vals xs us):us=[]↔xs=[]:=by
 cases r with
 | nil=>simp
 | cons _ _=>simp
theorem Ar:iS X (binaryOp .Add) (BI X.K):=by
 intro pins s σ H x y v u Q I rx ry h;obtain⟨a,b,xs,ys,rfl,rfl,ha,hb,hx,hz,q1,q2⟩:=h;cases rx;cases ry;obtain⟨its,r1,p1,_⟩:=I.tuple ha;obtain⟨its2,r2,p2,_⟩:=I.tuple hb;refine HT.AW p1 p2 (λz=>hx (r1.qX.mp z)) (λz=>⟨.ref a,H,I,rfl,q1 (r2.qX.mp z)⟩) (λz=>?_) (by rw [<- r1.length,<- r2.length];exact hz);refine⟨.ref s.heap.objs.size,_,I.laid (t':=s.toks) (o:=.tup (xs ++ ys)) (λb ob q=>Hf _ q) (Hl _) ?_,rfl,q2 (λw=>z (r2.qX.mpr w)) _ (I.hok.fresh (Hl _))⟩
 exact⟨by rw [HH];exact hz,_,r1.append r2,oM.new _ _⟩
end
def rj (n:Nat) (i:Int):Option Nat:=if 0<=i then (if i < n then some i.toNat else none) else if -(n:Int)<=i then some (i + n).toNat else none
def ja {α:Type} (xs:List α) (i:Int):Option α:=(rj xs.length i).bind λj=>xs[j]?
theorem mC {n:Nat} {i:Int} {j:Nat} (h:rj n i=some j):seqIndex? i n=some j/\j < n/\-(n:Int)<=i/\i < n:=by
 unfold rj at h
 by_cases h0:0<=i
 ·rw [if_pos h0] at h
  by_cases h1:i < n
  ·rw [if_pos h1] at h;have e:i.toNat=j:=Hn h;exact⟨by rw [seqIndex_of h0 h1,e],by omega,by omega,h1⟩
  ·rw [if_neg h1] at h;cases h
 ·rw [if_neg h0] at h
  by_cases h1:-(n:Int)<=i
  ·rw [if_pos h1] at h;have e:(i + n).toNat=j:=Hn h;exact⟨by rw [seqIndex_neg (by omega) h1,e],by omega,h1,by omega⟩
  ·rw [if_neg h1] at h;cases h
theorem qb {α:Type} {xs:List α} {i:Int} {v:α} (h:ja xs i=some v):∃j,seqIndex? i xs.length=some j/\xs[j]?=some v/\j < xs.length/\-(xs.length:Int)<=i/\i < xs.length:=by
 unfold ja at h
 cases e:rj xs.length i with
 | none=>rw [e] at h;cases h
 | some j =>
  rw [e] at h;obtain⟨h1,h2,h3,h4⟩:=mC e;exact⟨j,h1,h,h2,h3,h4⟩
def iI (b:Expr):Prop:=∀o i,subscripted b false o i=operate [o,i] (getItem o i)
def ya (X:Cx) (r:R2):Prop :=
 ∀(value slice:Expr) (pins:List (Addr×Obj)) (s:Shared) (σ:St) (H:Hp) (x y:V) (v u:Value) (Q:VK),Inv X pins σ H s->RelV x v->RelV y u->r x y H Q ->
  subscripted slice false v u=operate [v,u] (getItem v u)->wpAny (model X.prog X.w) X.A (subscriptTail value slice v u) (EP X pins σ Q) X.xe s
def GW (X:Cx) (id:String) (r:V->List V->Hp->VK->Prop):Prop :=
 ∀(pins:List (Addr×Obj)) (s:Shared) (σ:St) (H:Hp) (x:V) (xs:List V) (v:Value) (us:List Value) (Q:VK),Inv X pins σ H s->RelV x v->Vals xs us->r x xs H Q ->
  wpAny (model X.prog X.w) X.A (call (.builtin id) (v :: us)) (EP X pins σ Q) X.xe s
section
variable {X:Cx} {a b:Expr} {ta tb:TE} {pos:Pos}
theorem ya.or {r r':R2} (h:ya X r) (h':ya X r'):ya X (λx y H Q=>r x y H Q\/r' x y H Q):=by
 intro value slice pins s σ H x y v u Q I rx ry q hs;rcases q with q|q
 ·exact h value slice pins s σ H x y v u Q I rx ry q hs
 ·exact h' value slice pins s σ H x y v u Q I rx ry q hs
theorem sY {r:R2} (hr:ya X r) (ha:PE X a ta) (hb:PE X b tb) (hs:iI b):PE X (.Subscript a b pos) (DM r ta tb):=by
 intro pins s σ H Q I h;exact Subscript_ (C4 ha hb I h λv u s2 x y H2 I2 rx ry q=>hr a b pins s2 σ H2 x y v u Q I2 rx ry q (hs _ _))
def EM (K:Ha):R2:=λx y H Q=>∃p xs i v,x=.ref p/\y=.int i/\dE K H p xs/\ja xs i=some v/\Q v H
def EU (K:Ha):R2:=λx y H Q=>∃p xs i v,x=.ref p/\y=.int i/\gw K H p xs/\ja xs i=some v/\Q v H
def Ej:R2:=λx y H Q=>∃z i c,x=.str z/\y=.int i/\z.length<=sizeLine/\ja z.cps.toList i=some c/\Q (.str ⟨#[c]⟩) H
theorem p0:ya X (EM X.K):=by
 intro value slice pins s σ H x y v u Q I rx ry h hs;obtain⟨p,xs,i,z,rfl,rfl,hq,he,q⟩:=h;cases rx;obtain⟨t,rfl⟩:=ry;obtain⟨its,r,pl,hz⟩:=I.list hq;obtain⟨j,h1,h2,h3,h4,h5⟩:=qb he;obtain⟨w,ew,rw'⟩:=r.get h2;have hl:=r.length;have hn:=kR;have fin:EP X pins σ Q w s:=⟨z,H,I,rw',q⟩
 by_cases h0:0<=i
 ·have hj:i.toNat=j:=by
   rw [seqIndex_of h0 h5] at h1;exact Hn h1
  exact item_listR pl.isList h0 (by omega) (by rw [hj];simpa using ew) fin hs
 ·have hj:(i + (its.toArray.size:Int)).toNat=j:=by
   rw [seqIndex_neg (by omega) h4] at h1;rw [Hr,<- hl];exact Hn h1
  exact subscriptTail_builtinR (x:=w) pl.isList.typeIs slot_list_getitem.lookup
   (wpAny_getItem_list_neg (Q:=λr s'=>r=w/\EP X pins σ Q r s') pl.isList (by omega) (by rw [Hr] <;> omega) (by omega) (by rw [hj];simpa using ew) ⟨rfl,fin⟩) hs
theorem Dj:ya X (EU X.K):=by
 intro value slice pins s σ H x y v u Q I rx ry h hs;obtain⟨p,xs,i,z,rfl,rfl,hq,he,q⟩:=h;cases rx;obtain⟨t,rfl⟩:=ry;obtain⟨its,r,pl,hz⟩:=I.tuple hq;obtain⟨j,h1,h2,h3,h4,h5⟩:=qb he;obtain⟨w,ew,rw'⟩:=r.get h2;have hl:=r.length;have hn:=kR;have fin:EP X pins σ Q w s:=⟨z,H,I,rw',q⟩
 exact subscriptTail_builtinR (x:=w) pl.typeIs slot_tuple_getitem.lookup
  (getItem_tuple (j:=j) (Q:=λr s'=>r=w/\EP X pins σ Q r s') pl (by omega) (by omega) (by rw [Hr,<- hl];exact h1) (by simpa using ew) ⟨rfl,fin⟩) hs
theorem Dq:ya X Ej:=by
 intro value slice pins s σ H x y v u Q I rx ry h hs;obtain⟨z,i,c,rfl,rfl,hz,he,q⟩:=h;obtain⟨t,rfl⟩:=rx;obtain⟨t',rfl⟩:=ry;obtain⟨j,h1,h2,h3,h4,h5⟩:=qb he;have hl:z.cps.toList.length=z.length:=by simp [Str.length]
 rw [hl] at h1 h4 h5;have hn:=kR
 exact tail_any (typeIs_str s z t) slot_str_getitem.lookup (getItem_str (c:=c) (by
  have e1:decide (i < -(2 ^ 63:Int))=false:=decide_eq_false (by omega);have e2:decide (i≥2 ^ 63)=false:=decide_eq_false (by omega)
  rw [e1,e2,Bool.or_false]) (by rw [h1];simpa using h2) ⟨.str ⟨#[c]⟩,H,I.tok _,⟨_,rfl⟩,q⟩) hs
def Gi (K:Ha):R2:=λx y H Q=>EM K x y H Q\/EU K x y H Q\/Ej x y H Q
theorem xZ:ya X (Gi X.K):=p0.or (Dj.or Dq)
theorem uh (its:List Value) (n j:Nat) (u:Value):Obj.mapSeq (·.setIfInBounds j u) { cls:=.type "list",data:=.seq its.toArray n }={ cls:=.type "list",data:=.seq (its.set j u).toArray n }:=by
 simp [Obj.mapSeq]
theorem Inv.lst {pins:List (Addr×Obj)} {σ:St} {H:Hp} {s:Shared} {p:Addr} {xs:List V} (I:Inv X pins σ H s) (h:H p=some (.lst xs)) :
  ∃(its:List Value) (n:Nat),Vals xs its/\s.heap.get? p=some { cls:=.type "list",data:=.seq its.toArray n }/\xs.length<=sizeLine:=by
 obtain⟨z,its,n,r,e⟩:=I.hok p _ h;exact⟨its,n,r,e,z⟩
theorem Inv.Cw {pins:List (Addr×Obj)} {σ:St} {H:Hp} {s:Shared} {p:Addr} {xs ys:List V} {its its':List Value} {n n':Nat} {f:Obj->Obj} (I:Inv X pins σ H s) (h:H p=some (.lst xs))
  (ho:s.heap.get? p=some { cls:=.type "list",data:=.seq its.toArray n }) (hf:f { cls:=.type "list",data:=.seq its.toArray n }={ cls:=.type "list",data:=.seq its'.toArray n' }) (r:Vals ys its') (hz:ys.length<=sizeLine) (t:Nat) :
  Inv X pins σ (upd H p (.lst ys)) { s with heap:=s.heap.update p f,toks:=t }:=by
 have e:(s.heap.update p f).get? p=some { cls:=.type "list",data:=.seq its'.toArray n' }:=by
  rw [Heap.get?_update_self f ho (by rw [hf] <;> rfl),hf]
 refine I.write (x:=p) (e:=p) (by rw [h];trivial) (.inl rfl) (λb u hb q=>(Heap.get?_update_other _ _ (Ne.symm hb)).trans q) ⟨_,e⟩ ?_
 exact⟨hz,its',n',r,e⟩
def DZ:V->V->V->Hp->(Hp->Prop)->Prop:=λo i v H Q=>∃p xs k j,o=.ref p/\i=.int k/\H p=some (.lst xs)/\rj xs.length k=some j/\Q (upd H p (.lst (xs.set j v)))
theorem set_list:Du X DZ:=by
 intro pins s σ H o i v ov iv u Q I ro ri rv h;obtain⟨p,xs,k,j,rfl,rfl,hp,hj,q⟩:=h;cases ro;obtain⟨t,rfl⟩:=ri;obtain⟨its,n,r,ho,hz⟩:=I.lst hp;obtain⟨h1,h2,h3,h4⟩:=mC hj;have hl:=r.length;have hn:=kR
 have I':Inv X pins σ (upd H p (.lst (xs.set j v))) { s with heap:=s.heap.update p (Obj.mapSeq (·.setIfInBounds j u)) } :=
  I.Cw hp ho (uh its n j u) (r.set rv j) (by rw [List.length_set];exact hz) s.toks
 by_cases h0:0<=k
 ·have hk:k.toNat=j:=by
   rw [seqIndex_of h0 h4] at h1;exact Hn h1
  exact PySem.W.ki_setAt ho h0 (by omega) (by rw [Hr,<- hl];exact h4) (by rw [hk];exact⟨_,I',q⟩)
 ·have hk:(k + (its.toArray.size:Int)).toNat=j:=by
   rw [seqIndex_neg (by omega) h3] at h1;rw [Hr,<- hl];exact Hn h1
  exact PySem.W.ki_setBack ho (by omega) (by rw [Hr,<- hl];exact h3) (by omega) (by rw [hk];exact⟨_,I',q⟩)
theorem qC (lo hi:Option Int) (n:Nat):(sliceBounds lo hi none n).1=((HT.dP n 0 lo:Nat):Int)/\(sliceBounds lo hi none n).2.1=((HT.dP n n hi:Nat):Int)/\(sliceBounds lo hi none n).2.2=1:=by
 refine⟨?_,?_,rfl⟩
 ·cases lo with
  | none=>simp [sliceBounds,HT.dP]
  | some i =>
   simp only [sliceBounds,HT.dP,Option.getD_none,show (1:Int) > 0 by decide,if_true]
   by_cases h:i < 0
   ·simp only [h,if_true] <;> omega
   ·simp only [h,if_false] <;> omega
 ·cases hi with
  | none=>simp [sliceBounds,HT.dP]
  | some i =>
   simp only [sliceBounds,HT.dP,Option.getD_none,show (1:Int) > 0 by decide,if_true]
   by_cases h:i < 0
   ·simp only [h,if_true] <;> omega
   ·simp only [h,if_false] <;> omega
theorem oD (its:List Value) (lo hi:Option Int):slicePick its.toArray lo hi none=((its.drop (HT.dP its.length 0 lo)).take (HT.dP its.length its.length hi - HT.dP its.length 0 lo)).toArray:=by
 obtain⟨h1,h2,h3⟩:=qC lo hi its.toArray.size;unfold slicePick;rw [h1,h2,h3];simp only [sliceRange_one,pick_run,Hr] <;> rfl
def Gf (K:Ha):V->Option Int->Option Int->Hp->VK->Prop:=λx lo hi H Q=>∃a xs,x=.ref a/\dE K H a xs/\∀p,H p=none->Q (.ref p) (upd H p (.lst (oB xs lo hi)))
theorem Aw:Bp X (Gf X.K):=by
 intro pins s σ H x v vl vu lo hi sl Q I rx hs pl pu h;obtain⟨a,xs,rfl,hx,q⟩:=h;cases rx;obtain⟨its,r,ht,hz⟩:=I.list hx;have hlen:=r.length;refine⟨"list",_,slot_list_getitem.lookup,ht.isList.typeIs,?_⟩
 refine wpAny_getItem_list_slice ht.isList hs pl pu .none (by simp) ?_ (by rw [Hr] <;> omega)
 rw [oD,<- hlen];refine⟨.ref s.heap.objs.size,_,I.laid (t':=s.toks) (o:=.lst (oB xs lo hi)) (λb ob q=>Hf _ q) (Hl _) ?_,rfl,q _ (I.hok.fresh (Hl _))⟩;exact⟨HX (lT xs lo hi) hz,_,0,(r.drop (HT.dP xs.length 0 lo)).take (HT.dP xs.length xs.length hi - HT.dP xs.length 0 lo),Hs _ rfl⟩
theorem j7:cV X (.builtin "len") (λxs H Q=>∃p ys,xs=[.ref p]/\(dE X.K H p ys\/gw X.K H p ys)/\Q (.int ys.length) H):=by
 intro pins s σ H xs us Q I r h;obtain⟨p,ys,rfl,hq,q⟩:=h;obtain⟨u,rfl,rx⟩:=vals1 r;cases rx;have hn:=kR;rcases hq with hq|hq
 ·obtain⟨its,r',pl,hz⟩:=I.list hq;have hlen:=r'.length;exact Calls.call_len_list pl.isList (by simp only [Hr] <;> omega) ⟨.int ys.length,H,I.tok _,⟨s.toks + 1,by rw [Hr,hlen]⟩,q⟩
 ·obtain⟨its,r',pl,hz⟩:=I.tuple hq;have hlen:=r'.length;exact len_tuple pl (by simp only [Hr] <;> omega) ⟨.int ys.length,H,I.tok _,⟨s.toks + 1,by rw [Hr,hlen]⟩,q⟩
theorem pQ:cV X (.builtin "len") (λxs H Q=>∃z,xs=[.str z]/\z.length<=sizeLine/\Q (.int z.length) H):=by
 intro pins s σ H xs us Q I r h;obtain⟨z,rfl,hz,q⟩:=h;obtain⟨u,rfl,t,rfl⟩:=vals1 r;have hn:=kR;exact len_str (by omega) ⟨.int z.length,H,I.tok _,⟨_,rfl⟩,q⟩
theorem cV.or {f:Value} {r r':List V->Hp->VK->Prop} (h:cV X f r) (h':cV X f r'):cV X f (λxs H Q=>r xs H Q\/r' xs H Q):=by
 intro pins s σ H xs us Q I rs q;rcases q with q|q
 ·exact h pins s σ H xs us Q I rs q
 ·exact h' pins s σ H xs us Q I rs q
theorem qG:cV X (.type "list") (λxs H Q=>∃p ys,xs=[.ref p]/\(dE X.K H p ys\/gw X.K H p ys)/\∀l,H l=none->Q (.ref l) (upd H l (.lst ys))):=by
 intro pins s σ H xs us Q I r h;obtain⟨p,ys,rfl,hq,q⟩:=h;obtain⟨u,rfl,rx⟩:=vals1 r;cases rx
 have fin:∀(its:List Value),Vals ys its->ys.length<=sizeLine->∀(h':Heap) (c':Nat),(∀b o',s.heap.get? b=some o'->h'.get? b=some o') ->
   h'.get? s.heap.objs.size=some { cls:=.type "list",dict:=none,data:=.seq its.toArray c',slots:=#[] }->EP X pins σ Q (.ref s.heap.objs.size) { s with heap:=h' }:=λits r' hz h' c' kp e =>
  ⟨.ref s.heap.objs.size,_,I.laid (t':=s.toks) kp (Hl _) (show bL X.prog X.w _ h' _ (.lst ys) from ⟨hz,its,c',r',e⟩),rfl,q _ (I.hok.fresh (Hl _))⟩
 rcases hq with hq|hq
 ·obtain⟨its,r',pl,hz⟩:=I.list hq;have hlen:=r'.length;obtain⟨o,ho,hc,n,hd⟩:=pl.isList;exact call_list_seq p (.inl rfl) ho hc hd (λh' c' kp e=>fin its r' hz h' c' kp e) (by simp only [Hr] <;> omega)
 ·obtain⟨its,r',pl,hz⟩:=I.tuple hq;have hlen:=r'.length;obtain⟨o,ho,hc,n,hd⟩:=pl;exact call_list_seq p (.inr rfl) ho hc hd (λh' c' kp e=>fin its r' hz h' c' kp e) (by simp only [Hr] <;> omega)
theorem oS:cV X (.type "tuple") (λxs H Q=>∃p ys,xs=[.ref p]/\((dE X.K H p ys/\∀l,H l=none->Q (.ref l) (upd H l (.tup ys)))\/(gw X.K H p ys/\Q (.ref p) H))):=by
 intro pins s σ H xs us Q I r h;obtain⟨p,ys,rfl,h⟩:=h;obtain⟨u,rfl,rx⟩:=vals1 r;cases rx;rcases h with ⟨hq,q⟩|⟨hq,q⟩
 ·obtain⟨its,r',pl,hz⟩:=I.list hq;have hlen:=r'.length;refine call_tuple_list pl.isList (λh' kp=>?_) (by simp only [Hr] <;> omega)
  have I1:Inv X pins σ H { s with heap:=h' }:=I.kept (t':=s.toks) kp
  have I2:Inv X pins σ (upd H h'.objs.size (.tup ys)) { s with heap:=h'.push { cls:=.type "tuple",data:=.seq its.toArray } } :=
   I1.laid (t':=s.toks) (λb o e=>Hf _ e) (Hl _) (show bL X.prog X.w _ _ _ (.tup ys) from ⟨hz,its,r',oM.new _ _⟩)
  exact⟨.ref h'.objs.size,_,I2,rfl,q _ (I1.hok.fresh (Hl _))⟩
 ·obtain⟨its,r',pl,hz⟩:=I.tuple hq;exact call_tuple_same pl ⟨.ref p,H,I,rfl,q⟩
def GL (K:Ha) (T:String) (x:V) (H:Hp):Prop:=match x with
 | .str _=>T = "str"
 | .int _=>T = "int"
 | .ref p=>(T = "list"/\∃xs,dE K H p xs)\/(T = "tuple"/\∃o,K.lookup p=some o/\o.cls=.type "tuple"/\o.dict=none) \/
   (T = "dict"/\((∃kvs,H p=some (.dK kvs))\/∃kvs,H p=some (.dT kvs)))\/(T = "set"/\∃S n,H p=some (.set S n))
 | _=>False
theorem Dt {pins:List (Addr×Obj)} {σ:St} {H:Hp} {s:Shared} {T:String} {x:V} {v:Value} (I:Inv X pins σ H s) (r:RelV x v) (ty:GL X.K T x H) :
  s.TypeIs v T/\∀a,v=.ref a->∃ob,s.heap.get? a=some ob/\ob.dict=none:=by
 cases x with
 | str z =>
  obtain⟨t,rfl⟩:=r;cases (show T = "str" from ty)
  exact⟨typeIs_str s z t,λ_ e=>nomatch e⟩
 | int i =>
  obtain⟨t,rfl⟩:=r;cases (show T = "int" from ty)
  exact⟨typeIs_int s i t,λ_ e=>nomatch e⟩
 | ref p =>
  cases r;rcases ty with ⟨rfl,xs,hq⟩|⟨rfl,o,hk,hc,hd⟩|⟨rfl,hk⟩|⟨rfl,S,n,hk⟩
  ·obtain⟨its,_,pl,_⟩:=I.list hq;refine⟨pl.isList.typeIs,λa e=>?_⟩;cases e;obtain⟨o,n,e,c,hd,_⟩:=pl;exact⟨o,e,hd⟩
  ·refine⟨⟨o,I.oh p o hk,hc⟩,λa e=>?_⟩;cases e;exact⟨o,I.oh _ o hk,hd⟩
  ·have z:∃o,s.heap.get? p=some o/\o.ExactDict:=by
    rcases hk with ⟨kvs,hk⟩|⟨kvs,hk⟩
    ·obtain⟨_,_,_,_,o,_,_,e,ex,_⟩:=I.hok p _ hk;exact⟨o,e,ex⟩
    ·obtain⟨_,_,_,_,o,_,_,e,ex,_⟩:=I.hok p _ hk;exact⟨o,e,ex⟩
   obtain⟨o,e,ex⟩:=z;refine⟨⟨o,e,ex.1⟩,λa e2=>?_⟩;cases e2;exact⟨o,e,ex.2.1⟩
  ·obtain⟨o,_,_,_,e,ex,_⟩:=I.hok p _ hk;refine⟨⟨o,e,ex.1⟩,λa e2=>?_⟩;cases e2
   exact⟨o,e,ex.2.1⟩
 | _=>exact False.elim ty
def GU (K:Ha) (T:String) (r:V->List V->Hp->VK->Prop) (to:TE) (t:TA):TE:=λσ H Q=>to σ H λx H1=>GL K T x H1/\t σ H1 λxs H2=>r x xs H2 Q
variable {o e:Expr} {es:List Expr} {to:TE} {t:TA} {name:Str} {apos cpos:Pos} {T id:String} {r:V->List V->Hp->VK->Prop}
theorem sq (pa:PlainAttrs T) (slot:Slot T name id) (hty:typeOf (.builtin id)=pure (.type "method_descriptor")) (hm:GW X id r) (ho:PE X o to) (ha:PA X (e :: es) t)
  (hbase:attributeBase o name X.env (eval o X.env)=eval o X.env:=by rfl)
  (hfew:((backTo cpos (starEach (e :: es) X.env)).all (λx=>!x.1) && (backToKw cpos (keywordEach [] X.env)).all (λx=>x.1.isSome)
   && decide ((e :: es).length + ([]:List Keyword).length + (if ([]:List Keyword).isEmpty then 0 else 1) < 30))=true:=by rfl)
  (hline:(apos.endLine == cpos.line)=true:=by rfl) (hs:starEach (e :: es) X.env=(false,eval e X.env) :: starEach es X.env:=by rfl) (hplain:(backTo cpos (starEach es X.env)).any (·.1)=false:=by rfl) :
  PE X (.Call (.Attribute o name apos) (e :: es) [] cpos) (GU X.K T r to t):=by
 intro pins s σ H Q I h;refine wpAny_Call_method_late hbase hfew hline rfl (bK (ho pins s σ H _ I h) λv s1 hq0=>?_);obtain⟨x,H1,I1,r1,ty,q1⟩:=hq0;obtain⟨h1,h2⟩:=Dt I1 r1 ty;refine⟨T,id,pa,slot,hty,h1,h2,?_⟩;have hA:=ha cpos pins s1 σ H1 _ I1 q1;rw [hs] at hA ⊢;refine Calls.callWith_builtin (by show (false || (backTo cpos (starEach es X.env)).any (·.1))=false;rw [hplain] <;> rfl) (Calls.evalArgs_plain ?_)
 exact bK hA λus s2 ⟨vs,H2,I2,r2,q2⟩=>hm pins s2 σ H2 x vs v us Q I2 r1 r2 q2
end
def Gy (X:Cx) (id:String) (r:V->List V->Hp->VK->Prop):Prop :=
 ∀(pins:List (Addr×Obj)) (s:Shared) (σ:St) (H:Hp) (x:V) (xs:List V) (v:Value) (us:List Value) (Q:VK),Inv X pins σ H s->RelV x v->Vals xs us->r x xs H Q ->
  wpAny (model X.prog X.w) X.A (call (.builtin id) (v :: us)) (EP X pins σ Q) X.xe s
theorem Vals.one:∀{x:V} {us:List Value},Vals [x] us->∃u,us=[u]/\RelV x u
 | _,_,.cons r .nil=>⟨_,rfl,r⟩
theorem Vals.two {x y:V} {us:List Value} (h:Vals [x,y] us):∃u v,us=[u,v]/\RelV x u/\RelV y v:=by
 cases h with
 | cons r q =>
  cases q with
  | cons q z=>cases z;exact⟨_,_,rfl,r,q⟩
theorem Vals.eraseIdx:∀{xs:List V} {us:List Value} (i:Nat),Vals xs us->Vals (xs.eraseIdx i) (us.eraseIdx i)
 | _,_,_,.nil=>.nil
 | _,_,0,.cons _ t=>t
 | _,_,i + 1,.cons r t=>.cons r (Vals.eraseIdx i t)
theorem pj {α:Type}:∀(l:List α) (i:Nat),(l.eraseIdx i).length<=l.length
 | [],_=>Hl _
 | _ :: _,0=>Nat.le_succ _
 | _ :: r,i + 1=>Nat.succ_le_succ (pj r i)
section
variable {X:Cx} {pins:List (Addr×Obj)} {σ:St} {H:Hp} {s:Shared} {l b:Addr} {xs ys zs:List V}
theorem Inv.BM {its its':List Value} {n:Nat} {f:Array Value->Array Value} {t':Nat} (I:Inv X pins σ H s) (hH:H l=some (.lst xs))
  (e:s.heap.get? l=some { cls:=.type "list",data:=.seq its.toArray n }) (hf:f its.toArray=its'.toArray) (hv:Vals ys its') (hz:ys.length<=sizeLine) :
  Inv X pins σ (upd H l (.lst ys)) { s with heap:=s.heap.update l (Obj.mapSeq f),toks:=t' }:=by
 have q:=PySem.IsL.update e f;rw [hf] at q;refine I.write (x:=l) (e:=l) (by rw [hH];exact trivial) (.inl rfl) (λb' u hb hu=>(Heap.get?_update_other s.heap (Obj.mapSeq f) (Ne.symm hb)).trans hu) ⟨_,q⟩ ?_;exact⟨hz,its',_,hv,q⟩
theorem Inv.GD {its:List Value} {t':Nat} (I:Inv X pins σ H s) (hv:Vals ys its) (hz:ys.length<=sizeLine) :
  Inv X pins σ (upd H s.heap.objs.size (.lst ys)) { s with heap:=s.heap.push { cls:=.type "list",data:=.seq its.toArray },toks:=t' } :=
 I.laid (λ_ _ q=>Hf _ q) (Hl _) ⟨hz,its,0,hv,Hs _ rfl⟩
theorem Inv.fresh (I:Inv X pins σ H s):H s.heap.objs.size=none:=I.hok.fresh (Hl _)
theorem Inv.Cj (I:Inv X pins σ H s) (hH:H l=some (.lst xs)):xs.length<=sizeLine/\∃(its:List Value) (n:Nat),Vals xs its/\xs.length=its.length/\s.heap.get? l=some { cls:=.type "list",data:=.seq its.toArray n }:=by
 obtain⟨z,its,n,r,e⟩:=I.hok l _ hH;exact⟨z,its,n,r,r.length,e⟩
end
section
variable {X:Cx}
def Ax:V->List V->Hp->VK->Prop:=λx vs H Q=>∃l xs y,x=.ref l/\vs=[y]/\H l=some (.lst xs)/\xs.length < sizeLine/\Q .non (upd H l (.lst (xs ++ [y])))
theorem kS:Gy X "list.append" Ax:=by
 intro pins s σ H x vs v us Q I rx rv h;obtain⟨l,xs,y,rfl,rfl,hH,hz,q⟩:=h;cases rx;obtain⟨u,rfl,ru⟩:=rv.one;obtain⟨z,its,n,r,hl,e⟩:=I.Cj hH;refine call_meets F.slot_list_append ⟨_,e,rfl⟩ F.entry_list_append (F.args_list_append_2 _ _) (PySem.list_append l its.toArray n u (by rw [Hr];omega)) ⟨e,?_⟩;refine⟨.non,_,I.BM (its':=its ++ [u]) hH e (by simp) (r.append (.cons ru .nil)) ?_,rfl,q⟩;rw [HH,List.length_singleton]
 omega
def CQ:V->List V->Hp->VK->Prop:=λx vs H Q=>∃l xs i k y,x=.ref l/\vs=[.int i]/\H l=some (.lst xs)/\-(2 ^ 63)<=i/\i < 2 ^ 63/\seqIndex? i xs.length=some k/\xs[k]?=some y/\Q y (upd H l (.lst (xs.eraseIdx k)))
theorem sP:Gy X "list.pop" CQ:=by
 intro pins s σ H x vs v us Q I rx rv h;obtain⟨l,xs,i,k,y,rfl,rfl,hH,h1,h2,hk,hy,q⟩:=h;cases rx;obtain⟨u,rfl,ru⟩:=rv.one;obtain⟨t,rfl⟩:=ru;obtain⟨z,its,n,r,hl,e⟩:=I.Cj hH;obtain⟨w,hw,rw'⟩:=r.get hy
 refine call_meets F.slot_list_pop ⟨_,e,rfl⟩ F.entry_list_pop (F.args_list_pop_2 _ _)
  (MeetsSeq.list_pop_at l its.toArray n i t k w (fitsIndex_both h1 h2) (by rw [Hr,<- hl];exact hk) (by rw [<- Ii];exact hw) (by rw [Hr];omega)) ⟨e,?_⟩
 refine⟨y,_,I.BM (its':=its.eraseIdx k) hH e ?_ (r.eraseIdx k) ?_,rw',q⟩
 ·show its.toArray.eraseIdxIfInBounds k=(its.eraseIdx k).toArray
  rw [List.eraseIdxIfInBounds_toArray]
 ·have:=pj xs k;omega
end
end L2
namespace Att
open PySem PySem.W PySem.Calls PyProof.Rows
theorem mr {P:Params} {h:Heap}:∀(ns:List Int) (vs:List Value),WellAll P h vs (ns.map WData.int)->IntsAre vs ns:=by
 intro ns
 induction ns with
 | nil =>
  intro vs w;rw [List.map_nil] at w;cases w
  exact .nil
 | cons n ns ih =>
  intro vs w;rw [HL] at w
  cases w with
  | cons a b =>
   cases a;exact .cons _ _ (ih _ b)
theorem xb {l:OpenLaw} {n:Nat} (hn:l.most=some n) {P:Params} {h:Heap} {args:List WData} {vals:List Value}
  (hpre:l.row.toRowW.claim.pre args=true) (hwl:WellAll P h vals args) :
  ∃a vs ns,vals=[Value.ref a]/\args=[WData.list (ns.map WData.int)]/\h.get? a=some { cls:=.type "list",data:=.seq vs.toArray }/\IntsAre vs ns/\ns.length<=n:=by
 have hsh:WShape.hasAll [] args [.list .int]=true:=(pre_splitW hpre).1;have hc:l.pre.holds [] { args:=args }=true:=(pre_splitW hpre).2;obtain⟨d,r,rfl,h1,h2⟩:=hasAllW_cons hsh;obtain rfl:=hasAllW_nil h2;obtain⟨xs,rfl,h3⟩:=hasW_list h1;obtain⟨ns,rfl⟩:=items_int h3
 have hlen:ns.length<=n:=by
  unfold OpenLaw.pre at hc
  have h4:(WTm.not (.lt (.lit (.int (n:Int))) (.len (.arg 0)))).holds [] { args:=[.list (ns.map .int)] }=true:=by
   have h4:=(holds_andW hc).1;rw [hn] at h4;exact h4
  have h5:=condW_of h4 (w_not (w_lt w_lit (w_len_list (w_arg rfl))));rw [Hh] at h5;refine Nat.le_of_not_lt λq=>?_;have q':(n:Int) < ((ns.length:Nat):Int):=by omega
  first
   | (rw [decide_eq_true q'] at h5;exact absurd h5 (by decide))
   | (simp at h5;omega)
 cases hwl with
 | cons w1 w2 =>
  cases w2
  cases w1 with
  | list ho hall=>exact⟨_,_,ns,rfl,rfl,ho,mr ns _ hall,hlen⟩
theorem w4 (l:OpenLaw) (args:List WData):l.row.toRowW.claim.post args (.bool true) args=true :=
 postW_of (r:=l.row.toRowW) (X:=(true == true))
  (show WShape.has [] (.bool true) .bool=true by first|rfl|decide|simp [WShape.has,WShape.arms,WShape.armsAll])
  (show (WTm.eq .res (.lit (.bool true))).value [] { args:=args,res:=some (.bool true),after:=args }=some (.bool (true == true)) from w_eq_bool (w_res rfl) w_lit) rfl
theorem sd {l:OpenLaw} {n:Nat} {q:Program} {loose:List Str} {XP:(Str->Option Value)->Heap->Prop} {YP:World->Heap->Prop} {d:DefRec}
  (hn:l.most=some n) (hdf:d.params.defaults=[])
  (call:∀(w:World) (s₀ s₁:Shared) (mg mb:Str->Option Value) (fa:Addr) (o:Obj) (pm cd doc:Value) (a:Addr) (vs:List Value) (ns:List Int),
   Ground q loose [] XP w s₀ mg mb s₁.heap->YP w s₁.heap ->
   s₁.heap.get? fa=some o->o.data=.func (docDef d.name d.params d.body d.scope pm cd doc)->s₁.heap.CodeRec cd d.name->mg d.name=some (.ref fa) ->
   s₁.heap.get? a=some { cls:=.type "list",data:=.seq vs.toArray }->IntsAre vs ns->ns.length<=n->s₁.gens=#[] ->
   codeAny (model l.prog w) callerA (.call (.ref fa) ⟨[.ref a],[]⟩) (λr s'=>r=.ok (.ret (.bool true))/\OldK s₁.heap s'.heap/\s'.os=s₁.os/\AllBare s'.gens) s₁) :
  WalkO q loose XP YP l.row.toRowW d [] (λf vs=>PySem.call f vs):=by
 intro w s₀ s₁ mg mb G Y fa o pm cd doc dV kV ho hd hcd hD hmg hg args vals as hpre hlay hrd hwl hlo;obtain rfl:dV=.none:=Dflts.none hD hdf;obtain rfl:kV=.none:=Dflts.noKw hD;obtain⟨a,vs,ns,rfl,rfl,hobj,hints,hlen⟩:=xb hn hpre hwl;refine enter_call (codeAny_mono (call w s₀ s₁ mg mb fa o pm cd doc a vs ns G Y ho (fd_plain hd) hcd hmg hobj hints hlen hg) λr s' hq=>?_);obtain⟨rfl,h2,h3,h4⟩:=hq;exact⟨.inl ⟨.bool true,.bool true,[],rfl,λ_=>rfl,.bool true,w4 l _,λ_=>⟨List.Pairwise.nil,λ_ hm=>(nomatch hm)⟩⟩,h2,h3,h4⟩
end Att
namespace L2
open PySem PySem.Spec PyProof.Rows
theorem gk:∀{vs:List Value} {ns:List Int},IntsAre vs ns->Vals (ns.map V.int) vs
 | _,_,.nil=>.nil
 | _,_,.cons n t h=>.cons ⟨t,rfl⟩ (gk h)
theorem AS {K:Ha} {b:Addr} {q:Str} (h:tq K b=some q):∃x c,(x,q)∈jW/\PySem.W.tabIn K x=some (c,b):=by
 unfold tq at h
 cases e:jW.find? λp=>match PySem.W.tabIn K p.1 with|some (_,P)=>P == b|none=>false with
 | none=>rw [e] at h;cases h
 | some p =>
  rw [e] at h;cases h;have m:=List.mem_of_find?_eq_some e;have z:=List.find?_some e;refine⟨p.1,?_⟩
  cases t:PySem.W.tabIn K p.1 with
  | none=>rw [t] at z;cases z
  | some r =>
   obtain⟨c,P⟩:=r;rw [t] at z;obtain rfl:P=b:=by simpa using z
   exact⟨c,m,rfl⟩
theorem zC {P:Program} {w:World} {K:Ha} {mg mb:Str->Option Value} {CX:xW} {k:Nat} {fa a:Addr} {fd:FuncData} {x:Str} {sp:Sp} {s₁:Shared} {vs:List Value} {ns:List Int}
  (KX:K.In s₁.heap) (hns:s₁.heap.Ns mainGlobals mg) (hb:s₁.heap.Ns builtinsNs mb) (hbb:∀x:Str,x≠"__name__"->mb x=bootBuiltins x) (hlim:s₁.heap.NoLimit) (hg:s₁.gens=#[])
  (ha:s₁.heap.get? a=some { cls:=.type "list",data:=.seq vs.toArray }) (hi:IntsAre vs ns) (hl:ns.length<=sizeLine) (hr:cI k callerA)
  (hbm:∃bm ob,mg "__builtins__" = some (.ref bm)/\bm≠builtinsNs/\s₁.heap.get? bm=some ob/\ob.cls=.type "module"/\ob.dict=some builtinsNs/\ob.data=.plain)
  (hnt:PySem.W.noTabs K=true) (htb:∀x c b,x∈jW.map (·.1)->PySem.W.tabIn K x=some (c,b)->PySem.W.CodeHd s₁.heap c b/\s₁.heap.get? b=some (PySem.W.tabObj #[]))
  (F:∀base:Heap,K.In base->base.Ns mainGlobals mg->nN P w K mg base CX k fa fd [x] sp) (hbind:∀(s:Shared) (u:Value),BindsTo s fd ⟨[u],[]⟩ [(x,u)])
  (hsp:∀H:Hp,dE K H a (ns.map V.int)->sp [.ref a] H (λv _=>v=.bl true) λ_ _ _=>False)
  (hCX:∀H e s',CX [] H s₁ (λ_ _ _=>False) e s'->False) :
  codeAny (model P w) callerA (.call (.ref fa) ⟨[.ref a],[]⟩) (λr s'=>r=.ok (.ret (.bool true))/\OldK s₁.heap s'.heap/\s'.os=s₁.os/\AllBare s'.gens) s₁:=by
 have rv:=gk hi;have lenV:=hi.length
 have tab:∀{b:Addr} {q:Str},tq K b=some q->(∃c,PySem.W.CodeHd s₁.heap c b)/\s₁.heap.get? b=some (PySem.W.tabObj #[]):=λ{b q} e=>by
  obtain⟨x,c,m,t⟩:=AS e;obtain⟨h1,h2⟩:=htb x c b (HG.mpr ⟨_,m,rfl⟩) t;exact⟨⟨c,h1⟩,h2⟩
 have notab:∀{b:Addr} {o:Obj} {q:Str},K.lookup b=some o->tq K b=some q->False:=λ{b o q} e z=>by
  have e2:=(tab z).2;rw [KX b o e] at e2;cases e2;have h2:=List.all_eq_true.mp hnt (b,_) (PySem.W.mem_of_lookupK e);exact absurd (show false=true from h2) Bool.false_ne_true
 have core:∀H:Hp,(∀b,(H b=none/\tq K b=none)\/(∃o xs,H b=some (.frz o (.lst xs))/\b=a/\tq K b=none)\/∃q,H b=some (.pL q)/\tq K b=some q)->dE K H a (ns.map V.int)->kA P w H s₁.heap->(H a≠none->K.lookup a=none) ->
   codeAny (model P w) callerA (.call (.ref fa) ⟨[.ref a],[]⟩) (λr s'=>r=.ok (.ret (.bool true))/\OldK s₁.heap s'.heap/\s'.os=s₁.os/\AllBare s'.gens) s₁:=by
  intro H hO hS hok hK;have base_of:∀{b:Addr} {o:Obj},s₁.heap.get? b=some o->H b=none->(qV s₁.heap H).get? b=some o:=λe n=>xG e n
  have noA:∀{b:Addr} {o:Obj} {es:Array DictEntry} {ep:Nat},s₁.heap.get? b=some o->o.data=.dict es ep->H b=none:=λ{b o es ep} e d=>by
   rcases hO b with z|⟨_,_,_,rfl,_⟩|⟨q,z,t⟩
   ·exact z.1
   ·rw [ha] at e;cases e;have d':Data.seq vs.toArray _=Data.dict es ep:=d;cases d'
   ·rw [(tab t).2] at e;cases e;have d':Data.fields #[]=Data.dict es ep:=d;cases d'
  have nsK:∀{b:Addr} {m:Str->Option Value},s₁.heap.Ns b m->(qV s₁.heap H).Ns b m:=λ{b m} ⟨o,es,ep,e,d,r⟩=>⟨o,es,ep,base_of e (noA e d),d,r⟩
  have hKb:K.In (qV s₁.heap H):=λb o e=>base_of (KX b o e) (by
   rcases hO b with z|⟨_,_,z,rfl,_⟩|⟨q,z,t⟩
   ·exact z.1
   ·rw [hK (by rw [z];simp)] at e;cases e
   ·exact (notab e t).elim)
  have hM:Mod K mg (qV s₁.heap H):=⟨hKb,nsK hns,⟨mb,nsK hb,hbb⟩,let ⟨mc,h1,h2⟩:=hlim;⟨mc,nsK h1,h2⟩,by
   obtain⟨bm,ob,b1,b2,b3,b4,b5⟩:=hbm;refine⟨bm,ob,b1,b2,base_of b3 ?_,b4,b5⟩;rcases hO bm with z|⟨_,_,_,rfl,_⟩|⟨q,z,t⟩
   ·exact z.1
   ·rw [ha] at b3;cases b3;simp at b4
   ·rw [(tab t).2] at b3;cases b3;simp at b4⟩
  have hTb:AR K H:=λb q e=>by
   rcases hO b with z|⟨_,_,_,_,z⟩|⟨q',z,t⟩
   ·rw [z.2] at e;cases e
   ·rw [z] at e;cases e
   ·rw [t] at e;cases e;exact z
  have e0:qJ P w K mg (qV s₁.heap H) callerA [] s₁ H:=⟨rfl,hM,λb o e=>As e,Nat.le_of_eq (wt _ _),trivial,⟨λb hb=>absurd (show b∈([]:List Addr) from hb) (by simp),hTb⟩,hok,.of_eq hg⟩;refine codeAny_mono ((F _ hKb (nsK hns)).run callerA [] s₁ H ⟨[.ref a],[]⟩ [.ref a] [.ref a] _ _ hr e0 (hbind s₁ (.ref a)) (.cons rfl .nil) (hsp H hS)) λr s' h=>?_
  cases r with
  | error e=>exact (hCX H e s' h).elim
  | ok fl =>
   cases fl with
   | next=>exact False.elim h
   | brk=>exact False.elim h
   | cont=>exact False.elim h
   | ret u =>
    obtain⟨v,H',os,bare,un,hok',r',q⟩:=h;have q':v=.bl true:=q;subst q';obtain rfl:u=Value.bool true:=r'
    have look:∀b o,s₁.heap.get? b=some o->s'.heap.get? b=some o\/(isCodeTable s₁.heap b/\o=PySem.W.tabObj #[]/\∃ps,s'.heap.get? b=some (PySem.W.tabObj ps)):=λb o e=>by
     rcases hO b with z|⟨ob,xs,z,rfl,_⟩|⟨q,z,t⟩
     ·exact .inl (un.keep b o e z.1 (by intro z;exact absurd (show b∈([]:List Addr) from z) (by simp)) (by simp))
     ·have z2:=un.frzs _ ob _ z;obtain⟨e1,_⟩:=hok _ _ z;obtain⟨e2,_⟩:=hok' _ _ z2;rw [e] at e1;cases e1;exact .inl e2
     ·obtain⟨⟨c,hc⟩,e1⟩:=tab t;obtain⟨ps,e2,_⟩:=hok' b _ (un.tbls b q z);rw [e] at e1;cases e1;exact .inr ⟨(hc.tab e).isCodeTable,rfl,ps,e2⟩
    refine⟨rfl,⟨λb o e=>?_,λb o e=>?_⟩,os,bare⟩
    ·rcases look b o e with z|⟨t,rfl,ps,z⟩
     ·exact .inl z
     ·exact .inr (.inl ⟨t,rfl,#[],ps,rfl,by rw [Array.empty_append];exact z⟩)
    ·rcases look b o e with z|⟨t,rfl,ps,z⟩
     ·exact⟨o,z⟩
     ·exact⟨_,z⟩
 have aTab:tq K a=none:=by
  cases e:tq K a with
  | none=>rfl
  | some q=>have z:=(tab e).2;rw [ha] at z;cases z
 have tblOk:∀(H:Hp) {b:Addr} {q:Str},tq K b=some q->bL P w H s₁.heap b (.pL q):=λH {b q} e=>⟨#[],(tab e).2,trivial,λpos cv z=>by cases z⟩
 cases hk:K.lookup a with
 | some o =>
  have e:=KX a o hk;rw [ha] at e;cases e;refine core (λb=>(tq K b).map HO.pL) (λb=>?_) (.inr ⟨_,vs.toArray,_,hk,rfl,rfl,rfl,by rw [Hr,lenV];exact hl,by simpa using rv⟩) (λb u z=>?_) λz=>absurd (by show (tq K a).map HO.pL=none;rw [aTab];rfl) z
  ·cases e:tq K b with
   | none=>exact .inl ⟨by rw [Option.map_none],rfl⟩
   | some q=>exact .inr (.inr ⟨q,by rw [Option.map_some],rfl⟩)
  ·have z':(tq K b).map HO.pL=some u:=z
   cases e:tq K b with
   | none=>rw [e] at z';cases z'
   | some q=>rw [e] at z';cases z';exact tblOk _ e
 | none =>
  refine core (λb=>if b=a then some (.frz { cls:=.type "list",data:=.seq vs.toArray } (.lst (ns.map V.int))) else (tq K b).map HO.pL) (λb=>?_) (.inl (.inr ⟨{ cls:=.type "list",data:=.seq vs.toArray },if_pos rfl⟩)) (λb u z=>?_) λ_=>hk
  ·by_cases hb:b=a
   ·exact .inr (.inl ⟨_,_,if_pos hb,hb,by rw [hb];exact aTab⟩)
   ·cases e:tq K b with
    | none=>exact .inl ⟨by rw [if_neg hb,Option.map_none],rfl⟩
    | some q=>exact .inr (.inr ⟨q,by rw [if_neg hb,Option.map_some],rfl⟩)
  ·by_cases hb:b=a
   ·have z':=(if_pos hb).symm.trans z;cases z';subst hb;exact⟨ha,by rw [Hh];exact hl,vs,_,rv,ha⟩
   ·have z':=(if_neg hb).symm.trans z
    cases e:tq K b with
    | none=>rw [e] at z';cases z'
    | some q=>rw [e] at z';cases z';exact tblOk _ e
theorem AD {l:PySem.W.OpenLaw} {n k:Nat} {q:Program} {loose:List Str} {XP:(Str->Option Value)->Heap->Prop} {YP:World->Heap->Prop} {d:DefRec} {K:Params->Ha} {CX:World->xW} {sp:World->Sp} {x:Str}
  (hn:l.most=some n) (hn2:n<=sizeLine) (hdf:d.params.defaults=[]) (hr:cI k callerA)
  (hnt:∀w:World,PySem.W.noTabs (K w.params)=true) (hrc:∀w:World,jW.all (λp=>(PySem.W.tabIn (K w.params) p.1).isNone || ((recsOf q).find? λe=>e.name == p.1).isSome)=true)
  (hY:∀(w:World) (h:Heap),YP w h->(K w.params).In h)
  (F:∀(w:World) (mg:Str->Option Value) (fa:Addr) (h:Heap),(K w.params).In h->h.Ns mainGlobals mg->mg d.name=some (.ref fa) ->
   ∃fd:FuncData,(∀(s:Shared) (u:Value),BindsTo s fd ⟨[u],[]⟩ [(x,u)]) /\
    ∀base:Heap,(K w.params).In base->base.Ns mainGlobals mg->nN l.prog w (K w.params) mg base (CX w) k fa fd [x] (sp w))
  (hsp:∀(w:World) (H:Hp) (a:Addr) (ns:List Int),ns.length<=n->dE (K w.params) H a (ns.map V.int)->sp w [.ref a] H (λv _=>v=.bl true) λ_ _ _=>False)
  (hCX:∀(w:World) (H:Hp) (s:Shared) (e:Value) (s':Shared),CX w [] H s (λ_ _ _=>False) e s'->False) :
  PySem.W.WalkO q loose XP YP l.row.toRowW d [] (λf vs=>PySem.call f vs):=by
 refine Att.sd hn hdf λw s₀ s₁ mg mb fa o pm cd doc a vs ns G Y ho hd hcd hmg hobj hints hlen hg=>?_;have KX:=hY w _ Y;obtain⟨fd,hb,hF⟩:=F w mg fa _ KX G.T.g hmg;refine zC KX G.T.g G.T.b G.T.builtins G.T.nolimit hg hobj hints (HX hlen hn2) hr G.T.bmain (hnt w) (λx c b hx ht=>?_) hF hb (λH hS=>hsp w H a ns hlen hS) λH e s'=>hCX w H s₁ e s';obtain⟨p,hp,rfl⟩:=HG.mp hx;have z:=List.all_eq_true.mp (hrc w) p hp
 rw [ht] at z;have z2:((recsOf q).find? λe=>e.name == p.1).isSome=true:=by simpa using z
 obtain⟨dd,hd'⟩:=Option.isSome_iff_exists.mp z2;exact PySem.W.tab_of G.T KX hd' ht
def dD (s:Stmt):Arguments:=match s with
 | .FunctionDef _ a _ _ _ _ _ _ _ _=>a
 | _=>{ posonlyargs:=[],args:=[],vararg:=none,kwonlyargs:=[],kw_defaults:=[],kwarg:=none,defaults:=[] }
def bh (s:Stmt):List Stmt:=match s with
 | .FunctionDef _ _ b _ _ _ _ _ _ _=>b
 | _=>[]
def ar (s:Stmt):Scope:=match s with
 | .FunctionDef _ _ _ _ _ _ sc _ _ _=>sc
 | _=>{ kind:=.function,names:=[],isGenerator:=false,isCoroutine:=false }
abbrev tM:xW:=λ_ _ _ _ _ _=>False
abbrev E0:XK:=λ_ _ _=>False
theorem Bi {X:Cx}:Passes tM X E0:=λ_ _ _ _ _ _ _ h=>h.elim
structure oo (K:Ha) (x qual:Str) (st:Stmt) (f:Addr) (fd:FuncData):Prop where
 ex:∃(oc:Value) (od:Option Addr) (kV doc pm:Value) (an:Option Addr) (cdv ct:Value) (osl:Array (Option Value)),
  fd=PySem.W.fnOf x qual (dD st) (bh st) (ar st) .none kV doc pm an cdv ct/\K.lookup f=some ⟨oc,od,.func fd,osl⟩/\PySem.W.codeIn K cdv qual=true
 kp:PySem.W.keepIn K (.ref f)=true
section
variable {P:Program} {w:World} {K:Ha} {mg:Str->Option Value} {base:Heap}
theorem oo.ok {x qual:Str} {st:Stmt} {f:Addr} {fd:FuncData} {N ps:List Str} {k:Nat} {sp:Sp} (F:oo K x qual st f fd) (S:aG N ps (ar st)) (len:∀vs H Q E,sp vs H Q E->vs.length=ps.length)
  (hbody:∀(cdv:Value) (A:Around) (outer:List Env) (s:Shared) (H:Hp) (vs:List V) (Q:VK) (E:XK),cI k (A.deeper (envOfC qual (ar st) s.heap.objs.size f cdv))->sp vs H Q E ->
   ∃t,tN (gM tM P w K mg base N qual (ar st) f cdv A outer s H E).pq (bh st) t/\t { nx:=λ_ H'=>Q .non H',rt:=Q } (start N vs) H):nN P w K mg base tM (k + 1) f fd ps sp:=by
 obtain⟨oc,od,kV,doc,pm,an,cdv,ct,osl,rfl,lk,hcd⟩:=F.ex;refine yh lk hcd S len λA outer s H vs Q E hr hsp=>?_;obtain⟨t,h,q⟩:=hbody cdv A outer s H vs Q E hr hsp;exact⟨t,h.pq,q⟩
theorem oo.binds {x qual:Str} {st:Stmt} {f:Addr} {fd:FuncData} {ps:List Str} (F:oo K x qual st f fd)
  (h:∀(kV doc pm:Value) (an:Option Addr) (cdv ct:Value) (us:List Value),us.length=ps.length->bindArgs (PySem.W.fnOf x qual (dD st) (bh st) (ar st) .none kV doc pm an cdv ct) ⟨us,[]⟩=pure (ps.zip us)):Binds K fd ps []:=by
 obtain⟨oc,od,kV,doc,pm,an,cdv,ct,osl,rfl,lk,hcd⟩:=F.ex;exact .all (h kV doc pm an cdv ct)
theorem vb {x qual:Str} {st:Stmt} {f:Addr} {oc:Value} {od an:Option Addr} {osl:Array (Option Value)} {kV doc pm cdv ct:Value} (l:K.lookup f=some ⟨oc,od,.func (PySem.W.fnOf x qual (dD st) (bh st) (ar st) .none kV doc pm an cdv ct),osl⟩)
  (c:PySem.W.codeIn K cdv qual=true) (k:PySem.W.keepIn K (.ref f)=true):oo K x qual st f (PySem.W.fnOf x qual (dD st) (bh st) (ar st) .none kV doc pm an cdv ct):=⟨⟨oc,od,kV,doc,pm,an,cdv,ct,osl,rfl,l,c⟩,k⟩
end
def aq (H H':Hp):Prop:=∀b o,H b=some o->H' b=some o
theorem aq.refl (H:Hp):aq H H:=λ_ _ h=>h
theorem aq.trans {H H1 H2:Hp} (a:aq H H1) (b:aq H1 H2):aq H H2:=λc o h=>b c o (a c o h)
theorem aq.free {H H':Hp} (e:aq H H') {l:Addr} (h:H' l=Option.none):H l=Option.none:=by
 cases q:H l with
 | none=>rfl
 | some o =>
  rw [e l o q] at h;cases h
theorem aq.seq {K:Ha} {H H':Hp} {a:Addr} {xs:List V} (e:aq H H') (h:dE K H a xs):dE K H' a xs:=by
 rcases h with (h|⟨o,h⟩)|h
 ·exact .inl (.inl (e _ _ h))
 ·exact .inl (.inr ⟨o,e _ _ h⟩)
 ·exact .inr h
end L2
set_option maxHeartbeats 8000000
namespace L2
open PySem PySem.Spec PyProof.Rows
section
variable {κ:Type} [DecidableEq κ]
theorem KV.length {kvs:List (κ×V)} {vs:List (κ×Value)} (r:KV kvs vs):kvs.length=vs.length:=Paired.length r
end
section
variable {X:Cx} {pins:List (Addr×Obj)} {σ:St} {H:Hp} {s:Shared} {a:Addr} {y v:V} {u r:Value} {o:Option V} {A:Around} {E:Value->Shared->Prop}
theorem Inv.big (I:Inv X pins σ H s):sysModules < s.heap.objs.size:=by
 have h:mainGlobals < s.heap.objs.size:=(I.mod.glob.keeps I.bk).lt;exact Nat.lt_trans (by decide) h
theorem ra {h':Heap} {t':Nat} {ob:HO} (I:Inv X pins σ H s) (mu:EC (H a)) (hs:Heap.SameBut a s.heap h') (he:∃q,h'.get? a=some q) (new:bL X.prog X.w (upd H a ob) h' a ob) :
  Inv X pins σ (upd H a ob) { s with heap:=h',toks:=t' } :=
 I.write (x:=a) (e:=a) mu (.inl rfl) (λb q hb z=>(hs.2 b hb).trans z) he new
end
def BP (i:Expr):Prop:=∀ov iv,subscripted i false ov iv=operate [ov,iv] (getItem ov iv)
theorem Ae {prog:Program} {w:World} {A:Around} {E:Value->Shared->Prop} {s:Shared} {env:Env} {value slice:Expr} {pos:Pos} {T id:String} {Q:Value->Shared->Prop}
  (hl:typeLookup (.type T) "__getitem__" = pure (some (.builtin id))) (hs:BP slice)
  (h:wpAny (model prog w) A (eval value env) (λo s₁=>wpAny (model prog w) A (eval slice env) (λi s₂=>s₂.TypeIs o T/\wpAny (model prog w) A (getItem o i) Q E s₂) E s₁) E s) :
  wpAny (model prog w) A (eval (.Subscript value slice pos) env) Q E s:=by
 refine Subscript_ (HE h (λo s₁ h₁=>HE h₁ (λi s₂ h₂=>?_) λ_ _ x=>x) λ_ _ x=>x);obtain⟨hT,h₂⟩:=h₂;unfold subscriptTail;refine G8 ?_;rw [getitemInPython_of_ne hT.not_modules];refine G8 (wpAny_specialOf hT hl ?_)
 have fin:wpAny (model prog w) A (subscripted slice false o i) (λr s₃=>wpAny (model prog w) A (letTemporaryGo value o r >>= λ_=>pure r) Q E s₃) E s₂:=by
  rw [hs o i];exact wpAny_operating (HE h₂ (λr s₃ h₃=>G8 (wpAny_letTemporaryGo (Hd h₃))) λ_ _ x=>x)
 first
  | exact Hd (G8 fin)
  | exact G8 (Hd (G8 fin))
  | exact G8 fin
def zy:List (TE×TE)->St->Hp->(List (V×V)->Hp->Prop)->Prop
 | [],_,H,Q=>Q [] H
 | (tk,tv) :: r,σ,H,Q=>tk σ H λx H1=>tv σ H1 λy H2=>zy r σ H2 λps H3=>Q ((x,y) :: ps) H3
abbrev VV:List (V×V)->List (Value×Value)->Prop:=Paired λp q=>RelV p.1 q.1/\RelV p.2 q.2
def FV (X:Cx) (pos:Pos) (keys:List (Option Expr)) (values:List Expr) (trs:List (TE×TE)):Prop :=
 ∀(pins:List (Addr×Obj)) (s:Shared) (σ:St) (H:Hp) (Q:List (V×V)->Hp->Prop),Inv X pins σ H s->zy trs σ H Q ->
  wpAny (model X.prog X.w) X.A (evalPairs (pairTrees keys values X.env pos)) (λvs s'=>∃ps H',Inv X pins σ H' s'/\VV ps vs/\Q ps H') X.xe s
theorem Au {X:Cx} {pos:Pos}:FV X pos [] [] []:=λpins s σ H Q I h=>pairTrees_nil_walk ⟨[],H,I,.nil,h⟩
theorem xv {X:Cx} {pos:Pos} {k v:Expr} {ks:List (Option Expr)} {vs:List Expr} {tk tv:TE} {trs:List (TE×TE)} (hk:PE X k tk) (hv:PE X v tv) (hr:FV X pos ks vs trs) :
  FV X pos (some k :: ks) (v :: vs) ((tk,tv) :: trs):=λpins s σ H Q I h =>
 pairTrees_cons_walk (bK (hk pins s σ H _ I h) λu s1 ⟨x,H1,I1,rx,q1⟩=>bK (hv pins s1 σ H1 _ I1 q1) λw2 s2 ⟨y,H2,I2,ry,q2⟩ =>
  bK (hr pins s2 σ H2 _ I2 q2) λws s3 ⟨ps,H3,I3,rel,q3⟩=>⟨(x,y) :: ps,H3,I3,.cons ⟨rx,ry⟩ rel,q3⟩)
structure M1 (X:Cx) (o:Expr) (m:Str) (apos:Pos) (e:Expr) (cpos:Pos):Prop where
 base:attributeBase o m X.env (eval o X.env)=eval o X.env
 few:((backTo cpos (starEach [e] X.env)).all (λx=>!x.1) && (backToKw cpos (keywordEach [] X.env)).all (λx=>x.1.isSome)
  && decide (([e]:List Expr).length + ([]:List Keyword).length + (if ([]:List Keyword).isEmpty then 0 else 1) < 30))=true
 line:(apos.endLine == cpos.line)=true
 trees:backTo cpos (starEach [e] X.env)=[(false,eval e X.env)]
end L2
namespace L2.L3
open PySem PySem.Spec PyProof.Rows
inductive D where
 | non|bl (b:Bool)|int (i:Int)|str (x:Str)|tup (xs:List D)|lst (xs:List D)|dct (ks:List Key) (xs:List D)|ty (n:String)|exc (c:Str)|cls (c:Str)|obj (P:Ha->Hp->Addr->Prop)
def excAt (a C:Addr) (h:Heap):Prop:=∃o vs,h.get? a=some o/\o.cls=.ref C/\o.dict=none/\o.data=.fields vs
mutual
def Den (K:Ha) (F:Hp):D->V->Prop
 | .non,v=>v=V.non
 | .bl b,v=>v=V.bl b
 | .int i,v=>v=V.int i
 | .str x,v=>v=V.str x
 | .ty n,v=>v=V.ty n
 | .exc c,v=>∃a C,v=V.ref a/\PySem.W.nsIn K mainGlobals c=some (some (.ref C))/\F a=some (.ext (excAt a C))
 | .cls c,v=>∃C,v=V.ref C/\PySem.W.nsIn K mainGlobals c=some (some (.ref C))
 | .tup ds,v=>∃a vs,v=V.ref a/\gw K F a vs/\ak K F ds vs
 | .lst ds,v=>∃a vs,v=V.ref a/\dE K F a vs/\ak K F ds vs
 | .obj P,v=>∃a,v=V.ref a/\∀G,aq F G->P K G a
 | .dct ks ds,v=>∃a vs,v=V.ref a/\F a=some (.dK (ks.zip vs))/\vs.length=ks.length/\ak K F ds vs
def ak (K:Ha) (F:Hp):List D->List V->Prop
 | [],vs=>vs=[]
 | d :: ds,vs=>∃v r,vs=v :: r/\Den K F d v/\ak K F ds r
end
theorem aq.bR {K:Ha} {H H':Hp} {a:Addr} {xs:List V} (e:aq H H') (h:gw K H a xs):gw K H' a xs:=by
 rcases h with (h|⟨o,h⟩)|h
 ·exact .inl (.inl (e _ _ h))
 ·exact .inl (.inr ⟨o,e _ _ h⟩)
 ·exact .inr h
mutual
theorem Den.mono {K:Ha} {F F':Hp} (s:aq F F'):∀(d:D) (v:V),Den K F d v->Den K F' d v
 | .non,_,h=>by simpa only [Den] using h
 | .bl _,_,h=>by simpa only [Den] using h
 | .int _,_,h=>by simpa only [Den] using h
 | .str _,_,h=>by simpa only [Den] using h
 | .ty _,_,h=>by simpa only [Den] using h
 | .cls _,_,h=>by simpa only [Den] using h
 | .exc _,v,h=>by
  simp only [Den] at h ⊢;obtain⟨a,C,e,z,q⟩:=h
  exact⟨a,C,e,z,s _ _ q⟩
 | .tup ds,v,h=>by
  simp only [Den] at h ⊢;obtain⟨a,vs,e,q,r⟩:=h
  exact⟨a,vs,e,aq.bR s q,ak.mono s ds vs r⟩
 | .lst ds,v,h=>by
  simp only [Den] at h ⊢;obtain⟨a,vs,e,q,r⟩:=h
  exact⟨a,vs,e,s.seq q,ak.mono s ds vs r⟩
 | .obj _,v,h=>by
  simp only [Den] at h ⊢;obtain⟨a,e,q⟩:=h
  exact⟨a,e,λG sG=>q G (s.trans sG)⟩
 | .dct ks ds,v,h=>by
  simp only [Den] at h ⊢;obtain⟨a,vs,e,q,l,r⟩:=h;exact⟨a,vs,e,s _ _ q,l,ak.mono s ds vs r⟩
theorem ak.mono {K:Ha} {F F':Hp} (s:aq F F'):∀(ds:List D) (vs:List V),ak K F ds vs->ak K F' ds vs
 | [],_,h=>by simpa only [ak] using h
 | d :: ds,vs,h=>by
  simp only [ak] at h ⊢;obtain⟨v,r,e,a,b⟩:=h;exact⟨v,r,e,Den.mono s d v a,ak.mono s ds r b⟩
end
section
variable {K:Ha} {F:Hp}
theorem aZ {i:Int}:Den K F (.int i) (.int i):=by simp only [Den]
theorem d7 {b:Bool}:Den K F (.bl b) (.bl b):=by simp only [Den]
theorem jZ:Den K F .non .non:=by simp only [Den]
theorem kc {x:Str}:Den K F (.str x) (.str x):=by simp only [Den]
theorem Cu {x:String}:Den K F (.ty x) (.ty x):=by simp only [Den]
theorem eV {a:Addr} {vs:List V} {ds:List D} (h:gw K F a vs) (r:ak K F ds vs):Den K F (.tup ds) (.ref a):=by
 simp only [Den];exact⟨a,vs,rfl,h,r⟩
theorem ei {a:Addr} {vs:List V} {ds:List D} (h:dE K F a vs) (r:ak K F ds vs):Den K F (.lst ds) (.ref a):=by
 simp only [Den];exact⟨a,vs,rfl,h,r⟩
theorem aI:ak K F [] []:=by simp only [ak]
theorem aH {d:D} {v:V} {ds:List D} {vs:List V} (h:Den K F d v) (r:ak K F ds vs):ak K F (d :: ds) (v :: vs):=by
 simp only [ak];exact⟨v,vs,rfl,h,r⟩
theorem ak.length:∀{ds:List D} {vs:List V},ak K F ds vs->ds.length=vs.length
 | [],vs,h=>by simp only [ak] at h;subst h;rfl
 | d :: ds,vs,h=>by
  simp only [ak] at h;obtain⟨v,r,rfl,_,b⟩:=h;simp [ak.length b]
theorem ak.get:∀{ds:List D} {vs:List V} {i:Nat} {d:D},ak K F ds vs->ds[i]?=some d->∃v,vs[i]?=some v/\Den K F d v
 | [],vs,i,d,h,e=>by simp at e
 | x :: ds,vs,i,d,h,e=>by
  simp only [ak] at h;obtain⟨v,r,rfl,a,b⟩:=h
  cases i with
  | zero=>simp at e;subst e;exact⟨v,rfl,a⟩
  | succ i=>simpa using ak.get b (by simpa using e)
theorem ak.DS:∀{ds:List D} {vs:List V} {i:Nat} {v:V},ak K F ds vs->vs[i]?=some v->∃d,ds[i]?=some d/\Den K F d v
 | [],vs,i,d,h,e=>by simp only [ak] at h;subst h;simp at e
 | x :: ds,vs,i,d,h,e=>by
  simp only [ak] at h;obtain⟨v,r,rfl,a,b⟩:=h
  cases i with
  | zero=>simp at e;subst e;exact⟨x,rfl,a⟩
  | succ i=>simpa using ak.DS b (by simpa using e)
theorem ak.append:∀{ds es:List D} {vs us:List V},ak K F ds vs->ak K F es us->ak K F (ds ++ es) (vs ++ us)
 | [],es,vs,us,h,g=>by simp only [ak] at h;subst h;exact g
 | x :: ds,es,vs,us,h,g=>by
  simp only [ak] at h;obtain⟨v,r,rfl,a,b⟩:=h;exact aH a (ak.append b g)
theorem ak.take:∀{ds:List D} {vs:List V} (n:Nat),ak K F ds vs->ak K F (ds.take n) (vs.take n)
 | _,_,0,_=>by simpa using aI
 | [],vs,n + 1,h=>by simp only [ak] at h;subst h;simpa using aI
 | x :: ds,vs,n + 1,h=>by
  simp only [ak] at h;obtain⟨v,r,rfl,a,b⟩:=h;exact aH a (ak.take n b)
theorem ak.drop:∀{ds:List D} {vs:List V} (n:Nat),ak K F ds vs->ak K F (ds.drop n) (vs.drop n)
 | _,_,0,h=>by simpa using h
 | [],vs,n + 1,h=>by simp only [ak] at h;subst h;simpa using aI
 | x :: ds,vs,n + 1,h=>by
  simp only [ak] at h;obtain⟨v,r,rfl,a,b⟩:=h;exact ak.drop n b
theorem ak.set {x:D} {v:V} (q:Den K F x v):∀{ds:List D} {vs:List V} (n:Nat),ak K F ds vs->ak K F (ds.set n x) (vs.set n v)
 | [],vs,n,h=>by simp only [ak] at h;subst h;simpa using aI
 | y :: ds,vs,0,h=>by
  simp only [ak] at h;obtain⟨w,r,rfl,a,b⟩:=h
  exact aH q b
 | y :: ds,vs,n + 1,h=>by
  simp only [ak] at h;obtain⟨w,r,rfl,a,b⟩:=h;exact aH a (ak.set q n b)
theorem o8 (ns:List Int):ak K F (ns.map D.int) (ns.map V.int):=by
 induction ns with
 | nil=>exact aI
 | cons n r ih=>exact aH aZ ih
end
mutual
def vo:D->Int
 | .int i=>hashInt i
 | .tup ds=>reduceHash (Builtin.Tuple.tupleHashOf (nJ ds))
 | .non=>4238894112
 | _=>0
def nJ:List D->List Int
 | []=>[]
 | d :: ds=>vo d :: nJ ds
end
def bj (h:Heap) (d:Addr) (es:Array DictEntry) (ep:Nat):Prop:=∃o,h.get? d=some o/\o.ExactDict/\o.data=.dict es ep
def xY (row:Int×V×V) (e:DictEntry):Prop:=e.hash=row.1/\RelV row.2.1 e.key/\RelV row.2.2 e.val
def ft (p:Addr) (ep:Nat) (rows:List (Int×V×V)):HO:=.ext λh=>rows.length<=sizeLine/\(p == sysModules)=false/\∃es,bj h p es ep/\Paired xY rows es.toList
def bo (kvs:List (D×D)) (us vs:List V):List (Int×V×V):=(kvs.map λkv=>vo kv.1).zip (us.zip vs)
inductive Lo where
 | d (x:D)|own (xs:List D)|dic (kvs:List (D×D))
abbrev En:=List (Option Lo)
structure Base where
 F:Hp
 H:Hp
 N:Addr->Prop
 nb:∀p,N p->H p≠none
structure Rep (K:Ha) (B:Base) (F H:Hp) (σ:St) (e:En):Prop where
 f0:aq B.F F
 fh:aq F H
 h0:aq B.H H
 nf:∀p,B.N p->F p=none
 dv:∀(i:Nat) x,e[i]?=some (some (.d x))->∃v,σ[i]?=some (some v)/\Den K F x v
 ov:∀(i:Nat) xs,e[i]?=some (some (.own xs))->∃p vs,σ[i]?=some (some (.ref p))/\H p=some (.lst vs)/\F p=none/\B.H p=none/\ak K F xs vs
 ne:∀(i j:Nat) xs ys p,i≠j->e[i]?=some (some (.own xs))->e[j]?=some (some (.own ys))->σ[i]?=some (some (.ref p))->σ[j]?=some (some (.ref p))->False
 mv:∀(i:Nat) kvs,e[i]?=some (some (.dic kvs))->∃p ep us vs,σ[i]?=some (some (.ref p))/\H p=some (ft p ep (bo kvs us vs))/\F p=none/\B.H p=none/\ak K F (kvs.map (·.1)) us/\ak K F (kvs.map (·.2)) vs
 nm:∀(i j:Nat) xs ys p,i≠j->e[i]?=some (some (.dic xs))->e[j]?=some (some (.dic ys))->σ[i]?=some (some (.ref p))->σ[j]?=some (some (.ref p))->False
section
variable {K:Ha} {B:Base} {F H F' H':Hp} {σ:St} {e:En}
theorem Rep.ext (r:Rep K B F H σ e) (a:aq F F') (b:aq F' H') (c:aq H H') (n:∀p,H p≠none->F p=none->F' p=none):Rep K B F' H' σ e where
 f0:=r.f0.trans a
 fh:=b
 h0:=r.h0.trans c
 nf:=λp hp=>by
  refine n p (λz=>?_) (r.nf p hp);have q:=B.nb p hp
  cases w:B.H p with
  | none=>exact q w
  | some o=>rw [r.h0 _ _ w] at z;cases z
 dv:=λi x h=>let ⟨v,h1,h2⟩:=r.dv i x h;⟨v,h1,Den.mono a _ _ h2⟩
 ov:=λi xs h=>by
  obtain⟨p,vs,h1,h2,h3,h4,h5⟩:=r.ov i xs h;exact⟨p,vs,h1,c _ _ h2,n p (by rw [h2];simp) h3,h4,ak.mono a _ _ h5⟩
 ne:=r.ne
 mv:=λi xs h=>by
  obtain⟨p,ep,us,vs,h1,h2,h3,h4,h5,h6⟩:=r.mv i xs h;exact⟨p,ep,us,vs,h1,c _ _ h2,n p (by rw [h2];simp) h3,h4,ak.mono a _ _ h5,ak.mono a _ _ h6⟩
 nm:=r.nm
theorem Rep.l9 (r:Rep K B F H σ e) {p:Addr} (h:H p=none):F p=none:=r.fh.free h
theorem aY {H:Hp} {p:Addr} {o:HO} (h:H p=none):aq H (upd H p o):=λb u q=>by rw [aj (bc q h)];exact q
theorem o4 {F H:Hp} {p:Addr} {o:HO} (h:aq F H):aq (upd F p o) (upd H p o):=λb u q=>by
 by_cases e:b=p
 ·subst e;rw [ao] at q ⊢;exact q
 ·rw [aj e] at q ⊢;exact h _ _ q
theorem Rep.laid (r:Rep K B F H σ e) {p:Addr} {o:HO} (h:H p=none):Rep K B (upd F p o) (upd H p o) σ e/\aq F (upd F p o):=by
 have hf:=r.l9 h;refine⟨r.ext (aY hf) (o4 r.fh) (aY h) λq hq hn=>?_,aY hf⟩
 by_cases z:q=p
 ·subst z;exact absurd h hq
 ·rw [aj z];exact hn
theorem Rep.loose (r:Rep K B F H σ e) {p:Addr} {o:HO} (h:H p=none):Rep K B F (upd H p o) σ e :=
 r.ext (aq.refl _) (r.fh.trans (aY h)) (aY h) λ_ _ hn=>hn
theorem Rep.now (r:Rep K B F H σ e):Rep K ⟨F,B.H,B.N,B.nb⟩ F H σ e:=⟨aq.refl _,r.fh,r.h0,r.nf,r.dv,r.ov,r.ne,r.mv,r.nm⟩
theorem Rep.back {G:Hp} (s:aq B.F G) (r:Rep K ⟨G,B.H,B.N,B.nb⟩ F H σ e):Rep K B F H σ e:=⟨s.trans r.f0,r.fh,r.h0,r.nf,r.dv,r.ov,r.ne,r.mv,r.nm⟩
theorem aQ {e:En} {i j:Nat} {l:Lo} {kvs:List (D×D)} (hl:∀z,l≠.dic z) (q:(e.set i (some l))[j]?=some (some (.dic kvs))):i≠j:=λz=>by
 subst z
 by_cases w:i < e.length
 ·rw [Hg w] at q;cases q;exact hl _ rfl
 ·rw [Hv (by simpa using w)] at q;cases q
theorem Rep.set (r:Rep K B F H σ e) {i:Nat} {v:V} {x:D} (h:Den K F x v) (hl:i < σ.length):Rep K B F H (σ.set i (some v)) (e.set i (some (.d x))) where
 f0:=r.f0
 fh:=r.fh
 h0:=r.h0
 nf:=r.nf
 dv:=λj y q=>by
  by_cases z:i=j
  ·subst z
   by_cases w:i < e.length
   ·rw [Hg w] at q;cases q;exact⟨v,Hg hl,h⟩
   ·rw [Hv (by simpa using w)] at q;cases q
  ·rw [G9 z] at q ⊢;exact r.dv j y q
 ov:=λj y q=>by
  by_cases z:i=j
  ·subst z
   by_cases w:i < e.length
   ·rw [Hg w] at q;cases q
   ·rw [Hv (by simpa using w)] at q;cases q
  ·rw [G9 z] at q ⊢;exact r.ov j y q
 ne:=λj k xs ys p hjk q1 q2 q3 q4=>by
  have own_ne:∀(j:Nat) (ys:List D),(e.set i (some (.d x)))[j]?=some (some (.own ys))->i≠j:=λj ys q z=>by
   subst z
   by_cases w:i < e.length
   ·rw [Hg w] at q;cases q
   ·rw [Hv (by simpa using w)] at q;cases q
  have z1:=own_ne j xs q1;have z2:=own_ne k ys q2;rw [G9 z1] at q1 q3;rw [G9 z2] at q2 q4;exact r.ne j k xs ys p hjk q1 q2 q3 q4
 mv:=λj y q=>by
  have z:i≠j:=aQ (λ_ w=>by cases w) q;rw [G9 z] at q ⊢;exact r.mv j y q
 nm:=λj k xs ys p hjk q1 q2 q3 q4=>by
  have z1:=aQ (λ_ w=>by cases w) q1;have z2:=aQ (λ_ w=>by cases w) q2;rw [G9 z1] at q1 q3;rw [G9 z2] at q2 q4;exact r.nm j k xs ys p hjk q1 q2 q3 q4
theorem Rep.yP (r:Rep K B F H σ e) {i:Nat} {p:Addr} {vs:List V} {xs:List D} (h:H p=none) (hd:ak K F xs vs) (hl:i < σ.length) :
  Rep K B F (upd H p (.lst vs)) (σ.set i (some (.ref p))) (e.set i (some (.own xs))):=by
 have r1:=r.loose (o:=.lst vs) h;have hb:B.H p=none:=r.h0.free h
 have old:∀(j:Nat) (ys:List D),e[j]?=some (some (.own ys))->σ[j]?≠some (some (.ref p)):=λj ys q z=>by
  obtain⟨q1,_,h1,h2,_⟩:=r.ov j ys q;rw [z] at h1;cases h1;rw [h] at h2;cases h2
 refine⟨r1.f0,r1.fh,r1.h0,r1.nf,λj y q=>?_,λj y q=>?_,λj k ys zs q hjk q1 q2 q3 q4=>?_,λj y q=>?_,λj k ys zs q hjk q1 q2 q3 q4=>?_⟩
 ·by_cases z:i=j
  ·subst z
   by_cases w:i < e.length
   ·rw [Hg w] at q;cases q
   ·rw [Hv (by simpa using w)] at q;cases q
  ·rw [G9 z] at q ⊢;exact r1.dv j y q
 ·by_cases z:i=j
  ·subst z
   by_cases w:i < e.length
   ·rw [Hg w] at q;cases q;exact⟨p,vs,Hg hl,ao,r.l9 h,hb,hd⟩
   ·rw [Hv (by simpa using w)] at q;cases q
  ·rw [G9 z] at q ⊢;exact r1.ov j y q
 ·by_cases z1:i=j
  ·subst z1;rw [G9 hjk] at q2 q4
   by_cases w:i < e.length
   ·rw [Hg hl] at q3;cases q3;exact old k zs q2 q4
   ·rw [Hv (by simpa using w)] at q1;cases q1
  ·rw [G9 z1] at q1 q3
   by_cases z2:i=k
   ·subst z2;rw [Hg hl] at q4;cases q4;exact old j ys q1 q3
   ·rw [G9 z2] at q2 q4;exact r.ne j k ys zs q hjk q1 q2 q3 q4
 ·have z:i≠j:=aQ (λ_ w=>by cases w) q;rw [G9 z] at q ⊢;exact r1.mv j y q
 ·have z1:=aQ (λ_ w=>by cases w) q1;have z2:=aQ (λ_ w=>by cases w) q2;rw [G9 z1] at q1 q3;rw [G9 z2] at q2 q4;exact r.nm j k ys zs q hjk q1 q2 q3 q4
theorem Rep.change (r:Rep K B F H σ e) {i:Nat} {p:Addr} {vs:List V} {xs ys:List D} (h:e[i]?=some (some (.own xs))) (hp:σ[i]?=some (some (.ref p))) (hd:ak K F ys vs) :
  Rep K B F (upd H p (.lst vs)) σ (e.set i (some (.own ys))):=by
 obtain⟨p',_,h1,h2,h3,h4,_⟩:=r.ov i xs h;rw [hp] at h1;cases h1;have wl:i < e.length:=(G7.mp h).1;have fk:∀q o,F q=some o->q≠p:=λq o z w=>by subst w;rw [h3] at z;cases z
 have bk:∀q o,B.H q=some o->q≠p:=λq o z w=>by subst w;rw [h4] at z;cases z
 have ownAt:∀(j:Nat) (zs:List D),(e.set i (some (.own ys)))[j]?=some (some (.own zs))->∃ws,e[j]?=some (some (.own ws)):=λj zs q=>by
  by_cases z:i=j
  ·subst z;exact⟨xs,h⟩
  ·rw [G9 z] at q;exact⟨zs,q⟩
 refine⟨r.f0,λb o z=>by rw [aj (fk b o z)];exact r.fh _ _ z,λb o z=>by rw [aj (bk b o z)];exact r.h0 _ _ z,r.nf,λj y q=>?_,λj y q=>?_,λj k as bs q hjk q1 q2 q3 q4=>?_,λj y q=>?_,λj k as bs q hjk q1 q2 q3 q4=>?_⟩
 ·by_cases z:i=j
  ·subst z;rw [Hg wl] at q;cases q
  ·rw [G9 z] at q;exact r.dv j y q
 ·by_cases z:i=j
  ·subst z;rw [Hg wl] at q;cases q;exact⟨p,vs,hp,ao,h3,h4,hd⟩
  ·rw [G9 z] at q;obtain⟨p2,us,g1,g2,g3,g4,g5⟩:=r.ov j y q;have:p2≠p:=λw=>by subst w;exact r.ne j i y xs p2 (Ne.symm z) q h g1 hp
   exact⟨p2,us,g1,by rw [aj this];exact g2,g3,g4,g5⟩
 ·obtain⟨as',w1⟩:=ownAt j as q1;obtain⟨bs',w2⟩:=ownAt k bs q2;exact r.ne j k as' bs' q hjk w1 w2 q3 q4
 ·have z:i≠j:=aQ (λ_ w=>by cases w) q;rw [G9 z] at q;obtain⟨p2,ep,us,ws,g1,g2,g3,g4,g5,g6⟩:=r.mv j y q;have:p2≠p:=λw=>by subst w;rw [h2] at g2;cases g2
  exact⟨p2,ep,us,ws,g1,by rw [aj this];exact g2,g3,g4,g5,g6⟩
 ·have z1:=aQ (λ_ w=>by cases w) q1;have z2:=aQ (λ_ w=>by cases w) q2;rw [G9 z1] at q1;rw [G9 z2] at q2;exact r.nm j k as bs q hjk q1 q2 q3 q4
theorem Rep.freeze (r:Rep K B F H σ e) {i:Nat} {xs:List D} (h:e[i]?=some (some (.own xs))):∃F',aq F F'/\Rep K B F' H σ (e.set i (some (.d (.lst xs)))):=by
 obtain⟨p,vs,h1,h2,h3,h4,h5⟩:=r.ov i xs h;have wl:i < e.length:=(G7.mp h).1;have s1:aq F (upd F p (.lst vs)):=aY h3;refine⟨upd F p (.lst vs),s1,r.f0.trans s1,λb o z=>?_,r.h0,λq hq=>?_,λj y q=>?_,λj y q=>?_,λj k as bs q hjk q1 q2 q3 q4=>?_,λj y q=>?_,λj k as bs q hjk q1 q2 q3 q4=>?_⟩
 ·by_cases w:b=p
  ·subst w;rw [ao] at z;cases z;exact h2
  ·rw [aj w] at z;exact r.fh _ _ z
 ·have:q≠p:=λw=>by subst w;exact B.nb _ hq h4
  rw [aj this];exact r.nf q hq
 ·by_cases z:i=j
  ·subst z;rw [Hg wl] at q;cases q;exact⟨_,h1,ei (dE.of ao) (ak.mono s1 _ _ h5)⟩
  ·rw [G9 z] at q;obtain⟨v,a,b⟩:=r.dv j y q;exact⟨v,a,Den.mono s1 _ _ b⟩
 ·by_cases z:i=j
  ·subst z;rw [Hg wl] at q;cases q
  ·rw [G9 z] at q;obtain⟨p2,us,g1,g2,g3,g4,g5⟩:=r.ov j y q;have:p2≠p:=λw=>by subst w;exact r.ne j i y xs p2 (Ne.symm z) q h g1 h1
   exact⟨p2,us,g1,g2,by rw [aj this];exact g3,g4,ak.mono s1 _ _ g5⟩
 ·have ownAt:∀(j:Nat) (zs:List D),(e.set i (some (.d (.lst xs))))[j]?=some (some (.own zs))->e[j]?=some (some (.own zs)):=λj zs q=>by
   by_cases z:i=j
   ·subst z;rw [Hg wl] at q;cases q
   ·rw [G9 z] at q;exact q
  exact r.ne j k as bs q hjk (ownAt j as q1) (ownAt k bs q2) q3 q4
 ·have z:i≠j:=aQ (λ_ w=>by cases w) q;rw [G9 z] at q;obtain⟨p2,ep,us,ws,g1,g2,g3,g4,g5,g6⟩:=r.mv j y q;have:p2≠p:=λw=>by subst w;rw [h2] at g2;cases g2
  exact⟨p2,ep,us,ws,g1,g2,by rw [aj this];exact g3,g4,ak.mono s1 _ _ g5,ak.mono s1 _ _ g6⟩
 ·have z1:=aQ (λ_ w=>by cases w) q1;have z2:=aQ (λ_ w=>by cases w) q2;rw [G9 z1] at q1;rw [G9 z2] at q2;exact r.nm j k as bs q hjk q1 q2 q3 q4
end
end L2.L3
namespace L2.L3
open PySem PySem.Spec PyProof.Rows
def notStar:Expr->Bool
 | .Starred _ _=>false
 | _=>true
theorem aJ {e:Expr} {es:List Expr} {env:Env} (h:notStar e=true):starEach (e :: es) env=(false,eval e env) :: starEach es env:=by
 cases e <;> first|rfl|cases h
abbrev TD:=En->(D->Prop)->Prop
abbrev TB:=En->(Bool->Prop)->Prop
abbrev eD:=En->(List D->Prop)->Prop
structure Ends3 where
 nx:En->Prop
 rt:D->Prop
 bk:En->Prop:=λ_=>False
 ct:En->Prop:=λ_=>False
abbrev bG:=Ends3->En->Prop
def wE (X:Cx) (e:Expr):TE:=λσ H Q=>∀(pins:List (Addr×Obj)) (s:Shared),Inv X pins σ H s->wpAny (model X.prog X.w) X.A (eval e X.env) (EP X pins σ Q) X.xe s
def wT (X:Cx) (e:Expr):TT:=λσ H Q=>∀(pins:List (Addr×Obj)) (s:Shared),Inv X pins σ H s->wpAny (model X.prog X.w) X.A (isTrue e X.env (eval e X.env)) (TP X pins σ Q) X.xe s
def wW (X:Cx) (e:Expr):TT:=λσ H Q=>∀(whole:Sem Value) (pins:List (Addr×Obj)) (s:Shared),Inv X pins σ H s->wpAny (model X.prog X.w) X.A (isTrue e X.env whole) (TP X pins σ Q) X.xe s
def wA (X:Cx) (es:List Expr):TA:=λσ H Q=>∀(pos:Pos) (pins:List (Addr×Obj)) (s:Shared),Inv X pins σ H s->wpAny (model X.prog X.w) X.A (spliced (backTo pos (starEach es X.env))) (AP X pins σ Q) X.xe s
def wS (X:Cx) (st:Stmt):TS:=λD σ H=>∀(pins:List (Addr×Obj)) (s:Shared),Inv X pins σ H s->wpAny (model X.prog X.w) X.A (exec st X.env) (SP X pins D) X.xe s
def wSs (X:Cx) (st:List Stmt):TS:=λD σ H=>∀(pins:List (Addr×Obj)) (s:Shared),Inv X pins σ H s->wpAny (model X.prog X.w) X.A (execs st X.env) (SP X pins D) X.xe s
section
variable {X:Cx} {e:Expr} {es:List Expr} {st:Stmt} {sts:List Stmt} {σ:St} {H:Hp}
theorem bF:PE X e (wE X e):=λpins s σ H Q I h=>h pins s I
theorem oP:PT X e (wT X e):=λpins s σ H Q I h=>h pins s I
theorem Eg:PW X e (wW X e):=λwh pins s σ H Q I h=>h wh pins s I
theorem gR:PA X es (wA X es):=λpos pins s σ H Q I h=>h pos pins s I
theorem rH:PS X st (wS X st):=λpins s σ H D I h=>h pins s I
theorem cR:tN X sts (wSs X sts):=λpins s σ H D I h=>h pins s I
theorem bX {te:TE} {Q:VK} (h:PE X e te) (q:te σ H Q):wE X e σ H Q:=λpins s I=>h pins s σ H Q I q
theorem pb {te:TT} {Q:Bool->Hp->Prop} (h:PT X e te) (q:te σ H Q):wT X e σ H Q:=λpins s I=>h pins s σ H Q I q
theorem v9 {te:TT} {Q:Bool->Hp->Prop} (h:PW X e te) (q:te σ H Q):wW X e σ H Q:=λwh pins s I=>h wh pins s σ H Q I q
theorem Bk {te:TA} {Q:List V->Hp->Prop} (h:PA X es te) (q:te σ H Q):wA X es σ H Q:=λpos pins s I=>h pos pins s σ H Q I q
theorem cQ {te:TS} {D:Ends} (h:PS X st te) (q:te D σ H):wS X st D σ H:=λpins s I=>h pins s σ H D I q
theorem gB {te:TS} {D:Ends} (h:tN X sts te) (q:te D σ H):wSs X sts D σ H:=λpins s I=>h pins s σ H D I q
theorem aD {Q Q':VK} (h:wE X e σ H Q) (i:∀v H',Q v H'->Q' v H'):wE X e σ H Q':=λpins s I=>bK (h pins s I) λ_ _ ⟨v,H',I',r,q⟩=>⟨v,H',I',r,i v H' q⟩
theorem fN {Q Q':Bool->Hp->Prop} (h:wT X e σ H Q) (i:∀v H',Q v H'->Q' v H'):wT X e σ H Q':=λpins s I=>bK (h pins s I) λb _ ⟨H',I',q⟩=>⟨H',I',i b H' q⟩
theorem vB {Q Q':Bool->Hp->Prop} (h:wW X e σ H Q) (i:∀v H',Q v H'->Q' v H'):wW X e σ H Q':=λwh pins s I=>bK (h wh pins s I) λb _ ⟨H',I',q⟩=>⟨H',I',i b H' q⟩
theorem bV {Q Q':List V->Hp->Prop} (h:wA X es σ H Q) (i:∀v H',Q v H'->Q' v H'):wA X es σ H Q':=λpos pins s I=>bK (h pos pins s I) λ_ _ ⟨v,H',I',r,q⟩=>⟨v,H',I',r,i v H' q⟩
theorem mD {pins:List (Addr×Obj)} {D D':Ends} {f:Flow} {s':Shared} (h:SP X pins D f s') (nx:∀σ H,D.nx σ H->D'.nx σ H) (rt:∀v H,D.rt v H->D'.rt v H) (bk:∀σ H,D.bk σ H->D'.bk σ H) (ct:∀σ H,D.ct σ H->D'.ct σ H):SP X pins D' f s':=by
 cases f with
 | next=>obtain⟨σ',H',I,q⟩:=h;exact⟨σ',H',I,nx _ _ q⟩
 | brk=>obtain⟨σ',H',I,q⟩:=h;exact⟨σ',H',I,bk _ _ q⟩
 | cont=>obtain⟨σ',H',I,q⟩:=h;exact⟨σ',H',I,ct _ _ q⟩
 | ret u=>obtain⟨v,σ',H',I,r,q⟩:=h;exact⟨v,σ',H',I,r,rt _ _ q⟩
theorem jA {D D':Ends} (h:wS X st D σ H) (nx:∀σ H,D.nx σ H->D'.nx σ H) (rt:∀v H,D.rt v H->D'.rt v H) (bk:∀σ H,D.bk σ H->D'.bk σ H) (ct:∀σ H,D.ct σ H->D'.ct σ H):wS X st D' σ H :=
 λpins s I=>bK (h pins s I) λ_ _ q=>mD q nx rt bk ct
theorem fj {D D':Ends} (h:wSs X sts D σ H) (nx:∀σ H,D.nx σ H->D'.nx σ H) (rt:∀v H,D.rt v H->D'.rt v H) (bk:∀σ H,D.bk σ H->D'.bk σ H) (ct:∀σ H,D.ct σ H->D'.ct σ H):wSs X sts D' σ H :=
 λpins s I=>bK (h pins s I) λ_ _ q=>mD q nx rt bk ct
end
def RV (X:Cx) (B:Base) (σ:St) (env:En) (F:Hp) (Q:D->Prop):VK:=λv H'=>∃F' d,Rep X.K B F' H' σ env/\aq F F'/\Den X.K F' d v/\Q d
def RB (X:Cx) (B:Base) (σ:St) (env:En) (F:Hp) (Q:Bool->Prop):Bool->Hp->Prop:=λb H'=>∃F',Rep X.K B F' H' σ env/\aq F F'/\Q b
def RA (X:Cx) (B:Base) (σ:St) (env:En) (F:Hp) (Q:List D->Prop):List V->Hp->Prop:=λvs H'=>∃F' ds,Rep X.K B F' H' σ env/\aq F F'/\ak X.K F' ds vs/\Q ds
def RS (X:Cx) (B:Base) (D:Ends3):Ends where
 nx:=λσ' H'=>∃F' env',Rep X.K B F' H' σ' env'/\D.nx env'
 rt:=λv H'=>∃F' d,Rep X.K B F' H' [] []/\Den X.K F' d v/\D.rt d
 bk:=λσ' H'=>∃F' env',Rep X.K B F' H' σ' env'/\D.bk env'
 ct:=λσ' H'=>∃F' env',Rep X.K B F' H' σ' env'/\D.ct env'
structure QE (X:Cx) (e:Expr) (t:TD):Prop where
 of ::
 run:∀(B:Base) (σ:St) (F H:Hp) (env:En) (Q:D->Prop),Rep X.K B F H σ env->t env Q->wE X e σ H (RV X B σ env F Q)
instance {X:Cx} {e:Expr} {t:TD}:CoeFun (QE X e t) (λ_=>∀(B:Base) (σ:St) (F H:Hp) (env:En) (Q:D->Prop),Rep X.K B F H σ env->t env Q->wE X e σ H (RV X B σ env F Q)):=⟨QE.run⟩
structure QT (X:Cx) (e:Expr) (t:TB):Prop where
 of ::
 run:∀(B:Base) (σ:St) (F H:Hp) (env:En) (Q:Bool->Prop),Rep X.K B F H σ env->t env Q->wT X e σ H (RB X B σ env F Q)
instance {X:Cx} {e:Expr} {t:TB}:CoeFun (QT X e t) (λ_=>∀(B:Base) (σ:St) (F H:Hp) (env:En) (Q:Bool->Prop),Rep X.K B F H σ env->t env Q->wT X e σ H (RB X B σ env F Q)):=⟨QT.run⟩
structure QW (X:Cx) (e:Expr) (t:TB):Prop where
 of ::
 run:∀(B:Base) (σ:St) (F H:Hp) (env:En) (Q:Bool->Prop),Rep X.K B F H σ env->t env Q->wW X e σ H (RB X B σ env F Q)
instance {X:Cx} {e:Expr} {t:TB}:CoeFun (QW X e t) (λ_=>∀(B:Base) (σ:St) (F H:Hp) (env:En) (Q:Bool->Prop),Rep X.K B F H σ env->t env Q->wW X e σ H (RB X B σ env F Q)):=⟨QW.run⟩
structure QA (X:Cx) (es:List Expr) (t:eD):Prop where
 of ::
 run:∀(B:Base) (σ:St) (F H:Hp) (env:En) (Q:List D->Prop),Rep X.K B F H σ env->t env Q->wA X es σ H (RA X B σ env F Q)
instance {X:Cx} {es:List Expr} {t:eD}:CoeFun (QA X es t) (λ_=>∀(B:Base) (σ:St) (F H:Hp) (env:En) (Q:List D->Prop),Rep X.K B F H σ env->t env Q->wA X es σ H (RA X B σ env F Q)):=⟨QA.run⟩
structure QS (X:Cx) (st:Stmt) (t:bG):Prop where
 of ::
 run:∀(B:Base) (σ:St) (F H:Hp) (env:En) (D:Ends3),Rep X.K B F H σ env->t D env->wS X st (RS X B D) σ H
instance {X:Cx} {st:Stmt} {t:bG}:CoeFun (QS X st t) (λ_=>∀(B:Base) (σ:St) (F H:Hp) (env:En) (D:Ends3),Rep X.K B F H σ env->t D env->wS X st (RS X B D) σ H):=⟨QS.run⟩
structure mB (X:Cx) (st:List Stmt) (t:bG):Prop where
 of ::
 run:∀(B:Base) (σ:St) (F H:Hp) (env:En) (D:Ends3),Rep X.K B F H σ env->t D env->wSs X st (RS X B D) σ H
instance {X:Cx} {st:List Stmt} {t:bG}:CoeFun (mB X st t) (λ_=>∀(B:Base) (σ:St) (F H:Hp) (env:En) (D:Ends3),Rep X.K B F H σ env->t D env->wSs X st (RS X B D) σ H):=⟨mB.run⟩
section
variable {X:Cx} {a b c e:Expr} {es:List Expr} {ta tb tc:TD} {tA tB':TB} {ts:eD} {pos:Pos} {rest:List Expr}
def ag (i:Nat):TD:=λenv Q=>∃x,env[i]?=some (some (.d x))/\Q x
def cC (x:D):TD:=λ_ Q=>Q x
theorem qv (i:Nat) {x:Str} {pos:Pos} (hN:X.N[i]?=some x:=by rfl) (hv:qF X.env.scope x:=by first | exact Or.inl rfl | exact Or.inr (Or.inl rfl) | exact Or.inr (Or.inr rfl)) (hd:(x == ("__debug__" : Str))=false:=by decide)
  (hcd:(x == ("__classdict__" : Str))=false:=by decide):QE X (.Name x pos) (ag i):=by
 refine⟨?_⟩;intro B σ F H env Q r ⟨x,hx,q⟩;obtain⟨v,hv',hd'⟩:=r.dv i x hx;exact bX (cF hN hv hd hcd) ⟨v,hv',F,x,r,aq.refl _,hd',q⟩
theorem qc {te:TE} {v:V} {x:D} (h:PE X e (tC v)) (hd:∀F,Den X.K F x v):QE X e (cC x):=⟨λB σ F H env Q r q=>bX h ⟨F,x,r,aq.refl _,hd F,q⟩⟩
theorem aA {i j pos}:QE X (.Constant (.int i) j pos) (cC (.int i)):=qc (te:=tC (.int i)) uY λ_=>aZ
theorem CY {b j pos}:QE X (.Constant (.bool b) j pos) (cC (.bl b)):=qc (te:=tC (.bl b)) ES λ_=>d7
theorem ED {j pos}:QE X (.Constant .none j pos) (cC .non):=qc (te:=tC .non) C8 λ_=>jZ
theorem gY {x j pos}:QE X (.Constant (.str x) j pos) (cC (.str x)):=qc (te:=tC (.str x)) CD λ_=>kc
theorem GN {x:Str} {n:String} {pos:Pos} (hg:Gl X x) (hm:X.mg x=none) (hv:bootBuiltins x=some (.type n)) (hn:x≠"__name__":=by decide) (hd:(x == ("__debug__" : Str))=false:=by decide):QE X (.Name x pos) (cC (.ty n)) :=
 qc (te:=tC (.ty n)) (zS (v:=.ty n) hg hm hv rfl hn hd) λ_=>Cu
def Kont (X:Cx) (B:Base) (σ:St) (env:En) (F:Hp) (Q:D->Prop) (Z:VK):Prop:=∀(v:V) (H' F':Hp) (d:D),Rep X.K B F' H' σ env->aq F F'->Den X.K F' d v->Q d->Z v H'
def va (X:Cx) (r:R2) (f:D->D->(D->Prop)->Prop):Prop:=∀(B:Base) (σ:St) (F H:Hp) (env:En) (Q:D->Prop) (d d':D) (x y:V) (Z:VK),Rep X.K B F H σ env->Den X.K F d x->Den X.K F d' y->Kont X B σ env F Q Z->f d d' Q->r x y H Z
def aL (f:D->D->(D->Prop)->Prop) (ta tb:TD):TD:=λenv Q=>ta env λx=>tb env λy=>f x y Q
theorem RV.weaken {B:Base} {σ:St} {env:En} {F F':Hp} {Q:D->Prop} (s:aq F F') {v:V} {H:Hp} (h:RV X B σ env F' Q v H):RV X B σ env F Q v H:=by
 obtain⟨G,d,r,s',hd,q⟩:=h;exact⟨G,d,r,s.trans s',hd,q⟩
theorem two {r:R2} {f:D->D->(D->Prop)->Prop} (hf:va X r f) (ha:QE X a ta) (hb:QE X b tb) {B:Base} {σ:St} {F H:Hp} {env:En} {Q:D->Prop} {Z:VK} (rp:Rep X.K B F H σ env) (hz:Kont X B σ env F Q Z) (h:aL f ta tb env Q) :
  DM r (wE X a) (wE X b) σ H Z:=by
 refine aD (ha B σ F H env _ rp h) λx H1 hq0=>?_;obtain⟨F1,d,r1,s1,d1,q1⟩:=hq0;refine aD (hb B σ F1 H1 env _ r1 q1) λy H2 hq0=>?_;obtain⟨F2,d',r2,s2,d2,q2⟩:=hq0;exact hf B σ F2 H2 env Q d d' x y Z r2 (Den.mono s2 _ _ d1) d2 (λv H' F' d' r' s'=>hz v H' F' d' r' ((s1.trans s2).trans s')) q2
theorem Fs {B:Base} {σ:St} {env:En} {F:Hp} {Q:D->Prop}:Kont X B σ env F Q (RV X B σ env F Q):=λv H' F' d r s hd q=>⟨F',d,r,s,hd,q⟩
theorem wO {op:Operator} {r:R2} {f:D->D->(D->Prop)->Prop} (ho:iS X (binaryOp op) r) (hf:va X r f) (ha:QE X a ta) (hb:QE X b tb):QE X (.BinOp a op b pos) (aL f ta tb) :=
 ⟨λB σ F H env Q rp h=>bX (Ex ho bF bF) (two hf ha hb rp Fs h)⟩
theorem Bm {op:CmpOp} {r:R2} {f:D->D->(D->Prop)->Prop} (ho:iS X (compareOp op) r) (hf:va X r f) (ha:QE X a ta) (hb:QE X b tb) (hm:behindInMarks op b=false):QE X (.Compare a [op] [b] pos) (aL f ta tb) :=
 ⟨λB σ F H env Q rp h=>bX (AA ho bF bF hm) (two hf ha hb rp Fs h)⟩
def aN (t:TD):TB:=λenv Q=>t env λx=>∃k,x=.bl k/\Q k
theorem gC {K:Ha} {F:Hp} {k:Bool} {v:V} (h:Den K F (.bl k) v):v=.bl k:=by simpa only [Den] using h
theorem gS {op:CmpOp} {r:R2} {f:D->D->(D->Prop)->Prop} (ho:iS X (compareOp op) r) (hf:va X r f) (ha:QE X a ta) (hb:QE X b tb) (hm:behindInMarks op b=false):QT X (.Compare a [op] [b] pos) (aN (aL f ta tb)):=by
 refine⟨?_⟩;intro B σ F H env Q rp h;refine pb (mK ho bF bF hm) ?_;show DM r (wE X a) (wE X b) σ H λx H'=>∃k,x=.bl k/\RB X B σ env F Q k H'
 refine two hf ha hb rp (λv H' F' d r' s' hd q=>?_) h;obtain⟨k,rfl,q⟩:=q;exact⟨k,gC hd,F',r',s',q⟩
theorem kE {t:TD} (h:QE X e t) (he:∀whole,isTrue e X.env whole=(do let v <- whole;standAt e.pos;holding [v] (truthy v)):=by intro _;rfl):QT X e (aN t):=by
 refine⟨?_⟩;intro B σ F H env Q rp hq;refine pb (DG bF he) ?_;refine aD (h B σ F H env _ rp hq) λv H' w=>?_;obtain⟨F',d,r',s',hd,k,rfl,q⟩:=w;exact⟨k,gC hd,F',r',s',q⟩
def oI (t u:TB):TB:=λenv Q=>t env λk=>if k=true then u env Q else Q false
def zJ (t u:TB):TB:=λenv Q=>t env λk=>if k=true then Q true else u env Q
def mx (t:TB):TB:=λenv Q=>t env λk=>Q (!k)
theorem QW.t (h:QW X e tA):QT X e tA:=⟨λB σ F H env Q rp hq pins s I=>h B σ F H env Q rp hq _ pins s I⟩
theorem p8 (ha:QT X a tA):QW X (.BoolOp .And [a] pos) tA:=⟨λB σ F H env Q rp h=>v9 (AO oP) (ha B σ F H env Q rp h)⟩
theorem uB (ha:QT X a tA):QW X (.BoolOp .Or [a] pos) tA:=⟨λB σ F H env Q rp h=>v9 (DA oP) (ha B σ F H env Q rp h)⟩
theorem uS (ha:QT X a tA) (hb:QW X (.BoolOp .And (b :: rest) pos) tB'):QW X (.BoolOp .And (a :: b :: rest) pos) (oI tA tB'):=by
 refine⟨?_⟩;intro B σ F H env Q rp h;refine v9 (Ca oP Eg) ?_;refine fN (ha B σ F H env _ rp h) λk H1 ⟨F1,r1,s1,q1⟩=>?_
 cases k with
 | true=>exact vB (hb B σ F1 H1 env Q r1 q1) λk2 H2 ⟨F2,r2,s2,q2⟩=>⟨F2,r2,s1.trans s2,q2⟩
 | false=>exact⟨F1,r1,s1,q1⟩
theorem yc (ha:QT X a tA) (hb:QW X (.BoolOp .Or (b :: rest) pos) tB'):QW X (.BoolOp .Or (a :: b :: rest) pos) (zJ tA tB'):=by
 refine⟨?_⟩;intro B σ F H env Q rp h;refine v9 (EZ oP Eg) ?_;refine fN (ha B σ F H env _ rp h) λk H1 ⟨F1,r1,s1,q1⟩=>?_
 cases k with
 | false=>exact vB (hb B σ F1 H1 env Q r1 q1) λk2 H2 ⟨F2,r2,s2,q2⟩=>⟨F2,r2,s1.trans s2,q2⟩
 | true=>exact⟨F1,r1,s1,q1⟩
theorem nK (ha:QT X a tA):QT X (.UnaryOp .Not a pos) (mx tA):=⟨λB σ F H env Q rp h=>pb (Dw oP) (fN (ha B σ F H env _ rp h) λk H1 q=>q)⟩
def jH (t u:TD):TD:=λenv Q=>t env λx=>∃k,x=.bl k/\if k=true then u env Q else Q (.bl false)
def j3 (t:TD):TD:=λenv Q=>t env λx=>∃k,x=.bl k/\Q (.bl (!k))
theorem Dh {op} (h:QE X a ta):QE X (.BoolOp op [a] pos) ta:=⟨λB σ F H env Q rp q=>bX (CP bF) (h B σ F H env Q rp q)⟩
theorem Dx (ha:QE X a ta) (hb:QE X (.BoolOp .And (b :: rest) pos) tb):QE X (.BoolOp .And (a :: b :: rest) pos) (jH ta tb):=by
 refine⟨?_⟩;intro B σ F H env Q rp h;refine bX (Dd bF bF) ?_;refine aD (ha B σ F H env _ rp h) λv H1 hq0=>?_;obtain⟨F1,d,r1,s1,d1,k,hk,q1⟩:=hq0;subst hk;refine⟨k,gC d1,?_⟩
 cases k with
 | true=>exact aD (hb B σ F1 H1 env Q r1 q1) λv H2 z=>z.weaken s1
 | false=>exact⟨F1,_,r1,s1,d7,q1⟩
theorem Dn (ha:QE X a ta):QE X (.UnaryOp .Not a pos) (j3 ta):=by
 refine⟨?_⟩;intro B σ F H env Q rp h;refine bX (C7 bF) ?_;refine aD (ha B σ F H env _ rp h) λv H1 hq0=>?_;obtain⟨F1,d,r1,s1,d1,k,hk,q1⟩:=hq0;subst hk;exact⟨k,gC d1,F1,_,r1,s1,d7,q1⟩
def av:eD:=λ_ Q=>Q []
def af (ta:TD) (tr:eD):eD:=λenv Q=>ta env λx=>tr env λxs=>Q (x :: xs)
theorem ah:QA X [] av:=⟨λB σ F H env Q rp h=>Bk c9 ⟨F,[],rp,aq.refl _,aI,h⟩⟩
theorem ae (ha:QE X e ta) (hr:QA X es ts) (hs:starEach (e :: es) X.env=(false,eval e X.env) :: starEach es X.env:=by exact aJ rfl):QA X (e :: es) (af ta ts):=by
 refine⟨?_⟩;intro B σ F H env Q rp h;refine Bk (cj bF gR hs) ?_;refine aD (ha B σ F H env _ rp h) λx H1 hq0=>?_;obtain⟨F1,d,r1,s1,d1,q1⟩:=hq0;exact bV (hr B σ F1 H1 env _ r1 q1) λxs H2 ⟨F2,ds,r2,s2,d2,q2⟩=>⟨F2,d :: ds,r2,s1.trans s2,aH (Den.mono s2 _ _ d1) d2,q2⟩
def a6 (t:eD):TD:=λenv Q=>t env λxs=>xs.length<=sizeLine/\Q (.tup xs)
def fX (t:eD):TD:=λenv Q=>t env λxs=>xs.length<=sizeLine/\Q (.lst xs)
theorem RV.Cf {B:Base} {σ:St} {env:En} {F H:Hp} {Q:D->Prop} {ds:List D} {vs:List V} (r:Rep X.K B F H σ env) (hd:ak X.K F ds vs) (q:Q (.tup ds)):∀p,H p=none->RV X B σ env F Q (.ref p) (upd H p (.tup vs)):=λp hp=>by
 obtain⟨r2,s2⟩:=r.laid (o:=.tup vs) hp;exact⟨_,_,r2,s2,eV (gw.of ao) (ak.mono s2 _ _ hd),q⟩
theorem RV.yd {B:Base} {σ:St} {env:En} {F H:Hp} {Q:D->Prop} {ds:List D} {vs:List V} (r:Rep X.K B F H σ env) (hd:ak X.K F ds vs) (q:Q (.lst ds)):∀p,H p=none->RV X B σ env F Q (.ref p) (upd H p (.lst vs)):=λp hp=>by
 obtain⟨r2,s2⟩:=r.laid (o:=.lst vs) hp;exact⟨_,_,r2,s2,ei (dE.of ao) (ak.mono s2 _ _ hd),q⟩
theorem aF {x1} (h:QA X es ts):QE X (.Tuple es x1 pos) (a6 ts):=by
 refine⟨?_⟩;intro B σ F H env Q rp hq;refine bX (Cp gR) ?_;refine bV (h B σ F H env _ rp hq) λvs H1 ⟨F1,ds,r1,s1,d1,z,q1⟩=>⟨by rw [<- d1.length];exact z,λp hp=>(RV.Cf r1 d1 q1 p hp).weaken s1⟩
theorem fS (h:QA X es ts):QE X (.List es pos) (fX ts):=by
 refine⟨?_⟩;intro B σ F H env Q rp hq;refine bX (lE gR) ?_;refine bV (h B σ F H env _ rp hq) λvs H1 ⟨F1,ds,r1,s1,d1,z,q1⟩=>⟨by rw [<- d1.length];exact z,λp hp=>(RV.yd r1 d1 q1 p hp).weaken s1⟩
end
mutual
def aT:D->D->Bool
 | .non,.non=>true
 | .bl a,.bl b=>a == b
 | .bl a,.int b=>(if a then 1 else 0) == b
 | .int a,.bl b=>a == (if b then 1 else 0)
 | .int a,.int b=>a == b
 | .str a,.str b=>a == b
 | .tup a,.tup b=>cZ a b
 | .lst a,.lst b=>cZ a b
 | _,_=>false
def cZ:List D->List D->Bool
 | [],[]=>true
 | a :: as,b :: bs=>aT a b && cZ as bs
 | _,_=>false
end
mutual
def dep:D->Nat
 | .tup ds=>bz ds + 1
 | .lst ds=>bz ds + 1
 | .dct _ _=>1000
 | .obj _=>1000
 | .ty _=>1000
 | .exc _=>1000
 | .cls _=>1000
 | _=>0
def bz:List D->Nat
 | []=>0
 | d :: ds=>max (dep d) (bz ds)
end
def rL (ds es:List D) (j:Nat):Bool:=match ds[j]?,es[j]? with
 | some a,some b=>aT a b
 | _,_=>true
theorem mZ (n:Nat) (e:Nat->Bool):(List.range (n + 1)).all e=(e 0 && (List.range n).all λi=>e (i + 1)):=by
 rw [List.range_succ_eq_map,List.all_cons,List.all_map];rfl
theorem p9:∀ds es:List D,((List.range (min ds.length es.length)).all (rL ds es) && (ds.length == es.length))=cZ ds es
 | [],[]=>by simp [cZ]
 | [],b :: es=>by simp [cZ]
 | a :: ds,[]=>by simp [cZ]
 | a :: ds,b :: es=>by
  have ih:=p9 ds es;rw [HY,HY,Nat.succ_min_succ,mZ];have e1:rL (a :: ds) (b :: es) 0=aT a b:=by simp [rL]
  have e2:(λi=>rL (a :: ds) (b :: es) (i + 1))=rL ds es:=by funext i;simp [rL]
  have e3:(ds.length + 1 == es.length + 1)=(ds.length == es.length):=by
   rw [Bool.eq_iff_iff];simp
  rw [e1,e2,e3,Bool.and_assoc,ih,cZ]
section
variable {X:Cx} {pins:List (Addr×Obj)} {σ:St} {H F:Hp} {s:Shared}
theorem Inv.sR (I:Inv X pins σ H s) {a:Addr} {xs ys:List V} (h:gw X.K H a xs) (h':dE X.K H a ys):False:=by
 obtain⟨_,_,⟨o,e1,c1,_⟩,_⟩:=I.tuple h;obtain⟨_,_,⟨o2,_,e2,c2,_⟩,_⟩:=I.list h';rw [e1] at e2;cases e2;rw [c1] at c2;injection c2 with z;exact absurd z (by decide)
mutual
theorem mJ (I:Inv X pins σ H s) (fh:aq F H):∀(d d':D) (v:V),dep d < 1000->dep d' < 1000->Den X.K F d v->Den X.K F d' v->aT d d'=true
 | .non,d',v,h1,h2,e1,e2=>by
  simp only [Den] at e1;subst e1
  cases d' <;> simp only [Den] at e2 <;> first|rfl|(obtain⟨a,vs,z,_⟩:=e2;cases z;done)|(obtain⟨a,z,_⟩:=e2;cases z;done)|cases e2
 | .bl b,d',v,h1,h2,e1,e2=>by
  simp only [Den] at e1;subst e1
  cases d' <;> simp only [Den] at e2 <;> first|(obtain⟨a,vs,z,_⟩:=e2;cases z;done)|(obtain⟨a,z,_⟩:=e2;cases z;done)|(cases e2;simp [aT];done)|cases e2
 | .int b,d',v,h1,h2,e1,e2=>by
  simp only [Den] at e1;subst e1
  cases d' <;> simp only [Den] at e2 <;> first|(obtain⟨a,vs,z,_⟩:=e2;cases z;done)|(obtain⟨a,z,_⟩:=e2;cases z;done)|(cases e2;simp [aT];done)|cases e2
 | .str b,d',v,h1,h2,e1,e2=>by
  simp only [Den] at e1;subst e1
  cases d' <;> simp only [Den] at e2 <;> first|(obtain⟨a,vs,z,_⟩:=e2;cases z;done)|(obtain⟨a,z,_⟩:=e2;cases z;done)|(cases e2;simp [aT];done)|cases e2
 | .ty b,d',v,h1,h2,e1,e2=>by simp [dep] at h1
 | .exc b,d',v,h1,h2,e1,e2=>by simp [dep] at h1
 | .cls b,d',v,h1,h2,e1,e2=>by simp [dep] at h1
 | .dct _ _,d',v,h1,h2,e1,e2=>by simp [dep] at h1
 | .obj _,d',v,h1,h2,e1,e2=>by simp [dep] at h1
 | .tup ds,d',v,h1,h2,e1,e2=>by
  simp only [Den] at e1;obtain⟨a,vs,rfl,q,r⟩:=e1
  cases d' with
  | tup es =>
   simp only [Den] at e2;obtain⟨a',us,z,q',r'⟩:=e2;cases z;have:=I.kH (aq.bR fh q) (aq.bR fh q');subst this;simp only [aT]
   exact n5 I fh ds es vs (by simp [dep] at h1;omega) (by simp [dep] at h2;omega) r r'
  | lst es =>
   simp only [Den] at e2;obtain⟨a',us,z,q',r'⟩:=e2;cases z
   exact (Inv.sR I (aq.bR fh q) (fh.seq q')).elim
  | dct _ _=>simp [dep] at h2
  | obj _=>simp [dep] at h2
  | exc _=>simp [dep] at h2
  | cls _=>simp [dep] at h2
  | _=>simp only [Den] at e2;cases e2
 | .lst ds,d',v,h1,h2,e1,e2=>by
  simp only [Den] at e1;obtain⟨a,vs,rfl,q,r⟩:=e1
  cases d' with
  | lst es =>
   simp only [Den] at e2;obtain⟨a',us,z,q',r'⟩:=e2;cases z;have:=I.nW (fh.seq q) (fh.seq q');subst this;simp only [aT]
   exact n5 I fh ds es vs (by simp [dep] at h1;omega) (by simp [dep] at h2;omega) r r'
  | tup es =>
   simp only [Den] at e2;obtain⟨a',us,z,q',r'⟩:=e2;cases z
   exact (Inv.sR I (aq.bR fh q') (fh.seq q)).elim
  | dct _ _=>simp [dep] at h2
  | obj _=>simp [dep] at h2
  | exc _=>simp [dep] at h2
  | cls _=>simp [dep] at h2
  | _=>simp only [Den] at e2;cases e2
theorem n5 (I:Inv X pins σ H s) (fh:aq F H):∀(ds es:List D) (vs:List V),bz ds < 1000->bz es < 1000->ak X.K F ds vs->ak X.K F es vs->cZ ds es=true
 | [],es,vs,h1,h2,e1,e2=>by
  simp only [ak] at e1;subst e1
  cases es with
  | nil=>rfl
  | cons _ _=>simp only [ak] at e2;obtain⟨_,_,z,_⟩:=e2;cases z
 | d :: ds,es,vs,h1,h2,e1,e2=>by
  simp only [ak] at e1;obtain⟨v,r,rfl,a,b⟩:=e1
  cases es with
  | nil=>simp only [ak] at e2;cases e2
  | cons e es =>
   simp only [ak] at e2;obtain⟨v',r',z,a',b'⟩:=e2;cases z;simp only [bz] at h1 h2;simp only [cZ,Bool.and_eq_true];exact⟨mJ I fh d e v (by omega) (by omega) a a',n5 I fh ds es r (by omega) (by omega) b b'⟩
end
theorem units_in1 (A:Around):A.in1.units=A.units + 1:=rfl
def DU:D->Bool
 | .non=>true
 | .bl _=>true
 | .int _=>true
 | .str _=>true
 | _=>false
theorem pR (I:Inv X pins σ H s) (fh:aq F H):∀(d d':D) (A:Around) (x y:V) (u v:Value),DU d=true->A.units + dep d < cLine->dep d' < 1000->Den X.K F d x->Den X.K F d' y->RelV x u->RelV y v ->
  SeqAt.RcAt A s u v (aT d d')/\SeqAt.RcNeAt A s u v (!aT d d')
 | .non,d',A,x,y,u,v,lf,hu,h2,e1,e2,r1,r2=>by
  simp only [Den] at e1;subst e1;cases r1;have hu0:A.units < cLine:=by omega
  cases d' with
  | ty _=>simp [dep] at h2
  | dct _ _=>simp [dep] at h2
  | obj _=>simp [dep] at h2
  | exc _=>simp [dep] at h2
  | cls _=>simp [dep] at h2
  | non=>simp only [Den] at e2;subst e2;cases r2;exact⟨SeqAt.RcAt.none_none,SeqAt.RcNeAt.none_none⟩
  | bl b=>simp only [Den] at e2;subst e2;cases r2;exact⟨SeqAt.RcAt.none_bool b,SeqAt.RcNeAt.none_bool b⟩
  | int b=>simp only [Den] at e2;subst e2;obtain⟨t,rfl⟩:=r2;exact⟨SeqAt.RcAt.none_int b t,SeqAt.RcNeAt.none_int b t⟩
  | str b=>simp only [Den] at e2;subst e2;obtain⟨t,rfl⟩:=r2;exact⟨SeqAt.RcAt.none_str b t,SeqAt.RcNeAt.none_str b t⟩
  | tup es =>
   simp only [Den] at e2;obtain⟨a,vs,rfl,q,r⟩:=e2;cases r2;obtain⟨its,rv,ht,hz⟩:=I.tuple (aq.bR fh q)
   exact⟨SeqAt.RcAt.none_tuple ht hu0,SeqAt.RcNeAt.none_tuple ht hu0⟩
  | lst es =>
   simp only [Den] at e2;obtain⟨a,vs,rfl,q,r⟩:=e2;cases r2;obtain⟨its,rv,ht,hz⟩:=I.list (fh.seq q)
   exact⟨SeqAt.RcAt.none_list ht.isList hu0,SeqAt.RcNeAt.none_list ht.isList hu0⟩
 | .bl b',d',A,x,y,u,v,lf,hu,h2,e1,e2,r1,r2=>by
  simp only [Den] at e1;subst e1;cases r1;have hu0:A.units < cLine:=by omega
  cases d' with
  | ty _=>simp [dep] at h2
  | dct _ _=>simp [dep] at h2
  | obj _=>simp [dep] at h2
  | exc _=>simp [dep] at h2
  | cls _=>simp [dep] at h2
  | non=>simp only [Den] at e2;subst e2;cases r2;exact⟨SeqAt.RcAt.bool_none b',SeqAt.RcNeAt.bool_none b'⟩
  | bl b=>simp only [Den] at e2;subst e2;cases r2;exact⟨by simpa only [aT] using SeqAt.RcAt.bool_bool b' b,by simpa only [aT] using SeqAt.RcNeAt.bool_bool b' b⟩
  | int b=>simp only [Den] at e2;subst e2;obtain⟨t,rfl⟩:=r2;exact⟨by simpa only [aT] using SeqAt.RcAt.bool_int b' b t,by simpa only [aT] using SeqAt.RcNeAt.bool_int b' b t⟩
  | str b=>simp only [Den] at e2;subst e2;obtain⟨t,rfl⟩:=r2;exact⟨SeqAt.RcAt.bool_str b' b t,SeqAt.RcNeAt.bool_str b' b t⟩
  | tup es =>
   simp only [Den] at e2;obtain⟨a,vs,rfl,q,r⟩:=e2;cases r2;obtain⟨its,rv,ht,hz⟩:=I.tuple (aq.bR fh q)
   exact⟨SeqAt.RcAt.bool_tuple b' ht hu0,SeqAt.RcNeAt.bool_tuple b' ht hu0⟩
  | lst es =>
   simp only [Den] at e2;obtain⟨a,vs,rfl,q,r⟩:=e2;cases r2;obtain⟨its,rv,ht,hz⟩:=I.list (fh.seq q)
   exact⟨SeqAt.RcAt.bool_list b' ht.isList hu0,SeqAt.RcNeAt.bool_list b' ht.isList hu0⟩
 | .int b',d',A,x,y,u,v,lf,hu,h2,e1,e2,r1,r2=>by
  simp only [Den] at e1;subst e1;obtain⟨t',rfl⟩:=r1;have hu0:A.units < cLine:=by omega
  cases d' with
  | ty _=>simp [dep] at h2
  | dct _ _=>simp [dep] at h2
  | obj _=>simp [dep] at h2
  | exc _=>simp [dep] at h2
  | cls _=>simp [dep] at h2
  | non=>simp only [Den] at e2;subst e2;cases r2;exact⟨SeqAt.RcAt.int_none b' t',SeqAt.RcNeAt.int_none b' t'⟩
  | bl b=>simp only [Den] at e2;subst e2;cases r2;exact⟨by simpa only [aT] using SeqAt.RcAt.int_bool b' t' b,by simpa only [aT] using SeqAt.RcNeAt.int_bool b' t' b⟩
  | int b=>simp only [Den] at e2;subst e2;obtain⟨t,rfl⟩:=r2;exact⟨by simpa only [aT] using SeqAt.RcAt.int_int b' t' b t,by simpa only [aT] using SeqAt.RcNeAt.int_int b' t' b t⟩
  | str b=>simp only [Den] at e2;subst e2;obtain⟨t,rfl⟩:=r2;exact⟨SeqAt.RcAt.int_str b' t' b t,SeqAt.RcNeAt.int_str b' t' b t⟩
  | tup es =>
   simp only [Den] at e2;obtain⟨a,vs,rfl,q,r⟩:=e2;cases r2;obtain⟨its,rv,ht,hz⟩:=I.tuple (aq.bR fh q)
   exact⟨SeqAt.RcAt.int_tuple b' t' ht hu0,SeqAt.RcNeAt.int_tuple b' t' ht hu0⟩
  | lst es =>
   simp only [Den] at e2;obtain⟨a,vs,rfl,q,r⟩:=e2;cases r2;obtain⟨its,rv,ht,hz⟩:=I.list (fh.seq q)
   exact⟨SeqAt.RcAt.int_list b' t' ht.isList hu0,SeqAt.RcNeAt.int_list b' t' ht.isList hu0⟩
 | .str b',d',A,x,y,u,v,lf,hu,h2,e1,e2,r1,r2=>by
  simp only [Den] at e1;subst e1;obtain⟨t',rfl⟩:=r1;have hu0:A.units < cLine:=by omega
  cases d' with
  | ty _=>simp [dep] at h2
  | dct _ _=>simp [dep] at h2
  | obj _=>simp [dep] at h2
  | exc _=>simp [dep] at h2
  | cls _=>simp [dep] at h2
  | non=>simp only [Den] at e2;subst e2;cases r2;exact⟨SeqAt.RcAt.str_none b' t',SeqAt.RcNeAt.str_none b' t'⟩
  | bl b=>simp only [Den] at e2;subst e2;cases r2;exact⟨SeqAt.RcAt.str_bool b' t' b,SeqAt.RcNeAt.str_bool b' t' b⟩
  | int b=>simp only [Den] at e2;subst e2;obtain⟨t,rfl⟩:=r2;exact⟨SeqAt.RcAt.str_int b' t' b t,SeqAt.RcNeAt.str_int b' t' b t⟩
  | str b=>simp only [Den] at e2;subst e2;obtain⟨t,rfl⟩:=r2;exact⟨by simpa only [aT] using SeqAt.RcAt.str_str b' t' b t,by simpa only [aT] using SeqAt.RcNeAt.str_str b' t' b t⟩
  | tup es =>
   simp only [Den] at e2;obtain⟨a,vs,rfl,q,r⟩:=e2;cases r2;obtain⟨its,rv,ht,hz⟩:=I.tuple (aq.bR fh q)
   exact⟨SeqAt.RcAt.str_tuple b' t' ht hu0,SeqAt.RcNeAt.str_tuple b' t' ht hu0⟩
  | lst es =>
   simp only [Den] at e2;obtain⟨a,vs,rfl,q,r⟩:=e2;cases r2;obtain⟨its,rv,ht,hz⟩:=I.list (fh.seq q)
   exact⟨SeqAt.RcAt.str_list b' t' ht.isList hu0,SeqAt.RcNeAt.str_list b' t' ht.isList hu0⟩
 | .ty _,d',A,x,y,u,v,lf,hu,h2,e1,e2,r1,r2=>(by cases lf)
 | .exc _,d',A,x,y,u,v,lf,hu,h2,e1,e2,r1,r2=>(by cases lf)
 | .cls _,d',A,x,y,u,v,lf,hu,h2,e1,e2,r1,r2=>(by cases lf)
 | .dct _ _,d',A,x,y,u,v,lf,hu,h2,e1,e2,r1,r2=>(by cases lf)
 | .obj _,d',A,x,y,u,v,lf,hu,h2,e1,e2,r1,r2=>(by cases lf)
 | .tup _,d',A,x,y,u,v,lf,hu,h2,e1,e2,r1,r2=>(by cases lf)
 | .lst _,d',A,x,y,u,v,lf,hu,h2,e1,e2,r1,r2=>(by cases lf)
theorem vT (I:Inv X pins σ H s) (fh:aq F H) (d d':D) (A:Around) (x y:V) (u v:Value) (hu:A.units + dep d < cLine) (h1:dep d < 1000) (h2:dep d' < 1000) (e1:Den X.K F d x) (e2:Den X.K F d' y) (r1:RelV x u) (r2:RelV y v) (k:SeqAt.RcAt A s u v (aT d d')) :
  SeqAt.EqAt A s u v (aT d d'):=by
 have hu0:A.units < cLine:=by omega
 by_cases z:u=v
 ·subst z;have:x=y:=r1.inj r2;subst this;rw [mJ I fh d d' x h1 h2 e1 e2];exact SeqAt.EqAt.same u
 ·intro prog w E Q hq;unfold eqBool;refine wpAny_holding ?_;refine wpAny_ite_split (λhab=>absurd (eq_of_beq hab) z) (λ_=>?_)
  have nf:∀b t,u≠.float b t:=λb t w=>by
   subst w;cases x <;> first|(obtain⟨_,q⟩:=r1;cases q;done)|(cases r1;done)|skip
   cases d <;> simp only [Den] at e1 <;> first|(cases e1;done)|(obtain⟨_,_,z,_⟩:=e1;cases z;done)|(obtain⟨_,z,_⟩:=e1;cases z;done)
  cases u <;> cases v <;> first|exact absurd rfl (nf _ _)|exact G8 (k prog w E _ (wpAny_truthy_bool hq))
theorem BF (I:Inv X pins σ H s) (fh:aq F H) (ds0:List D) (d d':D) (A:Around) (x y:V) (u v:Value) (hl:d=.tup ds0\/d=.lst ds0) (hu:A.units + dep d < cLine) (h1:dep d < 1000) (h2:dep d' < 1000) (e1:Den X.K F d x) (e2:Den X.K F d' y) (r1:RelV x u) (r2:RelV y v)
  (rec:∀(es:List D),(d'=.tup es\/d'=.lst es)->∀(vs1 vs:List V) (its1 its:List Value),ak X.K F ds0 vs1->ak X.K F es vs->Vals vs1 its1->Vals vs its->∀(j:Nat) (h1:j < its1.length) (h2:j < its.length),SeqAt.EqAt A.in1 s its1[j] its[j] (rL ds0 es j)) :
  SeqAt.RcAt A s u v (aT d d')/\SeqAt.RcNeAt A s u v (!aT d d'):=by
 cases d with
 | non=>rcases hl with hl|hl <;> cases hl
 | bl _=>rcases hl with hl|hl <;> cases hl
 | int _=>rcases hl with hl|hl <;> cases hl
 | str _=>rcases hl with hl|hl <;> cases hl
 | ty _=>simp [dep] at h1
 | exc _=>simp [dep] at h1
 | cls _=>simp [dep] at h1
 | dct _ _=>simp [dep] at h1
 | obj _=>simp [dep] at h1
 | tup ds =>
  have z:ds=ds0:=by rcases hl with hl|hl <;> cases hl <;> rfl
  subst z;simp only [Den] at e1;obtain⟨a1,vs1,rfl,q1,g1⟩:=e1;cases r1;obtain⟨its1,rv1,ht1,hz1⟩:=I.tuple (aq.bR fh q1);simp only [dep] at hu h1;have hu0:A.units < cLine:=by omega
  cases d' with
  | ty _=>simp [dep] at h2
  | dct _ _=>simp [dep] at h2
  | obj _=>simp [dep] at h2
  | exc _=>simp [dep] at h2
  | cls _=>simp [dep] at h2
  | non=>simp only [Den] at e2;subst e2;cases r2;exact⟨SeqAt.RcAt.tuple_none ht1 hu0,SeqAt.RcNeAt.tuple_none ht1 hu0⟩
  | bl b=>simp only [Den] at e2;subst e2;cases r2;exact⟨SeqAt.RcAt.tuple_bool b ht1 hu0,SeqAt.RcNeAt.tuple_bool b ht1 hu0⟩
  | int b=>simp only [Den] at e2;subst e2;obtain⟨t,rfl⟩:=r2;exact⟨SeqAt.RcAt.tuple_int b t ht1 hu0,SeqAt.RcNeAt.tuple_int b t ht1 hu0⟩
  | str b=>simp only [Den] at e2;subst e2;obtain⟨t,rfl⟩:=r2;exact⟨SeqAt.RcAt.tuple_str b t ht1 hu0,SeqAt.RcNeAt.tuple_str b t ht1 hu0⟩
  | lst es =>
   simp only [Den] at e2;obtain⟨a,vs,rfl,q,r⟩:=e2;cases r2;obtain⟨its,rv,ht,hz⟩:=I.list (fh.seq q)
   exact⟨SeqAt.RcAt.tuple_list ht1 ht.isList hu0,SeqAt.RcNeAt.tuple_list ht1 ht.isList hu0⟩
  | tup es =>
   simp only [Den] at e2;obtain⟨a,vs,rfl,q,r⟩:=e2;cases r2;obtain⟨its,rv,ht,hz⟩:=I.tuple (aq.bR fh q);simp only [dep] at h2;have he:=rec es (.inl rfl) vs1 vs its1 its g1 r rv1 rv;have l1:its1.length=ds.length:=by rw [g1.length,rv1.length]
   have l2:its.length=es.length:=by rw [r.length,rv.length]
   have k1:=SeqAt.RcAt.tuples (e:=rL ds es) ht1 ht hu0 (λj h1 h2=>he j (by simpa using h1) (by simpa using h2));have k2:=SeqAt.RcNeAt.tuples (e:=rL ds es) ht1 ht hu0 (λj h1 h2=>he j (by simpa using h1) (by simpa using h2));rw [Hr,Hr,l1,l2,p9] at k1 k2
   exact⟨by simpa only [aT] using k1,by simpa only [aT] using k2⟩
 | lst ds =>
  have z:ds=ds0:=by rcases hl with hl|hl <;> cases hl <;> rfl
  subst z;simp only [Den] at e1;obtain⟨a1,vs1,rfl,q1,g1⟩:=e1;cases r1;obtain⟨its1,rv1,ht1,hz1⟩:=I.list (fh.seq q1);simp only [dep] at hu h1;have hu0:A.units < cLine:=by omega
  cases d' with
  | ty _=>simp [dep] at h2
  | dct _ _=>simp [dep] at h2
  | obj _=>simp [dep] at h2
  | exc _=>simp [dep] at h2
  | cls _=>simp [dep] at h2
  | non=>simp only [Den] at e2;subst e2;cases r2;exact⟨SeqAt.RcAt.list_none ht1.isList hu0,SeqAt.RcNeAt.list_none ht1.isList hu0⟩
  | bl b=>simp only [Den] at e2;subst e2;cases r2;exact⟨SeqAt.RcAt.list_bool b ht1.isList hu0,SeqAt.RcNeAt.list_bool b ht1.isList hu0⟩
  | int b=>simp only [Den] at e2;subst e2;obtain⟨t,rfl⟩:=r2;exact⟨SeqAt.RcAt.list_int b t ht1.isList hu0,SeqAt.RcNeAt.list_int b t ht1.isList hu0⟩
  | str b=>simp only [Den] at e2;subst e2;obtain⟨t,rfl⟩:=r2;exact⟨SeqAt.RcAt.list_str b t ht1.isList hu0,SeqAt.RcNeAt.list_str b t ht1.isList hu0⟩
  | tup es =>
   simp only [Den] at e2;obtain⟨a,vs,rfl,q,r⟩:=e2;cases r2;obtain⟨its,rv,ht,hz⟩:=I.tuple (aq.bR fh q)
   exact⟨SeqAt.RcAt.list_tuple ht1.isList ht hu0,SeqAt.RcNeAt.list_tuple ht1.isList ht hu0⟩
  | lst es =>
   simp only [Den] at e2;obtain⟨a,vs,rfl,q,r⟩:=e2;cases r2;obtain⟨its,rv,ht,hz⟩:=I.list (fh.seq q);simp only [dep] at h2;have he:=rec es (.inr rfl) vs1 vs its1 its g1 r rv1 rv;have l1:its1.length=ds.length:=by rw [g1.length,rv1.length]
   have l2:its.length=es.length:=by rw [r.length,rv.length]
   simp only [aT];rw [<- p9]
   by_cases hsz:ds.length=es.length
   ·have k1:=SeqAt.RcAt.lists (e:=rL ds es) ht1.isList ht.isList (by simp [l1,l2,hsz]) hu0 (λj h1 h2=>he j (by simpa using h1) (by simpa using h2));have k2:=SeqAt.RcNeAt.lists (e:=rL ds es) ht1.isList ht.isList (by simp [l1,l2,hsz]) hu0 (λj h1 h2=>he j (by simpa using h1) (by simpa using h2));rw [Hr,l1] at k1 k2;have e:(ds.length == es.length)=true:=by simp [hsz]
    rw [e,IB,<- hsz,Nat.min_self];exact⟨k1,k2⟩
   ·have e:(ds.length == es.length)=false:=by simp [hsz]
    rw [e,Bool.and_false];have e2:(its1.toArray.size != its.toArray.size)=true:=by simp [l1,l2,hsz]
    exact⟨SeqAt.RcAt.lists_lengths ht1.isList ht.isList e2 hu0,SeqAt.RcNeAt.lists_lengths ht1.isList ht.isList e2 hu0⟩
mutual
theorem AH (I:Inv X pins σ H s) (fh:aq F H):∀(d d':D) (A:Around) (x y:V) (u v:Value),A.units + dep d < cLine->dep d < 1000->dep d' < 1000->Den X.K F d x->Den X.K F d' y->RelV x u->RelV y v ->
  SeqAt.RcAt A s u v (aT d d')/\SeqAt.RcNeAt A s u v (!aT d d')
 | .ty _,d',A,x,y,u,v,hu,h1,h2,e1,e2,r1,r2=>by simp [dep] at h1
 | .exc _,d',A,x,y,u,v,hu,h1,h2,e1,e2,r1,r2=>by simp [dep] at h1
 | .cls _,d',A,x,y,u,v,hu,h1,h2,e1,e2,r1,r2=>by simp [dep] at h1
 | .dct _ _,d',A,x,y,u,v,hu,h1,h2,e1,e2,r1,r2=>by simp [dep] at h1
 | .obj _,d',A,x,y,u,v,hu,h1,h2,e1,e2,r1,r2=>by simp [dep] at h1
 | .non,d',A,x,y,u,v,hu,h1,h2,e1,e2,r1,r2=>pR I fh _ d' A x y u v rfl hu h2 e1 e2 r1 r2
 | .bl _,d',A,x,y,u,v,hu,h1,h2,e1,e2,r1,r2=>pR I fh _ d' A x y u v rfl hu h2 e1 e2 r1 r2
 | .int _,d',A,x,y,u,v,hu,h1,h2,e1,e2,r1,r2=>pR I fh _ d' A x y u v rfl hu h2 e1 e2 r1 r2
 | .str _,d',A,x,y,u,v,hu,h1,h2,e1,e2,r1,r2=>pR I fh _ d' A x y u v rfl hu h2 e1 e2 r1 r2
 | .tup ds,d',A,x,y,u,v,hu,h1,h2,e1,e2,r1,r2=>BF I fh ds _ d' A x y u v (.inl rfl) hu h1 h2 e1 e2 r1 r2 λes z2 vs1 vs its1 its g1 r rv1 rv =>
  zg I fh ds es A.in1 vs1 vs its1 its (by rw [units_in1];simp only [dep] at hu;omega) (by simp only [dep] at h1;omega) (by rcases z2 with rfl|rfl <;> (simp only [dep] at h2;omega)) g1 r rv1 rv
 | .lst ds,d',A,x,y,u,v,hu,h1,h2,e1,e2,r1,r2=>BF I fh ds _ d' A x y u v (.inr rfl) hu h1 h2 e1 e2 r1 r2 λes z2 vs1 vs its1 its g1 r rv1 rv =>
  zg I fh ds es A.in1 vs1 vs its1 its (by rw [units_in1];simp only [dep] at hu;omega) (by simp only [dep] at h1;omega) (by rcases z2 with rfl|rfl <;> (simp only [dep] at h2;omega)) g1 r rv1 rv
theorem zg (I:Inv X pins σ H s) (fh:aq F H):∀(ds es:List D) (A:Around) (xs ys:List V) (us vs:List Value),A.units + bz ds < cLine->bz ds < 1000->bz es < 1000->ak X.K F ds xs->ak X.K F es ys->Vals xs us->Vals ys vs ->
  ∀(j:Nat) (h1:j < us.length) (h2:j < vs.length),SeqAt.EqAt A s us[j] vs[j] (rL ds es j)
 | [],es,A,xs,ys,us,vs,hu,h1,h2,e1,e2,r1,r2,j,hj1,hj2=>by
  simp only [ak] at e1;subst e1;cases r1;simp at hj1
 | d :: ds,es,A,xs,ys,us,vs,hu,h1,h2,e1,e2,r1,r2,j,hj1,hj2=>by
  simp only [ak] at e1;obtain⟨x,xr,rfl,ax,bx⟩:=e1
  cases r1 with
  | cons rx rrx =>
  cases es with
  | nil=>simp only [ak] at e2;subst e2;cases r2;simp at hj2
  | cons e es =>
   simp only [ak] at e2;obtain⟨y,yr,rfl,ay,by'⟩:=e2
   cases r2 with
   | cons ry rry =>
   simp only [bz] at hu h1 h2
   cases j with
   | zero =>
    simp only [List.getElem_cons_zero];have e0:rL (d :: ds) (e :: es) 0=aT d e:=by simp [rL]
    rw [e0]
    exact vT I fh d e A x y _ _ (by omega) (by omega) (by omega) ax ay rx ry (AH I fh d e A x y _ _ (by omega) (by omega) (by omega) ax ay rx ry).1
   | succ j =>
    simp only [List.getElem_cons_succ];have e0:rL (d :: ds) (e :: es) (j + 1)=rL ds es j:=by simp [rL]
    rw [e0];exact zg I fh ds es A xr yr _ _ (by omega) (by omega) (by omega) bx by' rrx rry j (by simpa using hj1) (by simpa using hj2)
end
theorem nq (I:Inv X pins σ H s) (fh:aq F H) (d d':D) (A:Around) (x y:V) (u v:Value) (hu:A.units + dep d < cLine) (h1:dep d < 1000) (h2:dep d' < 1000) (e1:Den X.K F d x) (e2:Den X.K F d' y) (r1:RelV x u) (r2:RelV y v) :
  SeqAt.EqAt A s u v (aT d d'):=vT I fh d d' A x y u v hu h1 h2 e1 e2 r1 r2 (AH I fh d d' A x y u v hu h1 h2 e1 e2 r1 r2).1
end
end L2.L3
namespace L2.L3
open PySem PySem.Spec PyProof.Rows
section
variable {X:Cx} {a b c e:Expr} {es:List Expr} {ta tb tc:TD} {tA tB':TB} {ts:eD} {pos:Pos} {rest:List Expr}
def Bo (K:Ha):R2:=λx y H Q=>∃l b xs zs,x=.ref l/\y=.ref b/\dE K H l xs/\dE K H b zs/\xs.length + zs.length<=sizeLine/\∀p,H p=none->Q (.ref p) (upd H p (.lst (xs ++ zs)))
theorem zT:iS X (binaryOp .Add) (Bo X.K):=by
 intro pins s σ H x y v u Q I rx ry h;obtain⟨l,b,xs,zs,rfl,rfl,hH,hB,hz,q⟩:=h;cases rx;cases ry;obtain⟨its,r,⟨⟨cls,dd,data,sl⟩,n,ho,hc,hdd,hd⟩,z⟩:=I.list hH;obtain⟨its2,r2,⟨⟨cls2,dd2,data2,sl2⟩,n2,ho2,hc2,hdd2,hd2⟩,z2⟩:=I.list hB;simp only at hc hdd hd hc2 hdd2 hd2;subst hc hdd hd hc2 hdd2 hd2;have ea:its.toArray ++ its2.toArray=(its ++ its2).toArray:=by simp
 refine concat_meets ⟨_,ho,rfl⟩ ⟨_,ho2,rfl⟩ noFill_list_add seq_list_add PySem.F.slot_list_add PySem.F.entry_list_add (PySem.F.args_list_add_2 _ _)
  (list_addW l b its.toArray its2.toArray n n2 none none sl sl2 (by rw [Hr,Hr,<- r.length,<- r2.length];exact hz)) ⟨ho,ho2,?_⟩
 rw [ea];exact⟨.ref _,_,I.GD (t':=s.toks) (r.append r2) (by rw [HH];omega),rfl,q _ I.fresh⟩
def xR (K:Ha):R2:=λx y H Q=>∃a b ys,x=.ref a/\y=.ref b/\gw K H a []/\gw K H b ys/\Q (.ref b) H
theorem ze:iS X (binaryOp .Add) (xR X.K):=by
 intro pins s σ H x y v u Q I rx ry h;obtain⟨l,b,zs,rfl,rfl,hH,hB,q⟩:=h;cases rx;cases ry;obtain⟨its,r,⟨⟨cls,dd,data,sl⟩,ho,hc,n,hd⟩,z⟩:=I.tuple hH;obtain⟨its2,r2,⟨⟨cls2,dd2,data2,sl2⟩,ho2,hc2,n2,hd2⟩,z2⟩:=I.tuple hB;cases r;simp only at hc hd hc2 hd2;subst hc hd hc2 hd2
 exact concat_meets ⟨_,ho,rfl⟩ ⟨_,ho2,rfl⟩ noFill_tuple_add seq_tuple_add PySem.F.slot_tuple_add PySem.F.entry_tuple_add (PySem.F.args_tuple_add_2 _ _)
  (tuple_addW0 l b _ _ n n2 dd dd2 sl sl2 (by simp)) ⟨ho,ho2,⟨.ref b,H,I,rfl,q⟩⟩
def eT (x y:D) (Q:D->Prop):Prop:=match x,y with
 | .int i,.int j=>Q (.int (i + j))
 | .str u,.str w=>u.length + w.length<=sizeLine/\Q (.str (u ++ w))
 | .lst u,.lst w=>u.length + w.length<=sizeLine/\Q (.lst (u ++ w))
 | .tup u,.tup w=>u.length + w.length<=sizeLine/\Q (.tup (u ++ w))
 | _,_=>False
def vg (K:Ha):R2:=λx y H Q=>zK (λi j=>.int (i + j)) x y H Q\/(∃i j,x=.str i/\y=.str j/\i.length + j.length<=sizeLine/\Q (.str (i ++ j)) H)\/Bo K x y H Q\/BI K x y H Q\/xR K x y H Q
theorem w8:iS X (binaryOp .Add) (vg X.K):=BN.or (tY.or (zT.or (Ar.or ze)))
theorem Ct:va X (vg X.K) eT:=by
 intro B σ F H env Q d d' x y Z rp h1 h2 hz hf;unfold eT at hf
 split at hf
 ·simp only [Den] at h1 h2;subst h1 h2;exact .inl ⟨_,_,rfl,rfl,hz _ _ F _ rp (aq.refl _) aZ hf⟩
 ·simp only [Den] at h1 h2;subst h1 h2;exact .inr (.inl ⟨_,_,rfl,rfl,hf.1,hz _ _ F _ rp (aq.refl _) kc hf.2⟩)
 ·simp only [Den] at h1 h2;obtain⟨p,vs,rfl,q,r⟩:=h1;obtain⟨p',vs',rfl,q',r'⟩:=h2;refine .inr (.inr (.inl ⟨p,p',vs,vs',rfl,rfl,rp.fh.seq q,rp.fh.seq q',by rw [<- r.length,<- r'.length];exact hf.1,λw hw=>?_⟩));obtain⟨r2,s2⟩:=rp.laid (o:=.lst (vs ++ vs')) hw;exact hz _ _ _ _ r2 s2 (ei (dE.of ao) (ak.mono s2 _ _ (r.append r'))) hf.2
 ·simp only [Den] at h1 h2;obtain⟨p,vs,rfl,q,r⟩:=h1;obtain⟨p',vs',rfl,q',r'⟩:=h2
  cases vs with
  | nil =>
   rename_i u w
   cases u with
   | cons _ _=>simp only [ak] at r;obtain⟨_,_,z,_⟩:=r;cases z
   | nil =>
    exact .inr (.inr (.inr (.inr ⟨p,p',vs',rfl,rfl,aq.bR rp.fh q,aq.bR rp.fh q',hz _ _ F _ rp (aq.refl _) (eV q' r') (by simpa using hf.2)⟩)))
  | cons v0 vr =>
   refine .inr (.inr (.inr (.inl ⟨p,p',v0 :: vr,vs',rfl,rfl,aq.bR rp.fh q,aq.bR rp.fh q',by simp,by rw [<- r.length,<- r'.length];exact hf.1,λw=>?_,λw z hw=>?_⟩)))
   ·subst w
    rename_i w
    have e:w=[]:=by
     cases w with
     | nil=>rfl
     | cons _ _=>simp only [ak] at r';obtain⟨_,_,z,_⟩:=r';cases z
    subst e;exact hz _ _ F _ rp (aq.refl _) (eV q r) (by simpa using hf.2)
   ·obtain⟨r2,s2⟩:=rp.laid (o:=.tup (v0 :: vr ++ vs')) hw;exact hz _ _ _ _ r2 s2 (eV (gw.of ao) (ak.mono s2 _ _ (r.append r'))) hf.2
 ·exact hf.elim
theorem eI (ha:QE X a ta) (hb:QE X b tb):QE X (.BinOp a .Add b pos) (aL eT ta tb):=wO w8 Ct ha hb
def u4 (C:Int->Int->Prop) (g:Int->Int->D) (x y:D) (Q:D->Prop):Prop:=match x,y with
 | .int i,.int j=>C i j/\Q (g i j)
 | _,_=>False
theorem vQ {C:Int->Int->Prop} {g:Int->Int->Int}:va X (rI C λi j=>.int (g i j)) (u4 C λi j=>.int (g i j)):=by
 intro B σ F H env Q d d' x y Z rp h1 h2 hz hf;unfold u4 at hf
 split at hf
 ·simp only [Den] at h1 h2;subst h1 h2;exact⟨_,_,rfl,rfl,hf.1,hz _ _ F _ rp (aq.refl _) aZ hf.2⟩
 ·exact hf.elim
theorem DD {g:Int->Int->Int}:va X (zK λi j=>.int (g i j)) (u4 (λ_ _=>True) λi j=>.int (g i j)):=by
 intro B σ F H env Q d d' x y Z rp h1 h2 hz hf;unfold u4 at hf
 split at hf
 ·simp only [Den] at h1 h2;subst h1 h2;exact⟨_,_,rfl,rfl,hz _ _ F _ rp (aq.refl _) aZ hf.2⟩
 ·exact hf.elim
theorem tV {g:Int->Int->Bool}:va X (zK λi j=>.bl (g i j)) (u4 (λ_ _=>True) λi j=>.bl (g i j)):=by
 intro B σ F H env Q d d' x y Z rp h1 h2 hz hf;unfold u4 at hf
 split at hf
 ·simp only [Den] at h1 h2;subst h1 h2;exact⟨_,_,rfl,rfl,hz _ _ F _ rp (aq.refl _) d7 hf.2⟩
 ·exact hf.elim
theorem zX:iS X (binaryOp .Mult) (rI IntMulOk λi j=>.int (i * j)):=Fy λ_ _ _ _ _ _ _ hc q=>mul_int q hc
def vI (_ j:Int):Prop:=j≠0/\j.natAbs.log2 < 9000
theorem yv:iS X (binaryOp .FloorDiv) (rI vI λi j=>.int (i.fdiv j)):=Fy λ_ _ _ _ _ _ _ hc q=>floordiv_int hc.1 q (.inl (PyProof.noPylong_of_log2 hc.2))
def xE (_ j:Int):Prop:=j≠0
abbrev my:=u4 (λ_ _=>True) λi j=>.int (i - j)
abbrev wR:=u4 IntMulOk λi j=>.int (i * j)
abbrev BE:=u4 vI λi j=>.int (i.fdiv j)
abbrev oR:=u4 xE λi j=>.int (i.fmod j)
abbrev BK:=u4 Cq λi j=>.int (i ^ j.toNat)
abbrev DI:=u4 (λ_ _=>True) λi j=>.bl (decide (i < j))
abbrev Eb:=u4 (λ_ _=>True) λi j=>.bl (decide (j < i))
abbrev GH:=u4 (λ_ _=>True) λi j=>.bl (decide (j<=i))
theorem kj (ha:QE X a ta) (hb:QE X b tb):QE X (.BinOp a .Sub b pos) (aL my ta tb):=wO Cm DD ha hb
theorem sV (ha:QE X a ta) (hb:QE X b tb):QE X (.BinOp a .Mult b pos) (aL wR ta tb):=wO zX vQ ha hb
theorem CG (ha:QE X a ta) (hb:QE X b tb):QE X (.BinOp a .FloorDiv b pos) (aL BE ta tb):=wO yv vQ ha hb
theorem jB (ha:QE X a ta) (hb:QE X b tb):QE X (.BinOp a .Mod b pos) (aL oR ta tb):=wO (r:=rI xE λi j=>.int (i.fmod j)) AG vQ ha hb
theorem BG (ha:QE X a ta) (hb:QE X b tb):QE X (.BinOp a .Pow b pos) (aL BK ta tb):=wO B3 vQ ha hb
theorem zY (ha:QE X a ta) (hb:QE X b tb):QT X (.Compare a [.Lt] [b] pos) (aN (aL DI ta tb)):=gS El tV ha hb (gy _)
theorem zV (ha:QE X a ta) (hb:QE X b tb):QT X (.Compare a [.Gt] [b] pos) (aN (aL Eb ta tb)):=gS Ep tV ha hb (gy _)
theorem GF (ha:QE X a ta) (hb:QE X b tb):QT X (.Compare a [.GtE] [b] pos) (aN (aL GH ta tb)):=gS DV tV ha hb (gy _)
def GZ (X:Cx) (r:V->Hp->VK->Prop) (f:D->(D->Prop)->Prop):Prop:=∀(B:Base) (σ:St) (F H:Hp) (env:En) (Q:D->Prop) (d:D) (x:V) (Z:VK),Rep X.K B F H σ env->Den X.K F d x->Kont X B σ env F Q Z->f d Q->r x H Z
def ye (f:D->(D->Prop)->Prop) (ta:TD):TD:=λenv Q=>ta env λx=>f x Q
theorem Gd {op:UnaryOp} {r:V->Hp->VK->Prop} {f:D->(D->Prop)->Prop} (ho:Fv X (unaryOp op) r) (hf:GZ X r f) (ha:QE X a ta):QE X (.UnaryOp op a pos) (ye f ta):=by
 refine⟨?_⟩;intro B σ F H env Q rp h;refine bX (Eh ho bF) ?_;refine aD (ha B σ F H env _ rp h) λx H1 hq0=>?_;obtain⟨F1,d,r1,s1,d1,q1⟩:=hq0;exact hf B σ F1 H1 env Q d x _ r1 d1 (λv H' F' d' r' s' hd q=>⟨F',d',r',s1.trans s',hd,q⟩) q1
def wU (x:D) (Q:D->Prop):Prop:=match x with
 | .int i=>Q (.int (-i))
 | _=>False
theorem Bf (ha:QE X a ta):QE X (.UnaryOp .USub a pos) (ye wU ta):=by
 refine Gd De ?_ ha;intro B σ F H env Q d x Z rp h1 hz hf;unfold wU at hf
 split at hf
 ·simp only [Den] at h1;subst h1;exact⟨_,rfl,hz _ _ F _ rp (aq.refl _) aZ hf⟩
 ·exact hf.elim
def A9 (X:Cx) (neg:Bool):R2:=λx y H Q=>∃(F:Hp) (d d':D),aq F H/\Den X.K F d x/\Den X.K F d' y/\X.A.units + dep d < cLine/\dep d < 1000/\dep d' < 1000/\Q (.bl (if neg then !aT d d' else aT d d')) H
theorem zi:iS X (compareOp .Eq) (A9 X false):=by
 intro pins s σ H x y v u Q I rx ry h;obtain⟨F,d,d',fh,h1,h2,hu,hd,hd',q⟩:=h;exact (AH I fh d d' X.A x y v u hu hd hd' h1 h2 rx ry).1 X.prog X.w X.xe _ ⟨.bl _,H,I,rfl,q⟩
theorem t9:iS X (compareOp .NotEq) (A9 X true):=by
 intro pins s σ H x y v u Q I rx ry h;obtain⟨F,d,d',fh,h1,h2,hu,hd,hd',q⟩:=h;exact (AH I fh d d' X.A x y v u hu hd hd' h1 h2 rx ry).2 X.prog X.w X.xe _ ⟨.bl _,H,I,rfl,q⟩
def ib (x y:D):Prop:=dep x<=60/\dep y<=60
def kb (x y:D) (Q:D->Prop):Prop:=ib x y/\Q (.bl (aT x y))
def rJ (x y:D) (Q:D->Prop):Prop:=ib x y/\Q (.bl (!aT x y))
theorem Bu (hu:X.A.units + 64 < cLine):va X (A9 X false) kb:=by
 intro B σ F H env Q d d' x y Z rp h1 h2 hz hf;obtain⟨⟨l1,l2⟩,q⟩:=hf;exact⟨F,d,d',rp.fh,h1,h2,by omega,by omega,by omega,hz _ _ F _ rp (aq.refl _) d7 q⟩
theorem BH (hu:X.A.units + 64 < cLine):va X (A9 X true) rJ:=by
 intro B σ F H env Q d d' x y Z rp h1 h2 hz hf;obtain⟨⟨l1,l2⟩,q⟩:=hf;exact⟨F,d,d',rp.fh,h1,h2,by omega,by omega,by omega,hz _ _ F _ rp (aq.refl _) d7 q⟩
theorem EF (hu:X.A.units + 64 < cLine) (ha:QE X a ta) (hb:QE X b tb):QE X (.Compare a [.Eq] [b] pos) (aL kb ta tb):=Bm zi (Bu hu) ha hb (gy _)
theorem Gn (hu:X.A.units + 64 < cLine) (ha:QE X a ta) (hb:QE X b tb):QE X (.Compare a [.NotEq] [b] pos) (aL rJ ta tb):=Bm t9 (BH hu) ha hb (gy _)
theorem qP (hu:X.A.units + 64 < cLine) (ha:QE X a ta) (hb:QE X b tb):QT X (.Compare a [.Eq] [b] pos) (aN (aL kb ta tb)):=gS zi (Bu hu) ha hb (gy _)
theorem AZ (hu:X.A.units + 64 < cLine) (ha:QE X a ta) (hb:QE X b tb):QT X (.Compare a [.NotEq] [b] pos) (aN (aL rJ ta tb)):=gS t9 (BH hu) ha hb (gy _)
def cK (x y:D) (Q:D->Prop):Prop:=match x,y with
 | .lst xs,.int i=>∃v,ja xs i=some v/\Q v
 | .tup xs,.int i=>∃v,ja xs i=some v/\Q v
 | .str z,.int i=>z.length<=sizeLine/\∃c,ja z.cps.toList i=some c/\Q (.str ⟨#[c]⟩)
 | _,_=>False
theorem ak.ja {K:Ha} {F:Hp} {ds:List D} {vs:List V} {i:Int} {d:D} (r:ak K F ds vs) (h:ja ds i=some d):∃v,L2.ja vs i=some v/\Den K F d v:=by
 unfold L2.ja at h ⊢;rw [<- r.length]
 cases e:rj ds.length i with
 | none=>rw [e] at h;cases h
 | some j =>
  rw [e] at h;exact r.get h
theorem By:va X (Gi X.K) cK:=by
 intro B σ F H env Q d d' x y Z rp h1 h2 hz hf;unfold cK at hf
 split at hf
 ·simp only [Den] at h1 h2;subst h2;obtain⟨p,vs,rfl,q,r⟩:=h1;obtain⟨v,hv,qv⟩:=hf;obtain⟨w,hw,dw⟩:=r.ja hv;exact .inl ⟨p,vs,_,w,rfl,rfl,rp.fh.seq q,hw,hz _ _ F _ rp (aq.refl _) dw qv⟩
 ·simp only [Den] at h1 h2;subst h2;obtain⟨p,vs,rfl,q,r⟩:=h1;obtain⟨v,hv,qv⟩:=hf;obtain⟨w,hw,dw⟩:=r.ja hv;exact .inr (.inl ⟨p,vs,_,w,rfl,rfl,aq.bR rp.fh q,hw,hz _ _ F _ rp (aq.refl _) dw qv⟩)
 ·simp only [Den] at h1 h2;subst h1 h2;obtain⟨hl,c,hc,qv⟩:=hf;exact .inr (.inr ⟨_,_,c,rfl,rfl,hl,hc,hz _ _ F _ rp (aq.refl _) kc qv⟩)
 ·exact hf.elim
theorem cu (ha:QE X a ta) (hb:QE X b tb) (hs:iI b):QE X (.Subscript a b pos) (aL cK ta tb):=⟨λB σ F H env Q rp h=>bX (sY xZ bF bF hs) (two By ha hb rp Fs h)⟩
abbrev Fx:=En->(Option Int->Prop)->Prop
def j4 (t:TD):Fx:=λenv Q=>t env λx=>∃i,x=.int i/\Q (some i)
def QO (X:Cx) (e:Option Expr) (t:Fx):Prop:=∃to:TO,PO X e to/\∀(B:Base) (σ:St) (F H:Hp) (env:En) (Q:Option Int->Prop) (Z:Option Int->Hp->Prop),Rep X.K B F H σ env->(∀o H' F',Rep X.K B F' H' σ env->aq F F'->Q o->Z o H')->t env Q->to σ H Z
theorem vm (h:QE X e ta):QO X (some e) (j4 ta):=by
 refine⟨_,Ap bF,λB σ F H env Q Z rp hz hq=>?_⟩;refine aD (h B σ F H env _ rp hq) λx H1 hq0=>?_;obtain⟨F1,d,r1,s1,d1,i,hi,q1⟩:=hq0;subst hi;simp only [Den] at d1;exact⟨i,d1,hz _ _ F1 r1 s1 q1⟩
def cutD (xs:List D) (lo hi:Option Int):List D:=(xs.drop (HT.dP xs.length 0 lo)).take (HT.dP xs.length xs.length hi - HT.dP xs.length 0 lo)
def FX (x:D) (lo hi:Option Int) (Q:D->Prop):Prop:=match x with
 | .lst xs=>Q (.lst (cutD xs lo hi))
 | .tup xs=>¬ (HT.dP xs.length 0 lo=0/\HT.dP xs.length xs.length hi=xs.length)/\Q (.tup (cutD xs lo hi))
 | _=>False
def Bw (ta:TD) (tl th:Fx):TD:=λenv Q=>ta env λx=>tl env λlo=>th env λhi=>FX x lo hi Q
theorem Gu {lo hi:Option Expr} {tl th:Fx} {p2:Pos} (ha:QE X a ta) (hl:QO X lo tl) (hh:QO X hi th):QE X (.Subscript a (.Slice lo hi none p2) pos) (Bw ta tl th):=by
 refine⟨?_⟩;intro B σ F H env Q rp h;obtain⟨tl',pl,ql⟩:=hl;obtain⟨th',ph,qh⟩:=hh;refine bX (zA (Bp.or Aw B0) bF pl ph) ?_;refine aD (ha B σ F H env _ rp h) λx H1 hq0=>?_;obtain⟨F1,d,r1,s1,d1,q1⟩:=hq0;refine ql B σ F1 H1 env _ _ r1 (λlo' H2 F2 r2 s2 q2=>?_) q1;refine qh B σ F2 H2 env _ _ r2 (λhi' H3 F3 r3 s3 q3=>?_) q2;have d3:=Den.mono (s2.trans s3) _ _ d1;unfold FX at q3
 split at q3
 ·simp only [Den] at d3;obtain⟨p,vs,rfl,q,r⟩:=d3;refine .inl ⟨p,vs,rfl,r3.fh.seq q,λw hw=>?_⟩;obtain⟨r4,s4⟩:=r3.laid (o:=.lst (oB vs lo' hi')) hw;refine⟨_,_,r4,((s1.trans s2).trans s3).trans s4,ei (dE.of ao) ?_,q3⟩;unfold oB cutD;rw [r.length];exact ak.mono s4 _ _ ((r.drop _).take _)
 ·simp only [Den] at d3;obtain⟨p,vs,rfl,q,r⟩:=d3;refine .inr ⟨p,vs,rfl,aq.bR r3.fh q,by rw [<- r.length];exact q3.1,λw hw=>?_⟩;obtain⟨r4,s4⟩:=r3.laid (o:=.tup (oB vs lo' hi')) hw;refine⟨_,_,r4,((s1.trans s2).trans s3).trans s4,eV (gw.of ao) ?_,q3.2⟩;unfold oB cutD;rw [r.length];exact ak.mono s4 _ _ ((r.drop _).take _)
 ·exact q3.elim
def Call3 (X:Cx) (r:List V->Hp->VK->Prop) (f:List D->(D->Prop)->Prop):Prop:=∀(B:Base) (σ:St) (F H:Hp) (env:En) (Q:D->Prop) (ds:List D) (vs:List V) (Z:VK),Rep X.K B F H σ env->ak X.K F ds vs->Kont X B σ env F Q Z->f ds Q->r vs H Z
def aB (f:List D->(D->Prop)->Prop) (ts:eD):TD:=λenv Q=>ts env λxs=>f xs Q
theorem Bh {r:List V->Hp->VK->Prop} {f:List D->(D->Prop)->Prop} (hf:Call3 X r f) (ha:QA X es ts) {B:Base} {σ:St} {F H:Hp} {env:En} {Q:D->Prop} (rp:Rep X.K B F H σ env) (h:aB f ts env Q):Gq r (wA X es) σ H (RV X B σ env F Q):=by
 refine bV (ha B σ F H env _ rp h) λvs H1 hq0=>?_;obtain⟨F1,ds,r1,s1,d1,q1⟩:=hq0;exact hf B σ F1 H1 env Q ds vs _ r1 d1 (λv H' F' d' r' s' hd q=>⟨F',d',r',s1.trans s',hd,q⟩) q1
theorem gq {id:String} {r:List V->Hp->VK->Prop} {f:List D->(D->Prop)->Prop} {x:Str} {p:Pos} (hc:cV X (.builtin id) r) (hf:Call3 X r f) (hg:Gl X x) (hm:X.mg x=none) (hv:bootBuiltins x=some (.builtin id)) (ha:QA X (e :: es) ts)
  (hn:x≠"__name__":=by decide) (hdb:(x == ("__debug__" : Str))=false:=by decide) (he:starEach (e :: es) X.env=(false,eval e X.env) :: starEach es X.env:=by exact aJ rfl) (hpl:(backTo pos (starEach es X.env)).any (·.1)=false:=by rfl) :
  QE X (.Call (.Name x p) (e :: es) [] pos) (aB f ts):=⟨λB σ F H env Q rp h=>bX (si hc hg hm hv gR hn hdb he hpl) (Bh hf ha rp h)⟩
theorem rV {T:String} {r:List V->Hp->VK->Prop} {f:List D->(D->Prop)->Prop} {x:Str} {p:Pos} (hc:cV X (.type T) r) (hf:Call3 X r f) (hg:Gl X x) (hm:X.mg x=none) (hv:bootBuiltins x=some (.type T)) (ha:QA X (e :: es) ts)
  (hn:x≠"__name__":=by decide) (hdb:(x == ("__debug__" : Str))=false:=by decide) (he:starEach (e :: es) X.env=(false,eval e X.env) :: starEach es X.env:=by exact aJ rfl) (hpl:(backTo pos (starEach es X.env)).any (·.1)=false:=by rfl) :
  QE X (.Call (.Name x p) (e :: es) [] pos) (aB f ts):=⟨λB σ F H env Q rp h=>bX (iF hc hg hm hv gR hn hdb he hpl) (Bh hf ha rp h)⟩
end
theorem wc:bootBuiltins "abs" = some (.builtin "abs"):=by decide +kernel
theorem xt:bootBuiltins "all" = some (.builtin "all"):=by decide +kernel
theorem wa:bootBuiltins "max" = some (.builtin "max"):=by decide +kernel
theorem wH:bootBuiltins "min" = some (.builtin "min"):=by decide +kernel
theorem pC:bootBuiltins "isinstance" = some (.builtin "isinstance"):=by decide +kernel
theorem o6:bootBuiltins "len" = some (.builtin "len"):=by decide +kernel
theorem oY:bootBuiltins "int" = some (.type "int"):=by decide +kernel
theorem ug:bootBuiltins "bool" = some (.type "bool"):=by decide +kernel
theorem nO:bootBuiltins "list" = some (.type "list"):=by decide +kernel
theorem fD:bootBuiltins "tuple" = some (.type "tuple"):=by decide +kernel
section
variable {X:Cx} {a b c e:Expr} {es:List Expr} {ta tb tc:TD} {tA tB':TB} {ts:eD} {pos:Pos} {rest:List Expr}
def xM (ds:List D) (Q:D->Prop):Prop:=match ds with
 | [.int i]=>Q (.int (if i < 0 then -i else i))
 | _=>False
theorem CJ:Call3 X (λxs H Q=>∃i,xs=[.int i]/\Q (.int (if i < 0 then -i else i)) H) xM:=by
 intro B σ F H env Q ds vs Z rp h hz hf;unfold xM at hf
 split at hf
 ·simp only [ak,Den] at h;obtain⟨v,r,rfl,rfl,rfl⟩:=h;exact⟨_,rfl,hz _ _ F _ rp (aq.refl _) aZ hf⟩
 ·exact hf.elim
def gF (ds:List D) (Q:D->Prop):Prop:=match ds with
 | [.lst xs]=>Q (.int xs.length)
 | [.tup xs]=>Q (.int xs.length)
 | [.str z]=>z.length<=sizeLine/\Q (.int z.length)
 | _=>False
theorem Dp:Call3 X (λxs H Q=>(∃p ys,xs=[.ref p]/\(dE X.K H p ys\/gw X.K H p ys)/\Q (.int ys.length) H)\/∃z,xs=[.str z]/\z.length<=sizeLine/\Q (.int z.length) H) gF:=by
 intro B σ F H env Q ds vs Z rp h hz hf;unfold gF at hf
 split at hf
 ·simp only [ak,Den] at h;obtain⟨v,r,rfl,⟨p,ys,rfl,q,r⟩,rfl⟩:=h;refine .inl ⟨p,ys,rfl,.inl (rp.fh.seq q),hz _ _ F _ rp (aq.refl _) aZ ?_⟩;rw [<- r.length];exact hf
 ·simp only [ak,Den] at h;obtain⟨v,r,rfl,⟨p,ys,rfl,q,r⟩,rfl⟩:=h;refine .inl ⟨p,ys,rfl,.inr (aq.bR rp.fh q),hz _ _ F _ rp (aq.refl _) aZ ?_⟩;rw [<- r.length];exact hf
 ·simp only [ak,Den] at h;obtain⟨v,r,rfl,rfl,rfl⟩:=h;exact .inr ⟨_,rfl,hf.1,hz _ _ F _ rp (aq.refl _) aZ hf.2⟩
 ·exact hf.elim
def zz (ds:List D) (Q:D->Prop):Prop:=match ds with
 | [.int i,.int j]=>Q (.int (if j > i then j else i))
 | _=>False
def yM (ds:List D) (Q:D->Prop):Prop:=match ds with
 | [.int i,.int j]=>Q (.int (if j < i then j else i))
 | _=>False
theorem Ds:Call3 X (λxs H Q=>∃i j,xs=[.int i,.int j]/\Q (.int (if j > i then j else i)) H) zz:=by
 intro B σ F H env Q ds vs Z rp h hz hf;unfold zz at hf
 split at hf
 ·simp only [ak,Den] at h;obtain⟨v,r,rfl,rfl,v',r',rfl,rfl,rfl⟩:=h;exact⟨_,_,rfl,hz _ _ F _ rp (aq.refl _) aZ hf⟩
 ·exact hf.elim
theorem CN:Call3 X (λxs H Q=>∃i j,xs=[.int i,.int j]/\Q (.int (if j < i then j else i)) H) yM:=by
 intro B σ F H env Q ds vs Z rp h hz hf;unfold yM at hf
 split at hf
 ·simp only [ak,Den] at h;obtain⟨v,r,rfl,rfl,v',r',rfl,rfl,rfl⟩:=h;exact⟨_,_,rfl,hz _ _ F _ rp (aq.refl _) aZ hf⟩
 ·exact hf.elim
def pU (ds:List D) (Q:D->Prop):Prop:=match ds with
 | [.int i]=>Q (.int i)
 | [.bl k]=>Q (.int (if k then 1 else 0))
 | _=>False
theorem Dl:Call3 X (λxs H Q=>(∃i,xs=[.int i]/\Q (.int i) H)\/∃k,xs=[.bl k]/\Q (.int (if k then 1 else 0)) H) pU:=by
 intro B σ F H env Q ds vs Z rp h hz hf;unfold pU at hf
 split at hf
 ·simp only [ak,Den] at h;obtain⟨v,r,rfl,rfl,rfl⟩:=h;exact .inl ⟨_,rfl,hz _ _ F _ rp (aq.refl _) aZ hf⟩
 ·simp only [ak,Den] at h;obtain⟨v,r,rfl,rfl,rfl⟩:=h;exact .inr ⟨_,rfl,hz _ _ F _ rp (aq.refl _) aZ hf⟩
 ·exact hf.elim
def cH (ds:List D) (Q:D->Prop):Prop:=match ds with
 | [.lst xs]=>Q (.tup xs)
 | [.tup xs]=>Q (.tup xs)
 | _=>False
theorem xS:Call3 X (λxs H Q=>∃p ys,xs=[.ref p]/\((dE X.K H p ys/\∀l,H l=none->Q (.ref l) (upd H l (.tup ys)))\/(gw X.K H p ys/\Q (.ref p) H))) cH:=by
 intro B σ F H env Q ds vs Z rp h hz hf;unfold cH at hf
 split at hf
 ·simp only [ak,Den] at h;obtain⟨v,r,rfl,⟨p,ys,rfl,q,r⟩,rfl⟩:=h;refine⟨p,ys,rfl,.inl ⟨rp.fh.seq q,λw hw=>?_⟩⟩;obtain⟨r2,s2⟩:=rp.laid (o:=.tup ys) hw;exact hz _ _ _ _ r2 s2 (eV (gw.of ao) (ak.mono s2 _ _ r)) hf
 ·simp only [ak,Den] at h;obtain⟨v,r,rfl,⟨p,ys,rfl,q,r⟩,rfl⟩:=h;exact⟨p,ys,rfl,.inr ⟨aq.bR rp.fh q,hz _ _ F _ rp (aq.refl _) (eV q r) hf⟩⟩
 ·exact hf.elim
def GK (K:Ha) (H:Hp) (x:V) (t:String):Prop:=match x with
 | .non=>t = "NoneType"
 | .bl _=>t = "bool"
 | .int _=>t = "int"
 | .str _=>t = "str"
 | .ref a=>(t = "tuple"/\∃vs,gw K H a vs)\/(t = "list"/\∃vs,dE K H a vs)
 | _=>False
theorem zm:cV X (.builtin "isinstance") (λxs H Q=>∃x n t b,xs=[x,.ty n]/\GK X.K H x t/\PySem.W.kitOne X.K (.type t) (.type n)=some b/\Q (.bl b) H):=by
 intro pins s σ H xs us Q I r h;obtain⟨x,n,t,b,rfl,ty,e,q⟩:=h;obtain⟨u,w,rfl,rx,rw'⟩:=vals2 r;cases (show w=Value.type n from rw');have fin:∀tk,EP X pins σ Q (.bool b) { s with toks:=tk }:=λtk=>⟨.bl b,H,I.tok tk,rfl,q⟩
 cases x with
 | non=>cases (show t = "NoneType" from ty);cases (show u=Value.none from rx);exact PySem.W.kia_one PySem.W.kitx_none I.oh True.intro e (λz=>nomatch z) fin
 | bl y=>cases (show t = "bool" from ty);cases (show u=Value.bool y from rx);exact PySem.W.kia_one PySem.W.kitx_bool I.oh True.intro e (λz=>nomatch z) fin
 | int i=>cases (show t = "int" from ty);obtain⟨t,q⟩:=(show ∃t,u=Value.int i t from rx);cases q;exact PySem.W.kia_one PySem.W.kitx_int I.oh True.intro e (λz=>nomatch z) fin
 | str i=>cases (show t = "str" from ty);obtain⟨t,q⟩:=(show ∃t,u=Value.str i t from rx);cases q;exact PySem.W.kia_one PySem.W.kitx_str I.oh True.intro e (λz=>nomatch z) fin
 | ref a =>
  cases (show u=Value.ref a from rx);rcases ty with ⟨rfl,vs,hq⟩|⟨rfl,vs,hq⟩
  ·obtain⟨_,_,⟨o,h1,h2,_⟩,_⟩:=I.tuple hq;exact PySem.W.kia_one PySem.W.kitx_tuple I.oh ⟨o,h1,h2⟩ e (λz=>nomatch z) fin
  ·obtain⟨_,_,⟨o,n,h1,h2,_⟩,_⟩:=I.list hq
   exact PySem.W.kia_one PySem.W.kitx_list I.oh ⟨o,h1,h2⟩ e (λz=>nomatch z) fin
 | _=>exact False.elim ty
inductive Kd where|non|bl|int|str|tup|lst|oth
def DP:D->Kd
 | .non=>.non
 | .bl _=>.bl
 | .int _=>.int
 | .str _=>.str
 | .tup _=>.tup
 | .lst _=>.lst
 | _=>.oth
def AQ:Kd->String->Option Bool
 | .oth,_=>none
 | k,"int"=>some (match k with | .int=>true | .bl=>true | _=>false)
 | k,"bool"=>some (match k with | .bl=>true | _=>false)
 | k,"str"=>some (match k with | .str=>true | _=>false)
 | k,"tuple"=>some (match k with | .tup=>true | _=>false)
 | k,"list"=>some (match k with | .lst=>true | _=>false)
 | _,_=>none
def Fn (ds:List D) (Q:D->Prop):Prop:=match ds with
 | [x,.ty n]=>∃b,AQ (DP x) n=some b/\Q (.bl b)
 | _=>False
theorem iR (K:Ha) (k:Kd) (n t:String) (b:Bool) (h:AQ k n=some b)
  (ht:t=match k with | .non=>"NoneType" | .bl=>"bool" | .int=>"int" | .str=>"str" | .tup=>"tuple" | .lst=>"list" | .oth=>"type"):PySem.W.kitOne K (.type t) (.type n)=some b:=by
 subst ht;unfold AQ at h
 split at h
 ·cases h
 all_goals (cases k <;> simp at h <;> subst h <;> rfl)
theorem BX:Call3 X (λxs H Q=>∃x n t b,xs=[x,.ty n]/\GK X.K H x t/\PySem.W.kitOne X.K (.type t) (.type n)=some b/\Q (.bl b) H) Fn:=by
 intro B σ F H env Q ds vs Z rp h hz hf;unfold Fn at hf
 split at hf
 ·rename_i x n;obtain⟨b,hb,q⟩:=hf;simp only [ak] at h;obtain⟨v,r,rfl,hd,v',r',rfl,hd',rfl⟩:=h;simp only [Den] at hd';subst hd';have fin:=hz (.bl b) H F (.bl b) rp (aq.refl _) d7 q
  cases x with
  | non=>simp only [Den] at hd;subst hd;exact⟨_,n,"NoneType",b,rfl,rfl,iR _ _ _ _ _ hb rfl,fin⟩
  | bl k=>simp only [Den] at hd;subst hd;exact⟨_,n,"bool",b,rfl,rfl,iR _ _ _ _ _ hb rfl,fin⟩
  | int k=>simp only [Den] at hd;subst hd;exact⟨_,n,"int",b,rfl,rfl,iR _ _ _ _ _ hb rfl,fin⟩
  | str k=>simp only [Den] at hd;subst hd;exact⟨_,n,"str",b,rfl,rfl,iR _ _ _ _ _ hb rfl,fin⟩
  | tup k=>simp only [Den] at hd;obtain⟨p,vs,rfl,q',r⟩:=hd;exact⟨_,n,"tuple",b,rfl,.inl ⟨rfl,vs,aq.bR rp.fh q'⟩,iR _ _ _ _ _ hb rfl,fin⟩
  | lst k=>simp only [Den] at hd;obtain⟨p,vs,rfl,q',r⟩:=hd;exact⟨_,n,"list",b,rfl,.inr ⟨rfl,vs,rp.fh.seq q'⟩,iR _ _ _ _ _ hb rfl,fin⟩
  | dct k _=>cases hb
  | obj k=>cases hb
  | ty k=>cases hb
  | exc k=>cases hb
  | cls k=>cases hb
 ·exact hf.elim
theorem lV:∀{bs:List Bool} {us:List Value},Vals (bs.map V.bl) us->LSm.BoolsAre us bs
 | [],_,r=>by rw [List.map_nil] at r;cases r;exact .nil
 | b :: bs,_,r=>by
  rw [HL] at r
  cases r with
  | cons h t=>cases (show _=Value.bool b from h);exact .cons b (lV t)
theorem uU {s:Shared} {h':Heap} {o:Obj} (hk:∀b x,b∉[s.heap.objs.size]->(s.heap.push o).get? b=some x->h'.get? b=some x):∀b x,s.heap.get? b=some x->h'.get? b=some x :=
 λb x e=>hk b x (λhm=>by rw [HA.mp hm] at e;exact Nat.lt_irrefl _ (Ho e)) (Hf _ e)
theorem ym (hc:X.calm=true):cV X (.builtin "all") (λxs H Q=>∃(p:Addr) (bs:List Bool),xs=[.ref p]/\dE X.K H p (bs.map V.bl)/\Q (.bl (bs.all id)) H):=by
 intro pins s σ H xs us Q I r h;obtain⟨p,bs,rfl,hq,q⟩:=h;obtain⟨u,rfl,rx⟩:=vals1 r;cases rx;obtain⟨its,r',pl,hz⟩:=I.list hq;have hb:=lV r';have hl:=pl.isList;have hlt:p < s.heap.objs.size:=by obtain⟨_,e,_⟩:=hl;exact Ho e
 refine call_all_walk (wpAny_pyIter_list hl ?_)
 refine⟨s.heap.objs.size,[s.heap.objs.size,p],[s.heap.objs.size],its.toArray.size,_,_,λi=>(bs[i]?).getD true,rfl,Walks.list (A:=X.A.in1) (I.ok.hd hc) _ p (HC hlt) its.toArray,
  ⟨⟨_,Hs _ rfl,rfl,rfl⟩,hl.push _⟩,λi v s' Q' E' hP hQ=>?_,λh' tk hk=>?_⟩
 ·obtain⟨b,e,rfl⟩:=hb.get i v (by simpa using hP);simp only [e,Option.getD_some] at hQ;exact wpAny_truthy_bool hQ
 ·have e:((List.range its.toArray.size).all λi=>(bs[i]?).getD true)=bs.all id:=by
   rw [Hr,hb.length];exact LSm.range_all bs
  rw [e];exact⟨.bl _,H,I.kept (t':=tk) (uU hk),rfl,q⟩
def boolsOf:List D->Option (List Bool)
 | []=>some []
 | .bl b :: r=>(boolsOf r).map (b :: ·)
 | _=>none
theorem rO (bs:List Bool):boolsOf (bs.map D.bl)=some bs:=by
 induction bs with
 | nil=>rfl
 | cons b r ih=>simp [boolsOf,ih]
theorem l8 {K:Ha} {F:Hp}:∀{ds:List D} {bs:List Bool} {vs:List V},boolsOf ds=some bs->ak K F ds vs->vs=bs.map V.bl
 | [],bs,vs,h,r=>by simp only [boolsOf] at h;cases h;simp only [ak] at r;subst r;rfl
 | .bl b :: ds,bs,vs,h,r=>by
  simp only [boolsOf] at h
  cases e:boolsOf ds with
  | none=>rw [e] at h;cases h
  | some bs' =>
   rw [e] at h;cases h;simp only [ak,Den] at r;obtain⟨v,r',rfl,rfl,r⟩:=r
   rw [l8 e r];rfl
 | .non :: _,_,_,h,_=>by cases h
 | .int _ :: _,_,_,h,_=>by cases h
 | .str _ :: _,_,_,h,_=>by cases h
 | .tup _ :: _,_,_,h,_=>by cases h
 | .lst _ :: _,_,_,h,_=>by cases h
 | .dct _ _ :: _,_,_,h,_=>by cases h
 | .obj _ :: _,_,_,h,_=>by cases h
 | .ty _ :: _,_,_,h,_=>by cases h
 | .exc _ :: _,_,_,h,_=>by cases h
 | .cls _ :: _,_,_,h,_=>by cases h
def Az (ds:List D) (Q:D->Prop):Prop:=match ds with
 | [.lst xs]=>∃bs,boolsOf xs=some bs/\Q (.bl (bs.all id))
 | _=>False
theorem C0:Call3 X (λxs H Q=>∃(p:Addr) (bs:List Bool),xs=[.ref p]/\dE X.K H p (bs.map V.bl)/\Q (.bl (bs.all id)) H) Az:=by
 intro B σ F H env Q ds vs Z rp h hz hf;unfold Az at hf
 split at hf
 ·obtain⟨bs,hb,q⟩:=hf;simp only [ak,Den] at h;obtain⟨v,r,rfl,⟨p,ys,rfl,q',r⟩,rfl⟩:=h;have:=l8 hb r;subst this;exact⟨p,bs,rfl,rp.fh.seq q',hz _ _ F _ rp (aq.refl _) d7 q⟩
 ·exact hf.elim
end
section
variable {K:Ha} {B:Base} {F H:Hp} {σ:St} {env:En}
theorem Rep.bare (r:Rep K B F H σ env):Rep K B F H [] [] :=
 ⟨r.f0,r.fh,r.h0,r.nf,λi x q=>by simp at q,λi x q=>by simp at q,λi j _ _ _ _ q=>by simp at q,λi x q=>by simp at q,λi j _ _ _ _ q=>by simp at q⟩
end
section
variable {X:Cx} {a b c e:Expr} {es:List Expr} {ta tb tc:TD} {tA tB':TB} {ts:eD} {pos:Pos} {rest:List Expr} {st:Stmt} {sts:List Stmt} {t u:bG}
def bC:bG:=λD env=>D.nx env
def aK (t u:bG):bG:=λD env=>t { D with nx:=u D } env
theorem bf:mB X [] bC:=⟨λB σ F H env D rp h=>gB AM ⟨F,env,rp,h⟩⟩
theorem aw (h1:QS X st t):mB X [st] t:=⟨λB σ F H env D rp h=>gB (mF rH) (h1 B σ F H env D rp h)⟩
theorem au (h1:QS X st t) (h2:mB X sts u):mB X (st :: sts) (aK t u):=by
 refine⟨?_⟩;intro B σ F H env D rp h;refine gB (hW rH cR) ?_;exact jA (h1 B σ F H env _ rp h) (λσ' H' ⟨F',env',rp',q⟩=>h2 B σ' F' H' env' D rp' q) (λ_ _ q=>q) (λ_ _ q=>q) (λ_ _ q=>q)
def iz:bG:=λD env=>D.bk env
theorem zt:QS X (.Break pos) iz:=⟨λB σ F H env D rp h=>cQ yB ⟨F,env,rp,h⟩⟩
def b8 (te:TD):bG:=λD env=>te env D.rt
theorem a5 (he:QE X e ta):QS X (.Return (some e) pos) (b8 ta):=by
 refine⟨?_⟩;intro B σ F H env D rp h;refine cQ (zE bF) ?_;exact aD (he B σ F H env _ rp h) λv H' ⟨F',d,r',s',hd,q⟩=>⟨F',d,r'.bare,hd,q⟩
def gK (c:TB) (t u:bG):bG:=λD env=>c env λk=>if k=true then t D env else u D env
theorem cB {xs ys:List Stmt} (hc:QT X c tA) (ha:mB X xs t) (hb:mB X ys u):QS X (.If c xs ys pos) (gK tA t u):=by
 refine⟨?_⟩;intro B σ F H env D rp h;refine cQ (BA oP cR cR) ?_;refine fN (hc B σ F H env _ rp h) λk H1 ⟨F1,r1,s1,q1⟩=>?_
 cases k with
 | true=>exact ha B σ F1 H1 env D r1 q1
 | false=>exact hb B σ F1 H1 env D r1 q1
abbrev mj:=D->En->(En->Prop)->Prop
abbrev qt:=List D->En->(En->Prop)->Prop
def wG (X:Cx) (tg:Expr):TG:=λv σ H Q=>∀(pins:List (Addr×Obj)) (s:Shared) (u:Value),Inv X pins σ H s->RelV v u ->
 wpAny (model X.prog X.w) X.A (assign tg X.env u) (λ_ s'=>∃σ' H',Inv X pins σ' H' s'/\Q σ' H') X.xe s
def DJ (X:Cx) (tg:List Expr):An:=λvs σ H Q=>∀(pins:List (Addr×Obj)) (s:Shared) (us:List Value),Inv X pins σ H s->Vals vs us ->
 wpAny (model X.prog X.w) X.A (assignInOrder ((assignEach tg X.env).map (·.2)) us) (λ_ s'=>∃σ' H',Inv X pins σ' H' s'/\Q σ' H') X.xe s
theorem tF {tg:Expr}:PG X tg (wG X tg):=λpins s σ H v u Q I r h=>h pins s u I r
theorem Bt {tg:List Expr}:DQ X tg (DJ X tg):=λpins s σ H v u Q I r h=>h pins s u I r
theorem Ey {tg:Expr} {g:TG} {v:V} {σ:St} {H:Hp} {Q:St->Hp->Prop} (h:PG X tg g) (q:g v σ H Q):wG X tg v σ H Q:=λpins s u I r=>h pins s σ H v u Q I r q
theorem yC {tg:List Expr} {g:An} {v:List V} {σ:St} {H:Hp} {Q:St->Hp->Prop} (h:DQ X tg g) (q:g v σ H Q):DJ X tg v σ H Q:=λpins s u I r=>h pins s σ H v u Q I r q
theorem fv {tg:Expr} {v:V} {σ:St} {H:Hp} {Q Q':St->Hp->Prop} (h:wG X tg v σ H Q) (i:∀σ H,Q σ H->Q' σ H):wG X tg v σ H Q':=λpins s u I r=>bK (h pins s u I r) λ_ _ ⟨σ',H',I',q⟩=>⟨σ',H',I',i _ _ q⟩
theorem yz {tg:List Expr} {v:List V} {σ:St} {H:Hp} {Q Q':St->Hp->Prop} (h:DJ X tg v σ H Q) (i:∀σ H,Q σ H->Q' σ H):DJ X tg v σ H Q':=λpins s u I r=>bK (h pins s u I r) λ_ _ ⟨σ',H',I',q⟩=>⟨σ',H',I',i _ _ q⟩
def RG (X:Cx) (B:Base) (F:Hp) (Q:En->Prop):St->Hp->Prop:=λσ' H'=>∃F' env',Rep X.K B F' H' σ' env'/\aq F F'/\Q env'
structure QG (X:Cx) (tg:Expr) (g:mj):Prop where
 of ::
 run:∀(B:Base) (σ:St) (F H:Hp) (env:En) (Q:En->Prop) (d:D) (v:V),Rep X.K B F H σ env->Den X.K F d v->g d env Q->wG X tg v σ H (RG X B F Q)
instance {X:Cx} {tg:Expr} {g:mj}:CoeFun (QG X tg g) (λ_=>∀(B:Base) (σ:St) (F H:Hp) (env:En) (Q:En->Prop) (d:D) (v:V),Rep X.K B F H σ env->Den X.K F d v->g d env Q->wG X tg v σ H (RG X B F Q)):=⟨QG.run⟩
structure DR (X:Cx) (tg:List Expr) (g:qt):Prop where
 of ::
 run:∀(B:Base) (σ:St) (F H:Hp) (env:En) (Q:En->Prop) (ds:List D) (vs:List V),Rep X.K B F H σ env->ak X.K F ds vs->g ds env Q->DJ X tg vs σ H (RG X B F Q)
instance {X:Cx} {tg:List Expr} {g:qt}:CoeFun (DR X tg g) (λ_=>∀(B:Base) (σ:St) (F H:Hp) (env:En) (Q:En->Prop) (ds:List D) (vs:List V),Rep X.K B F H σ env->ak X.K F ds vs->g ds env Q->DJ X tg vs σ H (RG X B F Q)):=⟨DR.run⟩
def aW (i:Nat):mj:=λx env Q=>Q (env.set i (some (.d x)))
theorem aR {x:Str} (i:Nat) (hN:X.N.Nodup) (hi:X.N[i]?=some x:=by rfl) (hx:Loc X.env.scope x:=by first|exact Or.inl rfl|exact Or.inr rfl) (hf:X.fn x=true\/X.env.scope.names.lookup x=some .local:=by first|exact .inl rfl|exact .inr rfl):QG X (.Name x pos) (aW i):=by
 refine⟨?_⟩;intro B σ F H env Q d v rp hd h pins s u I r;refine AI (i:=i) hN hi hx hf pins s σ H v u _ I r ?_;refine⟨F,_,rp.set hd ?_,aq.refl _,h⟩;rw [I.len];exact (G7.mp hi).1
def ie:qt:=λxs env Q=>xs=[]/\Q env
def cy (g:mj) (gs:qt):qt:=λxs env Q=>∃x r,xs=x :: r/\g x env λenv'=>gs r env' Q
theorem fI:DR X [] ie:=by
 refine⟨?_⟩;intro B σ F H env Q ds vs rp hd h;obtain⟨rfl,q⟩:=h;simp only [ak] at hd;exact yC A0 ⟨hd,F,env,rp,aq.refl _,q⟩
theorem bb {g:mj} {gs:qt} (h1:QG X e g) (h2:DR X es gs) (hs:(assignEach (e :: es) X.env).map (·.2)=assign e X.env :: (assignEach es X.env).map (·.2):=by rfl):DR X (e :: es) (cy g gs):=by
 refine⟨?_⟩;intro B σ F H env Q ds vs rp hd h;obtain⟨x,r,rfl,q⟩:=h;simp only [ak] at hd;obtain⟨v,vr,rfl,a1,b1⟩:=hd;refine yC (yU tF Bt hs) ⟨v,vr,rfl,?_⟩;refine fv (h1 B σ F H env _ x v rp a1 q) λσ1 H1 hq0=>?_;obtain⟨F1,env1,r1,s1,q1⟩:=hq0;exact yz (h2 B σ1 F1 H1 env1 Q r vr r1 (ak.mono s1 _ _ b1) q1) λσ2 H2 ⟨F2,env2,r2,s2,q2⟩=>⟨F2,env2,r2,s1.trans s2,q2⟩
def gT (n:Nat) (gs:qt):mj:=λx env Q=>∃xs,x=.tup xs/\xs.length=n/\gs xs env Q
theorem iy {k n:Nat} {gs:qt} (hc:X.calm=true) (h:DR X es gs) (hn:(assignEach es X.env).length=n:=by rfl) (hst:(assignEach es X.env).findIdx? (·.1)=none:=by rfl):QG X (.Tuple es k pos) (gT n gs):=by
 refine⟨?_⟩;intro B σ F H env Q d v rp hd hq;obtain⟨xs,rfl,hl,q⟩:=hq;simp only [Den] at hd;obtain⟨p,vs,rfl,hs,r⟩:=hd;refine Ey (BZ hc Bt hn hst) ⟨p,vs,rfl,aq.bR rp.fh hs,by rw [<- r.length];exact hl,?_⟩;exact h B σ F H env Q xs vs rp r q
def mf (te:TD) (g:mj):bG:=λD env=>te env λx=>g x env D.nx
theorem m6 {tg:Expr} {g:mj} (he:QE X e ta) (hg:QG X tg g) (hs:swapsWithSole [tg] e pos.line X.env=pure false:=by rfl) (hw:swappedStores [tg] e X.env=pure none:=by rfl)
  (h1:(assignEach [tg] X.env).map (·.2)=[assign tg X.env]:=by rfl):QS X (.Assign [tg] e pos) (mf ta g):=by
 refine⟨?_⟩;intro B σ F H env D rp h;refine cQ (uo bF tF hs hw h1) ?_;refine aD (he B σ F H env _ rp h) λv H1 hq0=>?_;obtain⟨F1,d,r1,s1,d1,q1⟩:=hq0;exact fv (hg B σ F1 H1 env _ d v r1 d1 q1) λσ2 H2 ⟨F2,env2,r2,s2,q2⟩=>⟨F2,env2,r2,q2⟩
def bT (i:Nat) (te:TD):bG:=λD env=>te env λx=>D.nx (env.set i (some (.d x)))
theorem aX {x:Str} {pos':Pos} (i:Nat) (hN:X.N.Nodup) (he:QE X e ta) (hi:X.N[i]?=some x:=by rfl) (hx:Loc X.env.scope x:=by first|exact Or.inl rfl|exact Or.inr rfl) (hs:swapsWith e (some (.Name x pos')) pos.line X.env=pure false:=by rfl)
  (hf:X.fn x=true\/X.env.scope.names.lookup x=some .local:=by first|exact .inl rfl|exact .inr rfl):QS X (.Assign [.Name x pos'] e pos) (bT i ta):=by
 refine⟨?_⟩;intro B σ F H env D rp h pins s I;refine lA (i:=i) hN hi hx bF hs hf pins s σ H _ I ?_;refine aD (he B σ F H env _ rp h) λv H1 ⟨F1,d,r1,s1,d1,q1⟩=>⟨F1,_,r1.set d1 ?_,q1⟩;rw [I.len];exact (G7.mp hi).1
def jr (c:TB) (tb:bG):bG:=λD env=>∃(I:En->Prop) (μ:En->Nat),I env/\∀env,I env->c env λk=>if k=true then tb { D with nx:=λe'=>I e'/\μ e' < μ env,ct:=λe'=>I e'/\μ e' < μ env,bk:=D.nx } env else D.nx env
theorem m9 {body:List Stmt} (hp:PassesOwn (model X.prog X.w) X.A X.env X.xe) (hc:QT X c tA) (hb:mB X body t):QS X (.While c body [] pos) (jr tA t):=by
 refine⟨?_⟩;intro B σ F H env D rp h;obtain⟨I,μ,i0,turn⟩:=h;refine cQ (nA hp oP cR) ?_;refine⟨λm σ H=>∃F env,Rep X.K B F H σ env/\I env/\μ env=m,⟨_,F,env,rp,i0,rfl⟩,?_⟩
 rintro m σ1 H1 ⟨F1,env1,r1,i1,rfl⟩;refine fN (hc B σ1 F1 H1 env1 _ r1 (turn env1 i1)) λk H2 ⟨F2,r2,s2,q2⟩=>?_
 cases k with
 | false=>exact⟨F2,env1,r2,q2⟩
 | true =>
  refine⟨λσ' H'=>∃F' env',Rep X.K B F' H' σ' env'/\I env'/\μ env' < μ env1,λσ' H' ⟨F',env',r',i',l⟩=>⟨_,l,F',env',r',i',rfl⟩,?_⟩;exact hb B σ1 F2 H2 env1 _ r2 q2
def turns (g:mj) (tb:bG) (Z:Ends3):List D->En->Prop
 | [],env=>Z.nx env
 | x :: xs,env=>g x env λenv'=>tb { Z with nx:=turns g tb Z xs,ct:=turns g tb Z xs,bk:=Z.nx } env'
def jt (z:Str):List D:=z.cps.toList.map λc=>.str ⟨#[c]⟩
def ef:D->Option (List D)
 | .lst xs=>some xs
 | .tup xs=>some xs
 | .str z=>some (jt z)
 | _=>none
def Fb (z:Str):It:=⟨λi _=>i < z.cps.size,λi H v H'=>H'=H/\∃c,z.cps[i]?=some c/\v=.str ⟨#[c]⟩,λi _=>z.cps.size<=i⟩
theorem sS {P:Program} {w:World} {K:Ha} {tg:Expr} (it:Addr) (z:Str) (t:Tok) (nm:String) (hn:["enumerate","zip","dict_itemiterator","dict_reverseitemiterator","odict_iterator","itertools.zip_longest","itertools.pairwise"].contains nm=false)
  (W:∀A:Around,A.handled=none->Walks P w A it [it] [it] z.cps.size (SignAt z) (λi h=>h.IsStrIter it nm z t i)) (sf:∀(A:Around) (i:Nat) (s:Shared) (Q:Value->Shared->Prop) (E:Value->Shared->Prop),s.heap.IsStrIter it nm z t i->Q (.ref it) s->wpAny (model P w) A (pyIter (.ref it)) Q E s)
  (dn:∀(A:Around) (i:Nat) (s:Shared) (Q:Option Value->Shared->Prop) (E:Value->Shared->Prop),A.handled=none->s.heap.IsStrIter it nm z t i->z.cps[i]?=none->(∀h',Heap.ExtBut it s.heap h'->Q none { s with heap:=h' })->wpAny (model P w) A (pyNext (.ref it)) Q E s) :
  Turn P w K tg (Fb z) [it] it (λi h=>h.IsStrIter it nm z t i) where
 mem:=by simp
 obj:=λi h st b hb=>by
  have e:b=it:=by simpa using hb
  subst e;obtain⟨o,e,c,d⟩:=st;exact⟨o,e,λv z=>by rw [d] at z;cases z⟩
 keep:=λi h h' st k=>by
  obtain⟨o,e,c,d⟩:=st;exact⟨o,k it (by simp) o e,c,d⟩
 item:=by
  intro X hP hw hK hc i pins s σ H E I hf st hg;subst hP hw hK;obtain⟨f0,f1,f2,f3,f4,f5⟩:=hf it (by simp);refine (W X.A (I.ok.hd hc)).item i s _ _ hg st λv h' tk hv st' kk=>?_;obtain⟨c,u,hc',rfl⟩:=hv;have I1:Inv X pins σ H { s with heap:=h',toks:=tk }:=I.turned (λb o hb e=>kk b o (by simpa using hb) e) f0 f1 f3 f4 f5;obtain⟨o,e,c',d⟩:=id st';exact⟨_,rfl,tJ (s:={ s with heap:=h',toks:=tk }) e c' d hn ⟨.str ⟨#[c]⟩,H,I1,⟨u,rfl⟩,⟨rfl,c,hc',rfl⟩,st',λb hb=>(hf b hb).1⟩⟩
 done:=by
  intro X hP hw hK hc i pins s σ H E I hf st hg;subst hP hw hK;obtain⟨f0,f1,f2,f3,f4,f5⟩:=hf it (by simp);have hg':z.cps.size<=i:=hg;exact dn X.A i s _ _ (I.ok.hd hc) st (by simp;exact hg') λh' eb=>⟨rfl,I.turned (t':=s.toks) (λb o hb e=>eb b o hb e) f0 f1 f3 f4 f5⟩
 self:=λA i s Q E st h=>sf A i s Q E st h
def Ew (K:Ha) (tl:TE):TI:=λσ H R=>tl σ H λx H1=>(∃a,x=.ref a/\(((∃xs,dE K H1 a xs)/\R (Fu K a) H1)\/((∃xs,gw K H1 a xs)/\R (Fz K a) H1)))\/∃z,x=.str z/\R (Fb z) H1
theorem zw {tg l:Expr} {tl:TE} (hl:PE X l tl):PI X tg l (Ew X.K tl):=by
 intro pins s σ H R I h;refine bK (hl pins s σ H _ I h) λv s1 hq0=>?_;obtain⟨x,H1,I1,r1,q1⟩:=hq0;rcases q1 with ⟨a,e,q⟩|⟨z,e,q⟩
 rotate_left
 ·subst e;obtain⟨t,rfl⟩:=r1
  have fin:∀(o:Obj) (nm:String),(∀v,o.data≠.cell v)->Turn X.prog X.w X.K tg (Fb z) [s1.heap.objs.size] s1.heap.objs.size (λi h=>h.IsStrIter s1.heap.objs.size nm z t i)->(s1.heap.push o).IsStrIter s1.heap.objs.size nm z t 0 ->
    Fq X pins σ tg R (.ref s1.heap.objs.size) { s1 with heap:=s1.heap.push o }:=λo nm hcell T st=>by
   refine⟨s1.heap.objs.size,[s1.heap.objs.size],_,_,H1,rfl,I1.kept (t':=s1.toks) λb o e=>Hf _ e,T,st,λb hb=>?_,q⟩;have e:b=s1.heap.objs.size:=by simpa using hb
   subst e;exact I1.w6 (Hl _) (I1.hok.fresh (Hl _))
  cases ha:z.cps.all (· < 128)
  ·exact wpAny_pyIter_wide ha (fin _ "str_iterator" (λv e=>by cases e) (sS _ z t "str_iterator" (by decide) (λA hA=>Walks.strWide hA _ z t) (λA i s Q E st h=>wpAny_pyIter_striter_wide st h) (λA i s Q E hh st hx h=>wpAny_pyNext_wide_end hh st hx h)) ⟨_,Hs _ rfl,rfl,rfl⟩)
  ·exact wpAny_pyIter_ascii ha (fin _ "str_ascii_iterator" (λv e=>by cases e) (sS _ z t "str_ascii_iterator" (by decide) (λA hA=>Walks.strAscii hA _ z t) (λA i s Q E st h=>wpAny_pyIter_striter_ascii st h) (λA i s Q E hh st hx h=>wpAny_pyNext_ascii_end hh st hx h)) ⟨_,Hs _ rfl,rfl,rfl⟩)
 subst e;cases r1;rcases q with ⟨⟨xs,hq⟩,q⟩|⟨⟨xs,hq⟩,q⟩
 ·obtain⟨its,rv,p,hz⟩:=I1.list hq;refine wpAny_pyIter_list p.isList ?_;refine⟨s1.heap.objs.size,[s1.heap.objs.size],_,_,H1,rfl,I1.kept (t':=s1.toks) λb o e=>Hf _ e,wM a _,⟨_,Hs _ rfl,rfl,rfl⟩,λb hb=>?_,q⟩;have e:b=s1.heap.objs.size:=by simpa using hb
  subst e;exact I1.w6 (Hl _) (I1.hok.fresh (Hl _))
 ·obtain⟨its,rv,p,hz⟩:=I1.tuple hq;refine wpAny_pyIter_tuple (show s1.heap.IsTuple a its.toArray from p) ?_;refine⟨s1.heap.objs.size,[s1.heap.objs.size],_,_,H1,rfl,I1.kept (t':=s1.toks) λb o e=>Hf _ e,uV a _,⟨_,Hs _ rfl,rfl,rfl⟩,λb hb=>?_,q⟩;have e:b=s1.heap.objs.size:=by simpa using hb
  subst e;exact I1.w6 (Hl _) (I1.hok.fresh (Hl _))
theorem uq {K:Ha} {F:Hp} (z:Str):ak K F (jt z) (z.cps.toList.map λc=>V.str ⟨#[c]⟩):=by
 unfold jt
 induction z.cps.toList with
 | nil=>exact aI
 | cons c r ih=>exact aH kc ih
def lh (te:TD) (g:mj) (tb:bG):bG:=λD env=>te env λx=>∃xs,ef x=some xs/\turns g tb D xs env
theorem drop_cons {α:Type} {xs:List α} {i:Nat} {x:α} (h:xs[i]?=some x):xs.drop i=x :: xs.drop (i + 1):=by
 obtain⟨hl,e⟩:=G7.mp h;rw [List.drop_eq_getElem_cons hl,e]
theorem RS.same {B:Base} {G:Hp} {D:Ends3} (s:aq B.F G):(∀σ H,(RS X ⟨G,B.H,B.N,B.nb⟩ D).nx σ H->(RS X B D).nx σ H)/\(∀v H,(RS X ⟨G,B.H,B.N,B.nb⟩ D).rt v H->(RS X B D).rt v H) /\
  (∀σ H,(RS X ⟨G,B.H,B.N,B.nb⟩ D).bk σ H->(RS X B D).bk σ H)/\(∀σ H,(RS X ⟨G,B.H,B.N,B.nb⟩ D).ct σ H->(RS X B D).ct σ H) :=
 ⟨λ_ _ ⟨F',env',r,q⟩=>⟨F',env',r.back s,q⟩,λ_ _ ⟨F',d,r,hd,q⟩=>⟨F',d,r.back s,hd,q⟩,λ_ _ ⟨F',env',r,q⟩=>⟨F',env',r.back s,q⟩,λ_ _ ⟨F',env',r,q⟩=>⟨F',env',r.back s,q⟩⟩
theorem nz {tg iter:Expr} {body:List Stmt} {g:mj} (hp:PassesOwn (model X.prog X.w) X.A X.env X.xe) (hc:X.calm=true) (hi:QE X iter ta) (hg:QG X tg g) (hb:mB X body t)
  (hs:∀x,HW iter X.env x=pure x:=by intro _;rfl):QS X (.For tg iter body [] pos) (lh ta g t):=by
 refine⟨?_⟩;intro B σ F H env D rp h;refine cQ (kO hp hc (zw bF) tF cR hs) ?_;refine aD (hi B σ F H env _ rp h) λv H1 hq0=>?_;obtain⟨F1,d,r1,s1,d1,xs,hx,q1⟩:=hq0
 have core:∀(a:Addr) (vs:List V) (J:It),ak X.K F1 xs vs->(∀(i:Nat) (x:V) (G H':Hp),aq F1 G->aq G H'->vs[i]?=some x->J.go i H')->(∀(i:Nat) (x:V) (G H':Hp) (y:V) (H'':Hp),aq F1 G->aq G H'->vs[i]?=some x->J.yld i H' y H''->H''=H'/\y=x) ->
   (∀(G H':Hp),aq F1 G->aq G H'->J.stop vs.length H') ->
   ∃W:Nat->Nat->St->Hp->Prop,(∃m,W 0 m σ H1)/\∀i m σ H,W i m σ H->(J.stop i H/\(RS X B D).nx σ H)\/(J.go i H/\∃N:St->Hp->Prop,(∀σ' H',N σ' H'->∃m',m' < m/\W (i + 1) m' σ' H') /\
    ∀x H',J.yld i H x H'->wG X tg x σ H' λσ2 H2=>wSs X body { RS X B D with nx:=N,ct:=N,bk:=(RS X B D).nx } σ2 H2):=by
  intro a vs J dl go yld stop;have hlen:=dl.length;refine⟨λi m σ H=>m=vs.length - i/\i<=vs.length/\∃F env,Rep X.K ⟨F1,B.H,B.N,B.nb⟩ F H σ env/\turns g t D (xs.drop i) env,⟨vs.length,by simp,HU _,F1,env,r1.now,by simpa using q1⟩,?_⟩
  rintro i m σ2 H2 ⟨rfl,hi2,F2,env2,r2,q2⟩
  by_cases hlt:i < vs.length
  ·have hv:vs[i]?=some vs[i]:=by simp [hlt]
   obtain⟨dx,hdx,ddx⟩:=dl.DS hv;rw [drop_cons hdx] at q2;refine .inr ⟨go i _ F2 H2 r2.f0 r2.fh hv,λσ' H'=>∃F env,Rep X.K ⟨F1,B.H,B.N,B.nb⟩ F H' σ' env/\turns g t D (xs.drop (i + 1)) env,λσ' H' ⟨F',env',r',q'⟩=>⟨vs.length - (i + 1),by omega,rfl,by omega,F',env',r',q'⟩,λy H' hy=>?_⟩;obtain⟨rfl,rfl⟩:=yld i _ F2 H2 y H' r2.f0 r2.fh hv hy;have st:=hg ⟨F1,B.H,B.N,B.nb⟩ σ2 F2 _ env2 _ dx _ r2 (Den.mono r2.f0 _ _ ddx) q2
   refine fv st λσ3 H3 hq0=>?_;obtain⟨F3,env3,r3,s3,q3⟩:=hq0;have bd:=hb ⟨F1,B.H,B.N,B.nb⟩ σ3 F3 H3 env3 _ r3 q3;obtain⟨z1,z2,z3,z4⟩:=RS.same (X:=X) (B:=B) (D:=D) (r1.f0);exact fj bd (λ_ _ q=>q) z2 z1 (λ_ _ q=>q)
  ·have e:i=vs.length:=by omega
   subst e;rw [Ib (by omega)] at q2;exact .inl ⟨stop F2 H2 r2.f0 r2.fh,F2,env2,r2.back r1.f0,q2⟩
 cases d with
 | lst ys =>
  simp only [ef] at hx;cases hx;simp only [Den] at d1;obtain⟨a,vs,rfl,q,r⟩:=d1;refine .inl ⟨a,rfl,.inl ⟨⟨vs,r1.fh.seq q⟩,core a vs (Fu X.K a) r (λi x G H' s1 s2 hv=>⟨vs,x,s2.seq (s1.seq q),hv⟩) (λi x G H' y H'' s1 s2 hv hy=>?_) (λG H' s1 s2=>⟨vs,s2.seq (s1.seq q),Hl _⟩)⟩⟩;obtain⟨e1,e2⟩:=hy;have:=e2 vs (s2.seq (s1.seq q));rw [hv] at this
  exact⟨e1,(Hn this).symm⟩
 | tup ys =>
  simp only [ef] at hx;cases hx;simp only [Den] at d1;obtain⟨a,vs,rfl,q,r⟩:=d1;refine .inl ⟨a,rfl,.inr ⟨⟨vs,aq.bR r1.fh q⟩,core a vs (Fz X.K a) r (λi x G H' s1 s2 hv=>⟨vs,x,aq.bR s2 (aq.bR s1 q),hv⟩) (λi x G H' y H'' s1 s2 hv hy=>?_) (λG H' s1 s2=>⟨vs,aq.bR s2 (aq.bR s1 q),Hl _⟩)⟩⟩;obtain⟨e1,e2⟩:=hy;have:=e2 vs (aq.bR s2 (aq.bR s1 q));rw [hv] at this
  exact⟨e1,(Hn this).symm⟩
 | str z =>
  simp only [ef] at hx;cases hx;simp only [Den] at d1;subst d1;refine .inr ⟨z,rfl,core 0 (z.cps.toList.map λc=>V.str ⟨#[c]⟩) (Fb z) (uq z) (λi x G H' s1 s2 hv=>?_) (λi x G H' y H'' s1 s2 hv hy=>?_) (λG H' s1 s2=>?_)⟩
  ·have:=(G7.mp hv).1;show i < z.cps.size
   simpa using this
  ·obtain⟨e1,c,hc,rfl⟩:=hy;rw [Hi,Ii,hc] at hv;exact⟨e1,Hn hv⟩
  ·show z.cps.size<=_
   simp
 | _=>simp only [ef] at hx;cases hx
def aM (lo:Int) (n:Nat):List D:=(List.range n).map λ(i:Nat)=>D.int (lo + (i:Int))
def gj (f:List D->(Int->Nat->Prop)->Prop) (ts:eD) (g:mj) (tb:bG):bG:=λD env=>ts env λxs=>f xs λlo n=>turns g tb D (aM lo n) env
def iV (xs:List D) (Q:Int->Nat->Prop):Prop:=match xs with
 | [.int j]=>(-(2 ^ 62)<=j/\j < 2 ^ 62)/\Q 0 j.toNat
 | _=>False
def A2 (xs:List D) (Q:Int->Nat->Prop):Prop:=match xs with
 | [.int i,.int j]=>(-(2 ^ 62)<=i/\i < 2 ^ 62/\-(2 ^ 62)<=j/\j < 2 ^ 62)/\Q i (j - i).toNat
 | _=>False
theorem sg {tg:Expr} {body:List Stmt} {g:mj} (hg:QG X tg g) (hb:mB X body t) {B:Base} {D:Ends3} {lo:Int} {n:Nat} {σ:St} {F1 H1:Hp} {env:En} (r1:Rep X.K B F1 H1 σ env) (q1:turns g t D (aM lo n) env) :
  ∃W:Nat->Nat->St->Hp->Prop,(∃m,W 0 m σ H1)/\∀i m σ H,W i m σ H->((yD lo n).stop i H/\(RS X B D).nx σ H)\/((yD lo n).go i H/\∃N:St->Hp->Prop,(∀σ' H',N σ' H'->∃m',m' < m/\W (i + 1) m' σ' H') /\
    ∀x H',(yD lo n).yld i H x H'->wG X tg x σ H' λσ2 H2=>wSs X body { RS X B D with nx:=N,ct:=N,bk:=(RS X B D).nx } σ2 H2):=by
 have hl:(aM lo n).length=n:=by simp [aM]
 refine⟨λi m σ H=>m=n - i/\i<=n/\∃F env,Rep X.K B F H σ env/\turns g t D ((aM lo n).drop i) env,⟨n,by simp,HU _,F1,env,r1,by simpa using q1⟩,?_⟩
 rintro i m σ2 H2 ⟨rfl,hi2,F2,env2,r2,q2⟩
 by_cases hlt:i < n
 ·have hdx:(aM lo n)[i]?=some (L3.D.int (lo + (i:Int))):=by simp [aM,hlt]
  rw [drop_cons hdx] at q2;refine .inr ⟨hlt,λσ' H'=>∃F env,Rep X.K B F H' σ' env/\turns g t D ((aM lo n).drop (i + 1)) env,λσ' H' ⟨F',env',r',q'⟩=>⟨n - (i + 1),by omega,rfl,by omega,F',env',r',q'⟩,λy H' hy=>?_⟩;obtain⟨rfl,rfl⟩:=hy;refine fv (hg B σ2 F2 _ env2 _ _ _ r2 aZ q2) λσ3 H3 hq0=>?_;obtain⟨F3,env3,r3,s3,q3⟩:=hq0;exact fj (hb B σ3 F3 H3 env3 _ r3 q3) (λ_ _ q=>q) (λ_ _ q=>q) (λ_ _ q=>q) (λ_ _ q=>q)
 ·have e:i=n:=by omega
  subst e;rw [Ib (by omega)] at q2;exact .inl ⟨Hl _,F2,env2,r2,q2⟩
theorem jE {tg:Expr} {body:List Stmt} {g:mj} {p:Pos} {pos2:Pos} (hp:PassesOwn (model X.prog X.w) X.A X.env X.xe) (hc:X.calm=true) (hgl:Gl X "range") (hm:X.mg "range" = none) (ha:QA X [a] ts) (hg:QG X tg g) (hb:mB X body t)
  (hst:starEach [a] X.env=[(false,eval a X.env)]:=by rfl) (hs:∀x,HW (.Call (.Name "range" p) [a] [] pos2) X.env x=pure x:=by intro _;rfl):QS X (.For tg (.Call (.Name "range" p) [a] [] pos2) body [] pos) (gj iV ts g t):=by
 refine⟨?_⟩;intro B σ F H env D rp h;refine cQ (kO hp hc (iA hgl hm gR hst) tF cR hs) ?_;refine bV (ha B σ F H env _ rp h) λvs H1 hq0=>?_;obtain⟨F1,ds,r1,s1,d1,q1⟩:=hq0
 (try dsimp only at q1);unfold iV at q1
 split at q1
 ·simp only [ak,Den] at d1;obtain⟨v,r,rfl,rfl,rfl⟩:=d1;exact⟨_,rfl,q1.1.1,q1.1.2,sg hg hb r1 q1.2⟩
 ·exact q1.elim
theorem yH {tg:Expr} {body:List Stmt} {g:mj} {p:Pos} {pos2:Pos} (hp:PassesOwn (model X.prog X.w) X.A X.env X.xe) (hc:X.calm=true) (hgl:Gl X "range") (hm:X.mg "range" = none) (ha:QA X [a,b] ts) (hg:QG X tg g) (hb:mB X body t)
  (hst:starEach [a,b] X.env=[(false,eval a X.env),(false,eval b X.env)]:=by rfl) (hst2:starEach [b] X.env=[(false,eval b X.env)]:=by rfl) (hs:∀x,HW (.Call (.Name "range" p) [a,b] [] pos2) X.env x=pure x:=by intro _;rfl) :
  QS X (.For tg (.Call (.Name "range" p) [a,b] [] pos2) body [] pos) (gj A2 ts g t):=by
 refine⟨?_⟩;intro B σ F H env D rp h;refine cQ (kO hp hc (wk hgl hm gR hst hst2) tF cR hs) ?_;refine bV (ha B σ F H env _ rp h) λvs H1 hq0=>?_;obtain⟨F1,ds,r1,s1,d1,q1⟩:=hq0
 (try dsimp only at q1);unfold A2 at q1
 split at q1
 ·simp only [ak,Den] at d1;obtain⟨v,r,rfl,rfl,v',r',rfl,rfl,rfl⟩:=d1;exact⟨_,_,rfl,q1.1,sg hg hb r1 q1.2⟩
 ·exact q1.elim
def RF (X:Cx) (B:Base) (σ:St) (env:En) (F:Hp) (Q:List D->Prop):VK:=λv H'=>∃F' H1 p vs ds,v=.ref p/\H1 p=none/\H'=upd H1 p (.lst vs)/\Rep X.K B F' H1 σ env/\aq F F'/\ak X.K F' ds vs/\Q ds
structure QF (X:Cx) (e:Expr) (t:eD):Prop where
 of ::
 run:∀(B:Base) (σ:St) (F H:Hp) (env:En) (Q:List D->Prop),Rep X.K B F H σ env->t env Q->wE X e σ H (RF X B σ env F Q)
instance {X:Cx} {e:Expr} {t:eD}:CoeFun (QF X e t) (λ_=>∀(B:Base) (σ:St) (F H:Hp) (env:En) (Q:List D->Prop),Rep X.K B F H σ env->t env Q->wE X e σ H (RF X B σ env F Q)):=⟨QF.run⟩
def kn (ts:eD):eD:=λenv Q=>ts env λxs=>xs.length<=sizeLine/\Q xs
theorem jo (h:QA X es ts):QF X (.List es pos) (kn ts):=by
 refine⟨?_⟩;intro B σ F H env Q rp hq;refine bX (lE gR) ?_;exact bV (h B σ F H env _ rp hq) λvs H1 ⟨F1,ds,r1,s1,d1,z,q1⟩=>⟨by rw [<- d1.length];exact z,λp hp=>⟨F1,H1,p,vs,ds,rfl,hp,rfl,r1,s1,d1,q1⟩⟩
def bJ (i:Nat) (ts:eD):bG:=λD env=>ts env λxs=>D.nx (env.set i (some (.own xs)))
theorem cM {x:Str} {pos':Pos} (i:Nat) (hN:X.N.Nodup) (he:QF X e ts) (hi:X.N[i]?=some x:=by rfl) (hx:Loc X.env.scope x:=by first|exact Or.inl rfl|exact Or.inr rfl) (hs:swapsWith e (some (.Name x pos')) pos.line X.env=pure false:=by rfl)
  (hf:X.fn x=true\/X.env.scope.names.lookup x=some .local:=by first|exact .inl rfl|exact .inr rfl):QS X (.Assign [.Name x pos'] e pos) (bJ i ts):=by
 refine⟨?_⟩;intro B σ F H env D rp h pins s I;refine lA (i:=i) hN hi hx bF hs hf pins s σ H _ I ?_;refine aD (he B σ F H env _ rp h) λv H' hq0=>?_;obtain⟨F1,H1,p,vs,ds,e1,hp,e2,r1,s1,d1,q1⟩:=hq0;subst e1 e2;refine⟨F1,_,r1.yP hp d1 ?_,q1⟩;rw [I.len];exact (G7.mp hi).1
def cE (i:Nat) (te:TD):bG:=λD env=>∃xs,env[i]?=some (some (.own xs))/\xs.length < sizeLine/\te env λx=>D.nx (env.set i (some (.own (xs ++ [x]))))
theorem eY {x:Str} {px apos cpos:Pos} (i:Nat) (he:QE X e ta) (hN:X.N[i]?=some x:=by rfl) (hv:qF X.env.scope x:=by first | exact Or.inl rfl | exact Or.inr (Or.inl rfl) | exact Or.inr (Or.inr rfl)) (hd:(x == ("__debug__" : Str))=false:=by decide) (hcd:(x == ("__classdict__" : Str))=false:=by decide)
  (hbase:attributeBase (.Name x px) "append" X.env (eval (.Name x px) X.env)=eval (.Name x px) X.env:=by rfl)
  (hfew:((backTo cpos (starEach [e] X.env)).all (λx=>!x.1) && (backToKw cpos (keywordEach [] X.env)).all (λx=>x.1.isSome)
   && decide (([e]:List Expr).length + ([]:List Keyword).length + (if ([]:List Keyword).isEmpty then 0 else 1) < 30))=true:=by rfl)
  (hline:(apos.endLine == cpos.line)=true:=by rfl) (hst:starEach [e] X.env=(false,eval e X.env) :: starEach [] X.env:=by exact aJ rfl) (hplain:(backTo cpos (starEach ([]:List Expr) X.env)).any (·.1)=false:=by rfl)
  (hs:swapsWith (.Call (.Attribute (.Name x px) "append" apos) [e] [] cpos) none pos.line X.env=pure false:=by rfl) :
  QS X (.Expr (.Call (.Attribute (.Name x px) "append" apos) [e] [] cpos) pos) (cE i ta):=by
 refine⟨?_⟩;intro B σ F H env D rp h;refine cQ (mI (sq PySem.F.plainAttrs_list PySem.F.slot_list_append PySem.F.type_list_append kS (cF hN hv hd hcd) (cj bF c9 hst) hbase hfew hline hst hplain) hs) ?_;obtain⟨xs,hx,hl,h⟩:=h;obtain⟨p,vs,h1,h2,h3,h4,h5⟩:=rp.ov i xs hx;refine⟨.ref p,h1,.inl ⟨rfl,vs,dE.of h2⟩,?_⟩;refine aD (he B σ F H env _ rp h) λy H1 hq0=>?_;obtain⟨F1,d,r1,s1,d1,q1⟩:=hq0;obtain⟨p',vs',g1,g2,g3,g4,g5⟩:=r1.ov i xs hx
 rw [h1] at g1;cases g1;exact⟨p,vs',y,rfl,rfl,g2,by rw [<- g5.length];exact hl,F1,_,r1.change hx h1 (g5.append (aH d1 aI)),q1⟩
end
abbrev Fw:=List D->(D->Prop)->Prop
def BO (K:Ha) (f:Fw):Sp:=λvs H Q _=>∃(F:Hp) (ds:List D) (P:D->Prop),aq F H/\ak K F ds vs/\f ds P /\
 ∀(d:D) (v:V) (F' H':Hp),aq F F'->aq H H'->aq F' H'->(∀p,H p≠none->F p=none->F' p=none)->Den K F' d v->P d->Q v H'
structure Known (P:Program) (w:World) (K:Ha) (mg:Str->Option Value) (base:Heap) (k:Nat) (x:Str) (f:Fw):Prop where
 ex:∃(fa:Addr) (fd:FuncData) (ps:List Str),nN P w K mg base tM k fa fd ps (BO K f)/\mg x=some (.ref fa)/\PySem.W.keepIn K (.ref fa)=true/\Binds K fd ps []
def aE (N:List Str) (ds:List D):En:=ds.map (λd=>some (Lo.d d)) ++ List.replicate (N.length - ds.length) none
section
variable {X:Cx} {e:Expr} {es:List Expr} {ts:eD} {p pos:Pos} {x:Str} {k:Nat} {f:Fw}
theorem a0 (h:Known X.prog X.w X.K X.mg X.base k x f) (hr:cI k X.A) (ha:QA X (e :: es) ts) (hg:Gl X x:=by rfl) (hdb:(x == ("__debug__" : Str))=false:=by decide)
  (he:starEach (e :: es) X.env=(false,eval e X.env) :: starEach es X.env:=by exact aJ rfl) (hpl:(backTo pos (starEach es X.env)).any (·.1)=false:=by rfl):QE X (.Call (.Name x p) (e :: es) [] pos) (aB f ts):=by
 refine⟨?_⟩;intro B σ F H env Q rp hq;obtain⟨fa,fd,ps,G,hm,hk,hb⟩:=h.ex;refine bX (Ak G hr hg hm hk hb .nil Bi gR hdb he hpl) ?_;refine bV (ha B σ F H env _ rp hq) λvs H1 hq0=>?_;obtain⟨F1,ds,r1,s1,d1,hf⟩:=hq0;rw [HR];exact⟨F1,ds,Q,r1.fh,d1,hf,λd v F' H' a b c n hd q=>⟨F',d,r1.ext a c b n,s1.trans a,hd,q⟩⟩
end
theorem fg {K:Ha} {F H:Hp} {N:List Str} {ds:List D} {vs:List V} (fh:aq F H) (hd:ak K F ds vs) :
  Rep K ⟨F,H,λp=>H p≠none/\F p=none,λ_ h=>h.1⟩ F H (start N vs) (aE N ds):=by
 have noown:∀(i:Nat) ys,(aE N ds)[i]?=some (some (.own ys))->False:=λi ys q=>by
  unfold aE at q
  by_cases hi:i < ds.length
  ·rw [Hw (by simpa using hi),Hi] at q;rw [Hb hi] at q;cases q
  ·rw [Hu (by simpa using hi),HI] at q
   split at q <;> cases q
 have nodic:∀(i:Nat) ys,(aE N ds)[i]?=some (some (.dic ys))->False:=λi ys q=>by
  unfold aE at q
  by_cases hi:i < ds.length
  ·rw [Hw (by simpa using hi),Hi] at q;rw [Hb hi] at q;cases q
  ·rw [Hu (by simpa using hi),HI] at q
   split at q <;> cases q
 refine⟨aq.refl _,fh,aq.refl _,λp h=>h.2,λi x q=>?_,λi ys q=>(noown i ys q).elim,λi j xs ys p _ q=>(noown i xs q).elim,λi ys q=>(nodic i ys q).elim,λi j xs ys p _ q=>(nodic i xs q).elim⟩;unfold aE at q
 by_cases hi:i < ds.length
 ·rw [Hw (by simpa using hi),Hi] at q;rw [Hb hi] at q;cases q;obtain⟨v,h1,h2⟩:=hd.get (Hb hi);refine⟨v,?_,h2⟩;unfold start;rw [Hw (by rw [Hh,<- hd.length];exact hi),Hi,h1];rfl
 ·rw [Hu (by simpa using hi),HI] at q
  split at q <;> cases q
section
variable {P:Program} {w:World} {K:Ha} {mg:Str->Option Value} {base:Heap}
theorem oo.Er {x qual:Str} {st:Stmt} {fa:Addr} {fd:FuncData} {N ps:List Str} {k:Nat} {f:Fw} (F:oo K x qual st fa fd) (S:aG N ps (ar st))
  (hl:∀ds Q,f ds Q->ds.length=ps.length)
  (hbody:∀(cdv:Value) (A:Around) (outer:List Env) (s:Shared) (H:Hp) (E:XK),cI k (A.deeper (envOfC qual (ar st) s.heap.objs.size fa cdv)) ->
   ∃t,mB (gM tM P w K mg base N qual (ar st) fa cdv A outer s H E).pq (bh st) t/\∀ds (Q:D->Prop),f ds Q->t { nx:=λ_=>Q .non,rt:=Q } (aE N ds)) :
  nN P w K mg base tM (k + 1) fa fd ps (BO K f):=by
 refine F.ok S (λvs H Q E h=>?_) (λcdv A outer s H vs Q E hr h=>?_)
 ·obtain⟨F0,ds,P,_,hd,hf,_⟩:=h;rw [<- hd.length];exact hl ds _ hf
 ·obtain⟨F0,ds,P,fh,hd,hf,kk⟩:=h;obtain⟨t,ht,hq⟩:=hbody cdv A outer s H E hr;refine⟨_,cR,?_⟩;have core:=ht _ (start N vs) F0 H (aE N ds) _ (fg fh hd) (hq ds P hf);refine fj core (λσ' H' ⟨F',env',r,q⟩=>?_) (λv H' ⟨F',d',r,dd,q⟩=>?_) (λ_ _ ⟨_,_,_,q⟩=>q) (λ_ _ ⟨_,_,_,q⟩=>q)
  ·exact kk .non .non F' H' r.f0 r.h0 r.fh (λp h1 h2=>r.nf p ⟨h1,h2⟩) jZ q
  ·exact kk d' v F' H' r.f0 r.h0 r.fh (λp h1 h2=>r.nf p ⟨h1,h2⟩) dd q
theorem oo.known {x qual:Str} {st:Stmt} {fa:Addr} {fd:FuncData} {N ps:List Str} {k:Nat} {f:Fw} (F:oo K x qual st fa fd) (S:aG N ps (ar st)) (hmg:mg x=some (.ref fa)) (hb:Binds K fd ps [])
  (hl:∀ds Q,f ds Q->ds.length=ps.length)
  (hbody:∀(cdv:Value) (A:Around) (outer:List Env) (s:Shared) (H:Hp) (E:XK),cI k (A.deeper (envOfC qual (ar st) s.heap.objs.size fa cdv)) ->
   ∃t,mB (gM tM P w K mg base N qual (ar st) fa cdv A outer s H E).pq (bh st) t/\∀ds (Q:D->Prop),f ds Q->t { nx:=λ_=>Q .non,rt:=Q } (aE N ds)) :
  Known P w K mg base (k + 1) x f:=⟨fa,fd,ps,oo.Er F S hl hbody,hmg,F.kp,hb⟩
def wL (n:Nat):Fw:=λds Q=>∃ns:List Int,ds=[.lst (ns.map D.int)]/\ns.length<=n/\Q (.bl true)
theorem Dv {K:Ha} {H:Hp} {a:Addr} {ns:List Int} {n:Nat} (hl:ns.length<=n) (hS:dE K H a (ns.map V.int)):BO K (wL n) [.ref a] H (λv _=>v=.bl true) λ_ _ _=>False:=by
 refine⟨H,[.lst (ns.map D.int)],λd=>d=.bl true,aq.refl _,aH (ei hS (o8 ns)) aI,⟨ns,rfl,hl,rfl⟩,λd v F' H' _ _ _ _ hd q=>?_⟩;subst q
 simpa only [Den] using hd
end
section
variable {X:Cx} {a b c e:Expr} {es:List Expr} {ta tb tc:TD} {ts:eD} {pos:Pos} {st:Stmt} {sts:List Stmt} {t u:bG}
def cP (i:Nat) (t:bG):bG:=λD env=>∃xs,env[i]?=some (some (.own xs))/\t D (env.set i (some (.d (.lst xs))))
theorem eZ (i:Nat) (h:QS X st t):QS X st (cP i t):=by
 refine⟨?_⟩;intro B σ F H env D rp hq;obtain⟨xs,hx,q⟩:=hq;obtain⟨F',s',r'⟩:=rp.freeze hx;exact h B σ F' H _ D r' q
def bW (i:Nat) (tj:TD):TD:=λenv Q=>∃xs,env[i]?=some (some (.own xs))/\tj env λy=>∃j v,y=.int j/\ja xs j=some v/\Q v
theorem c5 {x:Str} {px:Pos} (i:Nat) (hb:QE X b tb) (hs:iI b) (hN:X.N[i]?=some x:=by rfl) (hv:qF X.env.scope x:=by first | exact Or.inl rfl | exact Or.inr (Or.inl rfl) | exact Or.inr (Or.inr rfl)) (hd:(x == ("__debug__" : Str))=false:=by decide)
  (hcd:(x == ("__classdict__" : Str))=false:=by decide):QE X (.Subscript (.Name x px) b pos) (bW i tb):=by
 refine⟨?_⟩;intro B σ F H env Q rp h;refine bX (sY p0 (cF hN hv hd hcd) bF hs) ?_;obtain⟨xs,hx,h⟩:=h;obtain⟨p,vs,h1,h2,h3,h4,h5⟩:=rp.ov i xs hx;refine⟨.ref p,h1,?_⟩;refine aD (hb B σ F H env _ rp h) λy H1 hq0=>?_;obtain⟨F1,d,r1,s1,d1,j,v,hj,hv,q1⟩:=hq0;subst hj;simp only [Den] at d1;obtain⟨p',vs',g1,g2,g3,g4,g5⟩:=r1.ov i xs hx;rw [h1] at g1;cases g1;obtain⟨w,hw,dw⟩:=g5.ja hv;exact⟨p,vs',j,w,rfl,d1,dE.of g2,hw,F1,v,r1,s1,dw,q1⟩
def oG (i:Nat) (tj te:TD):bG:=λD env=>te env λx=>∃xs,env[i]?=some (some (.own xs))/\tj env λy=>∃(j:Int) (k:Nat),y=.int j/\rj xs.length j=some k/\D.nx (env.set i (some (.own (xs.set k x))))
theorem uf {x:Str} {px p2:Pos} (i:Nat) (hb:QE X b tb) (he:QE X e ta) (hN:X.N[i]?=some x:=by rfl) (hv:qF X.env.scope x:=by first | exact Or.inl rfl | exact Or.inr (Or.inl rfl) | exact Or.inr (Or.inr rfl)) (hd:(x == ("__debug__" : Str))=false:=by decide)
  (hcd:(x == ("__classdict__" : Str))=false:=by decide) (hs:swapsWithSole [.Subscript (.Name x px) b p2] e pos.line X.env=pure false:=by rfl) (hw:swappedStores [.Subscript (.Name x px) b p2] e X.env=pure none:=by rfl)
  (h1:(assignEach [.Subscript (.Name x px) b p2] X.env).map (·.2)=[assign (.Subscript (.Name x px) b p2) X.env]:=by rfl)
  (ha:∀v,assign (.Subscript (.Name x px) b p2) X.env v=(do
   let ov <- holding [v] (eval (.Name x px) X.env)
   let iv <- holding [v,ov] (eval b X.env)
   standAt p2
   holding [v,ov,iv] (setItem ov iv v)
   release [v,ov,iv] []):=by intro _;rfl):QS X (.Assign [.Subscript (.Name x px) b p2] e pos) (oG i tb ta):=by
 refine⟨?_⟩;intro B σ F H env D rp h;refine cQ (uo bF (y4 (cF hN hv hd hcd) bF set_list ha) hs hw h1) ?_;refine aD (he B σ F H env _ rp h) λy H1 hq0=>?_;obtain⟨F1,d,r1,s1,d1,xs,hx,q1⟩:=hq0;obtain⟨p,vs,g1,g2,g3,g4,g5⟩:=r1.ov i xs hx;refine⟨.ref p,g1,?_⟩;refine aD (hb B σ F1 H1 env _ r1 q1) λz H2 hq0=>?_;obtain⟨F2,d2,r2,s2,dd2,j,k,hj,hk,q2⟩:=hq0;subst hj;simp only [Den] at dd2;obtain⟨p',vs',e1,e2,e3,e4,e5⟩:=r2.ov i xs hx
 rw [g1] at e1;cases e1;exact⟨p,vs',j,k,rfl,dd2,e2,by rw [<- e5.length];exact hk,F2,_,r2.change hx g1 (e5.set (Den.mono s2 _ _ d1) k),q2⟩
end
def gm (names:List (Str×NameKind)) (cells:List (Str×Addr)) (acc:List (Str×Addr)):List (Str×Addr):=match names with
 | []=>acc
 | (n,k) :: r=>if k=.free then (match cells.lookup n with|some c=>gm r cells ((n,c) :: acc)|none=>gm r cells acc) else gm r cells acc
theorem eN {env:Env}:∀(names:List (Str×NameKind)) (acc:List (Str×Addr)),(∀y∈names,y.2=.free->∃c,env.cells.lookup y.1=some c) ->
  (forIn names acc λ(x:Str×NameKind) r=>if (x.2 == NameKind.free)=true then (do let a <- cellOf env x.1;pure (ForInStep.yield ((x.1,a) :: r))) else pure (ForInStep.yield r):Sem (List (Str×Addr)))=pure (gm names env.cells acc)
 | [],acc,_=>rfl
 | (n,k) :: r,acc,h=>by
  rw [List.forIn_cons]
  by_cases hk:k=.free
  ·subst hk;obtain⟨c,hc⟩:=h (n,.free) Hy rfl;have hc':env.cells.lookup n=some c:=hc;have ih:=eN r ((n,c) :: acc) λy hy=>h y (Hq _ hy);simp only [beq_self_eq_true,if_true,cellOf,hc',gm];exact ih
  ·have ih:=eN r acc λy hy=>h y (Hq _ hy);have hb:(k == NameKind.free)=false:=by simpa using hk
   simp only [hb,He,if_false,gm,if_neg hk];exact ih
theorem oH {scope:Scope} {env:Env} (h:∀y∈scope.names,y.2=.free->∃c,env.cells.lookup y.1=some c):closureFor scope env=pure (gm scope.names env.cells []):=by
 have e:=eN (env:=env) scope.names [] h;have e2:closureFor scope env=((forIn scope.names ([]:List (Str×Addr)) λ(x:Str×NameKind) r=>if (x.2 == NameKind.free)=true then (do let a <- cellOf env x.1;pure (ForInStep.yield ((x.1,a) :: r))) else pure (ForInStep.yield r)) >>= λcs=>pure cs):=rfl
 rw [e2,e];rfl
theorem gQ {cells:List (Str×Addr)}:∀(names:List (Str×NameKind)) (acc:List (Str×Addr)),(∀x c,acc.lookup x=some c->cells.lookup x=some c)->∀x c,(gm names cells acc).lookup x=some c->cells.lookup x=some c
 | [],acc,h,x,c,q=>h x c q
 | (n,k) :: r,acc,h,x,c,q=>by
  unfold gm at q
  split at q
  ·split at q
   ·rename_i c' e;refine gQ r _ (λy d w=>?_) x c q;rw [List.lookup_cons] at w
    split at w
    ·rename_i z;have:y=n:=by simpa using z
     subst this;cases w;exact e
    ·exact h y d w
   ·exact gQ r _ h x c q
  ·exact gQ r _ h x c q
theorem jV {cells:List (Str×Addr)}:∀(names:List (Str×NameKind)) (acc:List (Str×Addr)) (x:Str),(acc.lookup x).isSome=true->((gm names cells acc).lookup x).isSome=true
 | [],acc,x,q=>q
 | (n,k) :: r,acc,x,q=>by
  unfold gm
  split
  ·split
   ·refine jV r _ x ?_;rw [List.lookup_cons]
    split
    ·rfl
    ·exact q
   ·exact jV r _ x q
  ·exact jV r _ x q
theorem jQ {cells:List (Str×Addr)}:∀(names:List (Str×NameKind)) (acc:List (Str×Addr)) (x:Str),(x,NameKind.free)∈names->(cells.lookup x).isSome=true->((gm names cells acc).lookup x).isSome=true
 | [],acc,x,h,_=>by simp at h
 | (n,k) :: r,acc,x,h,q=>by
  rcases Hx.mp h with e|h
  ·cases e;unfold gm;rw [if_pos rfl]
   split
   ·exact jV r _ _ (by rw [List.lookup_cons];simp)
   ·rename_i e;rw [e] at q;cases q
  ·unfold gm
   split
   ·split <;> exact jQ r _ x h q
   ·exact jQ r _ x h q
def bM (X:Cx) (N':List Str) (scope:Scope) (C:Addr) (s:Shared) (H:Hp) (fp:List Addr) (pins:List (Addr×Obj)):Cx :=
 { X with N:=N',s₀:=s,H₀:=H,env:=compEnvC scope (gm scope.names X.env.cells []) C X.env,outer:=X.stack,stack:=X.stack,ex:=fp,fn:=λ_=>false,pn:=X.pn ++ pins,xe:=λ_ _=>False }
structure cm (X:Cx) (N':List Str) (nt:Nat) (ix:List Nat) (scope:Scope):Prop where
 kind:scope.kind=.function
 nocell:∀x∈scope.names,x.2≠.cell
 names:∀x∈scope.names,x.2=.local->scope.names.lookup x.1=some .local
 free:∀x∈scope.names,x.2=.free->X.env.scope.names.lookup x.1=some .cell
 caps:∀(j:Nat) (i:Nat),ix[j]?=some i->∃x,N'[nt + j]?=some x/\X.N[i]?=some x/\(x,NameKind.free)∈scope.names/\(relabel scope X.env).names.lookup x=some .cell
 len:N'.length=nt + ix.length
section
variable {prog:Program} {w:World} {A:Around} {R:Result->Shared->Prop} {s:Shared}
theorem qp {elt target iter:Expr} {ifs:List Expr} {scope:Scope} {pos:Pos} {it acc:Value} {env:Env} (I:Nat->Shared->Prop)
  (turn:∀n s,I n s->wpAny (model prog w) A (pyNext it) (λr s₁=>match r with
   | none=>R (.ok .next) s₁
   | some v=>wpAny (model prog w) A (letOwnedTupleGo target it v) (λ_ s₁'=>wpAny (model prog w) A (assign target env v) (λ_ s₂ =>
     wpAny (model prog w) A (forIn ifs true λc r=>if r=true then do let ok <- isTrue c env (eval c env);pure (ForInStep.yield ok) else pure (ForInStep.yield r)) (λok s₃ =>
      if ok=true then wpAny (model prog w) A (eval elt env) (λx s₄ =>
       wpAny (model prog w) A (call (.builtin "list.append") [acc,x]) (λ_ s₅=>∃m,m < n/\I m s₅) (λ_ _=>False) s₄) (λ_ _=>False) s₃
      else ∃m,m < n/\I m s₃) (λ_ _=>False) s₂) (λ_ _=>False) s₁') (λ_ _=>False) s₁) (λ_ _=>False) s)
  (n:Nat) (h:I n s) :
  codeAny (model prog w) A (.compLoop (.ListComp elt [⟨target,iter,ifs,0⟩] scope pos) 0 it acc env) R s:=by
 refine codeAny_loop rfl I (λn s hI=>?_) n h;show wpAny _ A ((compTurn (.ListComp elt [⟨target,iter,ifs,0⟩] scope pos) 0 it acc env).onRaise (λx=>do noteFrame x env;theTreesLotGoes x)) _ _ s
 refine wpAny_noted ?_;rw [compTurn_list];refine G8 (wpAny_standAt (G8 (HE (turn n s hI) (λr s₁ h₁=>?_) λ_ _ h'=>h'.elim)))
 cases r with
 | none=>exact Hd h₁
 | some v =>
  refine G8 (HE h₁ (λ_ s₁' h₁'=>?_) λ_ _ h'=>h'.elim);refine G8 (HE h₁' (λ_ s₂ h₂=>G8 (HE h₂ (λok s₃ h₃=>?_) λ_ _ h'=>h'.elim)) λ_ _ h'=>h'.elim)
  cases ok with
  | false=>exact Hd ⟨rfl,h₃⟩
  | true =>
   exact G8 (G8 (HE h₃ (λx s₄ h₄=>G8 (HE h₄ (λ_ s₅ h₅=>Hd (Hd ⟨rfl,h₅⟩)) λ_ _ h'=>h'.elim)) λ_ _ h'=>h'.elim))
end
def sC (nt:Nat) (ix:List Nat) (σ:St):St:=List.replicate nt none ++ ix.map λi=>(σ[i]?).join
theorem lookup_mem {α β:Type} [BEq α] [LawfulBEq α] {l:List (α×β)} {x:α} {y:β} (h:l.lookup x=some y):(x,y)∈l:=by
 induction l with
 | nil=>simp at h
 | cons p r ih =>
  obtain⟨a,b⟩:=p;rw [List.lookup_cons] at h
  split at h
  ·rename_i e;have:x=a:=by simpa using e
   subst this;cases h;exact Hy
  ·exact Hq _ (ih h)
section
variable {X:Cx} {pins:List (Addr×Obj)} {σ:St} {H:Hp} {s:Shared} {N':List Str} {nt:Nat} {ix:List Nat} {scope:Scope}
theorem lW {x:Str} {k:NameKind} (h:(x,k)∈(relabel scope X.env).names):(x,k)∈scope.names\/((x,NameKind.free)∈scope.names/\k=.cell):=by
 unfold relabel at h;obtain⟨⟨n,k'⟩,hm,e⟩:=HG.mp h;dsimp only at e
 split at e
 ·rename_i hc;cases e;simp only [Bool.and_eq_true,beq_iff_eq] at hc;exact .inr ⟨by rw [<- hc.1.1];exact hm,rfl⟩
 ·cases e;exact .inl hm
theorem uJ (I:Inv X pins σ H s) (O:cm X N' nt ix scope) {fp:List Addr} (hf:∀b∈fp,kN X pins H b) (hlt:∀b∈fp,b < s.heap.objs.size) {h1:Heap} {tk:Nat}
  (hns:h1.Ns s.heap.objs.size (λ_=>none)) (hsb:∀b o,s.heap.get? b=some o->h1.get? b=some o) :
  Inv (bM X N' scope s.heap.objs.size s H fp pins) [] (sC nt ix σ) H { s with heap:=h1,toks:=tk }:=by
 have cellsAt:∀x c,(gm scope.names X.env.cells []).lookup x=some c->X.env.cells.lookup x=some c:=λx c q=>gQ scope.names [] (λy d w=>by simp at w) x c q;have clt:∀x c,X.env.cells.lookup x=some c->c < s.heap.objs.size:=λx c e=>let ⟨_,q⟩:=I.cell x c e;q.lt
 refine⟨⟨I.ok.mod,O.kind,I.ok.glob,I.ok.blt,Hl _,λx y c h1 h2=>I.ok.inj x y c (cellsAt _ _ h1) (cellsAt _ _ h2),λx hx=>?_,λx c h=>(by cases h),I.ok.hd,I.ok.frames,.inl rfl,λb hb=>⟨HC (hlt b hb),λx c e=>(hf b hb).2.2.2.2.1 x c (cellsAt _ _ e)⟩,I.bs,
   HX I.ok.bsz I.sz,λb o e hb=>?_,λb hb z=>?_,I.stack,⟨I.mG,I.tb⟩⟩,
  rfl,I.bare,Un.kept hsb,⟨_,hns,λj x v e1 e2 e3=>?_⟩,λx c e=>?_,I.hok.fresh (Hl _),λx c e=>I.freeC x c (cellsAt _ _ e),λp hp=>?_,I.hok.kept hsb,?_⟩
 ·
  have hx':((relabel scope X.env).names.lookup x=some .cell\/(relabel scope X.env).names.lookup x=some .free):=hx
  have key:(x,NameKind.free)∈scope.names:=by
   rcases hx' with h|h
   ·rcases lW (lookup_mem h) with q|q
    ·exact absurd rfl (O.nocell _ q)
    ·exact q.1
   ·rcases lW (lookup_mem h) with q|q
    ·exact q
    ·exact q.1
  obtain⟨c,hc⟩:=I.ok.has x (.inl (O.free _ key rfl));exact Option.isSome_iff_exists.mp (jQ scope.names [] x key (by rw [hc];rfl))
 ·rcases (hf b hb).2.2.2.1 with z|z
  ·exact I.ok.noex b o e z
  ·exact absurd (Hk (Ho (I.ok.bs b o e).1) z) (Nat.lt_irrefl _)
 ·rcases Hx.mp (I.kU b z) with e|e
  ·exact (hf b hb).2.1 e
  ·exact (hf b hb).2.2.1 e
 ·
  unfold sC at e2
  by_cases hj:j < nt
  ·rw [Hw (by simpa using hj),HI] at e2
   split at e2 <;> cases e2
  ·rw [Hu (by simpa using hj),Hi,List.length_replicate] at e2
   cases hi:ix[j - nt]? with
   | none=>rw [hi] at e2;cases e2
   | some i =>
    rw [hi] at e2
    have hs:σ[i]?=some (some v):=by
     simp only [Option.map_some,Option.some.injEq] at e2
     cases q:σ[i]? with
     | none=>rw [q] at e2;cases e2
     | some o=>rw [q] at e2;simp only [Option.join] at e2;rw [show o=some v from e2]
    obtain⟨y,n1,n2,n3,n4⟩:=O.caps (j - nt) i hi;have hjj:nt + (j - nt)=j:=by omega
    rw [hjj] at n1;have e1':N'[j]?=some x:=e1;rw [n1] at e1';cases e1';obtain⟨m,hn,hl⟩:=I.loc;have hk:X.env.scope.names.lookup x=some .cell:=O.free _ n3 rfl;obtain⟨u,r,l⟩:=hl i x v n2 hs (.inr (.inl hk));refine⟨u,r,?_⟩;rcases l with ⟨k,_⟩|⟨_,c,ec,z⟩
    ·have k':X.env.scope.names.lookup x=some .local:=k;rw [hk] at k';cases k'
    ·have hc2:=Option.isSome_iff_exists.mp (jQ (cells:=X.env.cells) scope.names [] x n3 (by rw [ec];rfl));obtain⟨c2,hc2⟩:=hc2;have:=cellsAt x c2 hc2;rw [ec] at this;cases this;exact .inr ⟨.inl n4,c,hc2,z.keeps hsb⟩
 ·obtain⟨v,z⟩:=I.cell x c (cellsAt _ _ e);exact⟨v,z.keeps hsb⟩
 ·rw [HR] at hp;obtain⟨e,n,ne,nf,d⟩:=I.pin p hp;refine⟨hsb _ _ e,n,HC (Ho e),λz=>?_,d⟩;rcases Hx.mp (I.kU p.1 z) with q|q
  ·exact ne q
  ·exact nf q
 ·unfold sC;show _=N'.length
  rw [O.len,HH,List.length_replicate,Hh]
theorem yN (I:Inv X pins σ H s) {fp:List Addr} (hf:∀b∈fp,kN X pins H b) {σ':St} {H':Hp} {s':Shared} (J:Inv (bM X N' scope s.heap.objs.size s H fp pins) [] σ' H' s') {h':Heap} (hs:Heap.SameBut s.heap.objs.size s'.heap h') :
  Inv X pins σ H' { s' with heap:=h' }:=by
 have ne:∀b o,s.heap.get? b=some o->b≠s.heap.objs.size:=λb o e=>HC (Ho e);have jb:=J.base;refine I.yO (ch:=fp) J.os ⟨λb o e n h1 h2=>(hs.2 b (ne b o e)).trans (jb.keep b o e n h1 h2),λb o e n h1 h2=>?_,jb.free,λb o e h2=>?_,jb.tups,jb.frzs,jb.tbls⟩ (λb o e=>?_) J.bare λb hb=>?_
 ·obtain⟨sl,q⟩:=jb.slot b o e n h1 h2;exact⟨sl,(hs.2 b (ne b o e)).trans q⟩
 ·obtain⟨o',q⟩:=jb.there b o e h2;exact⟨o',(hs.2 b (ne b o e)).trans q⟩
 ·have jf:H' s.heap.objs.size=none:=J.free;refine (J.hok b o e).mn (λc u hc q=>(hs.2 c ?_).trans q) (λ_ q=>q) (λ_ _ q=>q) λ_ _ _ q=>q;intro z;subst z;rcases hc with z|z
  ·rw [<- z,jf] at e;cases e
  ·rw [jf] at z;cases z
 ·obtain⟨f0,f1,f2,f3,f4,f5⟩:=hf b hb;exact⟨f3,f1,f4,f5⟩
end
def zu (X:Cx) (ifs:List Expr):TT:=λσ H Q=>∀(pins:List (Addr×Obj)) (s:Shared),Inv X pins σ H s ->
 wpAny (model X.prog X.w) X.A (forIn ifs true λc r=>if r=true then do let ok <- isTrue c X.env (eval c X.env);pure (ForInStep.yield ok) else pure (ForInStep.yield r)) (TP X pins σ Q) (λ_ _=>False) s
def Bs (X:Cx) (N':List Str) (nt:Nat) (ix:List Nat) (scope:Scope) (elt target:Expr) (ifs:List Expr) (wi:TI):TE:=λσ H Q=>wi σ H λJ H1=>∀(a C:Addr) (s:Shared) (fp:List Addr) (pins:List (Addr×Obj)),H1 a=none ->
 ∃W:Nat->Nat->St->Hp->Prop,(∃m,W 0 m (sC nt ix σ) (upd H1 a (.lst [])))/\∀i m σ' H',W i m σ' H'->(J.stop i H'/\Q (.ref a) H')\/(J.go i H'/\∀x H2,J.yld i H' x H2 ->
  wG (bM X N' scope C s (upd H1 a (.lst [])) fp pins) target x σ' H2 λσ2 H3=>zu (bM X N' scope C s (upd H1 a (.lst [])) fp pins) ifs σ2 H3 λok H4=>if ok=true then
   wE (bM X N' scope C s (upd H1 a (.lst [])) fp pins) elt σ2 H4 λy H5=>∃ys,H5 a=some (.lst ys)/\ys.length < sizeLine/\∃m',m' < m/\W (i + 1) m' σ2 (upd H5 a (.lst (ys ++ [y])))
   else ∃m',m' < m/\W (i + 1) m' σ2 H4)
section
variable {X:Cx} {N':List Str} {nt:Nat} {ix:List Nat} {scope:Scope}
theorem cm.bS {pins:List (Addr×Obj)} {σ:St} {H:Hp} {s:Shared} (O:cm X N' nt ix scope) (I:Inv X pins σ H s):closureFor scope X.env=pure (gm scope.names X.env.cells []) :=
 oH λy hy hk=>I.ok.has y.1 (.inl (O.free y hy hk))
theorem se {elt target iter:Expr} {ifs:List Expr} {pos:Pos} {pins:List (Addr×Obj)} {σ:St} {s2:Shared} {Q:VK} {R:It->Hp->Prop} {itv:Value} {RR:Value->Addr->Result->Shared->Prop} (hc:X.calm=true) (O:cm X N' nt ix scope)
  (h2:Fq X pins σ target R itv s2)
  (hR:∀J H1,R J H1->∀(a C:Addr) (s:Shared) (fp:List Addr) (pins:List (Addr×Obj)),H1 a=none ->
   ∃W:Nat->Nat->St->Hp->Prop,(∃m,W 0 m (sC nt ix σ) (upd H1 a (.lst [])))/\∀i m σ' H',W i m σ' H'->(J.stop i H'/\Q (.ref a) H')\/(J.go i H'/\∀x H2,J.yld i H' x H2 ->
    wG (bM X N' scope C s (upd H1 a (.lst [])) fp pins) target x σ' H2 λσ2 H3=>zu (bM X N' scope C s (upd H1 a (.lst [])) fp pins) ifs σ2 H3 λok H4=>if ok=true then
     wE (bM X N' scope C s (upd H1 a (.lst [])) fp pins) elt σ2 H4 λy H5=>∃ys,H5 a=some (.lst ys)/\ys.length < sizeLine/\∃m',m' < m/\W (i + 1) m' σ2 (upd H5 a (.lst (ys ++ [y])))
     else ∃m',m' < m/\W (i + 1) m' σ2 H4))
  (hRR:∀(a C:Addr) (H':Hp) (s6:Shared) (m:Str->Option Value),Q (.ref a) H'->s6.heap.Ns C m->H' C=none->C≠X.env.locals->X.s₀.heap.objs.size<=C->(∀x c,X.env.cells.lookup x=some c->c≠C)->(∀p∈X.pn ++ pins,p.1≠C) ->
   (∀h',Heap.SameBut C s6.heap h'->Inv X pins σ H' { s6 with heap:=h' })->RR (.ref a) C (.ok .next) s6) :
  wpAny (model X.prog X.w) X.A (newList []) (λacc s3=>wpAny (model X.prog X.w) X.A (newFunctionEnv scope X.env.globals (gm scope.names X.env.cells []) [] X.env.qual none .none (some X.env)) (λcenv s4 =>
   codeAny (model X.prog X.w) X.A (.compStart (.ListComp elt [⟨target,iter,ifs,0⟩] scope pos) 0 itv acc { cenv with scope:=relabel scope X.env }) (RR acc cenv.locals) s4) X.xe s3) X.xe s2:=by
 obtain⟨it,fp,tn,J,H2,e,I2,T,st2,f2,hq0⟩:=h2;have hq:=hR J H2 hq0;subst e;have hlt2:∀b∈fp,b < s2.heap.objs.size:=λb hb=>let ⟨o,e,_⟩:=T.obj _ _ st2 b hb;Ho e
 refine wpAny_newObj_type ?_;generalize hs3:({ s2 with heap:=s2.heap.push { cls:=.type "list",dict:=none,data:=.seq ([]:List Value).toArray } }:Shared)=s3
 have k3:∀b o,s2.heap.get? b=some o->s3.heap.get? b=some o:=λb o e=>by rw [<- hs3];exact Hf _ e
 have ha:H2 s2.heap.objs.size=none:=I2.hok.fresh (Hl _)
 have I3:Inv X pins σ (upd H2 s2.heap.objs.size (.lst [])) s3:=by
  rw [<- hs3];exact I2.laid (t':=s2.toks) (λb u e=>Hf _ e) (Hl _) ⟨HU _,[],0,.nil,Hs _ rfl⟩
 have f3:∀b∈fp,kN X pins (upd H2 s2.heap.objs.size (.lst [])) b:=λb hb=>⟨by rw [aj (HC (hlt2 b hb))];exact (f2 b hb).1,(f2 b hb).2⟩;have st3:tn 0 s3.heap:=T.keep _ _ _ st2 λb hb o e=>k3 b o e;have hlt3:∀b∈fp,b < s3.heap.objs.size:=λb hb=>let ⟨o,e,_⟩:=T.obj _ _ st3 b hb;Ho e
 refine wpAny_newFunctionEnv O.nocell (by intro y hy;simp at hy) (λh1 hns hsb=>?_) O.kind;have k4:∀b o,s3.heap.get? b=some o->h1.get? b=some o:=λb o e=>(hsb.2 b (HC (Ho e))).trans (Hf _ e);have I4:=uJ (tk:=s3.toks + ([]:List (Str×Value)).length) I3 O f3 hlt3 hns k4;have st4:tn 0 h1:=T.keep _ _ _ st3 λb hb o e=>k4 b o e;obtain⟨W,⟨m0,w0⟩,turn⟩:=hq s2.heap.objs.size s3.heap.objs.size s3 fp pins ha
 have fr3:∀b∈fp,(upd H2 s2.heap.objs.size (.lst [])) b=none:=λb hb=>(f3 b hb).1
 have stat:∀{H':Hp},(∀b∈fp,H' b=none)->∀b∈fp,kN (bM X N' scope s3.heap.objs.size s3 (upd H2 s2.heap.objs.size (.lst [])) fp pins) [] H' b:=λ{H'} hn b hb=>by
  refine⟨hn b hb,HC (hlt3 b hb),λz=>?_,.inl hb,λx c e=>(f3 b hb).2.2.2.2.1 x c (gQ scope.names [] (λy d w=>by simp at w) x c e),λp hp=>?_⟩
  ·rcases Hx.mp (I3.kU b z) with q|q
   ·exact (f3 b hb).2.1 q
   ·exact (f3 b hb).2.2.1 q
  ·rw [HR] at hp;exact (f3 b hb).2.2.2.2.2 p hp
 generalize hX:bM X N' scope s3.heap.objs.size s3 (upd H2 s2.heap.objs.size (.lst [])) fp pins=X' at I4 turn stat;have eP:X'.prog=X.prog:=by rw [<- hX];rfl
 have eW:X'.w=X.w:=by rw [<- hX];rfl
 have eK:X'.K=X.K:=by rw [<- hX];rfl
 have eA:X'.A=X.A:=by rw [<- hX];rfl
 have eC:X'.calm=true:=by rw [<- hX];exact hc
 have eE:X'.env=compEnvC scope (gm scope.names X.env.cells []) s3.heap.objs.size X.env:=by rw [<- hX];rfl
 have eX:X'.xe=λ_ _=>False:=by rw [<- hX];rfl
 have loop:codeAny (model X.prog X.w) X.A (.compLoop (.ListComp elt [⟨target,iter,ifs,0⟩] scope pos) 0 (.ref it) (.ref s2.heap.objs.size) (compEnvC scope (gm scope.names X.env.cells []) s3.heap.objs.size X.env))
   (RR (.ref s2.heap.objs.size) s3.heap.objs.size) { s3 with heap:=h1,toks:=s3.toks + ([]:List (Str×Value)).length }:=by
  refine qp (λn s'=>∃i σ' H',Inv X' [] σ' H' s'/\tn i s'.heap/\(∀b∈fp,H' b=none)/\W i n σ' H') ?_ m0 ⟨0,_,_,I4,st4,fr3,w0⟩
  rintro n s5 ⟨i,σ5,H5,I5,st5,fr5,w5⟩;rcases turn i n σ5 H5 w5 with ⟨stop,q⟩|⟨go,step⟩
  ·have:=T.done X' eP eW eK eC i [] s5 σ5 H5 (λ_ _=>False) I5 (stat fr5) st5 stop;rw [eA] at this;refine bK this λr s6 ⟨hr,I6⟩=>?_;subst hr;obtain⟨m,hm,_⟩:=id I6.loc;rw [eE] at hm;have fre:H5 s3.heap.objs.size=none:=by have z:=I6.free;rw [eE] at z;exact z
   refine hRR _ _ H5 s6 m q hm fre (Nat.ne_of_gt I3.lt) I3.sz (λx c e z=>?_) (λp hp z=>?_) λh' hsb'=>?_
   ·obtain⟨v,w⟩:=I3.cell x c e;exact absurd w.lt (by rw [z];exact Nat.lt_irrefl _)
   ·exact absurd (Ho (I3.pin p hp).1) (by rw [z];exact Nat.lt_irrefl _)
   ·rw [<- hX] at I6;exact yN I3 f3 I6 hsb'
  ·have:=T.item X' eP eW eK eC i [] s5 σ5 H5 (λ_ _=>False) I5 (stat fr5) st5 go;rw [eA] at this;refine bK this λr s6 ⟨u,hr,h6⟩=>?_;subst hr;refine bK h6 λ_ s7 hq0=>?_;obtain⟨x,H7,I7,r7,y7,st7,fr7⟩:=hq0;have I7':=I7.pinned (stat fr7) (T.obj _ _ st7);have g7:=step x H7 y7 _ s7 u I7' r7;rw [eP,eW,eA,eE,eX] at g7;refine bK g7 λ_ s8 ⟨σ8,H8,I8,q8⟩=>?_;have t8:=q8 _ s8 I8;rw [eP,eW,eA,eE] at t8;refine bK t8 λok s9 ⟨H9,I9,q9⟩=>?_
   have back:∀{σz:St} {Hz:Hp} {sz:Shared} {m':Nat},Inv X' ([] ++ nC fp s7.heap) σz Hz sz->m' < n->W (i + 1) m' σz Hz->∃m,m < n/\∃i σ' H',Inv X' [] σ' H' sz/\tn i sz.heap/\(∀b∈fp,H' b=none)/\W i m σ' H':=λ{σz Hz sz m'} Iz hm wz=>by
    refine⟨m',hm,i + 1,σz,Hz,Iz.j5,T.keep _ _ _ st7 λb hb o e=>(Iz.pin (b,o) (HP _ (HP _ (gu hb e)))).1,λb hb=>?_,wz⟩;obtain⟨o,e,d⟩:=T.obj _ _ st7 b hb;exact (Iz.pin (b,o) (HP _ (HP _ (gu hb e)))).2.1
   cases ok with
   | false =>
    obtain⟨m',hm,w9⟩:=q9
    exact back I9 hm w9
   | true =>
    have e9:=q9 _ s9 I9;rw [eP,eW,eA,eE,eX] at e9;refine bK e9 λuy s10 hq0=>?_;obtain⟨y,H10,I10,r10,ys,hys,hl,m',hm,w10⟩:=hq0;have ap:=kS (X:=X') _ s10 σ8 H10 (.ref s2.heap.objs.size) [y] (.ref s2.heap.objs.size) [uy] (λ_ H'=>H'=upd H10 s2.heap.objs.size (.lst (ys ++ [y]))) I10 rfl (.cons r10 .nil) ⟨_,ys,y,rfl,rfl,hys,hl,rfl⟩;rw [eP,eW,eA,eX] at ap;refine bK ap λ_ s11 hq0=>?_;obtain⟨_,H11,I11,_,q11⟩:=hq0
    have q11':H11=upd H10 s2.heap.objs.size (.lst (ys ++ [y])):=q11;subst q11';exact back I11 hm w10
 exact codeAny_compStart_list loop (T.self _ _ _ _ _ st4 loop)
theorem vF {elt target iter:Expr} {ifs:List Expr} {pos:Pos} {wi:TI} (hc:X.calm=true) (hi:PI X target iter wi) (O:cm X N' nt ix scope) (hs:∀x,HW iter X.env x=pure x:=by intro _;rfl) :
  PE X (.ListComp elt [⟨target,iter,ifs,0⟩] scope pos) (Bs X N' nt ix scope elt target ifs wi):=by
 intro pins s σ H Q I h;rw [eval_ListComp];refine wpAny_comprehension_free (use:=none) rfl hs (O.bS I) O.kind O.names ?_;refine bK (hi pins s σ H _ I h) λv s1 h1=>bK h1 λitv s2 h2=>?_;refine se (Q:=Q) (RR:=λacc C=>compPost (model X.prog X.w) X.A X.xe none (EP X pins σ Q) acc C) hc O h2 (λJ H1 z=>z) ?_;intro a C H' s6 m q hm _ _ _ _ _ hI;exact⟨m,hm,λh' hsb=>⟨.ref a,H',hI h' hsb,rfl,q⟩⟩
theorem uH {elt target iter:Expr} {ifs:List Expr} {pos spos py:Pos} {y:Str} {i:Nat} {wi:TI} (hc:X.calm=true) (hi:PI X target iter wi) (O:cm X N' nt ix scope) (hN:X.N.Nodup) (hy:X.N[i]?=some y) (hx:Loc X.env.scope y)
  (hsw:swapsWith (.ListComp elt [⟨target,iter,ifs,0⟩] scope pos) (some (.Name y py)) spos.line X.env=pure true)
  (hf:X.fn y=true\/X.env.scope.names.lookup y=some .local) (hs:∀x,HW iter X.env x=pure x:=by intro _;rfl) :
  PS X (.Assign [.Name y py] (.ListComp elt [⟨target,iter,ifs,0⟩] scope pos) spos) (λD=>λσ H=>Bs X N' nt ix scope elt target ifs wi σ H λv H'=>D.nx (σ.set i (some v)) H'):=by
 intro pins s σ H D I h;rw [exec_Assign_Name_used _ _ _ _ hsw];refine G8 (wpAny_standAt (G8 ?_));show wpAny _ X.A (do let _ <- comprehension (.ListComp elt [⟨target,iter,ifs,0⟩] scope pos) scope X.env _ (newList []) false (eval iter X.env) (some (assign (.Name y py) X.env))) _ _ s
 refine G8 (HE (wpAny_comprehension_free (use:=some (assign (.Name y py) X.env)) (Q:=λ_ s'=>SP X pins D .next s') rfl hs (O.bS I) O.kind O.names ?_) (λ_ s' hq=>Hd (Hd hq)) λ_ _ e=>e);refine bK (hi pins s σ H _ I h) λv s1 h1=>bK h1 λitv s2 h2=>?_;refine se (Q:=λv H'=>D.nx (σ.set i (some v)) H') (RR:=λacc C=>compPost (model X.prog X.w) X.A X.xe (some (assign (.Name y py) X.env)) (λ_ s'=>SP X pins D .next s') acc C) hc O h2 (λJ H1 z=>z) ?_
 intro a C H' s6 m q hm hC n1 n2 n3 n4 hI;have I6:Inv X pins σ H' s6:=hI s6.heap (.refl ..);show wpAny _ X.A (assign (.Name y py) X.env (.ref a)) _ _ _
 refine wpAny_assign_Name (pw I6 hN hy hx (v:=.ref a) rfl (λs7 I7 hsame=>?_) hf);obtain⟨b,hb,hbx⟩:=hsame
 have hne:C≠b:=by
  rcases hbx with e|e
  ·rw [e];exact n1
  ·exact Ne.symm (n3 y b e)
 refine⟨m,hm.sameBut hb hne,λh' hsb=>⟨_,H',?_,q⟩⟩;exact I7.turned (t':=s7.toks) (λc o hc' e=>(hsb.2 c hc').trans e) hC n1 (.inr n2) n3 n4
end
def dR (nt:Nat) (ix:List Nat) (env:En):En:=List.replicate nt none ++ ix.map λi=>match env[i]? with
 | some (some (.d x))=>some (.d x)
 | _=>none
theorem d8 {nt:Nat} {ix:List Nat} {env:En} (i:Nat) (ys:List D):(dR nt ix env)[i]?≠some (some (.own ys)):=λq=>by
 unfold dR at q
 by_cases hj:i < nt
 ·rw [Hw (by simpa using hj),HI] at q
  split at q <;> cases q
 ·rw [Hu (by simpa using hj),Hi] at q
  cases e:ix[i - (List.replicate nt (none:Option Lo)).length]? with
  | none=>rw [e] at q;cases q
  | some k =>
   rw [e] at q;simp only [Option.map_some,Option.some.injEq] at q
   split at q <;> cases q
theorem dY {nt:Nat} {ix:List Nat} {env:En} (i:Nat) (ys:List (D×D)):(dR nt ix env)[i]?≠some (some (.dic ys)):=λq=>by
 unfold dR at q
 by_cases hj:i < nt
 ·rw [Hw (by simpa using hj),HI] at q
  split at q <;> cases q
 ·rw [Hu (by simpa using hj),Hi] at q
  cases e:ix[i - (List.replicate nt (none:Option Lo)).length]? with
  | none=>rw [e] at q;cases q
  | some k =>
   rw [e] at q;simp only [Option.map_some,Option.some.injEq] at q
   split at q <;> cases q
def Base.here (F H:Hp):Base:=⟨F,H,λp=>H p≠none/\F p=none,λ_ h=>h.1⟩
theorem zU {K:Ha} {B:Base} {F H:Hp} {σ:St} {env:En} {nt:Nat} {ix:List Nat} {a:Addr} {o:HO} (r:Rep K B F H σ env) (ha:H a=none):Rep K (Base.here F H) F (upd H a o) (sC nt ix σ) (dR nt ix env):=by
 refine⟨aq.refl _,r.fh.trans (aY ha),aY ha,λp h=>h.2,λj x q=>?_,λj ys q=>(d8 j ys q).elim,λi j xs ys p _ q=>(d8 i xs q).elim,λj ys q=>(dY j ys q).elim,λi j xs ys p _ q=>(dY i xs q).elim⟩;unfold dR at q
 by_cases hj:j < nt
 ·rw [Hw (by simpa using hj),HI] at q
  split at q <;> cases q
 ·rw [Hu (by simpa using hj),Hi,List.length_replicate] at q
  cases e:ix[j - nt]? with
  | none=>rw [e] at q;cases q
  | some k =>
   rw [e] at q;simp only [Option.map_some,Option.some.injEq] at q
   split at q
   ·rename_i x' h';cases q;obtain⟨v,h1,h2⟩:=r.dv k x h';refine⟨v,?_,h2⟩;unfold sC;rw [Hu (by simpa using hj),Hi,List.length_replicate,e];simp only [Option.map_some,h1,Option.join];rfl
   ·cases q
theorem Rep.here {K:Ha} {B:Base} {F H:Hp} {σ:St} {env:En} (r:Rep K B F H σ env) (no:∀(i:Nat) ys,env[i]?≠some (some (.own ys))) (no':∀(i:Nat) ys,env[i]?≠some (some (.dic ys))):Rep K (Base.here F H) F H σ env :=
 ⟨aq.refl _,r.fh,aq.refl _,λp h=>h.2,r.dv,λi ys q=>(no i ys q).elim,λi j xs ys p _ q=>(no i xs q).elim,λi ys q=>(no' i ys q).elim,λi j xs ys p _ q=>(no' i xs q).elim⟩
theorem Rep.there {K:Ha} {B:Base} {F H F' H':Hp} {σ:St} {env eU:En} (r:Rep K (Base.here F H) F' H' σ env) (f0:aq B.F F) (h0:aq B.H H) (nf:∀p,B.N p->F p=none) (he:∀(i:Nat) l,eU[i]?=some (some l)->env[i]?=some (some l)) (no:∀(i:Nat) ys,eU[i]?≠some (some (.own ys))) (no':∀(i:Nat) ys,eU[i]?≠some (some (.dic ys))):Rep K B F' H' σ eU:=by
 refine⟨f0.trans r.f0,r.fh,h0.trans r.h0,λp hp=>?_,λi x q=>r.dv i x (he i _ q),λi ys q=>(no i ys q).elim,λi j xs ys p _ q=>(no i xs q).elim,λi ys q=>(no' i ys q).elim,λi j xs ys p _ q=>(no' i xs q).elim⟩;refine r.nf p ⟨λz=>?_,nf p hp⟩;have q:=B.nb p hp
 cases w:B.H p with
 | none=>exact q w
 | some o=>rw [h0 _ _ w] at z;cases z
structure pE (K:Ha) (J:It) (F1:Hp) (xs:List D):Prop where
 go:∀(i:Nat) (G H':Hp),aq F1 G->aq G H'->i < xs.length->J.go i H'
 yld:∀(i:Nat) (G H':Hp) (y:V) (H'':Hp) (x:D),aq F1 G->aq G H'->xs[i]?=some x->J.yld i H' y H''->H''=H'/\Den K G x y
 stop:∀(G H':Hp),aq F1 G->aq G H'->J.stop xs.length H'
theorem uN {K:Ha} {F1:Hp} {a:Addr} {vs:List V} {xs:List D} (q:dE K F1 a vs) (r:ak K F1 xs vs):pE K (Fu K a) F1 xs where
 go:=λi G H' s1 s2 hi=>by
  have:i < vs.length:=by rw [<- r.length];exact hi
  exact⟨vs,vs[i],s2.seq (s1.seq q),by simp [this]⟩
 yld:=λi G H' y H'' x s1 s2 hx hy=>by
  obtain⟨v,h1,h2⟩:=r.get hx;obtain⟨e1,e2⟩:=hy;have:=e2 vs (s2.seq (s1.seq q));rw [h1] at this;cases this;exact⟨e1,Den.mono s1 _ _ h2⟩
 stop:=λG H' s1 s2=>⟨vs,s2.seq (s1.seq q),by rw [r.length];exact Hl _⟩
theorem xa {K:Ha} {F1:Hp} {a:Addr} {vs:List V} {xs:List D} (q:gw K F1 a vs) (r:ak K F1 xs vs):pE K (Fz K a) F1 xs where
 go:=λi G H' s1 s2 hi=>by
  have:i < vs.length:=by rw [<- r.length];exact hi
  exact⟨vs,vs[i],aq.bR s2 (aq.bR s1 q),by simp [this]⟩
 yld:=λi G H' y H'' x s1 s2 hx hy=>by
  obtain⟨v,h1,h2⟩:=r.get hx;obtain⟨e1,e2⟩:=hy;have:=e2 vs (aq.bR s2 (aq.bR s1 q));rw [h1] at this;cases this;exact⟨e1,Den.mono s1 _ _ h2⟩
 stop:=λG H' s1 s2=>⟨vs,aq.bR s2 (aq.bR s1 q),by rw [r.length];exact Hl _⟩
theorem wQ {K:Ha} {F1:Hp} {z:Str}:pE K (Fb z) F1 (jt z) where
 go:=λi G H' s1 s2 hi=>by
  show i < z.cps.size
  simpa [jt] using hi
 yld:=λi G H' y H'' x s1 s2 hx hy=>by
  obtain⟨e1,c,hc,rfl⟩:=hy;unfold jt at hx;rw [Hi,Ii,hc] at hx;cases hx;exact⟨e1,kc⟩
 stop:=λG H' s1 s2=>by
  show z.cps.size<=_
  simp [jt]
theorem ma {K:Ha} {F1:Hp} {lo:Int} {n:Nat}:pE K (yD lo n) F1 (aM lo n) where
 go:=λi G H' s1 s2 hi=>by
  have:i < n:=by simpa [aM] using hi
  exact this
 yld:=λi G H' y H'' x s1 s2 hx hy=>by
  obtain⟨e1,e2⟩:=hy
  have hi:i < n:=by
   have:=(G7.mp hx).1
   simpa [aM] using this
  have:(aM lo n)[i]?=some (D.int (lo + (i:Int))):=by simp [aM,hi]
  rw [this] at hx;cases hx;exact⟨e1,by rw [e2];exact aZ⟩
 stop:=λG H' s1 s2=>by
  have:(aM lo n).length=n:=by simp [aM]
  rw [this];exact Hl n
def comps (tt:TB) (te:TD) (eU:En) (Q:List D->Prop):List D->List D->Prop
 | [],acc=>Q acc
 | x :: xs,acc=>tt (eU.set 0 (some (.d x))) λok=>if ok=true then te (eU.set 0 (some (.d x))) λy=>acc.length < sizeLine/\comps tt te eU Q xs (acc ++ [y]) else comps tt te eU Q xs acc
structure uL (X:Cx) (ifs:List Expr) (t:TB):Prop where
 of ::
 run:∀(B:Base) (σ:St) (F H:Hp) (env:En) (Q:Bool->Prop),Rep X.K B F H σ env->t env Q->zu X ifs σ H (RB X B σ env F Q)
instance {X:Cx} {ifs:List Expr} {t:TB}:CoeFun (uL X ifs t) (λ_=>∀(B:Base) (σ:St) (F H:Hp) (env:En) (Q:Bool->Prop),Rep X.K B F H σ env->t env Q->zu X ifs σ H (RB X B σ env F Q)):=⟨uL.run⟩
def cD:TB:=λ_ Q=>Q true
section
variable {X:Cx}
theorem ey:uL X [] cD:=⟨λB σ F H env Q rp h pins s I=>wpAny_tests_nil ⟨H,I,F,rp,aq.refl _,h⟩⟩
variable {N':List Str} {nt:Nat} {ix:List Nat} {scope:Scope} {elt iter a b:Expr} {ifs:List Expr} {x:Str} {px pos:Pos} {tt:TB} {te ti:TD} {ts:eD}
theorem kZ (hN:N'.Nodup) (h0:N'[0]?=some x) (hx:(relabel scope X.env).names.lookup x=some .local)
  (ht:∀C s H fp pins,uL (bM X N' scope C s H fp pins) ifs tt) (he:∀C s H fp pins,QE (bM X N' scope C s H fp pins) elt te)
  {B:Base} {σ:St} {F F1 H1:Hp} {env:En} {Q:List D->Prop} {J:It} {xs:List D} (sF:aq F F1) (r1:Rep X.K B F1 H1 σ env) (S:pE X.K J F1 xs) (q1:comps tt te (dR 1 ix env) Q xs []) :
  ∀(a C:Addr) (s:Shared) (fp:List Addr) (pins:List (Addr×Obj)),H1 a=none ->
   ∃W:Nat->Nat->St->Hp->Prop,(∃m,W 0 m (sC 1 ix σ) (upd H1 a (.lst [])))/\∀i m σ' H',W i m σ' H'->(J.stop i H'/\RF X B σ env F Q (.ref a) H')\/(J.go i H'/\∀y H2,J.yld i H' y H2 ->
    wG (bM X N' scope C s (upd H1 a (.lst [])) fp pins) (.Name x px) y σ' H2 λσ2 H3=>zu (bM X N' scope C s (upd H1 a (.lst [])) fp pins) ifs σ2 H3 λok H4=>if ok=true then
     wE (bM X N' scope C s (upd H1 a (.lst [])) fp pins) elt σ2 H4 λy H5=>∃ys,H5 a=some (.lst ys)/\ys.length < sizeLine/\∃m',m' < m/\W (i + 1) m' σ2 (upd H5 a (.lst (ys ++ [y])))
     else ∃m',m' < m/\W (i + 1) m' σ2 H4):=by
 intro a C s fp pins ha;have hF1a:F1 a=none:=r1.l9 ha
 refine⟨λi m σ' H'=>m=xs.length - i/\i<=xs.length/\∃(F':Hp) (acc:List D) (ys:List V),Rep X.K (Base.here F1 H1) F' H' σ' (dR 1 ix env)/\H' a=some (.lst ys)/\F' a=none/\ak X.K F' acc ys/\comps tt te (dR 1 ix env) Q (xs.drop i) acc,
  ⟨xs.length,by simp,HU _,F1,[],[],zU r1 ha,ao,hF1a,aI,by simpa using q1⟩,?_⟩
 rintro i m σ2 H2 ⟨rfl,hi2,F2,acc,ys,r2,hys,hFa,hd,q2⟩;have sH:aq H1 H2:=r2.h0
 by_cases hlt:i < xs.length
 ·have hxi:xs[i]?=some xs[i]:=by simp [hlt]
  rw [drop_cons hxi] at q2;refine .inr ⟨S.go i F2 H2 r2.f0 r2.fh hlt,λy H3 hy=>?_⟩;obtain⟨eH,dy⟩:=S.yld i F2 H2 y H3 xs[i] r2.f0 r2.fh hxi hy;subst eH;have r2':=r2.here d8 dY;have g:=aR (X:=bM X N' scope C s (upd H1 a (.lst [])) fp pins) (pos:=px) 0 hN h0 (.inl hx) (.inr hx);refine fv (g (Base.here F2 H3) σ2 F2 H3 (dR 1 ix env) (λe=>e=(dR 1 ix env).set 0 (some (.d xs[i]))) xs[i] y r2' dy rfl) λσ3 H4 hq0=>?_
  obtain⟨F4,env4,r4,s4,q4⟩:=hq0;subst q4;intro pins' s' I';refine HE (ht C s (upd H1 a (.lst [])) fp pins (Base.here F2 H3) σ3 F4 H4 _ _ r4 q2 pins' s' I') (λok s5 ⟨H5,I5,F5,r5,s5',q5⟩=>⟨H5,I5,?_⟩) λ_ _ e=>e
  have weak':∀(j:Nat) l,(dR 1 ix env)[j]?=some (some l)->((dR 1 ix env).set 0 (some (.d xs[i])))[j]?=some (some l):=λj l hj=>by
   have hj0:j≠0:=λz=>by
    subst z;simp [dR] at hj
   rw [G9 (Ne.symm hj0)];exact hj
  cases ok with
  | false =>
   have q5':comps tt te (dR 1 ix env) Q (xs.drop (i + 1)) acc:=q5
   refine⟨xs.length - (i + 1),by omega,rfl,by omega,F5,acc,ys,r5.there r2.f0 sH (λp hp=>r2.nf p hp) weak' d8 dY,r5.h0 _ _ hys,r5.nf a ⟨by rw [hys];simp,hFa⟩,ak.mono r5.f0 _ _ hd,q5'⟩
  | true =>
   have q5':te ((dR 1 ix env).set 0 (some (.d xs[i]))) λy=>acc.length < sizeLine/\comps tt te (dR 1 ix env) Q (xs.drop (i + 1)) (acc ++ [y]):=q5;refine aD (he C s (upd H1 a (.lst [])) fp pins (Base.here F2 H3) σ3 F5 H5 _ _ r5 q5') λz H6 hq0=>?_;obtain⟨F6,d,r6,s6,d6,hl,q6⟩:=hq0;have ha6:H6 a=some (.lst ys):=r6.h0 _ _ hys;have hF6:F6 a=none:=r6.nf a ⟨by rw [hys];simp,hFa⟩;refine⟨ys,ha6,by rw [<- hd.length];exact hl,xs.length - (i + 1),by omega,rfl,by omega,F6,acc ++ [d],ys ++ [z],?_,ao,hF6,(ak.mono r6.f0 _ _ hd).append (aH d6 aI),q6⟩
   have r7:Rep X.K (Base.here F1 H1) F6 H6 σ3 (dR 1 ix env):=r6.there r2.f0 sH (λp hp=>r2.nf p hp) weak' d8 dY;refine⟨r7.f0,λb o hb=>?_,λb o hb=>?_,r7.nf,r7.dv,λj zs q=>(d8 j zs q).elim,r7.ne,λj zs q=>(dY j zs q).elim,r7.nm⟩
   ·have:b≠a:=λw=>by subst w;rw [hF6] at hb;cases hb
    rw [aj this];exact r7.fh _ _ hb
   ·have:b≠a:=λw=>by subst w;have hb':H1 b=some o:=hb;rw [ha] at hb';cases hb'
    rw [aj this];exact r7.h0 _ _ hb
 ·have e:i=xs.length:=by omega
  subst e;rw [Ib (Hl _)] at q2;refine .inl ⟨S.stop F2 H2 r2.f0 r2.fh,F2,λb=>if b=a then none else H2 b,a,ys,acc,rfl,if_pos rfl,?_,?_,sF.trans r2.f0,hd,q2⟩
  ·funext b;unfold upd
   by_cases z:b=a
   ·rw [if_pos z,z];exact hys
   ·rw [if_neg z];show H2 b=if b=a then none else H2 b
    rw [if_neg z]
  ·refine r1.ext r2.f0 (λb o hb=>?_) (λb o hb=>?_) λp h1 h2=>r2.nf p ⟨h1,h2⟩
   ·have:b≠a:=λw=>by subst w;rw [hFa] at hb;cases hb
    show (if b=a then none else H2 b)=_
    rw [if_neg this];exact r2.fh _ _ hb
   ·have:b≠a:=λw=>by subst w;rw [ha] at hb;cases hb
    show (if b=a then none else H2 b)=_
    rw [if_neg this];exact sH _ _ hb
theorem RF.rv {B:Base} {σ:St} {env:En} {F:Hp} {Q:D->Prop} {v:V} {H:Hp} (h:RF X B σ env F (λds=>Q (.lst ds)) v H):RV X B σ env F Q v H:=by
 obtain⟨F',H1,p,vs,ds,rfl,hp,rfl,r,s,hd,q⟩:=h;exact (RV.yd r hd q p hp).weaken s
def de (ts:eD):TD:=λenv Q=>ts env λds=>Q (.lst ds)
theorem QF.e {e:Expr} {ts:eD} (h:QF X e ts):QE X e (de ts):=⟨λB σ F H env Q rp hq=>aD (h B σ F H env _ rp hq) λv H' z=>z.rv⟩
def fM (ix:List Nat) (ti:TD) (tt:TB) (te:TD):eD:=λenv Q=>ti env λd=>∃xs,ef d=some xs/\comps tt te (dR 1 ix env) Q xs []
theorem xQ {B:Base} {σ:St} {F H:Hp} {env:En} {P:List D->Prop} {R:It->Hp->Prop} (hi:QE X iter ti) (rp:Rep X.K B F H σ env) (h:ti env λd=>∃xs,ef d=some xs/\P xs)
  (hR:∀(J:It) (F1 H1:Hp) (xs:List D),Rep X.K B F1 H1 σ env->aq F F1->pE X.K J F1 xs->P xs->R J H1):Ew X.K (wE X iter) σ H R:=by
 refine aD (hi B σ F H env _ rp h) λv H1 hq0=>?_;obtain⟨F1,d,r1,s1,d1,xs,hx,q1⟩:=hq0
 cases d with
 | lst ys =>
  simp only [ef] at hx;cases hx;simp only [Den] at d1;obtain⟨a,vs,rfl,q,r⟩:=d1
  exact .inl ⟨a,rfl,.inl ⟨⟨vs,r1.fh.seq q⟩,hR _ F1 H1 _ r1 s1 (uN q r) q1⟩⟩
 | tup ys =>
  simp only [ef] at hx;cases hx;simp only [Den] at d1;obtain⟨a,vs,rfl,q,r⟩:=d1
  exact .inl ⟨a,rfl,.inr ⟨⟨vs,aq.bR r1.fh q⟩,hR _ F1 H1 _ r1 s1 (xa q r) q1⟩⟩
 | str z =>
  simp only [ef] at hx;cases hx;simp only [Den] at d1;subst d1
  exact .inr ⟨z,rfl,hR _ F1 H1 _ r1 s1 wQ q1⟩
 | _=>simp only [ef] at hx;cases hx
theorem iB (hc:X.calm=true) (O:cm X N' 1 ix scope) (hN:N'.Nodup) (h0:N'[0]?=some x) (hx:(relabel scope X.env).names.lookup x=some .local) (hi:QE X iter ti)
  (ht:∀C s H fp pins,uL (bM X N' scope C s H fp pins) ifs tt) (he:∀C s H fp pins,QE (bM X N' scope C s H fp pins) elt te) (hs:∀x,HW iter X.env x=pure x:=by intro _;rfl) :
  QF X (.ListComp elt [⟨.Name x px,iter,ifs,0⟩] scope pos) (fM ix ti tt te):=by
 refine⟨?_⟩;intro B σ F H env Q rp h;refine bX (vF hc (zw bF) O hs) ?_;exact xQ hi rp h λJ F1 H1 xs r1 s1 S q=>kZ hN h0 hx ht he s1 r1 S q
def fQ (f:List D->(Int->Nat->Prop)->Prop) (ix:List Nat) (ts:eD) (tt:TB) (te:TD):eD:=λenv Q=>ts env λxs=>f xs λlo n=>comps tt te (dR 1 ix env) Q (aM lo n) []
theorem xk {p pos2:Pos} (hc:X.calm=true) (O:cm X N' 1 ix scope) (hN:N'.Nodup) (h0:N'[0]?=some x) (hx:(relabel scope X.env).names.lookup x=some .local) (hgl:Gl X "range") (hm:X.mg "range" = none) (ha:QA X [a] ts)
  (ht:∀C s H fp pins,uL (bM X N' scope C s H fp pins) ifs tt) (he:∀C s H fp pins,QE (bM X N' scope C s H fp pins) elt te) (hst:starEach [a] X.env=[(false,eval a X.env)]:=by rfl)
  (hs:∀x,HW (.Call (.Name "range" p) [a] [] pos2) X.env x=pure x:=by intro _;rfl) :
  QF X (.ListComp elt [⟨.Name x px,.Call (.Name "range" p) [a] [] pos2,ifs,0⟩] scope pos) (fQ iV ix ts tt te):=by
 refine⟨?_⟩;intro B σ F H env Q rp h;refine bX (vF hc (iA hgl hm gR hst) O hs) ?_;refine bV (ha B σ F H env _ rp h) λvs H1 hq0=>?_;obtain⟨F1,ds,r1,s1,d1,q1⟩:=hq0
 (try dsimp only at q1);unfold iV at q1
 split at q1
 ·simp only [ak,Den] at d1;obtain⟨v,r,rfl,rfl,rfl⟩:=d1;exact⟨_,rfl,q1.1.1,q1.1.2,kZ hN h0 hx ht he s1 r1 ma q1.2⟩
 ·exact q1.elim
end
section
variable {X:Cx} {a b c e:Expr} {es:List Expr} {ta tb tc:TD} {tA tB':TB} {ts:eD} {p p2 pos:Pos} {rest:List Expr}
theorem EJ (hm:X.mg "abs" = none) (ha:QA X [e] ts) (hg:Gl X "abs":=by rfl) (he:starEach [e] X.env=(false,eval e X.env) :: starEach [] X.env:=by exact aJ rfl):QE X (.Call (.Name "abs" p) [e] [] pos) (aB xM ts) :=
 gq yu CJ hg hm wc ha (he:=he)
theorem hV (hm:X.mg "len" = none) (ha:QA X [e] ts) (hg:Gl X "len":=by rfl) (he:starEach [e] X.env=(false,eval e X.env) :: starEach [] X.env:=by exact aJ rfl):QE X (.Call (.Name "len" p) [e] [] pos) (aB gF ts) :=
 gq (j7.or pQ) Dp hg hm o6 ha (he:=he)
theorem ER (hm:X.mg "max" = none) (ha:QA X [a,b] ts) (hg:Gl X "max":=by rfl) (hc:X.calm=true:=by rfl) (he:starEach [a,b] X.env=(false,eval a X.env) :: starEach [b] X.env:=by exact aJ rfl) (hpl:(backTo pos (starEach [b] X.env)).any (·.1)=false:=by rfl):QE X (.Call (.Name "max" p) [a,b] [] pos) (aB zz ts) :=
 gq (wd hc) Ds hg hm wa ha (he:=he) (hpl:=hpl)
theorem Ee (hm:X.mg "min" = none) (ha:QA X [a,b] ts) (hg:Gl X "min":=by rfl) (hc:X.calm=true:=by rfl) (he:starEach [a,b] X.env=(false,eval a X.env) :: starEach [b] X.env:=by exact aJ rfl) (hpl:(backTo pos (starEach [b] X.env)).any (·.1)=false:=by rfl):QE X (.Call (.Name "min" p) [a,b] [] pos) (aB yM ts) :=
 gq (xj hc) CN hg hm wH ha (he:=he) (hpl:=hpl)
theorem EY (hm:X.mg "all" = none) (ha:QA X [e] ts) (hg:Gl X "all":=by rfl) (hc:X.calm=true:=by rfl) (he:starEach [e] X.env=(false,eval e X.env) :: starEach [] X.env:=by exact aJ rfl):QE X (.Call (.Name "all" p) [e] [] pos) (aB Az ts) :=
 gq (ym hc) C0 hg hm xt ha (he:=he)
theorem vL (hm:X.mg "int" = none) (ha:QA X [e] ts) (hg:Gl X "int":=by rfl) (he:starEach [e] X.env=(false,eval e X.env) :: starEach [] X.env:=by exact aJ rfl):QE X (.Call (.Name "int" p) [e] [] pos) (aB pU ts) :=
 rV wX Dl hg hm oY ha (he:=he)
theorem b9 (hm:X.mg "tuple" = none) (ha:QA X [e] ts) (hg:Gl X "tuple":=by rfl) (he:starEach [e] X.env=(false,eval e X.env) :: starEach [] X.env:=by exact aJ rfl):QE X (.Call (.Name "tuple" p) [e] [] pos) (aB cH ts) :=
 rV oS xS hg hm fD ha (he:=he)
def Ah (n:String) (x:D) (Q:D->Prop):Prop:=∃k,AQ (DP x) n=some k/\Q (.bl k)
def kX (n:String) (ta:TD):TD:=λenv Q=>ta env λx=>Ah n x Q
theorem vd {n:Str} {m:String} (hm:X.mg "isinstance" = none) (ht:X.mg n=none) (hb:bootBuiltins n=some (.type m)) (ha:QE X a ta) (hg:Gl X "isinstance":=by rfl) (hg2:Gl X n:=by rfl) (hn:n≠"__name__":=by decide) (hd:(n == ("__debug__" : Str))=false:=by decide)
  (he:starEach [a,.Name n p2] X.env=(false,eval a X.env) :: starEach [.Name n p2] X.env:=by exact aJ rfl) (hpl:(backTo pos (starEach [.Name n p2] X.env)).any (·.1)=false:=by rfl)
  (he2:starEach [.Name n p2] X.env=(false,eval (.Name n p2) X.env) :: starEach [] X.env:=by exact aJ rfl):QE X (.Call (.Name "isinstance" p) [a,.Name n p2] [] pos) (kX m ta):=by
 have h:=gq (p:=p) (pos:=pos) zm BX hg hm pC (ae ha (ae (GN hg2 ht hb hn hd) ah he2) he) (he:=he) (hpl:=hpl);exact⟨λB σ F H env Q rp hq=>h B σ F H env Q rp hq⟩
variable {N':List Str} {nt:Nat} {ix:List Nat} {scope:Scope} {elt iter:Expr} {ifs:List Expr} {x:Str} {px py spos:Pos} {tt:TB} {te ti:TD}
theorem cm.of (sc:Scope) (hsc:X.env.scope=sc) (kind:scope.kind=.function) (nocell:∀x∈scope.names,x.2≠.cell) (names:∀x∈scope.names,x.2=.local->scope.names.lookup x.1=some .local)
  (free:∀x∈scope.names,x.2=.free->sc.names.lookup x.1=some .cell)
  (caps:∀(j:Nat) (i:Nat),ix[j]?=some i->∃x,N'[nt + j]?=some x/\X.N[i]?=some x/\(x,NameKind.free)∈scope.names/\(relabel scope X.env).names.lookup x=some .cell) (len:N'.length=nt + ix.length):cm X N' nt ix scope :=
 ⟨kind,nocell,names,by rw [hsc];exact free,caps,len⟩
end
def Base.guard (B:Base) (p:Addr) (o:HO):Base:=⟨B.F,upd B.H p o,λa=>a=p\/B.N a,λa h=>by
 by_cases e:a=p
 ·subst e;rw [ao];simp
 ·rw [aj e];exact B.nb a (h.resolve_left e)⟩
section
variable {K:Ha} {B:Base} {F H:Hp} {σ:St} {env:En} {p:Addr} {o o':HO}
theorem Rep.guarded (r:Rep K B F H σ env) (hp:H p=none):Rep K (B.guard p o) F (upd H p o) σ env where
 f0:=r.f0
 fh:=r.fh.trans (aY hp)
 h0:=λb u q=>by
  by_cases e:b=p
  ·subst e;rw [ao];have q':upd B.H b o b=some u:=q;rw [ao] at q';exact q'
  ·rw [aj e];have q':upd B.H p o b=some u:=q;rw [aj e] at q';exact r.h0 _ _ q'
 nf:=λa h=>by
  rcases h with rfl|h
  ·exact r.l9 hp
  ·exact r.nf a h
 dv:=r.dv
 ov:=λi xs h=>by
  obtain⟨q,vs,h1,h2,h3,h4,h5⟩:=r.ov i xs h;have ne:q≠p:=λe=>by subst e;rw [hp] at h2;cases h2
  exact⟨q,vs,h1,by rw [aj ne];exact h2,h3,by show upd B.H p o q=none;rw [aj ne];exact h4,h5⟩
 ne:=r.ne
 mv:=λi xs h=>by
  obtain⟨q,ep,us,vs,h1,h2,h3,h4,h5⟩:=r.mv i xs h;have ne:q≠p:=λe=>by subst e;rw [hp] at h2;cases h2
  exact⟨q,ep,us,vs,h1,by rw [aj ne];exact h2,h3,by show upd B.H p o q=none;rw [aj ne];exact h4,h5⟩
 nm:=r.nm
theorem Rep.gD (r:Rep K (B.guard p o) F H σ env) (hb:B.H p=none):Rep K B F H σ env/\H p=some o/\F p=none:=by
 refine⟨⟨r.f0,r.fh,λb u q=>r.h0 b u ?_,λa h=>r.nf a (.inr h),r.dv,λi xs h=>?_,r.ne,λi xs h=>?_,r.nm⟩,r.h0 p o ao,r.nf p (.inl rfl)⟩
 ·show upd B.H p o b=some u
  have:b≠p:=λe=>by subst e;rw [hb] at q;cases q
  rw [aj this];exact q
 ·obtain⟨q,vs,h1,h2,h3,h4,h5⟩:=r.ov i xs h;have h4':upd B.H p o q=none:=h4;have ne:q≠p:=λe=>by subst e;rw [ao] at h4';cases h4'
  rw [aj ne] at h4';exact⟨q,vs,h1,h2,h3,h4',h5⟩
 ·obtain⟨q,ep,us,vs,h1,h2,h3,h4,h5⟩:=r.mv i xs h;have h4':upd B.H p o q=none:=h4;have ne:q≠p:=λe=>by subst e;rw [ao] at h4';cases h4'
  rw [aj ne] at h4';exact⟨q,ep,us,vs,h1,h2,h3,h4',h5⟩
end
section
variable {X:Cx} {a b:Expr} {ta tb:TD} {pos:Pos}
end
section
variable {X:Cx} {e:Expr} {ts:eD} {pos:Pos}
end
theorem bL.at {P:Program} {w:World} {H:Hp} {h:Heap} {a:Addr} {o:HO} (x:bL P w H h a o):∃ob,h.get? a=some ob:=by
 cases o with
 | lst xs=>obtain⟨_,_,_,_,e⟩:=x;exact⟨_,e⟩
 | tup xs=>obtain⟨_,_,_,ob,e,_⟩:=x;exact⟨_,e⟩
 | dK kvs=>obtain⟨_,_,_,_,o,_,_,e,_⟩:=x;exact⟨_,e⟩
 | dT kvs=>obtain⟨_,_,_,_,o,_,_,e,_⟩:=x;exact⟨_,e⟩
 | set S n=>obtain⟨o,_,_,_,e,_⟩:=x;exact⟨_,e⟩
 | ins C dx fs=>obtain⟨_,_,_,e,_⟩:=x;exact⟨_,e⟩
 | own y=>exact x
 | xd fs=>obtain⟨_,⟨_,_,_,e,_⟩,_⟩:=x;exact⟨_,e⟩
 | rng lo hi=>obtain⟨_,_,_,e⟩:=x;exact⟨_,e⟩
 | frz ob u=>obtain⟨e,_⟩:=x;exact⟨_,e⟩
 | pL ps=>obtain⟨_,e,_⟩:=x;exact⟨_,e⟩
 | cdr c q=>exact x.1
 | met f y=>exact⟨_,(show h.get? a=some _ from x)⟩
 | ext φ=>obtain⟨_,⟨_,e⟩,_⟩:=x;exact⟨_,e⟩
def hG (H:Hp) (h0 h:Heap) (a:Addr) (cls:Value) (dd:Option Addr):Prop:=h0.get? a=none/\H a=none/\∃oe vs,h.get? a=some oe/\oe.cls=cls/\oe.dict=dd/\oe.data=.fields vs /\
 (vs[1]?=some .none\/∃T oT ts,vs[1]?=some (.ref T)/\h0.get? T=none/\H T=none/\T≠a/\h.get? T=some oT/\oT.data=.fields ts/\ts[3]?=some .none)
abbrev yW (H:Hp) (h0 h:Heap) (a:Addr) (cls:Value):Prop:=hG H h0 h a cls none
theorem hG.Bz {H:Hp} {g h0 h:Heap} {a:Addr} {cls:Value} {dd:Option Addr} (x:hG H h0 h a cls dd) (k:∀b o,g.get? b=some o->∃o',h0.get? b=some o'):hG H g h a cls dd:=by
 have none_:∀b,h0.get? b=none->g.get? b=none:=λb e=>by
  cases q:g.get? b with
  | none=>rfl
  | some o=>obtain⟨o',e'⟩:=k b o q;rw [e] at e';cases e'
 obtain⟨n,f,oe,vs,he,hc,hdc,hd,z⟩:=x;refine⟨none_ a n,f,oe,vs,he,hc,hdc,hd,?_⟩;rcases z with z|⟨T,oT,ts,h1,h2,h3⟩
 ·exact .inl z
 ·exact .inr ⟨T,oT,ts,h1,none_ T h2,h3⟩
def BC (P:Program) (w:World):xW:=λouter H s E e s'=>∃(a:Addr) (C:Value) (dd:Option Addr) (H':Hp),e=.ref a/\s'.os=s.os/\AllBare s'.gens/\Un (jx outer) [] H H' s.heap s'.heap/\kA P w H' s'.heap/\hG H' s.heap s'.heap a C dd/\E C dd H'
theorem mU {M:Model} {A:Around} {E:Value->Shared->Prop} {s:Shared} {base:Heap} {env:Env} {outer:List Env} {L x:Addr} {ox:Obj} {fs:Array Value} {hd0:Value} {nx0:Bool} {Q:Unit->Shared->Prop}
  (hA:A.frames=some (env :: outer)) (ff:s.heap.FunFrames base (env :: outer)) (hL:env.frame=some L) (hx:s.heap.get? x=some ox) (hdx:ox.data=.fields fs) (h2:1 < fs.size)
  (k:∀h' T oT ts,(∀b o,s.heap.get? b=some o->b≠x->b∉jx (env :: outer)->h'.get? b=some o)->(∀b o,s.heap.get? b=some o->b∈jx (env :: outer)->∃sl,h'.get? b=some { o with slots:=sl }) ->
   h'.get? x=some (ox.mapFields (·.setIfInBounds 1 (.ref T)))->s.heap.get? T=none->T≠x->h'.get? T=some oT->oT.data=.fields ts->ts[3]?=some .none->Q () { s with heap:=h' }) :
  wpAny M A (do let a <- frameOf env;let pl <- entryPlaceOf L nx0;let b <- EntryCells.newEntry hd0 a .none (rawInt L) .none pl;setField (.ref x) 1 b) (λ_ s'=>wpAny M A (setFlight (.ref x) none) Q E s') E s:=by
 have xnf:x∉jx (env :: outer):=λz=>by
  obtain⟨_,o,e,nf⟩:=ff.mem z;rw [hx] at e;cases e;exact nf fs hdx
 refine G8 (wpAny_frameOf_fun hA ff hL λg so=>?_);refine G8 (wpAny_entryPlaceOf λpl ipl=>?_);unfold EntryCells.newEntry newFields;refine G8 (wpAny_newObj_type ?_ (ipl.sizeOk5 _ _ _ _ _));have gx:g.get? x=some ox:=(so.2.1 x xnf).trans hx;generalize hno:({ cls:=.type "traceback",dict:=none,data:=.fields ([hd0,.ref L,.none,rawInt L,.none] ++ (if pl.isEmpty then List.replicate 6 Value.none else pl)).toArray }:Obj)=no
 have nod:no.data=.fields ([hd0,.ref L,.none,rawInt L,.none] ++ (if pl.isEmpty then List.replicate 6 Value.none else pl)).toArray:=by rw [<- hno]
 have nofree:no.isFreed=false:=Obj.isFreed_of_fields nod;have gx1:(g.push no).get? x=some ox:=Hf no gx;have gT1:(g.push no).get? g.objs.size=some no:=Hs g nofree;have Tx:g.objs.size≠x:=λz=>absurd (Ho gx) (by rw [z];exact Nat.lt_irrefl _);refine wpAny_setField gx1 hdx h2 ?_;have dx2:=Obj.data_mapFields hdx (·.setIfInBounds 1 (Value.ref g.objs.size));have gx2:=Heap.get?_update_self (Obj.mapFields (·.setIfInBounds 1 (Value.ref g.objs.size))) gx1 (Obj.isFreed_of_fields dx2)
 have gT2:((g.push no).update x (Obj.mapFields (·.setIfInBounds 1 (Value.ref g.objs.size)))).get? g.objs.size=some no:=(Heap.get?_update_other _ _ (Ne.symm Tx)).trans gT1;unfold setFlight;refine G8 (wpAny_field gx2 dx2 (x:=.ref g.objs.size) (by simp [h2]) ?_);rw [if_pos (show (Value.ref g.objs.size != Value.none)=true from by simp)]
 have sz3:3 < ([hd0,.ref L,.none,rawInt L,.none] ++ (if pl.isEmpty then List.replicate 6 Value.none else pl)).toArray.size:=by
  simp only [Hr,HH,HY,Ij];omega
 refine wpAny_setField gT2 nod sz3 ?_
 have oth:∀b,b≠x->b≠g.objs.size->(((g.push no).update x (Obj.mapFields (·.setIfInBounds 1 (Value.ref g.objs.size)))).update g.objs.size (Obj.mapFields (·.setIfInBounds 3 ((none:Option Addr).elim Value.none λf=>rawInt f)))).get? b=(g.push no).get? b:=λb b1 b2=>by
  rw [Heap.get?_update_other _ _ (Ne.symm b2),Heap.get?_update_other _ _ (Ne.symm b1)]
 have ne_g:∀b o,g.get? b=some o->b≠g.objs.size:=λb o e z=>absurd (Ho e) (by rw [z];exact Nat.lt_irrefl _);have Tn:s.heap.get? g.objs.size=none:=Heap.get?_none_of_le (by rw [so.1];exact Hl _);refine k _ g.objs.size _ _ (λb o e b1 b2=>?_) (λb o e b2=>?_) ?_ Tn Tx (Heap.get?_update_self _ gT2 (Obj.isFreed_of_fields (Obj.data_mapFields nod _))) (Obj.data_mapFields nod _) ?_
 ·have e1:g.get? b=some o:=(so.2.1 b b2).trans e;rw [oth b b1 (ne_g b o e1)];exact Hf no e1
 ·obtain⟨sl,e1⟩:=so.2.2 b o e;have b1:b≠x:=λz=>xnf (z▸b2);exact⟨sl,by rw [oth b b1 (ne_g b _ e1)];exact Hf no e1⟩
 ·rw [Heap.get?_update_other _ _ Tx];exact gx2
 ·simp [Array.getElem?_setIfInBounds]
theorem nZ (o:Obj) (f:Array Value->Array Value):(o.mapFields f).dict=o.dict:=by
 obtain⟨c,d,dt,sl⟩:=o;cases dt <;> rfl
theorem x6 {M:Model} {P:Program} {w:World} {A:Around} {env:Env} {outer:List Env} {base:Heap} {H0 H1:Hp} {h0:Heap} {s1:Shared} {a:Addr} {C:Value} {dd:Option Addr} {L:Addr} {Q:Unit->Shared->Prop} {E:Value->Shared->Prop}
  (hfr:A.frames=some (env :: outer)) (hf:env.frame=some L) (FF:s1.heap.FunFrames base (env :: outer)) (ff:∀b∈jx (env :: outer),H1 b=none) (hok:kA P w H1 s1.heap)
  (un:Un (jx (env :: outer)) [] H0 H1 h0 s1.heap) (Fl:hG H1 h0 s1.heap a C dd)
  (h:∀h',Un (jx (env :: outer)) [] H0 H1 h0 h'->kA P w H1 h'->hG H1 h0 h' a C dd->Q () { s1 with heap:=h' }) :
  wpAny M A (noteFrame (.ref a) env) (λ_ s'=>wpAny M A (setFlight (.ref a) none) Q E s') E s1:=by
 obtain⟨n0,na,oe,vs,he,hc,hdc,hd,z⟩:=Fl
 have hsz:1 < vs.size:=by
  rcases z with z|⟨T,oT,ts,h1,_⟩
  ·exact (HZ.mp z).1
  ·exact (HZ.mp h1).1
 have core:∀(hid:List Addr) (h1:Heap),a∈hid->(∀b∈hid,h0.get? b=none/\H1 b=none)->(∀b o,s1.heap.get? b=some o->b∉hid->h1.get? b=some o)->(∀b,h1.get? b=none->s1.heap.get? b=none) ->
   ∀h' T oT ts,(∀b o,h1.get? b=some o->b≠a->b∉jx (env :: outer)->h'.get? b=some o)->(∀b o,h1.get? b=some o->b∈jx (env :: outer)->∃sl,h'.get? b=some { o with slots:=sl }) ->
   h'.get? a=some (oe.mapFields (·.setIfInBounds 1 (.ref T)))->h1.get? T=none->T≠a->h'.get? T=some oT->oT.data=.fields ts->ts[3]?=some .none->Q () { s1 with heap:=h' }:=by
  intro hid h1 ha hids hkeep hnone h' T oT ts k1 k2 k3 hTn hTa hT hdT h3;have keepN:∀b o,s1.heap.get? b=some o->b∉hid->b∉jx (env :: outer)->h'.get? b=some o:=λb o e nb nf=>k1 b o (hkeep b o e nb) (λz=>nb (z▸ha)) nf;have frn:∀b∈jx (env :: outer),∀o,h0.get? b=some o->b∉hid:=λb _ o e z=>by rw [(hids b z).1] at e;cases e
  have hs:=hnone T hTn;refine h h' ⟨λb o e n hb hx=>?_,λb o e n hb hx=>?_,un.free,λb o e hx=>?_,un.tups,un.frzs,un.tbls⟩ (λb u e=>?_) ?_
  ·exact keepN b o (un.keep b o e n hb hx) (λz=>by rw [(hids b z).1] at e;cases e) hb
  ·obtain⟨s2,e2⟩:=un.slot b o e n hb hx;obtain⟨s3,e3⟩:=k2 b _ (hkeep b _ e2 (frn b hb o e)) hb;exact⟨s3,e3⟩
  ·obtain⟨o',e'⟩:=un.there b o e hx;have nb:b∉hid:=λz=>by rw [(hids b z).1] at e;cases e
   by_cases hb:b∈jx (env :: outer)
   ·obtain⟨s3,e3⟩:=k2 b o' (hkeep b o' e' nb) hb;exact⟨_,e3⟩
   ·exact⟨o',keepN b o' e' nb hb⟩
  ·refine (hok b u e).mn (λc v hc q=>?_) (λ_ q=>q) (λ_ _ q=>q) λ_ _ _ q=>q
   have hcn:H1 c≠none:=by
    rcases hc with z|z
    ·rw [z,e];simp
    ·rw [z];simp
   exact keepN c v q (λz=>hcn (hids c z).2) (λz=>hcn (ff c z))
  ·refine⟨n0,na,_,_,k3,(Obj.cls_mapFields _ _).trans hc,(nZ _ _).trans hdc,Obj.data_mapFields hd _,.inr ⟨T,oT,ts,by simp [hsz],?_,?_,hTa,hT,hdT,h3⟩⟩
   ·cases q:h0.get? T with
    | none=>rfl
    | some o=>obtain⟨o',e'⟩:=un.there T o q (by simp);rw [hs] at e';cases e'
   ·cases q:H1 T with
    | none=>rfl
    | some u=>obtain⟨ob,e'⟩:=bL.at (hok T u q);rw [hs] at e';cases e'
 rcases z with z|⟨T,oT,ts,h1,hT0,hTn,hTa,hT,hdT,h3⟩
 ·
  unfold noteFrame;simp only [hf];refine G8 (wpAny_field he hd z ?_);rw [if_neg (by decide)];exact mU hfr FF hf he hd hsz (core [a] s1.heap (by simp) (λb hb=>by rw [HA.mp hb];exact⟨n0,na⟩) (λb o e _=>e) (λb e=>e))
 ·
  unfold noteFrame;simp only [hf];refine G8 (wpAny_field he hd h1 ?_);rw [if_pos (show (Value.ref T != Value.none)=true from by simp)];refine G8 (wpAny_field hT hdT h3 ?_);rw [if_neg (show ¬ ((Value.none == rawInt L)=true) from by simp [rawInt])];refine G8 (wpAny_setField hT hdT (HZ.mp h3).1 ?_);have other:∀b,b≠T->(s1.heap.update T (Obj.mapFields (·.setIfInBounds 3 Value.none))).get? b=s1.heap.get? b:=λb hb=>Heap.get?_update_other _ _ (Ne.symm hb)
  have noRec:∀b o,s1.heap.get? b=some o->(∀vs,o.data≠.fields vs)->b≠T:=λb o hb hnf q=>by
   subst q;rw [hT] at hb;cases hb;exact hnf ts hdT
  refine mU (s:={ s1 with heap:=s1.heap.update T (Obj.mapFields (·.setIfInBounds 3 Value.none)) }) hfr (FF.of_keeps λb o hb hnf=>⟨o,(other b (noRec b o hb hnf)).trans hb,rfl⟩) hf ((other a (Ne.symm hTa)).trans he) hd hsz ?_;refine core [a,T] _ (by simp) (λb hb=>?_) (λb o e nb=>?_) (λb e=>?_)
  ·rcases Hx.mp hb with z|hb
   ·subst z;exact⟨n0,na⟩
   ·rw [HA.mp hb];exact⟨hT0,hTn⟩
  ·rwa [other b (λz=>nb (by simp [z]))]
  ·by_cases z:b=T
   ·subst z;have:=Heap.get?_update_self (Obj.mapFields (·.setIfInBounds 3 Value.none)) hT (Obj.isFreed_of_fields (Obj.data_mapFields hdT _));rw [this] at e;cases e
   ·rwa [other b z] at e
def c7 (X:Cx) (pins:List (Addr×Obj)) (σ:St) (H':Hp) (a:Addr) (C:Value) (dd:Option Addr) (s':Shared):Prop:=∃(Hc:Hp) (sc:Shared),Inv X pins σ Hc sc/\s'.os=sc.os/\AllBare s'.gens/\Un (jx X.stack) [] Hc H' sc.heap s'.heap/\kA X.prog X.w H' s'.heap/\hG H' sc.heap s'.heap a C dd
abbrev gZ (X:Cx) (pins:List (Addr×Obj)) (σ:St) (H':Hp) (a:Addr) (C:Value) (s':Shared):Prop:=c7 X pins σ H' a C none s'
section
variable {X:Cx} {pins:List (Addr×Obj)} {σ:St} {H H':Hp} {a:Addr} {C:Value} {dd:Option Addr} {s s':Shared}
theorem c7.inv (t:c7 X pins σ H' a C dd s'):Inv X pins σ H' s':=by
 obtain⟨Hc,sc,I,os,bare,un,hok,fl⟩:=t;exact I.yO os un hok bare λb z=>absurd z (by simp)
theorem gZ.made {vs:List Value} {h':Heap} {e:Addr} (I:Inv X pins σ H s) (m:Heap.MadeExcOf s.heap h' e C vs):gZ X pins σ H e C { s with heap:=h' }:=by
 obtain⟨t,ht,_⟩:=m.there
 have hn:H e=none:=by
  cases q:H e with
  | none=>rfl
  | some u=>obtain⟨ob,z⟩:=bL.at (I.hok e u q);rw [m.new] at z;cases z
 exact⟨H,s,I,rfl,I.bare,Un.kept m.keeps,I.hok.kept m.keeps,m.new,hn,_,_,ht,rfl,rfl,rfl,.inl rfl⟩
theorem c7.note {Q:Unit->Shared->Prop} {E:Value->Shared->Prop} (t:c7 X pins σ H' a C dd s') (hst:X.stack=X.env :: X.outer) (hf:X.env.frame=some X.env.locals)
  (h:∀s'',c7 X pins σ H' a C dd s''->Q () s''):wpAny (model X.prog X.w) X.A (noteFrame (.ref a) X.env) (λ_ s=>wpAny (model X.prog X.w) X.A (setFlight (.ref a) none) Q E s) E s':=by
 have I':=t.inv;obtain⟨Hc,sc,I,os,bare,un,hok,fl⟩:=t;have hfr:=I'.ok.frames;have FF:=I'.stack;have ff:=I'.mG;rw [hst] at hfr FF ff un;refine x6 hfr hf FF ff hok un fl λh' un' hok' fl'=>h _ ⟨Hc,sc,I,os,bare,by rw [hst];exact un',hok',fl'⟩
theorem c7.leave {P:Program} {w:World} {K:Ha} {mg:Str->Option Value} {base:Heap} {N:List Str} {qual:Str} {scope:Scope} {f:Addr} {cd:Value} {A:Around} {outer:List Env} {s0:Shared} {H0:Hp} {E:XK}
  (t:c7 (gM (BC P w) P w K mg base N qual scope f cd A outer s0 H0 E) pins σ H' a C dd s') (q:E C dd H'):(gM (BC P w) P w K mg base N qual scope f cd A outer s0 H0 E).xe (.ref a) s':=by
 show wpAny (model P w) _ (leaving _ (.ref a)) _ _ s'
 unfold leaving;refine G8 (t.note rfl rfl λs'' t''=>?_);have I:=t''.inv;obtain⟨Hc,sc,Ic,os,bare,un,hok,fl⟩:=t'';refine⟨a,C,dd,H',rfl,I.os,I.bare,I.base,I.hok,fl.Bz λb o e=>?_,q⟩;exact Ic.base.there b o e (by show b∉([]:List Addr);simp)
end
structure tu extends Ends3 where
 xc:Str->Prop
abbrev sr:=tu->En->Prop
def XZ (X:Cx) (B:Base) (xc:Str->Prop):Value->Shared->Prop:=λex s'=>∃(pins:List (Addr×Obj)) (a:Addr) (c:Str) (C:Value) (σ':St) (H' F':Hp) (env':En),ex=.ref a/\gZ X pins σ' H' a C s'/\Rep X.K B F' H' σ' env'/\X.mg c=some C/\xc c
structure QZ (X:Cx) (st:Stmt) (t:sr):Prop where
 of ::
 run:∀(B:Base) (σ:St) (F H:Hp) (env:En) (D:tu),Rep X.K B F H σ env->t D env->wS (X.bU (XZ X B D.xc)) st (RS X B D.toEnds3) σ H
structure Ea (X:Cx) (st:List Stmt) (t:sr):Prop where
 of ::
 run:∀(B:Base) (σ:St) (F H:Hp) (env:En) (D:tu),Rep X.K B F H σ env->t D env->wSs (X.bU (XZ X B D.xc)) st (RS X B D.toEnds3) σ H
section
variable {X:Cx} {c e:Expr} {es:List Expr} {st:Stmt} {sts xs ys:List Stmt} {t u:bG} {p q:sr} {tc:TB} {te:TD} {ts:eD} {pos:Pos}
theorem SP.tW {E E':Value->Shared->Prop} {pins:List (Addr×Obj)} {D:Ends} {f:Flow} {s':Shared} (h:SP (X.bU E) pins D f s'):SP (X.bU E') pins D f s':=by
 cases f with
 | next=>obtain⟨σ',H',I,q⟩:=h;exact⟨σ',H',I.a9.bU _,q⟩
 | brk=>obtain⟨σ',H',I,q⟩:=h;exact⟨σ',H',I.a9.bU _,q⟩
 | cont=>obtain⟨σ',H',I,q⟩:=h;exact⟨σ',H',I.a9.bU _,q⟩
 | ret u=>obtain⟨v,σ',H',I,r,q⟩:=h;exact⟨v,σ',H',I.a9.bU _,r,q⟩
theorem CK {E:Value->Shared->Prop} {D:Ends} {σ:St} {H:Hp} (h:wS X.pq st D σ H):wS (X.bU E) st D σ H:=λpins s I =>
 HE (h pins s (I.a9.bU _)) (λ_ _ q=>SP.tW q) λ_ _ z=>False.elim z
theorem A4 {E:Value->Shared->Prop} {D:Ends} {σ:St} {H:Hp} (h:wSs X.pq sts D σ H):wSs (X.bU E) sts D σ H:=λpins s I =>
 HE (h pins s (I.a9.bU _)) (λ_ _ q=>SP.tW q) λ_ _ z=>False.elim z
theorem yG {E:Value->Shared->Prop} {Q:Bool->Hp->Prop} {σ:St} {H:Hp} (h:wT X.pq c σ H Q):wT (X.bU E) c σ H Q:=λpins s I =>
 HE (h pins s (I.a9.bU _)) (λ_ _ ⟨H',I',q⟩=>⟨H',I'.a9.bU _,q⟩) λ_ _ z=>False.elim z
theorem Cz {E:Value->Shared->Prop} {Q:VK} {σ:St} {H:Hp} (h:wE X.pq e σ H Q):wE (X.bU E) e σ H Q:=λpins s I =>
 HE (h pins s (I.a9.bU _)) (λ_ _ ⟨v,H',I',r,q⟩=>⟨v,H',I'.a9.bU _,r,q⟩) λ_ _ z=>False.elim z
theorem xN {E:Value->Shared->Prop} {Q:List V->Hp->Prop} {σ:St} {H:Hp} (h:wA X.pq es σ H Q):wA (X.bU E) es σ H Q:=λpos pins s I =>
 HE (h pos pins s (I.a9.bU _)) (λ_ _ ⟨v,H',I',r,q⟩=>⟨v,H',I'.a9.bU _,r,q⟩) λ_ _ z=>False.elim z
def tO (t:bG):sr:=λD env=>t D.toEnds3 env
theorem j8 (h:QS X.pq st t):QZ X st (tO t):=⟨λB σ F H env D r hq=>CK (h B σ F H env D.toEnds3 r hq)⟩
theorem B6 (h:mB X.pq sts t):Ea X sts (tO t):=⟨λB σ F H env D r hq=>A4 (h B σ F H env D.toEnds3 r hq)⟩
def jz (t u:sr):sr:=λD env=>t { D with nx:=u D } env
theorem v3 (h:QZ X st p):Ea X [st] p:=⟨λB σ F H env D rp hq=>gB (mF rH) (h.run B σ F H env D rp hq)⟩
def DK (c:TB) (t u:sr):sr:=λD env=>c env λk=>if k=true then t D env else u D env
theorem Fc (hc:QT X.pq c tc) (ha:Ea X xs p) (hb:Ea X ys q):QZ X (.If c xs ys pos) (DK tc p q):=by
 refine⟨λB σ F H env D rp h=>cQ (BA oP cR cR) ?_⟩;refine fN (yG (hc B σ F H env _ rp h)) λk H1 ⟨F1,r1,s1,q1⟩=>?_
 cases k with
 | true=>exact ha.run B σ F1 H1 env D r1 q1
 | false=>exact hb.run B σ F1 H1 env D r1 q1
theorem Ba {K:Ha} {h:Heap} {C:Addr} {bmB:List Value} {newId:String} (X:K.In h) (q:PySem.W.excIn K C bmB newId=true) :
  ∃bm N nm qn bs hdct sn sub ab col dd k0 k1 k2 k3 k5 mN,h.get? C=some (excClassObj nm qn C N bs bm hdct sn sub ab col dd k0 k1 k2 k3 k5 newId)/\h.Ns N mN/\mN "__init__" = none/\OwnTail h bmB bm:=by
 unfold PySem.W.excIn at q
 split at q
 ·rename_i dd cd sl ho
  split at q
  ·rename_i C' bm k0 k1 k2 k3 n k5 hm hs;simp only [Bool.and_eq_true,beq_iff_eq,Bool.not_eq_true'] at q;obtain⟨⟨⟨⟨⟨rfl,rfl⟩,hdel⟩,ht⟩,hok⟩,hni⟩:=q;obtain⟨nm,bs,mro,ns,qn,hd,sn,sub,ab,col,del⟩:=cd;dsimp only at hm hdel hok hni;subst hm hdel
   have hsl:sl=#[k0,k1,k2,k3,some (.builtin n),k5]:=by
    obtain⟨l⟩:=sl;simp only at hs;rw [hs]
   subst hsl;exact⟨bm,ns,nm,qn,bs,hd,sn,sub,ab,col,dd,k0,k1,k2,k3,k5,_,X _ _ ho,.of_isNs (PySem.W.isNs_of_in X hok),PySem.W.nsMap_none_of_in X hok hni,PySem.W.tail_of_in X ht⟩
  ·cases q
 ·cases q
abbrev Bv (K:Ha) (C:Addr):Bool:=PySem.W.excIn K C [.type "ValueError",.type "Exception",.type "BaseException",.type "object"] "ValueError.__new__"
def jd (cx:Str) (ts:eD):sr:=λD env=>ts env λxs=>xs.length<=sizeLine/\D.xc cx
theorem yn {cx:Str} {C:Addr} {np cpos:Pos} (hC:X.mg cx=some (.ref C)) (hq:Bv X.K C=true) (hc:X.calm=true) (ha:QA X.pq [e] ts) (hg:Gl X cx:=by rfl) (hdb:(cx == ("__debug__" : Str))=false:=by decide)
  (he:starEach [e] X.env=(false,eval e X.env) :: starEach [] X.env:=by exact aJ rfl) (hplain:(backTo cpos (starEach ([]:List Expr) X.env)).any (·.1)=false:=by rfl) :
  QZ X (.Raise (some (.Call (.Name cx np) [e] [] cpos)) none pos) (jd cx ts):=by
 refine⟨λB σ F H env D rp h pins s I=>?_⟩;have I0:=I.a9;obtain⟨bm,N,nm,qn,bs,hdct,sn,sub,ab,col,dd,k0,k1,k2,k3,k5,mN,hCo,hN,hni,T⟩:=Ba I0.ok.mod.kin hq
 refine wpAny_Raise_call_subT (C:=C) (nm:=nm) (q:=qn) (N:=N) (bs:=bs) (bm:=bm) (hdct:=hdct) (sn:=sn) (sub:=sub) (ab:=ab) (col:=col) (dd:=dd) (k0:=k0) (k1:=k1) (k2:=k2) (k3:=k3) (k5:=k5)
  PySem.F.excBase_ValueError (mN:=mN) (T.hasType (by decide +kernel)) (I0.ok.hd hc) (by rw [he];show (false || (backTo cpos (starEach [] X.env)).any (·.1))=false;rw [hplain];rfl) hni (fK I hg hC ⟨rfl,?_⟩ hdb)
 have hw:=xN (E:=XZ X B D.xc) (ha B σ F H env _ rp h) cpos pins s I;rw [he] at hw ⊢;refine Calls.evalArgs_plain (HE hw (λus s2 ⟨vs,H2,I2,rv,F2,ds,r2,s2',d2,hl,q2⟩=>⟨rfl,?_,?_,?_,?_,λh' e' m=>?_⟩) λ_ _ y=>y)
 ·show us.length<=sizeLine
  rw [<- rv.length,<- d2.length];exact hl
 ·exact I2.bk _ _ hCo
 ·exact hN.keeps I2.bk
 ·exact T.keeps I2.bk
 ·exact⟨pins,e',cx,.ref C,σ,H2,F2,env,rfl,gZ.made I2.a9 m,r2,hC,q2⟩
end
abbrev xu:=List D->(D->Prop)->(Str->Prop)->Prop
def Gz (K:Ha) (mg:Str->Option Value) (f:xu):Sp:=λvs H Q E=>∃(F:Hp) (ds:List D) (P:D->Prop) (R:Str->Prop),aq F H/\ak K F ds vs/\f ds P R /\
 (∀(d:D) (v:V) (F' H':Hp),aq F F'->aq H H'->aq F' H'->(∀p,H p≠none->F p=none->F' p=none)->Den K F' d v->P d->Q v H') /\
 ∀(c:Str) (C:Value) (F' H':Hp),aq F F'->aq H H'->aq F' H'->(∀p,H p≠none->F p=none->F' p=none)->mg c=some C->R c->E C none H'
structure gG (P:Program) (w:World) (K:Ha) (mg:Str->Option Value) (base:Heap) (k:Nat) (x:Str) (f:xu):Prop where
 ex:∃(fa:Addr) (fd:FuncData) (ps:List Str),nN P w K mg base (BC P w) k fa fd ps (Gz K mg f)/\mg x=some (.ref fa)/\PySem.W.keepIn K (.ref fa)=true/\Binds K fd ps []
section
variable {P:Program} {w:World} {K:Ha} {mg:Str->Option Value} {base:Heap}
end
abbrev TX:=En->(D->Prop)->(Str->Prop)->Prop
def XX (X:Cx) (pins:List (Addr×Obj)) (σ:St) (B:Base) (env:En) (R:Str->Prop):Value->Shared->Prop:=λex s'=>∃(a:Addr) (c:Str) (C:Value) (H' F':Hp),ex=.ref a/\gZ X pins σ H' a C s'/\Rep X.K B F' H' σ env/\X.mg c=some C/\R c
structure QX (X:Cx) (e:Expr) (t:TX):Prop where
 of ::
 run:∀(B:Base) (σ:St) (F H:Hp) (env:En) (Q:D->Prop) (R:Str->Prop),Rep X.K B F H σ env->t env Q R->∀(pins:List (Addr×Obj)) (s:Shared),Inv X pins σ H s ->
  wpAny (model X.prog X.w) X.A (eval e X.env) (EP X pins σ (RV X B σ env F Q)) (XX X pins σ B env R) s
def kD (f:xu) (ts:eD):TX:=λenv Q R=>ts env λxs=>f xs Q R
section
variable {X:Cx} {e:Expr} {es:List Expr} {ts:eD} {tx:TX} {p pos:Pos} {x:Str} {k:Nat} {f:xu}
theorem zQ (h:gG X.prog X.w X.K X.mg X.base k x f) (hr:cI k X.A) (ha:QA X.pq (e :: es) ts) (hg:Gl X x:=by rfl) (hdb:(x == ("__debug__" : Str))=false:=by decide)
  (he:starEach (e :: es) X.env=(false,eval e X.env) :: starEach es X.env:=by exact aJ rfl) (hpl:(backTo pos (starEach es X.env)).any (·.1)=false:=by rfl):QX X (.Call (.Name x p) (e :: es) [] pos) (kD f ts):=by
 refine⟨λB σ F H env Q R rp hq pins s I=>?_⟩;obtain⟨fa,fd,ps,G,hm,hk,hb⟩:=h.ex;refine wpAny_Call_Name_kw (fK I hg hm ?_ hdb);have hw:=xN (E:=XX X pins σ B env R) (ha B σ F H env _ rp hq) pos pins s (I.bU _);refine PySem.W.callWith_K (h₀:=X.base) I.ok.mod.kin hk (bK hw λus s1 ⟨vs,H1,I1,r,F1,ds,r1,s1',d1,hf⟩=>⟨I1.oh,?_⟩) he hpl;have I1':=I1.a9
 have hsp:Gz X.K X.mg f (vs ++ []) H1 (RV X B σ env F Q) (λC dd H'=>dd=none/\∃(c:Str) (F':Hp),Rep X.K B F' H' σ env/\X.mg c=some C/\R c):=by
  rw [HR];exact⟨F1,ds,Q,R,r1.fh,d1,hf,λd v F' H' a b c n hd q=>⟨F',d,r1.ext a c b n,s1'.trans a,hd,q⟩,λc C F' H' a b c' n hm hx=>⟨rfl,c,F',r1.ext a c' b n,hm,hx⟩⟩
 have hl:(us ++ []).length=ps.length:=by
  have:=G.len _ _ _ _ hsp;rw [HR] at this ⊢;rw [<- r.length];exact this
 refine wpAny_call (codeAny_mono (G.run X.A X.stack s1 H1 ⟨us,[]⟩ (us ++ []) (vs ++ []) _ _ hr I1'.eU (hb s1 us I1'.oh hl) (by simpa using r) hsp) λrs s' hq'=>?_)
 cases rs with
 | error ex =>
  obtain⟨a,C,dd,H',rfl,os,bare,un,hok,fl,rfl,c,F',r',hm',hx⟩:=hq'
  exact⟨a,c,C,H',F',rfl,⟨H1,s1,I1',os,bare,un,hok,fl⟩,r',hm',hx⟩
 | ok fl =>
  cases fl with
  | ret u=>exact I1'.after hq'
  | next=>exact False.elim hq'
  | brk=>exact False.elim hq'
  | cont=>exact False.elim hq'
theorem QX.w (h:QX X e tx) {B:Base} {σ:St} {F H:Hp} {env:En} {Q:D->Prop} {R:Str->Prop} (rp:Rep X.K B F H σ env) (hq:tx env Q R):wE (X.bU (XZ X B R)) e σ H (RV X B σ env F Q):=λpins s I =>
 HE (h.run B σ F H env Q R rp hq pins s I.a9) (λ_ _ ⟨v,H',I',r,q⟩=>⟨v,H',I'.bU _,r,q⟩) λex s' ⟨a,c,C,H',F',e,t,r,m,x⟩=>⟨pins,a,c,C,σ,H',F',env,e,t,r,m,x⟩
def xg (tx:TX):sr:=λD env=>tx env D.rt D.xc
theorem B8 (h:QX X e tx):QZ X (.Return (some e) pos) (xg tx):=by
 refine⟨λB σ F H env D rp hq=>cQ (zE bF) ?_⟩;exact aD (h.w rp hq) λv H' ⟨F',d,r',s',hd,q⟩=>⟨F',d,r'.bare,hd,q⟩
end
section
variable {X:Cx} {pins:List (Addr×Obj)} {σ:St} {H H':Hp} {a:Addr} {s s':Shared}
theorem yW.ext {a C:Addr} {h:Heap} {H:Hp} {h0:Heap} (f:yW H h0 h a (.ref C)):excAt a C h:=by
 obtain⟨_,_,oe,vs,he,hc,hdc,hdt,_⟩:=f;exact⟨oe,vs,he,hc,hdc,hdt⟩
end
section
variable {X:Cx} {pins:List (Addr×Obj)} {σ:St} {H H':Hp} {a C:Addr} {s s':Shared}
theorem gZ.BQ (t:gZ X pins σ H' a (.ref C) s'):H' a=none/\Inv X pins σ (upd H' a (.ext (excAt a C))) s':=by
 obtain⟨Hc,sc,I,os,bare,un,hok,fl⟩:=t;have x:=yW.ext fl;obtain⟨n0,na,_⟩:=fl;refine⟨na,I.yO os ⟨un.keep,un.slot,λb o e n hx=>?_,un.there,λb xs e=>?_,λb o u e=>?_,λb ps e=>?_⟩ (λb u e=>?_) bare λb z=>absurd z (by simp)⟩
 ·have:b≠a:=λz=>by subst z;rw [n0] at e;cases e
  rw [aj this];exact un.free b o e n hx
 ·have q:=un.tups b xs e;rw [aj (bc q na)];exact q
 ·have q:=un.frzs b o u e;rw [aj (bc q na)];exact q
 ·have q:=un.tbls b ps e;rw [aj (bc q na)];exact q
 ·by_cases z:b=a
  ·subst z;rw [ao] at e;cases e;obtain⟨o,vs,h1,h2⟩:=x;exact⟨⟨o,vs,h1,h2⟩,⟨o,h1⟩,λh h' ⟨o,vs,h1,h2⟩ k=>⟨o,vs,k o h1,h2⟩⟩
  ·rw [aj z] at e;exact (hok b u e).mn (λ_ _ _ q=>q) (λc q=>by rw [aj (bc q na)];exact q) (λc xs q=>by rw [aj (bc q na)];exact q) λc o xs q=>by rw [aj (bc q na)];exact q
theorem c7.land {M:Model} {A:Around} {C:Value} {dd:Option Addr} {Q:Unit->Shared->Prop} {E:Value->Shared->Prop} (t:c7 X pins σ H' a C dd s') (h:∀s'',c7 X pins σ H' a C dd s''->Q () s''):wpAny M A (setFlight (.ref a) none) Q E s':=by
 obtain⟨Hc,sc,I,os,bare,un,hok,n0,na,oe,vs,he,hc,hdc,hd,z⟩:=t;rcases z with z|⟨T,oT,ts,h1,hT0,hTn,hTa,hT,hdT,h3⟩
 ·unfold setFlight;refine G8 (wpAny_field he hd z ?_);rw [if_neg (by decide)];exact Hd (h _ ⟨Hc,sc,I,os,bare,un,hok,n0,na,oe,vs,he,hc,hdc,hd,.inl z⟩)
 ·refine wpAny_setFlight_none he hd h1 hT hdT (HZ.mp h3).1 (h _ ?_);have other:∀b,b≠T->(s'.heap.update T (Obj.mapFields (·.setIfInBounds 3 Value.none))).get? b=s'.heap.get? b:=λb hb=>Heap.get?_update_other _ _ (Ne.symm hb);have old:∀b o,sc.heap.get? b=some o->b≠T:=λb o e z=>by subst z;rw [hT0] at e;cases e
  have BV:∀b u,H' b=some u->b≠T:=λb u e z=>by subst z;rw [hTn] at e;cases e
  refine⟨Hc,sc,I,os,bare,⟨λb o e n hb hx=>(other b (old b o e)).trans (un.keep b o e n hb hx),λb o e n hb hx=>?_,un.free,λb o e hx=>?_,un.tups,un.frzs,un.tbls⟩,λb u e=>?_,n0,na,oe,vs,(other a (Ne.symm hTa)).trans he,hc,hdc,hd,.inr ⟨T,_,_,h1,hT0,hTn,hTa,Heap.get?_update_self _ hT (Obj.isFreed_of_fields (Obj.data_mapFields hdT _)),Obj.data_mapFields hdT _,?_⟩⟩
  ·obtain⟨sl,q⟩:=un.slot b o e n hb hx;exact⟨sl,(other b (old b o e)).trans q⟩
  ·obtain⟨o',q⟩:=un.there b o e hx;exact⟨o',(other b (old b o e)).trans q⟩
  ·refine (hok b u e).mn (λc v hc q=>?_) (λ_ q=>q) (λ_ _ q=>q) λ_ _ _ q=>q;refine (other c ?_).trans q;rcases hc with z|z
   ·subst z;exact BV c u e
   ·exact BV c _ z
  ·have:=(HZ.mp h3).1;simp [Array.getElem?_setIfInBounds,this]
theorem Inv.Gx {h':Heap} {m':Str->Option Value} {t':Nat} (I:Inv X pins σ H s) (hn:h'.Ns X.env.locals m') (hs:Heap.SameBut X.env.locals s.heap h'):Inv X pins (σ.map λ_=>none) H { s with heap:=h',toks:=t' }:=by
 have lo:∀b o,X.s₀.heap.get? b=some o->b≠X.env.locals:=λb o e=>HC (Hk (Ho e) I.ok.above);refine⟨I.ok,I.os,I.bare,⟨λb o e n hb hx=>(hs.2 b (lo b o e)).trans (I.base.keep b o e n hb hx),λb o e n hb hx=>?_,I.base.free,λb o e hx=>?_,I.base.tups,I.base.frzs,I.base.tbls⟩,⟨m',hn,λi x v e1 e2=>?_⟩,λy c e=>?_,I.free,I.freeC,λp hp=>?_,λb ob e=>?_,by simpa using I.len⟩
 ·obtain⟨sl,e1⟩:=I.base.slot b o e n hb hx;exact⟨sl,(hs.2 b (lo b o e)).trans e1⟩
 ·obtain⟨o',e1⟩:=I.base.there b o e hx;exact⟨o',(hs.2 b (lo b o e)).trans e1⟩
 ·rw [Hi] at e2
  cases q:σ[i]? with
  | none=>rw [q] at e2;cases e2
  | some u=>rw [q] at e2;cases e2
 ·obtain⟨w',z⟩:=I.cell y c e;exact⟨w',z.sameBut hs (I.zZ y c e)⟩
 ·obtain⟨e,n,ne,nf,d⟩:=I.pin p hp;exact⟨(hs.2 p.1 ne).trans e,n,ne,nf,d⟩
 ·refine (I.hok b ob e).mn (λc w' hc q=>(hs.2 c ?_).trans q) (λ_ q=>q) (λ_ _ q=>q) λ_ _ _ q=>q;have hfree:=I.free
  rintro rfl;rcases hc with z|hc
  ·rw [<- z,hfree] at e;cases e
  ·rw [hfree] at hc;cases hc
end
abbrev Cx.hand (X:Cx) (a:Addr):Cx:={ X with A:=X.A.mark (some (.ref a)),calm:=false,xe:=λ_ _=>False }
theorem Inv.hand {X:Cx} {pins:List (Addr×Obj)} {σ:St} {H:Hp} {s:Shared} (I:Inv X pins σ H s) (a:Addr):Inv (Cx.hand X a) pins σ H s :=
 ⟨⟨I.ok.mod,I.ok.kind,I.ok.glob,I.ok.blt,I.ok.above,I.ok.inj,I.ok.has,I.ok.cab,(λz=>by cases z),I.ok.frames,I.ok.stk,I.ok.exf,I.ok.bs,I.ok.bsz,I.ok.noex,I.ok.exfs,I.ok.iT,I.ok.frf⟩,I.os,I.bare,I.base,I.loc,I.cell,I.free,I.freeC,I.pin,I.hok,I.len⟩
theorem Inv.B9 {X:Cx} {a:Addr} {pins:List (Addr×Obj)} {σ:St} {H:Hp} {s:Shared} (ok:X.Ok) (I:Inv (Cx.hand X a) pins σ H s):Inv X pins σ H s :=
 ⟨ok,I.os,I.bare,I.base,I.loc,I.cell,I.free,I.freeC,I.pin,I.hok,I.len⟩
structure sE (K:Ha) (C:Addr):Prop where
 ga:PySem.W.findIn K (.ref C) "__getattribute__" = some (some (.builtin "BaseException.__getattribute__"))
 hk:PySem.W.findIn K (.ref C) "__getattr__" = some none
 dct:PySem.W.hasDictIn K C=true
 fnd:PySem.W.findIn K (.ref C) "__class__" = some (some (.builtin "object.__class__"))
 gt:PySem.W.specialIn K (.builtin "object.__class__") "__get__" = some (some (.builtin "getset_descriptor.__get__"))
 tk:PySem.W.takesIn K (.builtin "object.__class__")=some true
 mro:PySem.W.mroIn K C (.type "object")=some true
 sub:PySem.W.subIn K (.ref C) (.type "BaseException")=some true
theorem find_none {K:Ha} {C:Addr} {name:Str} {a g:Value} (hc:(PySem.W.clsIn K C).isSome=true) (ha:PySem.W.findIn K (.ref C) name=some (some a)) (hg:PySem.W.specialIn K a "__get__" = some (some g)) (ht:PySem.W.takesIn K a=some true) :
  PySem.W.findObj K C none name=some (.bind g a):=by
 obtain⟨cd,hc⟩:=Option.isSome_iff_exists.mp hc;unfold PySem.W.findObj;rw [hc,Option.bind_some,ha,Option.bind_some];simp [hg,ht]
section
variable {prog:Program} {w:World} {A:Around} {E:Value->Shared->Prop} {K:Ha} {x C:Addr} {ox:Obj} {h:Heap} {g:Array GenState} {d:Drawn} {t:Nat} {os:OsState}
theorem yJ (O:sE K C):PySem.W.findObj K C none "__class__" = some (.bind (.builtin "getset_descriptor.__get__") (.builtin "object.__class__")) :=
 find_none (by obtain⟨cd,hc,_⟩:=PySem.W.any_some O.dct;rw [hc];rfl) O.fnd O.gt O.tk
theorem zv {tk:Tok} {Q:Fin->Shared->Prop} (O:sE K C) (X:K.In h) (I:PySem.W.InstAt h x ox C none) (hq:Q (.done (.ret (.ref C))) ⟨h,g,d,t,os⟩) :
  wpAny (model prog w) A (Builtin.«object.__getattribute__» ⟨[.ref x,.str "__class__" tk],[]⟩) Q E ⟨h,g,d,t,os⟩:=by
 have L0:=I.type (M:=model prog w);have L1:=PySem.W.looks_find (M:=model prog w) X I (yJ O);unfold Builtin.«object.__getattribute__»;refine G8 (Hd (G8 (Hd (G8 (L0.at (G8 (L1.at ?_)))))));show wpAny _ _ (Builtin.ObjectAttr.bindTo _ _ _ _) _ _ _
 unfold Builtin.ObjectAttr.bindTo;refine G8 (wpAny_holding (wpAny_call (PySem.W.class_get (s:=⟨h,g,d,t,os⟩) (ox:=ox) (od:=none) X I O.mro ?_)));exact Hd hq
theorem wK {nameV:Value} {Q:Unit->Shared->Prop} (O:sE K C) (X:K.In h) (I:PySem.W.InstAt h x ox C none) (hq:Q () ⟨h,g,d,t,os⟩) :
  wpAny (model prog w) A (checkBuiltinCall "BaseException.__getattribute__" ⟨[.ref x,nameV],[]⟩) Q E ⟨h,g,d,t,os⟩:=by
 have hk:builtinKind "BaseException.__getattribute__" = some .slot:=by decide +kernel
 have hsplit:splitId "BaseException.__getattribute__" = some ("BaseException","__getattribute__"):=by decide +kernel
 have ha:=F.args_bexc_ga (.ref x) nameV;have L0:=I.type (M:=model prog w);have L2:PySem.W.Looks (model prog w) h (isInstance (.ref x) (.type "BaseException")) true:=L0.andThen (PySem.W.looks_subIn X O.sub)
 simp only [checkBuiltinCall,hk,hsplit];refine G8 (L2.at ?_)
 repeat (first|assumption|wp_step)
theorem wx {Q:Option Value->Shared->Prop} (O:sE K C) (X:K.In h) (I:PySem.W.InstAt h x ox C none) (hq:Q (some (.ref C)) ⟨h,g,d,t + 1,os⟩):wpAny (model prog w) A (getAttr? (.ref x) "__class__") Q E ⟨h,g,d,t,os⟩:=by
 have L0:=I.type (M:=model prog w);have L1:=PySem.W.looks_findIn (M:=model prog w) X O.ga;have L2:=PySem.W.looks_findIn (M:=model prog w) X O.hk;have FB:=PySem.F.attrBase_ValueError;unfold getAttr? getAttrBy? getAttrBy;refine G8 (wpAny_mkText (G8 (wpAny_attempt (wpAny_holding (G8 (L0.at (G8 (L1.at ?_))))))))
 have hx1:(onTheHeap (Value.ref C) && Value.builtin "BaseException.__getattribute__" == Value.builtin "object.__getattribute__")=false:=by
  rw [show (Value.builtin "BaseException.__getattribute__" == Value.builtin "object.__getattribute__")=false by decide +kernel];rfl
 show wpAny _ _ (if (onTheHeap (Value.ref C) && Value.builtin "BaseException.__getattribute__" == Value.builtin "object.__getattribute__")=true then _ else _) _ _ _
 rw [hx1,if_neg (by decide)];unfold getAttrByItsOwn;refine G8 (L2.at (G8 (wpAny_attempt (wpAny_holding ?_))));unfold callGetattribute boundAndCalled;rw [if_neg (by decide),FB.ga.bind];refine G8 (Hd ?_);refine wpAny_call (codeAny_call_builtin FB.ga.plain F.entry_bexc_ga (wK O X I (zv O X I ?_)));exact PySem.W.handed_on rfl (Hd hq)
end
theorem qq {K:Ha} {C:Addr} (h:PySem.W.hasDictIn K C=true):∃c d cd sl,K.lookup C=some ⟨c,d,.cls cd,sl⟩:=by
 obtain⟨_,q,_⟩:=PySem.W.any_some h;unfold PySem.W.clsIn at q
 split at q
 ·exact⟨_,_,_,_,‹_›⟩
 ·cases q
theorem mW {K:Ha} {x C:Addr} (O:sE K C):PySem.W.KitX K (.ref x) (.ref C) (λh=>∃ox,PySem.W.InstAt h x ox C none) where
 ty:=λ_ _ _ ⟨_,I⟩=>I.type
 it:=λ_ _ kin _ A Q E s keep q=>let ⟨_,_,_,_,e⟩:=qq O.dct;G8 (wpAny_loadPart (keep _ _ (kin _ _ e)) (Hd q))
 ne:=λh tp dd its n sl kin e=>by
  obtain⟨_,_,_,_,e1⟩:=qq O.dct
  cases z:(Value.ref C == Value.ref tp) with
  | false=>rfl
  | true =>
   cases eq_of_beq z;cases (kin _ _ e1).symm.trans e
 ca:=λ{prog w A E Q s} X p h=>by
  obtain⟨ox,I⟩:=p;obtain⟨hh,g,d,t,os⟩:=s;exact wx O X I h
theorem pY {X:Cx} {c:Str} {p:Pos} {C:Addr} (ac:PySem.W.nsIn X.K mainGlobals c=some (some (.ref C))) (hg:Gl X c:=by rfl) (hdb:(c == ("__debug__" : Str))=false:=by decide):QE X (.Name c p) (cC (.cls c)):=by
 refine⟨λB σ F H env Q rp hq pins s I=>?_⟩;refine fK I hg (Il I.ok.mod.kin I.ok.mod.glob ac) ?_ hdb;exact⟨.ref C,H,I,rfl,F,.cls c,rp,aq.refl _,by simp only [Den];exact⟨C,rfl,ac⟩,hq⟩
inductive sX (K:Ha):List D->List Value->Prop where
 | nil:sX K [] []
 | cons {c:Str} {C:Addr} {ds:List D} {vs:List Value} (h:PySem.W.nsIn K mainGlobals c=some (some (.ref C))) (r:sX K ds vs):sX K (.cls c :: ds) (.ref C :: vs)
inductive yZ (K:Ha) (C:Addr):D->Bool->Prop where
 | ty {n:String} {b:Bool} (e:PySem.W.kitOne K (.ref C) (.type n)=some b):yZ K C (.ty n) b
 | cls {d:Str} {C':Addr} {b:Bool} (h:PySem.W.nsIn K mainGlobals d=some (some (.ref C'))) (e:PySem.W.kitOne K (.ref C) (.ref C')=some b):yZ K C (.cls d) b
 | tup {ds:List D} {vs:List Value} {b:Bool} (h:sX K ds vs) (e:PySem.W.kitAny K (.ref C) vs=some b):yZ K C (.tup ds) b
theorem sX.vals {K:Ha} {F:Hp}:∀{ds:List D} {vs:List Value} {xs:List V} {us:List Value},sX K ds vs->ak K F ds xs->Vals xs us->us=vs
 | _,_,xs,us,.nil,h,r=>by
  simp only [ak] at h;subst h
  cases r;rfl
 | _,_,xs,us,.cons hc rr,h,r=>by
  simp only [ak] at h;obtain⟨v,rs,rfl,hd,hr⟩:=h;simp only [Den] at hd;obtain⟨C',rfl,e⟩:=hd;rw [hc] at e;cases e
  cases r with
  | cons q1 q2 =>
   have e1:=(show _=Value.ref _ from q1);rw [e1,sX.vals rr hr q2]
def qf (c:Str) (y:D) (b:Bool) (ds:List D) (Q:D->Prop):Prop:=ds=[.exc c,y]/\Q (.bl b)
def EK (K:Ha) (C:Addr) (b:Bool):List V->Hp->VK->Prop:=λxs H Q=>∃a y,xs=[.ref a,y]/\H a=some (.ext (excAt a C)) /\
 ((∃n,y=.ty n/\PySem.W.kitOne K (.ref C) (.type n)=some b)\/(∃C',y=.ref C'/\PySem.W.kitOne K (.ref C) (.ref C')=some b)\/∃t zs,y=.ref t/\gw K H t zs/\∀us,Vals zs us->PySem.W.kitAny K (.ref C) us=some b)/\Q (.bl b) H
section
variable {X:Cx} {C:Addr} {b:Bool} {c:Str} {y:D} {a e2:Expr} {ts:eD} {p pos:Pos}
theorem yk (O:sE X.K C):cV X (.builtin "isinstance") (EK X.K C b):=by
 intro pins s σ H xs us Q I r h;obtain⟨x,y,rfl,hx,hy,q⟩:=h;obtain⟨u,w,rfl,rx,ry⟩:=vals2 r;cases (show u=Value.ref x from rx);have fin:∀tk,EP X pins σ Q (.bool b) { s with toks:=tk }:=λtk=>⟨.bl b,H,I.tok tk,rfl,q⟩
 have at_:∃ox,PySem.W.InstAt s.heap x ox C none:=by
  obtain⟨⟨o,vs,h1,h2,h3,h4⟩,_⟩:=(show bL X.prog X.w H s.heap x (.ext (excAt x C)) from I.hok x _ hx);refine⟨o,h1,h2,?_,?_⟩
  ·unfold PySem.W.notCls;rw [h4]
  ·rw [h3];exact True.intro
 rcases hy with ⟨n,rfl,e⟩|⟨C',rfl,e⟩|⟨t,zs,rfl,hq,e⟩
 ·cases (show w=Value.type n from ry);exact PySem.W.kia_one (mW O) I.oh at_ e (λz=>nomatch z) fin
 ·cases (show w=Value.ref C' from ry);exact PySem.W.kia_one (mW O) I.oh at_ e (λz=>nomatch z) fin
 ·cases (show w=Value.ref t from ry);obtain⟨its,vz,⟨o,h1,h2,n,h3⟩,_⟩:=I.tuple hq;obtain⟨oc,od,odt,osl⟩:=o;cases h2;cases h3;exact PySem.W.kia_tup (mW O) I.oh at_ h1 (e _ vz) (λz=>nomatch z) fin
theorem DE (ac:PySem.W.nsIn X.K mainGlobals c=some (some (.ref C))) (hk:yZ X.K C y b):Call3 X (EK X.K C b) (qf c y b):=by
 intro B σ F H env Q ds vs Z rp h hz hf;obtain⟨rfl,q⟩:=hf;simp only [ak] at h;obtain⟨v,r,rfl,hd,v',r',rfl,hd',rfl⟩:=h;simp only [Den] at hd;obtain⟨a,C',rfl,e,hF⟩:=hd;rw [ac] at e;cases e;refine⟨a,v',rfl,rp.fh _ _ hF,?_,hz (.bl b) H F (.bl b) rp (aq.refl _) d7 q⟩
 cases hk with
 | ty e=>simp only [Den] at hd';subst hd';exact .inl ⟨_,rfl,e⟩
 | cls h e =>
  simp only [Den] at hd';obtain⟨C'',rfl,e'⟩:=hd';rw [h] at e';cases e'
  exact .inr (.inl ⟨_,rfl,e⟩)
 | tup h e =>
  simp only [Den] at hd';obtain⟨t,zs,rfl,hq,hl⟩:=hd';exact .inr (.inr ⟨t,zs,rfl,aq.bR rp.fh hq,λus hu=>by rw [sX.vals h hl hu];exact e⟩)
theorem sQ (c:Str) (y:D) (b:Bool) (hm:X.mg "isinstance" = none) (ac:PySem.W.nsIn X.K mainGlobals c=some (some (.ref C))) (O:sE X.K C) (hk:yZ X.K C y b) (ha:QA X [a,e2] ts) (hg:Gl X "isinstance":=by rfl)
  (he:starEach [a,e2] X.env=(false,eval a X.env) :: starEach [e2] X.env:=by exact aJ rfl) (hpl:(backTo pos (starEach [e2] X.env)).any (·.1)=false:=by rfl):QE X (.Call (.Name "isinstance" p) [a,e2] [] pos) (aB (qf c y b) ts) :=
 gq (yk O) (DE ac hk) hg hm pC ha (he:=he) (hpl:=hpl)
end
section
variable {X:Cx} {a b e:Expr} {ta tb:TD} {ts:eD} {pos:Pos}
theorem wB {cx:Str} {C:Addr} {np cpos:Pos} (ac:PySem.W.nsIn X.K mainGlobals cx=some (some (.ref C))) (hq:Bv X.K C=true) (ha:QA X.pq [e] ts) (hc:X.calm=true:=by rfl) (hg:Gl X cx:=by rfl) (hdb:(cx == ("__debug__" : Str))=false:=by decide)
  (he:starEach [e] X.env=(false,eval e X.env) :: starEach [] X.env:=by exact aJ rfl) (hplain:(backTo cpos (starEach ([]:List Expr) X.env)).any (·.1)=false:=by rfl) :
  QZ X (.Raise (some (.Call (.Name cx np) [e] [] cpos)) none pos) (jd cx ts) :=
 ⟨λB σ F H env D rp h pins s I=>(yn (X:=X) (pos:=pos) (np:=np) (cpos:=cpos) (Il I.ok.mod.kin I.ok.mod.glob ac) hq hc ha hg hdb he hplain).run B σ F H env D rp h pins s I⟩
end
theorem Al:bootBuiltins "ValueError" = some (.type "ValueError"):=by decide +kernel
section
variable {X:Cx} {e:Expr} {ts:eD} {p pos:Pos}
def jS (ds:List D) (Q:List D->Prop):Prop:=match ds with
 | [.lst xs]=>Q xs
 | [.tup xs]=>Q xs
 | _=>False
theorem pO {xs:List D} {Q:List D->Prop}:jS [.lst xs] Q=Q xs:=rfl
theorem pv {xs:List D} {Q:List D->Prop}:jS [.tup xs] Q=Q xs:=rfl
def iM (ts:eD):eD:=λenv Q=>ts env λds=>jS ds Q
theorem xm (hm:X.mg "list" = none) (ha:QA X [e] ts) (hg:Gl X "list":=by rfl) (he:starEach [e] X.env=(false,eval e X.env) :: starEach [] X.env:=by exact aJ rfl) (hpl:(backTo pos (starEach ([]:List Expr) X.env)).any (·.1)=false:=by rfl) :
  QF X (.Call (.Name "list" p) [e] [] pos) (iM ts):=by
 refine⟨λB σ F H env Q rp h=>bX (iF qG hg hm nO gR (by decide) (by decide) he hpl) ?_⟩;refine bV (ha B σ F H env _ rp h) λvs H1 hq0=>?_;obtain⟨F1,ds,r1,s1,d1,q1⟩:=hq0
 replace q1:jS ds Q:=q1
 unfold jS at q1
 split at q1
 ·simp only [ak,Den] at d1;obtain⟨v,r,rfl,⟨p,ys,rfl,q,r⟩,rfl⟩:=d1;exact⟨p,ys,rfl,.inl (r1.fh.seq q),λw hw=>⟨F1,H1,w,ys,_,rfl,hw,rfl,r1,s1,r,q1⟩⟩
 ·simp only [ak,Den] at d1;obtain⟨v,r,rfl,⟨p,ys,rfl,q,r⟩,rfl⟩:=d1;exact⟨p,ys,rfl,.inr (aq.bR r1.fh q),λw hw=>⟨F1,H1,w,ys,_,rfl,hw,rfl,r1,s1,r,q1⟩⟩
 ·exact q1.elim
end
section
variable {X:Cx} {es:List Expr} {pos:Pos}
end
section
variable {X:Cx} {a b c e:Expr} {ta tb tc:TD} {ts:eD} {pos:Pos}
theorem G6 {x:Str} {n:Int} {t:Tok} {p:Pos} (ac:PySem.W.nsIn X.K mainGlobals x=some (some (.int n t))) (hg:Gl X x:=by rfl) (hdb:(x == ("__debug__" : Str))=false:=by decide):QE X (.Name x p) (cC (.int n)):=by
 refine⟨λB σ F H env Q rp hq pins s I=>?_⟩;refine fK I hg (Il I.ok.mod.kin I.ok.mod.glob ac) ?_ hdb;exact⟨.int n,H,I,⟨t,rfl⟩,F,.int n,rp,aq.refl _,aZ,hq⟩
end
section
variable {X:Cx} {p pos:Pos}
def bI (i:Nat):TD:=λenv Q=>∃xs,env[i]?=some (some (.own xs))/\Q (.int xs.length)
theorem bY {x:Str} {px:Pos} (i:Nat) (hm:X.mg "len" = none) (hg:Gl X "len":=by rfl) (hN:X.N[i]?=some x:=by rfl) (hv:qF X.env.scope x:=by first | exact Or.inl rfl | exact Or.inr (Or.inl rfl) | exact Or.inr (Or.inr rfl)) (hd:(x == ("__debug__" : Str))=false:=by decide)
  (hcd:(x == ("__classdict__" : Str))=false:=by decide) (he:starEach [.Name x px] X.env=(false,eval (.Name x px) X.env) :: starEach [] X.env:=by exact aJ rfl) (hpl:(backTo pos (starEach ([]:List Expr) X.env)).any (·.1)=false:=by rfl) :
  QE X (.Call (.Name "len" p) [.Name x px] [] pos) (bI i):=by
 refine⟨λB σ F H env Q rp h=>bX (si j7 hg hm o6 (cj (cF hN hv hd hcd) c9 he) (by decide) (by decide) he hpl) ?_⟩;obtain⟨xs,hx,q⟩:=h;obtain⟨p,vs,h1,h2,h3,h4,h5⟩:=rp.ov i xs hx;refine⟨.ref p,h1,p,vs,rfl,.inl (dE.of h2),F,.int xs.length,rp,aq.refl _,?_,q⟩;rw [h5.length];exact aZ
end
section
variable {X:Cx} {b:Expr} {tb:TD} {x:Str} {tab:List (Str×Str)} {a:Addr} {es:Array DictEntry} {n:Nat} {p pos:Pos}
end
section
variable {X:Cx} {e:Expr} {ts:eD} {p pos:Pos}
end
open PySem
section
variable {Q:D->Prop} {i j:Int} {xs ys:List D} {z z':Str} {C:Int->Int->Prop} {g:Int->Int->D} {k:Bool}
theorem nD:u4 C g (.int i) (.int j) Q=(C i j/\Q (g i j)):=rfl
theorem gz:eT (.int i) (.int j) Q=Q (.int (i + j)):=rfl
theorem iN:eT (.lst xs) (.lst ys) Q=(xs.length + ys.length<=sizeLine/\Q (.lst (xs ++ ys))):=rfl
theorem iQ:eT (.tup xs) (.tup ys) Q=(xs.length + ys.length<=sizeLine/\Q (.tup (xs ++ ys))):=rfl
theorem iK:eT (.str z) (.str z') Q=(z.length + z'.length<=sizeLine/\Q (.str (z ++ z'))):=rfl
theorem kL:wU (.int i) Q=Q (.int (-i)):=rfl
theorem uT:kb (.int i) (.int j) Q=Q (.bl (decide (i=j))):=by
 unfold kb ib;simp only [dep,aT,HU,and_self,true_and];rw [Bool.beq_eq_decide_eq]
theorem ui:rJ (.int i) (.int j) Q=Q (.bl (!decide (i=j))):=by
 unfold rJ ib;simp only [dep,aT,HU,and_self,true_and];rw [Bool.beq_eq_decide_eq]
theorem uF:kb (.str z) (.str z') Q=Q (.bl (z == z')):=by
 unfold kb ib;simp only [dep,aT,HU,and_self,true_and]
theorem uM {k':Bool}:kb (.bl k) (.bl k') Q=Q (.bl (k == k')):=by
 unfold kb ib;simp only [dep,aT,HU,and_self,true_and]
theorem uA:xM [.int i] Q=Q (.int i.natAbs):=by
 show Q _=Q _
 congr 2
 split <;> omega
theorem kP:gF [.lst xs] Q=Q (.int xs.length):=rfl
theorem fU:gF [.tup xs] Q=Q (.int xs.length):=rfl
theorem lM:gF [.str z] Q=(z.length<=sizeLine/\Q (.int z.length)):=rfl
theorem qI:zz [.int i,.int j] Q=Q (.int (max i j)):=by
 show Q _=Q _
 congr 2
 split <;> omega
theorem qo:yM [.int i,.int j] Q=Q (.int (min i j)):=by
 show Q _=Q _
 congr 2
 split <;> omega
theorem kI:pU [.int i] Q=Q (.int i):=rfl
theorem lq:pU [.bl k] Q=Q (.int (if k then 1 else 0)):=rfl
theorem cJ:cH [.lst xs] Q=Q (.tup xs):=rfl
theorem fV:cH [.tup xs] Q=Q (.tup xs):=rfl
theorem oa:ef (.lst xs)=some xs:=rfl
theorem nH:ef (.tup xs)=some xs:=rfl
theorem zx {lo hi:Option Int}:FX (.lst xs) lo hi Q=Q (.lst (cutD xs lo hi)):=rfl
theorem vc {R:Int->Nat->Prop}:iV [.int j] R=((-(2 ^ 62)<=j/\j < 2 ^ 62)/\R 0 j.toNat):=rfl
theorem tT {R:Int->Nat->Prop}:A2 [.int i,.int j] R=((-(2 ^ 62)<=i/\i < 2 ^ 62/\-(2 ^ 62)<=j/\j < 2 ^ 62)/\R i (j - i).toNat):=rfl
theorem wF (bs:List Bool):boolsOf (bs.map D.bl)=some bs:=rO bs
def Pl (x:D):Prop:=DP x≠.oth
def isInt:D->Bool|.int _=>true|.bl _=>true|_=>false
def Gj:D->Bool|.bl _=>true|_=>false
def isTup:D->Bool|.tup _=>true|_=>false
theorem Ai {x:D} (h:Pl x) (q:Q (.bl (isInt x))):Ah "int" x Q:=by cases x <;> first | exact⟨_,rfl,q⟩ | exact absurd rfl h
theorem C9 {x:D} (h:Pl x) (q:Q (.bl (Gj x))):Ah "bool" x Q:=by cases x <;> first | exact⟨_,rfl,q⟩ | exact absurd rfl h
theorem v8 {x:D} (h:Pl x) (q:Q (.bl (isTup x))):Ah "tuple" x Q:=by cases x <;> first | exact⟨_,rfl,q⟩ | exact absurd rfl h
end
def vJ (xs:List D) (R:D->List D->Prop):Prop:=match xs with|x :: r=>R x r|_=>False
theorem mT {x:D} {r:List D} {R:D->List D->Prop}:vJ (x :: r) R=R x r:=rfl
theorem nj (g:mj) (gs:qt) (xs:List D) (env:En) (Q:En->Prop):cy g gs xs env Q=vJ xs λx r=>g x env λenv'=>gs r env' Q:=by
 unfold cy vJ;apply propext
 constructor
 ·rintro⟨x,y,rfl,h⟩;exact h
 ·intro h;split at h
  ·exact⟨_,_,rfl,h⟩
  ·exact h.elim
theorem cp {g:mj} {tb:bG} {Z:Ends3} {xs:List D} (I:Nat->En->Prop)
  (step:∀(i:Nat) (x:D) (env:En) (N:En->Prop),xs[i]?=some x->I i env->(∀e,I (i + 1) e->N e)->g x env λe=>tb { Z with nx:=N,ct:=N,bk:=Z.nx } e)
  (done:∀env,I xs.length env->Z.nx env) {env:En} (h0:I 0 env):turns g tb Z xs env:=by
 have go:∀(n k:Nat) (env:En),k + n=xs.length->I k env->turns g tb Z (xs.drop k) env:=by
  intro n
  induction n with
  | zero =>
   intro k env hk h;rw [Ib (by omega)]
   exact done env (by rw [<- hk];exact h)
  | succ n ih =>
   intro k env hk h;have hx:xs[k]?=some (xs[k]'(by omega)):=by simp
   rw [drop_cons hx];exact step k _ env _ hx h λe he=>ih (k + 1) e (by omega) he
 simpa using go xs.length 0 env (by omega) h0
theorem iD {te:TD} {eU:En} {Q:List D->Prop} (f:D->D):∀(xs acc:List D),(∀x∈xs,∀N:D->Prop,N (f x)->te (eU.set 0 (some (.d x))) N)->acc.length + xs.length<=sizeLine->Q (acc ++ xs.map f)->comps cD te eU Q xs acc
 | [],acc,_,_,q=>by simpa [comps] using q
 | x :: xs,acc,h,hl,q=>by
  simp only [comps,cD,if_true];refine h x Hy _ ⟨by simp at hl;omega,iD f xs _ (λy hy=>h y (Hq _ hy)) (by simp at hl ⊢;omega) (by simpa using q)⟩
theorem pg {te:TD} {eU:En} {Q:List D->Prop} (R:D->D->Prop):∀(xs acc:List D),(∀x∈xs,∀N:D->Prop,(∀y,R x y->N y)->te (eU.set 0 (some (.d x))) N)->acc.length + xs.length<=sizeLine->(∀ys,ys.length=xs.length->(∀(i:Nat) (x y:D),xs[i]?=some x->ys[i]?=some y->R x y)->Q (acc ++ ys))->comps cD te eU Q xs acc
 | [],acc,_,_,q=>by simpa [comps] using q [] rfl (by simp)
 | x :: xs,acc,h,hl,q=>by
  simp only [comps,cD,if_true];refine h x Hy _ λy hy=>⟨by simp at hl;omega,pg R xs _ (λy hy=>h y (Hq _ hy)) (by simp at hl ⊢;omega) λys hl2 hr=>?_⟩;rw [List.append_assoc];refine q (y :: ys) (by simpa using hl2) λi a b ha hb=>?_
  cases i with
  | zero=>simp at ha hb;subst ha hb;exact hy
  | succ i=>exact hr i a b (by simpa using ha) (by simpa using hb)
theorem qS {α:Type} {xs:List α} {i:Int} (h0:0<=i) (h1:i < xs.length):ja xs i=xs[i.toNat]?:=by
 unfold L2.ja rj;rw [if_pos h0,if_pos h1];rfl
theorem CB {Q:D->Prop} {xs:List D} {i:Int} (h0:0<=i) (h1:i < xs.length) (q:∀v,v∈xs->Q v):cK (.lst xs) (.int i) Q:=by
 have hl:i.toNat < xs.length:=by omega
 exact⟨xs[i.toNat],by rw [qS h0 h1];simp,q _ (Im hl)⟩
theorem jj {a b:Int} (h:0 < b):0<=a.fmod b/\a.fmod b < b:=⟨Int.fmod_nonneg_of_pos a h,Int.fmod_lt_of_pos a h⟩
def iU (n:Nat) (a:Int):Prop:=a.natAbs < 2 ^ n
theorem bits_le {n m:Nat} {a:Int} (h:iU n a) (hm:n<=m):iU m a:=Hk h (Nat.pow_le_pow_right (by decide) hm)
theorem mQ {n:Nat} {a:Int} (h:iU n a):Builtin.Int.intBits a<=n:=by
 unfold Builtin.Int.intBits
 by_cases e:a=0
 ·subst e;simp
 ·rw [if_neg (by simpa using e)];have:a.natAbs≠0:=by omega
  exact (Nat.log2_lt this).mpr h
theorem yQ {n m:Nat} {a b:Int} (ha:iU n a) (hb:iU m b) (h:n + m<=1000000):IntMulOk a b:=by
 have h1:=mQ ha;have h2:=mQ hb;unfold IntMulOk Builtin.Int.intTooBig
 have:¬ ((Builtin.Int.intBits a:Int) + (Builtin.Int.intBits b:Int) > (bitsLine:Int)):=by
  have:(1000000:Int)<=(bitsLine:Int):=by decide
  omega
 simp only [Bool.and_eq_true,decide_eq_true_eq]
 rintro⟨_,h3⟩;exact this h3
theorem bits_add {n m:Nat} {a b:Int} (ha:iU n a) (hb:iU m b):iU (max n m + 1) (a + b):=by
 unfold iU at *;have h1:(2:Nat) ^ n<=2 ^ max n m:=Nat.pow_le_pow_right (by decide) (Nat.le_max_left _ _);have h2:(2:Nat) ^ m<=2 ^ max n m:=Nat.pow_le_pow_right (by decide) (Nat.le_max_right _ _);rw [Nat.pow_succ];omega
theorem DC {n:Nat} {a b:Int} (hb:iU n b) (h0:b≠0) (hn:n<=9000):vI a b:=by
 refine⟨h0,?_⟩;have:b.natAbs≠0:=by omega
 exact Hk ((Nat.log2_lt this).mpr hb) hn
theorem x4 {a b:Int} (h1:-(2 ^ 64) < a) (h2:a < 2 ^ 64):IntMulOk a b:=.of_left (intBits_le_64 h1 h2)
theorem tG {a b:Int} (h1:-(2 ^ 64) < b) (h2:b < 2 ^ 64):IntMulOk a b:=.of_right (intBits_le_64 h1 h2)
theorem Gg {c:Int} (j:Int) (h:j≠0/\j.natAbs < 2 ^ 256):vI c j:=DC (n:=256) h.2 h.1 (by decide)
theorem EN (i j:Int) (h:0<=j/\j<=1000000/\i.natAbs < 2 ^ 64):Cq i j:=h
theorem tZ {c:Int} (j:Int) (h:j≠0):xE c j:=h
theorem vx (n:Nat) (a:Int) (h:a.natAbs < 2 ^ n):iU n a:=h
def yj (i:Nat) (e:En):Nat:=match e[i]? with|some (some (.own xs))=>xs.length|_=>0
def zW (i:Nat) (e:En):Nat:=match e[i]? with|some (some (.d (.int j)))=>j.toNat|_=>0
end L2.L3
local macro_rules | `(tactic| simp_all_arith only [$ls,*]) => `(tactic| ((try dsimp only [$(⟨ls.elemsAndSeps⟩),*, L2.L3.aK, L2.L3.gK, L2.L3.b8, L2.L3.bC, L2.L3.iz, L2.L3.bT, L2.L3.mf, L2.L3.lh, L2.L3.gj, L2.L3.bJ, L2.L3.cE, L2.L3.cP, L2.L3.oG, L2.L3.ag, L2.L3.cC, L2.L3.aL, L2.L3.ye, L2.L3.aN, L2.L3.mx, L2.L3.oI, L2.L3.zJ, L2.L3.jH, L2.L3.j3, L2.L3.aB, L2.L3.af, L2.L3.av, L2.L3.a6, L2.L3.fX, L2.L3.kX, L2.L3.de, L2.L3.kn, L2.L3.Bw, L2.L3.j4, L2.L3.bW, L2.L3.aW, L2.L3.gT, L2.L3.ie, L2.L3.cD, L2.L3.aE, HL, List.map_nil, HY, Ij, List.cons_append, List.nil_append, HD, HB, List.set_cons_zero, List.set_cons_succ, L2.L3.fM, L2.L3.fQ, L2.L3.nD, L2.L3.gz, L2.L3.iN, L2.L3.iQ, L2.L3.iK, L2.L3.kL, L2.L3.kP, L2.L3.fU, L2.L3.lM, L2.L3.kI, L2.L3.lq, L2.L3.cJ, L2.L3.fV]); (try simp only [$ls,*, L2.L3.aK, L2.L3.gK, L2.L3.b8, L2.L3.bC, L2.L3.iz, L2.L3.bT, L2.L3.mf, L2.L3.lh, L2.L3.gj, L2.L3.bJ, L2.L3.cE, L2.L3.cP, L2.L3.oG, L2.L3.ag, L2.L3.cC, L2.L3.aL, L2.L3.ye, L2.L3.aN, L2.L3.mx, L2.L3.oI, L2.L3.zJ, L2.L3.jH, L2.L3.j3, L2.L3.aB, L2.L3.af, L2.L3.av, L2.L3.a6, L2.L3.fX, L2.L3.kX, L2.L3.de, L2.L3.kn, L2.L3.Bw, L2.L3.j4, L2.L3.bW, L2.L3.aW, L2.L3.gT, L2.L3.nj, L2.L3.mT, L2.L3.ie, L2.L3.cD, L2.L3.aE, HL, List.map_nil, HY, Ij, List.cons_append, List.nil_append, HR, HD, HB, List.getElem?_nil, List.set_cons_zero, List.set_cons_succ, Option.some.injEq, L2.L3.Lo.d.injEq, L2.L3.Lo.own.injEq, L2.L3.D.bl.injEq, L2.L3.D.int.injEq, exists_eq_left', exists_eq_left, Nat.reduceAdd, Nat.reduceSub, Nat.sub_self, Nat.add_one_sub_one, List.replicate_succ, List.replicate_zero, L2.L3.D.tup.injEq, List.cons.injEq, and_assoc, L2.L3.fM, L2.L3.fQ, L2.L3.nD, L2.L3.gz, L2.L3.iN, L2.L3.iQ, L2.L3.iK, L2.L3.kL, L2.L3.uT, L2.L3.ui, L2.L3.uF, L2.L3.uM, L2.L3.uA, L2.L3.kP, L2.L3.fU, L2.L3.lM, L2.L3.qI, L2.L3.qo, L2.L3.kI, L2.L3.lq, L2.L3.cJ, L2.L3.fV, L2.L3.oa, L2.L3.nH, L2.L3.zx, L2.L3.vc, L2.L3.tT, decide_eq_true_eq, true_and, and_true, if_true, if_false, He, Bool.not_eq_true', decide_eq_false_iff_not, Ht, Int.reduceToNat, Int.reducePow, Int.reduceMul, Int.reduceAdd, Int.reduceNeg, Int.reduceSub, Int.reduceLT, Int.reduceLE, Int.reduceEq, Nat.reduceEqDiff, decide_true, decide_false, Nat.reduceLeDiff, Nat.reduceLT, Bool.true_eq_false, Bool.not_true, Bool.not_false, Bool.not_not])))
local macro_rules | `(tactic| simp_arith! only [$ls,*] $[$loc]?) => `(tactic| ((try dsimp only [$(⟨ls.elemsAndSeps⟩),*, L2.L3.aK, L2.L3.gK, L2.L3.b8, L2.L3.bC, L2.L3.iz, L2.L3.bT, L2.L3.mf, L2.L3.lh, L2.L3.gj, L2.L3.bJ, L2.L3.cE, L2.L3.cP, L2.L3.oG, L2.L3.ag, L2.L3.cC, L2.L3.aL, L2.L3.ye, L2.L3.aN, L2.L3.mx, L2.L3.oI, L2.L3.zJ, L2.L3.jH, L2.L3.j3, L2.L3.aB, L2.L3.af, L2.L3.av, L2.L3.a6, L2.L3.fX, L2.L3.kX, L2.L3.de, L2.L3.kn, L2.L3.Bw, L2.L3.j4, L2.L3.bW, L2.L3.aW, L2.L3.gT, L2.L3.ie, L2.L3.cD, L2.L3.aE, HL, List.map_nil, HY, Ij, List.cons_append, List.nil_append, HD, HB, List.set_cons_zero, List.set_cons_succ, L2.L3.fM, L2.L3.fQ, L2.L3.nD, L2.L3.gz, L2.L3.iN, L2.L3.iQ, L2.L3.iK, L2.L3.kL, L2.L3.kP, L2.L3.fU, L2.L3.lM, L2.L3.kI, L2.L3.lq, L2.L3.cJ, L2.L3.fV, L2.L3.kD, L2.L3.jd, L2.L3.DK, L2.L3.tO, L2.L3.jz, L2.L3.xg, L2.L3.iM, L2.L3.bI] $[$loc]?); (try simp only [$ls,*, L2.L3.aK, L2.L3.gK, L2.L3.b8, L2.L3.bC, L2.L3.iz, L2.L3.bT, L2.L3.mf, L2.L3.lh, L2.L3.gj, L2.L3.bJ, L2.L3.cE, L2.L3.cP, L2.L3.oG, L2.L3.ag, L2.L3.cC, L2.L3.aL, L2.L3.ye, L2.L3.aN, L2.L3.mx, L2.L3.oI, L2.L3.zJ, L2.L3.jH, L2.L3.j3, L2.L3.aB, L2.L3.af, L2.L3.av, L2.L3.a6, L2.L3.fX, L2.L3.kX, L2.L3.de, L2.L3.kn, L2.L3.Bw, L2.L3.j4, L2.L3.bW, L2.L3.aW, L2.L3.gT, L2.L3.nj, L2.L3.mT, L2.L3.ie, L2.L3.cD, L2.L3.aE, HL, List.map_nil, HY, Ij, List.cons_append, List.nil_append, HR, HD, HB, List.getElem?_nil, List.set_cons_zero, List.set_cons_succ, Option.some.injEq, L2.L3.Lo.d.injEq, L2.L3.Lo.own.injEq, L2.L3.D.bl.injEq, L2.L3.D.int.injEq, exists_eq_left', exists_eq_left, Nat.reduceAdd, Nat.reduceSub, Nat.sub_self, Nat.add_one_sub_one, List.replicate_succ, List.replicate_zero, L2.L3.D.tup.injEq, List.cons.injEq, and_assoc, L2.L3.fM, L2.L3.fQ, L2.L3.nD, L2.L3.gz, L2.L3.iN, L2.L3.iQ, L2.L3.iK, L2.L3.kL, L2.L3.uT, L2.L3.ui, L2.L3.uF, L2.L3.uM, L2.L3.uA, L2.L3.kP, L2.L3.fU, L2.L3.lM, L2.L3.qI, L2.L3.qo, L2.L3.kI, L2.L3.lq, L2.L3.cJ, L2.L3.fV, L2.L3.oa, L2.L3.nH, L2.L3.zx, L2.L3.vc, L2.L3.tT, decide_eq_true_eq, true_and, and_true, if_true, if_false, He, Bool.not_eq_true', decide_eq_false_iff_not, Ht, Int.reduceToNat, Int.reducePow, Int.reduceMul, Int.reduceAdd, Int.reduceNeg, Int.reduceSub, Int.reduceLT, Int.reduceLE, Int.reduceEq, Nat.reduceEqDiff, decide_true, decide_false, Nat.reduceLeDiff, Nat.reduceLT, Bool.true_eq_false, Bool.not_true, Bool.not_false, Bool.not_not, L2.L3.kD, L2.L3.jd, L2.L3.DK, L2.L3.tO, L2.L3.jz, L2.L3.xg, L2.L3.qf, L2.L3.iM, L2.L3.pO, L2.L3.pv, L2.L3.D.lst.injEq, L2.L3.bI] $[$loc]?)))
namespace L2.L3
open PySem
def F1 (P:D->(D->Prop)->Prop):Fw:=λds Q=>∃x,ds=[x]/\P x Q
def F2 (P:D->D->(D->Prop)->Prop):Fw:=λds Q=>∃x y,ds=[x,y]/\P x y Q
def F3 (P:D->D->D->(D->Prop)->Prop):Fw:=λds Q=>∃x y z,ds=[x,y,z]/\P x y z Q
theorem iY {P}:∀ds Q,F1 P ds Q->ds.length=1:=by rintro ds Q ⟨x,rfl,_⟩;rfl
theorem m5 {P}:∀ds Q,F2 P ds Q->ds.length=2:=by rintro ds Q ⟨x,y,rfl,_⟩;rfl
theorem Bb {P}:∀ds Q,F3 P ds Q->ds.length=3:=by rintro ds Q ⟨x,y,z,rfl,_⟩;rfl
theorem jX {P} {x:D} {Q}:F1 P [x] Q=P x Q:=by
 unfold F1;apply propext;constructor
 ·rintro⟨x',e,h⟩;cases e;exact h
 ·intro h;exact⟨_,rfl,h⟩
theorem gL {P} {x y:D} {Q}:F2 P [x,y] Q=P x y Q:=by
 unfold F2;apply propext;constructor
 ·rintro⟨x',y',e,h⟩;cases e;exact h
 ·intro h;exact⟨_,_,rfl,h⟩
theorem vO {P} {x y z:D} {Q}:F3 P [x,y,z] Q=P x y z Q:=by
 unfold F3;apply propext;constructor
 ·rintro⟨x',y',z',e,h⟩;cases e;exact h
 ·intro h;exact⟨_,_,_,rfl,h⟩
def C5:D->Bool|.int _=>true|_=>false
def tU (x:D) (Q:D->Prop):Prop:=Pl x/\Q (.bl (C5 x))
def uK:Fw:=F1 tU
def m7:bG:=(b8 (jH (kX "int" (ag 0)) (j3 (kX "bool" (ag 0)))))
theorem rN:∀ds (Q:D->Prop),uK ds Q->m7 { nx:=λ_=>Q .non,rt:=Q } (aE ["thing"] ds):=by
 rintro ds Q ⟨x,rfl,hx,h⟩
 simp_all_arith only [m7]
 refine Ai hx ⟨_,rfl,?_⟩;cases x <;> simp only [isInt,if_true,He,if_false] <;> first|exact h|exact C9 hx ⟨_,rfl,h⟩
def vq (ns:List Int) (k:Int):Int:=if k < ns.length then ns.getD k.toNat 0 else 0
def vH (x y:D) (Q:D->Prop):Prop:=∃(ns:List Int) (k:Int),x=.lst (ns.map D.int)/\y=.int k/\0<=k/\Q (.int (vq ns k))
def u5:Fw:=F2 vH
def n8:bG:=(aK (gK (aN (aL DI (ag 1) (aB gF (af (ag 0) av)))) (b8 (aL cK (ag 0) (ag 1))) bC) (b8 (cC (.int 0))))
theorem rB:∀ds (Q:D->Prop),u5 ds Q->n8 { nx:=λ_=>Q .non,rt:=Q } (aE ["_law_script","_law_k"] ds):=by
 rintro ds Q ⟨x,y,rfl,ns,k,rfl,rfl,hk,h⟩
 simp_all_arith only [n8,Hh]
 unfold vq at h
 by_cases hl:k < ns.length
 ·rw [if_pos hl] at h ⊢;have hn:k.toNat < ns.length:=by omega
  refine⟨.int (ns.getD k.toNat 0),?_,h⟩;rw [qS hk (by simpa using hl)];simp [hn]
 ·rw [if_neg hl] at h ⊢;exact h
def df:Fw:=F1 tU
def l7:bG:=(b8 (jH (kX "int" (ag 0)) (j3 (kX "bool" (ag 0)))))
theorem oq:∀ds Q,df ds Q->ds.length=1:=iY
theorem qg:∀ds (Q:D->Prop),df ds Q->l7 { nx:=λ_=>Q .non,rt:=Q } (aE ["_law_thing_here"] ds):=by
 exact rN
end L2.L3
namespace L2
open PySem PySem.Spec PyProof.Rows
theorem Inv.A5 {X:Cx} {pins:List (Addr×Obj)} {σ:St} {H:Hp} {s:Shared} {h':Heap} {t':Nat} {ch:List Addr} (I:Inv X pins σ H s) (k:∀b o,b∉ch->s.heap.get? b=some o->h'.get? b=some o) (hf:∀b∈ch,kN X pins H b) :
  Inv X pins σ H { s with heap:=h',toks:=t' }:=by
 have far:∀b u,H b=some u->b∉ch:=λb u e z=>by rw [(hf b z).1] at e;cases e
 refine I.step (g':=s.gens) (d':=s.drawn) (ch:=ch) (λb hb=>⟨(hf b hb).2.2.2.1,(hf b hb).2.1,(hf b hb).2.2.2.2.1,(hf b hb).2.2.2.2.2⟩) (λb o _ _ hc e _=>k b o hc e) (λb o _ _ hc e _=>⟨o.slots,k b o hc e⟩)
  (λ_ _ _ _ n=>n) (λb o hc e=>⟨o,k b o hc e⟩) (λ_ _ e=>e) (λ_ _ _ e=>e) (λ_ _ e=>e) (λm hm=>?_) (λb u e=>?_) I.bare
 ·obtain⟨o,es,ep,ho,r⟩:=hm;exact⟨o,es,ep,k _ o (λz=>(hf _ z).2.1 rfl) ho,r⟩
 ·refine (I.hok b u e).mn (λc v hc q=>k c v ?_ q) (λ_ q=>q) (λ_ _ q=>q) λ_ _ _ q=>q;rcases hc with z|z
  ·rw [z];exact far b u e
  ·exact far c _ z
section
variable {prog:Program} {w:World} {A:Around} {E:Value->Shared->Prop} {s:Shared}
theorem CA {j l:Addr} {k:Nat} {its:Array Value} {y:Value} {Q:Value->Shared->Prop} (hj:s.heap.IsTupleIter j l k) (hl:s.heap.IsTuple l its) (hy:its[k]?=some y)
  (q:∀h1,h1.IsTupleIter j l (k + 1)->Heap.SameBut j s.heap h1->Q y { s with heap:=h1 }):wpAny (model prog w) A (Builtin.SmallTypes.nextOf (.ref j)) Q E s:=by
 obtain⟨oj,e1,c1,d1⟩:=id hj;obtain⟨ot,e2,_,_,d2⟩:=hl;unfold Builtin.SmallTypes.nextOf;refine G8 (HQ (name:=Str.ofString "__next__") hj.typeIs F.slot_tuple_iterator_next (wpAny_call_entry F.slot_tuple_iterator_next hj.typeIs F.entry_tuple_iterator_next ?_ (F.args_tuple_iterator_next_1 _)))
 show wpAny _ _ (field (.ref j) 0 >>= _) _ _ s
 refine G8 (wpAny_field e1 d1 (x:=.ref l) rfl ?_);show wpAny _ _ (if (Value.ref l == Value.none)=true then _ else _) _ _ s
 rw [if_neg (show ¬ ((Value.ref l == Value.none)=true) from Bool.false_ne_true)];show wpAny _ _ (field (.ref j) 1 >>= _) _ _ s
 refine G8 (wpAny_field e1 d1 (x:=.int k 0) rfl ?_);show wpAny _ _ (seqItems? (.ref l) >>= _) _ _ s
 refine G8 (wpAny_seqItems e2 d2 ?_);simp only [Int.toNat_natCast,hy];refine G8 (wpAny_setField e1 d1 (by simp) (Hd ⟨y,rfl,Hd (q _ ?_ (Heap.SameBut.update ..))⟩));exact⟨_,Heap.get?_update_self _ e1 (Obj.isFreed_of_fields (Obj.data_mapFields d1 _)),(Obj.cls_mapFields ..).trans c1,by rw [Obj.data_mapFields d1];simp [rawInt]⟩
theorem u9 {j l:Addr} {k:Nat} {its:Array Value} {Q:Value->Shared->Prop} (hh:A.handled=none) (hj:s.heap.IsTupleIter j l k) (hl:s.heap.IsTuple l its) (hy:its[k]?=none)
  (q:∀h1 e,Heap.ExtBut j s.heap h1->(∃o,h1.get? e=some o/\o.cls=.type "StopIteration")->E (.ref e) { s with heap:=h1 }):wpAny (model prog w) A (Builtin.SmallTypes.nextOf (.ref j)) Q E s:=by
 obtain⟨oj,e1,c1,d1⟩:=id hj;obtain⟨ot,e2,_,_,d2⟩:=hl;unfold Builtin.SmallTypes.nextOf;refine G8 (HQ (name:=Str.ofString "__next__") hj.typeIs F.slot_tuple_iterator_next (wpAny_call_entry F.slot_tuple_iterator_next hj.typeIs F.entry_tuple_iterator_next ?_ (F.args_tuple_iterator_next_1 _)))
 show wpAny _ _ (field (.ref j) 0 >>= _) _ _ s
 refine G8 (wpAny_field e1 d1 (x:=.ref l) rfl ?_);show wpAny _ _ (if (Value.ref l == Value.none)=true then _ else _) _ _ s
 rw [if_neg (show ¬ ((Value.ref l == Value.none)=true) from Bool.false_ne_true)];show wpAny _ _ (field (.ref j) 1 >>= _) _ _ s
 refine G8 (wpAny_field e1 d1 (x:=.int k 0) rfl ?_);show wpAny _ _ (seqItems? (.ref l) >>= _) _ _ s
 refine G8 (wpAny_seqItems e2 d2 ?_);simp only [Int.toNat_natCast,hy];refine G8 (wpAny_rule (G8 (wpAny_setField e1 d1 (by simp) (show wpAny _ _ (newExc (.type "StopIteration") [] >>= _) _ _ _ from G8 ?_))))
 simp only [newExc,newTuple];refine G8 (wpAny_newObj_type (G8 (m:=firstArgMember _ _) (wpAny_of_eq (a:=Value.none) (by first|rfl|(simp only [firstArgMember];rfl)) (wpAny_newObj_type ?_ (by size_fits)))) (by size_fits));simp only [raiseNew];refine G8 (wpAny_handled ?_)
 first|rw [show A.in1.handled=none from hh]|rw [hh]
 exact G8 (Hd (wpAny_throw (q _ _ (((Heap.SameBut.update ..).extBut.push _).push _) ⟨_,Hs _ rfl,rfl⟩)))
theorem AN {e j:Addr} {k:Nat} {y z:Value} {T:Heap->Prop} {Q:Value->Shared->Prop} (he:IsEnum s.heap e j k z) (ne:e≠j)
  (nx:∀R:Value->Shared->Prop,(∀h1,T h1->Heap.SameBut j s.heap h1->R y { s with heap:=h1 })->wpAny (model prog w) A (Builtin.SmallTypes.nextOf (.ref j)) R E s)
  (mv:∀h1 h2:Heap,T h1->(∀o,h1.get? j=some o->h2.get? j=some o)->T h2) (hj:∀h1,T h1->∃o,h1.get? j=some o)
  (q:∀h1,IsEnumOut h1 e j ((k:Int) + 1) y s.heap.objs.size->T h1->h1.get? s.heap.objs.size=some { cls:=.type "tuple",data:=.seq #[.int k s.toks,y] }->(∀b o,b≠e->b≠j->s.heap.get? b=some o->h1.get? b=some o) ->
   Q (.ref s.heap.objs.size) { s with heap:=h1,toks:=s.toks + 1 }) :
  wpAny (model prog w) A (Builtin.«enumerate.__next__» ⟨[.ref e],[]⟩) (λfin s'=>∃v,fin=.done (.ret v)/\Q v s') E s:=by
 obtain⟨hp,g,d,tk,os⟩:=s;show wpAny _ _ (field (.ref e) 2 >>= _) _ _ _
 refine G8 (wpAny_field he rfl (x:=.ref j) rfl (G8 (nx _ λg1 t1 b1=>?_)))
 replace b1:Heap.SameBut j hp g1:=b1
 have i1:IsEnum g1 e j k z:=(b1.2 e ne).trans he;show wpAny _ _ (field (.ref e) 3 >>= _) _ _ ⟨g1,g,d,tk,os⟩
 refine G8 (wpAny_field i1 rfl (x:=rawInt k) rfl ?_);show wpAny _ _ (field (.ref e) 4 >>= _) _ _ ⟨g1,g,d,tk,os⟩
 refine G8 (wpAny_field i1 rfl (x:=.none) rfl ?_);show wpAny _ _ (mkInt k >>= _) _ _ ⟨g1,g,d,tk,os⟩
 refine G8 (wpAny_mkInt ?_);show wpAny _ _ (setField (.ref e) 3 (rawInt ((k:Int) + 1)) >>= _) _ _ ⟨g1,g,d,tk + 1,os⟩
 refine G8 (wpAny_setField_rec i1 (by simp) λg2 i2 b2=>?_)
 replace b2:Heap.SameBut e g1 g2:=b2
 replace i2:IsEnum g2 e j ((k:Int) + 1) z:=i2
 show wpAny _ _ (setField (.ref e) 4 .none >>= _) _ _ ⟨g2,g,d,tk + 1,os⟩
 refine G8 (wpAny_setField_rec i2 (by simp) λg3 i3 b3=>?_)
 replace b3:Heap.SameBut e g2 g3:=b3
 replace i3:IsEnum g3 e j ((k:Int) + 1) z:=i3
 show wpAny _ _ (newTuple [.int k tk,y] >>= _) _ _ ⟨g3,g,d,tk + 1,os⟩
 refine G8 (wpAny_newTuple ?_);have i4:IsEnum (g3.push { cls:=.type "tuple",data:=.seq #[.int k tk,y] }) e j ((k:Int) + 1) z:=Hf _ i3
 generalize eg:g3.push { cls:=.type "tuple",data:=.seq #[.int k tk,y] }=g4 at i4
 have sz:g3.objs.size=hp.objs.size:=by rw [b3.1,b2.1,b1.1]
 have lt:e < hp.objs.size:=Ho he;have t4:g4.get? hp.objs.size=some { cls:=.type "tuple",data:=.seq #[.int k tk,y] }:=by rw [<- eg,<- sz];exact Hs _ rfl
 have k4:∀b o,b≠e->b≠j->hp.get? b=some o->g4.get? b=some o:=λb o n1 n2 hb=>by
  rw [<- eg];exact Hf _ (b3.extBut b o n1 (b2.extBut b o n1 (b1.extBut b o n2 hb)))
 have T4:T g4:=mv g1 g4 t1 λo ho=>by rw [<- eg];exact Hf _ (b3.extBut j o (Ne.symm ne) (b2.extBut j o (Ne.symm ne) ho))
 show wpAny _ _ (Builtin.SmallTypes.ownedTupleIsFree (.ref e) >>= _) _ _ ⟨g4,g,d,tk + 1,os⟩
 rw [sz];clear eg i3 b3 i2 b2 i1 b1 t1 sz g3 g2 g1;refine G8 ?_;unfold Builtin.SmallTypes.ownedTupleIsFree;refine G8 (wpAny_field i4 rfl (x:=.none) rfl (Hd ?_));simp only [if_true];refine G8 (wpAny_rule (G8 (wpAny_field i4 rfl (x:=z) rfl (G8 (wpAny_setField_rec i4 (by simp) λg5 i5 b5=>?_)))))
 replace b5:Heap.SameBut e g4 g5:=b5
 replace i5:IsEnum g5 e j ((k:Int) + 1) y:=i5
 show wpAny _ _ (Builtin.SmallTypes.ownedTupleHandOut (.ref e) (.ref hp.objs.size) >>= _) _ _ ⟨g5,g,d,tk + 1,os⟩
 refine G8 ?_;unfold Builtin.SmallTypes.ownedTupleHandOut;refine G8 (wpAny_setField_rec i5 (by simp) λg6 i6 b6=>?_)
 replace b6:Heap.SameBut e g5 g6:=b6
 replace i6:IsEnumOut g6 e j ((k:Int) + 1) y hp.objs.size:=i6
 refine wpAny_setField_rec i6 (by simp) λg7 i7 b7=>?_
 replace b7:Heap.SameBut e g6 g7:=b7
 replace i7:IsEnumOut g7 e j ((k:Int) + 1) y hp.objs.size:=i7
 have far:∀b o,b≠e->g4.get? b=some o->g7.get? b=some o:=λb o n hb=>b7.extBut _ _ n (b6.extBut _ _ n (b5.extBut _ _ n hb));refine G8 (wpAny_letGo (Hd ⟨_,rfl,q g7 i7 (mv g4 g7 T4 λo ho=>far j o (Ne.symm ne) ho) (far _ _ (Nat.ne_of_gt lt) t4) λb o n1 n2 hb=>far b o n1 (k4 b o n1 n2 hb)⟩))
theorem vP {e j:Addr} {k:Nat} {y z:Value} {T:Heap->Prop} {Q:Option Value->Shared->Prop} (he:IsEnum s.heap e j k z) (ne:e≠j)
  (nx:∀(A':Around) (E':Value->Shared->Prop) (R:Value->Shared->Prop),(∀h1,T h1->Heap.SameBut j s.heap h1->R y { s with heap:=h1 })->wpAny (model prog w) A' (Builtin.SmallTypes.nextOf (.ref j)) R E' s)
  (mv:∀h1 h2:Heap,T h1->(∀o,h1.get? j=some o->h2.get? j=some o)->T h2) (hj:∀h1,T h1->∃o,h1.get? j=some o)
  (q:∀h1,IsEnumOut h1 e j ((k:Int) + 1) y s.heap.objs.size->T h1->h1.get? s.heap.objs.size=some { cls:=.type "tuple",data:=.seq #[.int k s.toks,y] }->(∀b o,b≠e->b≠j->s.heap.get? b=some o->h1.get? b=some o) ->
   Q (some (.ref s.heap.objs.size)) { s with heap:=h1,toks:=s.toks + 1 }):wpAny (model prog w) A (pyNext (.ref e)) Q E s:=by
 have ty:s.TypeIs (.ref e) "enumerate":=⟨_,he,rfl⟩
 unfold pyNext
 exact G8 (wpAny_attempt (HQ (name:=Str.ofString "__next__") ty F.slot_enumerate_next (wpAny_call_entry F.slot_enumerate_next ty F.entry_enumerate_next
  (AN he ne (λR hR=>nx _ _ R hR) mv hj λh1 a b c d=>Hd (q h1 a b c d)) (F.args_enumerate_next_1 _))))
theorem zB {e j:Addr} {k:Nat} {z:Value} {Q:Option Value->Shared->Prop} (he:IsEnum s.heap e j k z)
  (nx:∀(A':Around) (E':Value->Shared->Prop),A'.handled=A.handled->(∀h1 x,Heap.ExtBut j s.heap h1->(∃o,h1.get? x=some o/\o.cls=.type "StopIteration")->E' (.ref x) { s with heap:=h1 })->wpAny (model prog w) A' (Builtin.SmallTypes.nextOf (.ref j)) (λ_ _=>False) E' s)
  (q:∀h1,Heap.ExtBut j s.heap h1->Q none { s with heap:=h1 }):wpAny (model prog w) A (pyNext (.ref e)) Q E s:=by
 have ty:s.TypeIs (.ref e) "enumerate":=⟨_,he,rfl⟩
 unfold pyNext;refine G8 (wpAny_attempt (HQ (name:=Str.ofString "__next__") ty F.slot_enumerate_next (wpAny_call_entry F.slot_enumerate_next ty F.entry_enumerate_next ?_ (F.args_enumerate_next_1 _))))
 show wpAny _ _ (field (.ref e) 2 >>= _) _ _ _
 refine G8 (wpAny_field he rfl (x:=.ref j) rfl (G8 (HE (nx _ _ rfl λh1 x b1 c1=>?_) (λ_ _ f=>f.elim) λ_ _ u=>u)));obtain⟨o,ho,hc⟩:=c1;exact G8 (wpAny_isInstance (T:="StopIteration") (b:=true) ⟨o,ho,hc⟩ isSubtype_stop (Hd (q _ b1)))
end
end L2
namespace L2.L3
open PySem PySem.Spec PyProof.Rows
def DT (S:Hp->List V->Prop):It :=
 ⟨λi H=>∃xs x,S H xs/\xs[i]?=some x,λi H y H'=>∃p x,(∀xs,S H xs->xs[i]?=some x)/\H p=none/\y=.ref p/\H'=upd H p (.tup [.int i,x]),λi H=>∃xs,S H xs/\xs.length<=i⟩
theorem zq {X:Cx} {pins:List (Addr×Obj)} {σ:St} {H:Hp} {s:Shared} {e j:Addr} {i:Nat} {x:V} {u:Value} {h2:Heap} (I:Inv X pins σ H s) (hf:∀b∈[e,j],kN X pins H b) (ru:RelV x u)
  (lt:e < s.heap.objs.size) (lj:j < s.heap.objs.size) (t1:h2.get? s.heap.objs.size=some { cls:=.type "tuple",data:=.seq #[.int i s.toks,u] }) (fr:∀b o,b≠e->b≠j->s.heap.get? b=some o->h2.get? b=some o) :
  Inv X pins σ (upd H s.heap.objs.size (.tup [.int i,x])) { s with heap:=h2,toks:=s.toks + 1 }/\H s.heap.objs.size=none:=by
 have hn:H s.heap.objs.size=none:=I.hok.fresh (Hl _);refine⟨?_,hn⟩
 have I1:Inv X pins σ (upd H s.heap.objs.size (.tup [.int i,x])) { s with heap:=s.heap.push { cls:=.type "tuple",data:=.seq #[.int i s.toks,u] },toks:=s.toks } :=
  I.laid (t':=s.toks) (λb o e=>Hf _ e) (Hl _) (show bL X.prog X.w _ _ _ (.tup [.int i,x]) from ⟨by simp [Ht],[.int i s.toks,u],.cons ⟨_,rfl⟩ (.cons ru .nil),oM.new _ _⟩)
 refine Inv.A5 (s:={ s with heap:=s.heap.push { cls:=.type "tuple",data:=.seq #[.int i s.toks,u] },toks:=s.toks }) (h':=h2) (t':=s.toks + 1) (ch:=[e,j]) I1 (λb o hb hg=>?_) λb hb=>?_
 ·have nb1:b≠e:=λz=>hb (by simp [z]);have nb2:b≠j:=λz=>hb (by simp [z]);rcases Heap.get?_push_cases hg with ⟨rfl,rfl⟩|hg
  ·exact t1
  ·exact fr b o nb1 nb2 hg
 ·obtain⟨f0,f⟩:=hf b hb;refine⟨?_,f⟩;rw [aj];exact f0;rcases Hx.mp hb with rfl|hb
  ·exact HC lt
  ·rw [HA.mp hb];exact HC lj
theorem yE {P:Program} {w:World} {K:Ha} {elts:List Expr} {x1:Nat} {tp:Pos} (a e j:Addr) (ne:e≠j):Turn P w K (.Tuple elts x1 tp) (DT λH xs=>dE K H a xs) [e,j] e (λi h=>(∃z,IsEnum h e j i z)/\h.IsListIter j a i) where
 mem:=by simp
 obj:=λi h st b hb=>by
  obtain⟨⟨z,e1⟩,o,e2,c,d⟩:=st;rcases Hx.mp hb with rfl|hb
  ·exact⟨_,e1,λv q=>by
    have q':Data.fields _=Data.cell v:=q
    cases q'⟩
  ·rw [HA.mp hb];exact⟨o,e2,λv q=>by rw [d] at q;cases q⟩
 keep:=λi h h' st k=>⟨⟨st.1.choose,k e (by simp) _ st.1.choose_spec⟩,st.2.at λo q=>k j (by simp) o q⟩
 item:=by
  intro X hP hw hK hc i pins s σ H E I hf st hg;subst hP hw hK;obtain⟨⟨z,he⟩,hj⟩:=st;obtain⟨xs,x,hq,hx⟩:=hg;obtain⟨its,rv,p,hz⟩:=I.list hq;obtain⟨u,hu,ru⟩:=rv.get hx;have lt:e < s.heap.objs.size:=Ho he;have lj:j < s.heap.objs.size:=by obtain⟨_,q,_⟩:=hj;exact Ho q
  refine vP (T:=λh=>h.IsListIter j a (i + 1)) he ne (λA' E' R hR=>wpAny_nextOf_list_item hj p.isList (x:=u) (by simpa using hu) hR) (λh1 h2 t k=>t.at λo q=>k o q) (λh1 t=>let ⟨o,q,_⟩:=t;⟨o,q⟩) λh1 o1 t1 n1 fr=>?_
  refine⟨_,rfl,wpAny_letOwnedTupleGo_enum o1 λh2 e2 b2=>?_⟩;have n2:h2.get? s.heap.objs.size=some { cls:=.type "tuple",data:=.seq #[.int i s.toks,u] }:=(b2.2 _ (Nat.ne_of_gt lt)).trans n1
  obtain⟨I2,hn⟩:=zq (h2:=h2) I hf ru lt lj n2 λb o q1 q2 q3=>(b2.2 b q1).trans (fr b o q1 q2 q3);refine⟨.ref s.heap.objs.size,_,I2,rfl,⟨_,x,λys hy=>by rw [I.nW hy hq];exact hx,hn,rfl,rfl⟩,⟨⟨u,by simpa using e2⟩,t1.at λo q=>(b2.2 j (Ne.symm ne)).trans q⟩,λb hb=>?_⟩;rw [aj];exact (hf b hb).1;rcases Hx.mp hb with rfl|hb
  ·exact HC lt
  ·rw [HA.mp hb];exact HC lj
 done:=by
  intro X hP hw hK hc i pins s σ H E I hf st hg;subst hP hw hK;obtain⟨⟨z,he⟩,hj⟩:=st;obtain⟨xs,hq,hx⟩:=hg;obtain⟨its,rv,p,hz⟩:=I.list hq;have hl:=rv.length;refine zB he (λA' E' hA hE=>wpAny_nextOf_list_end (hA.trans (I.ok.hd hc)) hj p.isList (by simp;omega) hE) λh1 b1=>⟨rfl,?_⟩;obtain⟨f0,f1,f2,f3,f4,f5⟩:=hf j (by simp);exact I.turned (t':=s.toks) (λb o hb e=>b1 b o hb e) f0 f1 f3 f4 f5
 self:=λ_ _ _ _ _ st h=>wpAny_pyIter_enum st.1.choose_spec h
theorem xO {P:Program} {w:World} {K:Ha} {elts:List Expr} {x1:Nat} {tp:Pos} (a e j:Addr) (ne:e≠j):Turn P w K (.Tuple elts x1 tp) (DT λH xs=>gw K H a xs) [e,j] e (λi h=>(∃z,IsEnum h e j i z)/\h.IsTupleIter j a i) where
 mem:=by simp
 obj:=λi h st b hb=>by
  obtain⟨⟨z,e1⟩,o,e2,c,d⟩:=st;rcases Hx.mp hb with rfl|hb
  ·exact⟨_,e1,λv q=>by
    have q':Data.fields _=Data.cell v:=q
    cases q'⟩
  ·rw [HA.mp hb];exact⟨o,e2,λv q=>by rw [d] at q;cases q⟩
 keep:=λi h h' st k=>⟨⟨st.1.choose,k e (by simp) _ st.1.choose_spec⟩,st.2.at λo q=>k j (by simp) o q⟩
 item:=by
  intro X hP hw hK hc i pins s σ H E I hf st hg;subst hP hw hK;obtain⟨⟨z,he⟩,hj⟩:=st;obtain⟨xs,x,hq,hx⟩:=hg;obtain⟨its,rv,p,hz⟩:=I.tuple hq;obtain⟨u,hu,ru⟩:=rv.get hx;have lt:e < s.heap.objs.size:=Ho he;have lj:j < s.heap.objs.size:=by obtain⟨_,q,_⟩:=hj;exact Ho q
  refine vP (T:=λh=>h.IsTupleIter j a (i + 1)) he ne (λA' E' R hR=>CA hj (show s.heap.IsTuple a its.toArray from p) (y:=u) (by simpa using hu) hR) (λh1 h2 t k=>t.at λo q=>k o q) (λh1 t=>let ⟨o,q,_⟩:=t;⟨o,q⟩) λh1 o1 t1 n1 fr=>?_
  refine⟨_,rfl,wpAny_letOwnedTupleGo_enum o1 λh2 e2 b2=>?_⟩;have n2:h2.get? s.heap.objs.size=some { cls:=.type "tuple",data:=.seq #[.int i s.toks,u] }:=(b2.2 _ (Nat.ne_of_gt lt)).trans n1
  obtain⟨I2,hn⟩:=zq (h2:=h2) I hf ru lt lj n2 λb o q1 q2 q3=>(b2.2 b q1).trans (fr b o q1 q2 q3);refine⟨.ref s.heap.objs.size,_,I2,rfl,⟨_,x,λys hy=>by rw [I.kH hy hq];exact hx,hn,rfl,rfl⟩,⟨⟨u,by simpa using e2⟩,t1.at λo q=>(b2.2 j (Ne.symm ne)).trans q⟩,λb hb=>?_⟩;rw [aj];exact (hf b hb).1;rcases Hx.mp hb with rfl|hb
  ·exact HC lt
  ·rw [HA.mp hb];exact HC lj
 done:=by
  intro X hP hw hK hc i pins s σ H E I hf st hg;subst hP hw hK;obtain⟨⟨z,he⟩,hj⟩:=st;obtain⟨xs,hq,hx⟩:=hg;obtain⟨its,rv,p,hz⟩:=I.tuple hq;have hl:=rv.length;refine zB he (λA' E' hA hE=>u9 (hA.trans (I.ok.hd hc)) hj (show s.heap.IsTuple a its.toArray from p) (by simp;omega) hE) λh1 b1=>⟨rfl,?_⟩;obtain⟨f0,f1,f2,f3,f4,f5⟩:=hf j (by simp);exact I.turned (t':=s.toks) (λb o hb e=>b1 b o hb e) f0 f1 f3 f4 f5
 self:=λ_ _ _ _ _ st h=>wpAny_pyIter_enum st.1.choose_spec h
section
variable {prog:Program} {w:World} {A:Around} {E:Value->Shared->Prop} {s:Shared}
open AutoSeq1 (wpAny_loadPart') in
theorem Dr (l:Addr) (its:Array Value) (o:Obj) (c:o.cls=.type "tuple") (n:Nat) (dd:o.data=.seq its n) :
  Meets (Builtin.«enumerate.__new__» ⟨[.type "enumerate",.ref l],[]⟩) (λ_ R s=>s.heap.get? l=some o /\
   R (.ok (.ret (.ref (s.heap.push { cls:=.type "tuple_iterator",data:=.fields #[.ref l,.int 0 0] }).objs.size)))
    { s with heap:=(s.heap.push { cls:=.type "tuple_iterator",data:=.fields #[.ref l,.int 0 0] }).push { cls:=.type "enumerate",data:=.fields #[.none,.bool false,.ref s.heap.objs.size,rawInt 0,.none,.none] } }) :=
 .of_wp λprog w A R s hh=>by
  obtain⟨oc,od,odt,osl⟩:=o
  replace c:oc=.type "tuple":=c
  replace dd:odt=.seq its n:=dd
  subst c dd;obtain⟨hp,gg,dr,tk,os⟩:=s;obtain⟨hl,q⟩:=hh;have hsub:=sub_enumerate;have hT:Heap.IsTuple (Shared.heap ⟨hp,gg,dr,tk,os⟩) l its:=⟨_,hl,rfl,n,rfl⟩
  wp_walk using wpAny_loadPart' hl
  refine wpAny_stack_any λst=>Hd ?_
  split
  ·rename_i cc _ _ _ _ _;cases (cc == Value.type "enumerate") <;> (wp_walk using wpAny_loadPart' hl,wpAny_pyIter_tuple hT;exact⟨_,rfl,q⟩)
  ·wp_walk using wpAny_loadPart' hl,wpAny_pyIter_tuple hT
   exact⟨_,rfl,q⟩
theorem xD {l:Addr} {its:Array Value} {Q:Value->Shared->Prop} (hl:s.heap.IsTuple l its)
  (q:∀h1,IsEnum h1 (s.heap.objs.size + 1) s.heap.objs.size 0 .none->h1.IsTupleIter s.heap.objs.size l 0->(∀b o,s.heap.get? b=some o->h1.get? b=some o)->Q (.ref (s.heap.objs.size + 1)) { s with heap:=h1 }):wpAny (model prog w) A (call (.type "enumerate") [.ref l]) Q E s:=by
 obtain⟨o,e1,c1,n,d1⟩:=hl;refine callType_new F.called_enumerate (by decide) (F.typeCall_enumerate_1 _) (F.newCall_enumerate_1 _) (λob=>F.args_object_init_2 ob _) F.entry_enumerate_new (Dr l its o c1 n d1) ⟨e1,?_⟩;have z:(s.heap.push { cls:=.type "tuple_iterator",data:=.fields #[.ref l,.int 0 0] }).objs.size=s.heap.objs.size + 1:=Heap.size_push ..
 show _/\_
 rw [z]
 have i1:IsEnum ((s.heap.push { cls:=.type "tuple_iterator",data:=.fields #[.ref l,.int 0 0] }).push { cls:=.type "enumerate",data:=.fields #[.none,.bool false,.ref s.heap.objs.size,rawInt 0,.none,.none] }) (s.heap.objs.size + 1) s.heap.objs.size 0 .none:=by
  have y:=Hs (s.heap.push { cls:=.type "tuple_iterator",data:=.fields #[.ref l,.int 0 0] }) (o:={ cls:=.type "enumerate",data:=.fields #[.none,.bool false,.ref s.heap.objs.size,rawInt 0,.none,.none] }) rfl
  rw [z] at y;exact y
 exact⟨⟨_,i1,rfl⟩,q _ i1 ⟨_,Hf _ (Hs _ rfl),rfl,rfl⟩ λb o x=>Hf _ (Hf _ x)⟩
end
section
variable {X:Cx}
def GG (K:Ha) (ta:TA):TI:=λσ H R=>ta σ H λvs H1=>∃a,vs=[.ref a]/\(((∃xs,dE K H1 a xs)/\R (DT λH xs=>dE K H a xs) H1)\/((∃xs,gw K H1 a xs)/\R (DT λH xs=>gw K H a xs) H1))
theorem EO {elts:List Expr} {x1:Nat} {tp:Pos} {a:Expr} {ta:TA} {p pos:Pos} (hg:Gl X "enumerate") (hm:X.mg "enumerate" = none) (ha:PA X [a] ta) (hs:starEach [a] X.env=[(false,eval a X.env)]:=by rfl) :
  PI X (.Tuple elts x1 tp) (.Call (.Name "enumerate" p) [a] [] pos) (GG X.K ta):=by
 intro pins s σ H R I h;refine Call_ (je I hg hm boot_enumerate (PyProof.Rows.callWith_type1 (bK (ha pos pins s σ H _ I h) λus s1 ⟨vs,H1,I1,r1,q1⟩=>?_) hs rfl));obtain⟨l,e,q⟩:=q1;subst e
 cases r1 with
 | cons r rr =>
  cases rr;cases r
  have fin:∀b∈[s1.heap.objs.size + 1,s1.heap.objs.size],kN X pins H1 b:=λb hb=>by
   have hb':s1.heap.objs.size<=b:=by
    rcases Hx.mp hb with rfl|hb
    ·omega
    ·rw [HA.mp hb];exact Hl _
   exact I1.w6 hb' (I1.hok.fresh hb')
  rcases q with ⟨⟨xs,hq⟩,q⟩|⟨⟨xs,hq⟩,q⟩
  ·obtain⟨its,rv,pl,hz⟩:=I1.list hq;refine call_enumerate_list pl.isList λh1 i1 j1 _ k1=>?_;refine wpAny_pyIter_enum i1 ⟨_,[s1.heap.objs.size + 1,s1.heap.objs.size],_,_,H1,rfl,I1.kept (t':=s1.toks) k1,yE l (s1.heap.objs.size + 1) s1.heap.objs.size (Nat.succ_ne_self _),⟨⟨_,i1⟩,j1⟩,fin,q⟩
  ·obtain⟨its,rv,pl,hz⟩:=I1.tuple hq;refine xD (show s1.heap.IsTuple l its.toArray from pl) λh1 i1 j1 k1=>?_;refine wpAny_pyIter_enum i1 ⟨_,[s1.heap.objs.size + 1,s1.heap.objs.size],_,_,H1,rfl,I1.kept (t':=s1.toks) k1,xO l (s1.heap.objs.size + 1) s1.heap.objs.size (Nat.succ_ne_self _),⟨⟨_,i1⟩,j1⟩,fin,q⟩
end
structure u7 (K:Ha) (J:It) (F1:Hp) (xs:List D):Prop where
 go:∀(i:Nat) (G H':Hp),aq F1 G->aq G H'->i < xs.length->J.go i H'
 yld:∀(i:Nat) (G H':Hp) (y:V) (H'':Hp) (x:D) (B:Base) (σ:St) (env:En),aq F1 G->Rep K B G H' σ env->xs[i]?=some x->J.yld i H' y H''->∃G',Rep K B G' H'' σ env/\aq G G'/\Den K G' x y
 stop:∀(G H':Hp),aq F1 G->aq G H'->J.stop xs.length H'
def lU (xs:List D):List D:=xs.mapIdx λi x=>.tup [.int (i:Int),x]
theorem sA {xs:List D} {i:Nat} {y:D} (h:(lU xs)[i]?=some y):∃x,xs[i]?=some x/\y=.tup [.int (i:Int),x]:=by
 unfold lU at h;rw [List.getElem?_mapIdx] at h
 cases e:xs[i]? with
 | none=>rw [e] at h;cases h
 | some x=>rw [e] at h;cases h;exact⟨x,rfl,rfl⟩
theorem lJ {xs:List D}:(lU xs).length=xs.length:=by simp [lU]
theorem rE {K:Ha} {F1:Hp} {vs:List V} {xs:List D} {S:Hp->List V->Prop} (hS:∀G H',aq F1 G->aq G H'->S H' vs) (r:ak K F1 xs vs):u7 K (DT S) F1 (lU xs) where
 go:=λi G H' s1 s2 hi=>by
  rw [lJ] at hi;have:i < vs.length:=by rw [<- r.length];exact hi
  exact⟨vs,vs[i],hS G H' s1 s2,by simp [this]⟩
 yld:=λi G H' y H'' x B σ env s1 rp hx hy=>by
  obtain⟨x',hx',rfl⟩:=sA hx;obtain⟨v,h1,h2⟩:=r.get hx';obtain⟨p,u,q1,q3,rfl,rfl⟩:=hy;have q2:=q1 vs (hS G H' s1 rp.fh);rw [h1] at q2;cases q2;obtain⟨r2,s2⟩:=rp.laid (o:=.tup [.int i,v]) q3;exact⟨_,r2,s2,eV (gw.of ao) (aH aZ (aH (Den.mono (s1.trans s2) _ _ h2) aI))⟩
 stop:=λG H' s1 s2=>⟨vs,hS G H' s1 s2,by rw [lJ,r.length];exact Hl _⟩
section
variable {X:Cx} {N':List Str} {ix:List Nat} {scope:Scope} {elt iter a b:Expr} {ifs:List Expr} {x y:Str} {px py tp pos:Pos} {c:Nat} {tt:TB} {te ti:TD} {ts:eD}
def zL (d:D):Option (List D):=match d with|.lst xs=>some xs|.tup xs=>some xs|_=>none
theorem Cg {B:Base} {σ:St} {F H:Hp} {env:En} {P:List D->Prop} {R:It->Hp->Prop} (hi:QA X [a] ts) (rp:Rep X.K B F H σ env) (h:ts env λds=>∃d xs,ds=[d]/\zL d=some xs/\P (lU xs))
  (hR:∀(J:It) (F1 H1:Hp) (xs:List D),Rep X.K B F1 H1 σ env->aq F F1->u7 X.K J F1 xs->P xs->R J H1) :
  GG X.K (wA X [a]) σ H R:=by
 refine bV (hi B σ F H env _ rp h) λvs H1 hq0=>?_;obtain⟨F1,ds,r1,s1,d1,d,xs,hx,hd,q1⟩:=hq0;subst hx;simp only [ak] at d1;obtain⟨v,r,rfl,dv,rfl⟩:=d1
 cases d with
 | lst ys =>
  simp only [zL] at hd;cases hd;simp only [Den] at dv;obtain⟨l,vs,rfl,q,r⟩:=dv
  exact⟨l,rfl,.inl ⟨⟨vs,r1.fh.seq q⟩,hR _ F1 H1 _ r1 s1 (rE (λG H' z1 z2=>z2.seq (z1.seq q)) r) q1⟩⟩
 | tup ys =>
  simp only [zL] at hd;cases hd;simp only [Den] at dv;obtain⟨l,vs,rfl,q,r⟩:=dv
  exact⟨l,rfl,.inr ⟨⟨vs,aq.bR r1.fh q⟩,hR _ F1 H1 _ r1 s1 (rE (λG H' z1 z2=>aq.bR z2 (aq.bR z1 q)) r) q1⟩⟩
 | _=>simp only [zL] at hd;cases hd
def oV (ts:eD) (g:mj) (tb:bG):bG:=λD env=>ts env λds=>∃d xs,ds=[d]/\zL d=some xs/\turns g tb D (lU xs) env
theorem wD {tg:Expr} {body:List Stmt} {g:mj} {t:bG} (hg:QG X tg g) (hb:mB X body t) {B:Base} {σ:St} {F1 H1:Hp} {env:En} {D:Ends3} {J:It} {xs:List L3.D} (r1:Rep X.K B F1 H1 σ env) (S:u7 X.K J F1 xs) (q1:turns g t D xs env) :
  ∃W:Nat->Nat->St->Hp->Prop,(∃m,W 0 m σ H1)/\∀i m σ H,W i m σ H->(J.stop i H/\(RS X B D).nx σ H)\/(J.go i H/\∃N:St->Hp->Prop,(∀σ' H',N σ' H'->∃m',m' < m/\W (i + 1) m' σ' H') /\
    ∀x H',J.yld i H x H'->wG X tg x σ H' λσ2 H2=>wSs X body { RS X B D with nx:=N,ct:=N,bk:=(RS X B D).nx } σ2 H2):=by
 have sm:=RS.same (X:=X) (B:=B) (D:=D) r1.f0;refine⟨λi m σ H=>m=xs.length - i/\i<=xs.length/\∃F env,Rep X.K ⟨F1,B.H,B.N,B.nb⟩ F H σ env/\turns g t D (xs.drop i) env,⟨xs.length,by simp,HU _,F1,env,r1.now,by simpa using q1⟩,?_⟩
 rintro i m σ2 H2 ⟨rfl,hi2,F2,env2,r2,q2⟩
 by_cases hlt:i < xs.length
 ·have hxi:xs[i]?=some xs[i]:=by simp [hlt]
  rw [drop_cons hxi] at q2;refine .inr ⟨S.go i F2 H2 r2.f0 r2.fh hlt,λσ' H'=>∃F env,Rep X.K ⟨F1,B.H,B.N,B.nb⟩ F H' σ' env/\turns g t D (xs.drop (i + 1)) env,λσ' H' ⟨F',env',r',q'⟩=>⟨xs.length - (i + 1),by omega,rfl,by omega,F',env',r',q'⟩,λz H' hz=>?_⟩;obtain⟨G,rG,sG,dz⟩:=S.yld i F2 H2 z H' xs[i] _ σ2 env2 r2.f0 r2 hxi hz;refine fv (hg _ σ2 G _ env2 _ _ _ rG dz q2) λσ3 H3 hq0=>?_;obtain⟨F3,env3,r3,s3,q3⟩:=hq0
  exact fj (hb _ σ3 F3 H3 env3 _ r3 q3) (λ_ _ q=>q) (λv H q=>sm.2.1 v H q) (λv H q=>sm.1 v H q) (λ_ _ q=>q)
 ·have e:i=xs.length:=by omega
  subst e;rw [Ib (Hl _)] at q2;exact .inl ⟨S.stop F2 H2 r2.f0 r2.fh,sm.1 _ _ ⟨F2,env2,r2,q2⟩⟩
theorem AL {elts:List Expr} {x1:Nat} {body:List Stmt} {g:mj} {t:bG} {p pos2:Pos} (hp:PassesOwn (model X.prog X.w) X.A X.env X.xe) (hc:X.calm=true) (hgl:Gl X "enumerate") (hm:X.mg "enumerate" = none) (ha:QA X [a] ts) (hg:QG X (.Tuple elts x1 tp) g) (hb:mB X body t)
  (hst:starEach [a] X.env=[(false,eval a X.env)]:=by rfl) (hs:∀x,HW (.Call (.Name "enumerate" p) [a] [] pos2) X.env x=pure x:=by intro _;rfl):QS X (.For (.Tuple elts x1 tp) (.Call (.Name "enumerate" p) [a] [] pos2) body [] pos) (oV ts g t):=by
 refine⟨λB σ F H env D rp h=>cQ (kO hp hc (EO hgl hm gR hst) tF cR hs) ?_⟩;exact Cg (P:=λxs=>turns g t D xs env) ha rp h λJ F1 H1 xs r1 s1 S q=>wD hg hb r1 S q
end
mutual
theorem vV:∀(a b c:D),aT a b=true->aT a c=aT b c:=by
 intro a b c h;cases a <;> cases b <;> first|(simp only [aT,He] at h;done)|skip
 all_goals cases c <;> first|rfl|(simp only [aT,beq_iff_eq] at h ⊢;subst h;rfl)|skip
 all_goals first
  | (simp only [aT] at h ⊢;exact sL _ _ _ h)
  | (simp only [aT,beq_iff_eq] at h ⊢;rw [Bool.eq_iff_iff];simp only [beq_iff_eq];split at h <;> split <;> simp_all <;> omega)
  | (simp only [aT,beq_iff_eq] at h ⊢;rw [Bool.eq_iff_iff];simp only [beq_iff_eq];split at h <;> simp_all)
  | (simp only [aT,beq_iff_eq] at h ⊢;subst h;rw [Bool.eq_iff_iff];simp only [beq_iff_eq];split <;> simp_all)
  | (simp only [aT,beq_iff_eq] at h ⊢;subst h;split <;> simp_all)
theorem sL:∀(a b c:List D),cZ a b=true->cZ a c=cZ b c:=by
 intro a b c h
 cases a with
 | nil=>cases b with
  | nil=>rfl
  | cons y r=>simp only [cZ,He] at h
 | cons x r=>cases b with
  | nil=>simp only [cZ,He] at h
  | cons y t =>
   simp only [cZ,Bool.and_eq_true] at h
   cases c with
   | nil=>rfl
   | cons z u=>simp only [cZ];rw [vV x y z h.1,sL r t u h.2]
end
section
variable {X:Cx} {pins:List (Addr×Obj)} {σ:St} {H F:Hp} {s:Shared}
open Classical in
noncomputable def gb (us:List Value) (ds:List D) (d:D) (u:Value):Bool:=decide (∃(i:Nat) (x:D),us[i]?=some u/\ds[i]?=some x/\aT x d=true)
open Classical in
theorem jT (I:Inv X pins σ H s) (fh:aq F H) {ds:List D} {vs:List V} {us:List Value} {d:D} (hd:bz ds < 1000) (dl:ak X.K F ds vs) (rv:Vals vs us) {j:Nat} {x:D} {u:Value} (hx:ds[j]?=some x) (hu:us[j]?=some u):gb us ds d u=aT x d:=by
 unfold gb
 have dle:∀(k:Nat) (y:D),ds[k]?=some y->dep y < 1000:=λk y hy=>by
  clear dl rv hx hu
  induction ds generalizing k with
  | nil=>simp at hy
  | cons z r ih =>
   simp only [bz] at hd
   cases k with
   | zero=>simp at hy;subst hy;omega
   | succ k=>exact ih (by omega) k (by simpa using hy)
 cases hb:aT x d with
 | true=>exact decide_eq_true ⟨j,x,hu,hx,hb⟩
 | false =>
  refine decide_eq_false λhq0=>?_;obtain⟨i,y,h1,h2,h3⟩:=hq0;obtain⟨v1,e1,d1⟩:=dl.get hx;obtain⟨v2,e2,d2⟩:=dl.get h2;obtain⟨w1,g1,r1⟩:=rv.get e1;obtain⟨w2,g2,r2⟩:=rv.get e2;rw [hu] at g1;cases g1;rw [h1] at g2;cases g2;have:=r1.inj r2;subst this;have k:=mJ I fh y x _ (dle _ _ h2) (dle _ _ hx) d2 d1;rw [vV y x d k,hb] at h3;cases h3
theorem jG (I:Inv X pins σ H s) (fh:aq F H) {ds:List D} {vs:List V} {us:List Value} {d:D} (hd:bz ds < 1000) (dl:ak X.K F ds vs) (rv:Vals vs us):us.map (gb us ds d)=ds.map λx=>aT x d:=by
 have l1:=dl.length;have l2:=rv.length;apply List.ext_getElem?
 intro i;rw [Hi,Hi]
 by_cases hi:i < ds.length
 ·have h1:ds[i]?=some ds[i]:=by simp [hi]
  have h2:us[i]?=some (us[i]'(by omega)):=Hb _;rw [h1,h2];simp only [Option.map_some];rw [jT I fh hd dl rv h1 h2]
 ·rw [Hv (by omega),Hv (by omega)];rfl
end
section
variable {X:Cx} {a b:Expr} {ta tb:TD} {pos:Pos}
def Em (X:Cx) (neg:Bool):R2:=λx y H Q=>∃(F:Hp) (d:D) (ds:List D) (vs:List V) (p:Addr),aq F H/\Den X.K F d x/\y=.ref p/\(dE X.K F p vs\/gw X.K F p vs)/\ak X.K F ds vs/\X.A.units + 64 < cLine/\bz ds<=60/\dep d<=60/\Q (.bl (if neg then !ds.any (λe=>aT e d) else ds.any λe=>aT e d)) H
theorem any_map' {α:Type} (f:α->Bool) (l:List α):l.any f=(l.map f).any id:=by rw [List.any_map];rfl
theorem og {X:Cx} {pins:List (Addr×Obj)} {σ:St} {H F:Hp} {s:Shared} (I:Inv X pins σ H s) (fh:aq F H) {ds:List D} {vs:List V} {us:List Value} {d:D} {x:V} {v:Value} (hu:X.A.units + 64 < cLine) (hds:bz ds<=60) (hd:dep d<=60) (dl:ak X.K F ds vs) (rv:Vals vs us) (dx:Den X.K F d x) (rx:RelV x v) :
  ∀u∈us,SeqAt.EqAt X.A.in1 s u v (gb us ds d u):=by
 intro u hu';obtain⟨j,hj,e⟩:=List.getElem_of_mem hu';have h2:us[j]?=some u:=by rw [<- e];simp [hj]
 have l1:=dl.length;have l2:=rv.length;have h1:ds[j]?=some (ds[j]'(by omega)):=Hb _;rw [jT I fh (by omega) dl rv h1 h2];obtain⟨w,g1,g2⟩:=dl.get h1;obtain⟨u',g3,g4⟩:=rv.get g1;rw [h2] at g3;cases g3
 have dle:dep (ds[j]'(by omega))<=60:=by
  have go:∀(l:List D) (n:Nat),bz l<=n->∀y∈l,dep y<=n:=by
   intro l
   induction l with
   | nil=>intro n _ y hy;cases hy
   | cons z r ih =>
    intro n hn y hy;simp only [bz] at hn;rcases Hx.mp hy with rfl|hy
    ·omega
    ·exact ih n (by omega) y hy
  exact go ds 60 hds _ (Im _)
 exact nq I fh _ d X.A.in1 _ x u v (by rw [units_in1];omega) (by omega) (by omega) g2 dx g4 rx
theorem AB:iS X (compareOp .NotIn) (Em X true):=by
 intro pins s σ H x y v u Q I rx ry h;obtain⟨F,d,ds,vs,p,fh,dx,rfl,hq,dl,hu,h1,h2,q⟩:=h;cases ry;rcases hq with hq|hq
 ·obtain⟨its,r,pl,hz⟩:=I.list (fh.seq hq);refine SeqAt.notIn_listAt (gb its ds d) pl.isList (λw hw=>og I fh hu h1 h2 dl r dx rx w (by simpa using hw)) ⟨.bl _,H,I,rfl,?_⟩;rw [show its.toArray.any (gb its ds d)=its.any (gb its ds d) by simp,any_map',jG I fh (by omega) dl r,<- any_map'];exact q
 ·obtain⟨its,r,pl,hz⟩:=I.tuple (aq.bR fh hq);refine SeqAt.notIn_tupleAt (gb its ds d) pl (λw hw=>og I fh hu h1 h2 dl r dx rx w (by simpa using hw)) ⟨.bl _,H,I,rfl,?_⟩;rw [show its.toArray.any (gb its ds d)=its.any (gb its ds d) by simp,any_map',jG I fh (by omega) dl r,<- any_map'];exact q
def Dc (neg:Bool) (x y:D) (Q:D->Prop):Prop:=∃ds,zL y=some ds/\bz ds<=60/\dep x<=60/\Q (.bl (if neg then !ds.any (λe=>aT e x) else ds.any λe=>aT e x))
theorem CS (hu:X.A.units + 64 < cLine) (neg:Bool):va X (Em X neg) (Dc neg):=by
 intro B σ F H env Q d d' x y Z rp h1 h2 hz hf;obtain⟨ds,e,l1,l2,q⟩:=hf
 cases d' with
 | lst xs =>
  simp only [zL] at e;cases e;simp only [Den] at h2;obtain⟨p,vs,rfl,hq,dl⟩:=h2
  exact⟨F,d,_,vs,p,rp.fh,h1,rfl,.inl hq,dl,hu,l1,l2,hz _ H F _ rp (aq.refl _) d7 q⟩
 | tup xs =>
  simp only [zL] at e;cases e;simp only [Den] at h2;obtain⟨p,vs,rfl,hq,dl⟩:=h2
  exact⟨F,d,_,vs,p,rp.fh,h1,rfl,.inr hq,dl,hu,l1,l2,hz _ H F _ rp (aq.refl _) d7 q⟩
 | _=>simp only [zL] at e;cases e
theorem CU (hu:X.A.units + 64 < cLine) (ha:QE X a ta) (hb:QE X b tb) (hm:behindInMarks .NotIn b=false:=by rfl):QT X (.Compare a [.NotIn] [b] pos) (aN (aL (Dc true) ta tb)):=gS AB (CS hu true) ha hb hm
def vn (neg:Bool) (x:D):D:=.bl (match x with|.non=>!neg|_=>neg)
theorem tK {K:Ha} {F:Hp} {d:D} {v:V} (h:Den K F d v):decide (v=.non)=(match d with|.non=>true|_=>false):=by
 cases d <;> simp only [Den] at h <;> first|(subst h;rfl)|(obtain⟨_,_,rfl,_⟩:=h;rfl)|(obtain⟨_,rfl,_⟩:=h;rfl)
def qz (neg:Bool) (x y:D) (Q:D->Prop):Prop:=y=.non/\Q (vn neg x)
theorem Cb:va X (λx y H Q=>y=.non/\Q (.bl (decide (x=.non))) H) (qz false):=by
 intro B σ F H env Q d d' x y Z rp h1 h2 hz hf;obtain⟨rfl,q⟩:=hf;simp only [Den] at h2;refine⟨h2,hz _ H F _ rp (aq.refl _) ?_ q⟩;rw [tK h1];unfold vn;cases d <;> exact d7
theorem EG (ha:QE X a ta) (hb:QE X b tb):QT X (.Compare a [.Is] [b] pos) (aN (aL (qz false) ta tb)):=gS Cs Cb ha hb (gy _)
end
end L2.L3
namespace L2
open PySem PySem.Spec PyProof.Rows
section
variable {X:Cx}
theorem Vals.insertAt {xs:List V} {us:List Value} {x:V} {u:Value} (h:Vals xs us) (r:RelV x u) (k:Nat):Vals (xs.take k ++ x :: xs.drop k) (us.take k ++ u :: us.drop k):=by
 induction h generalizing k with
 | nil=>simp;exact .cons r .nil
 | @cons y w ys ws q t ih =>
  cases k with
  | zero=>exact .cons r (.cons q t)
  | succ k=>exact .cons q (ih k)
def AX:V->List V->Hp->VK->Prop:=λx vs H Q=>∃l xs i y,x=.ref l/\vs=[.int i,y]/\H l=some (.lst xs)/\0<=i/\i<=xs.length/\xs.length < sizeLine/\Q .non (upd H l (.lst (xs.take i.toNat ++ y :: xs.drop i.toNat)))
theorem xf:Gy X "list.insert" AX:=by
 intro pins s σ H x vs v us Q I rx rv h;obtain⟨l,xs,i,y,rfl,rfl,hH,h0,h1,h2,q⟩:=h;cases rx;obtain⟨u,w,rfl,ru,rw'⟩:=rv.two;obtain⟨t,rfl⟩:=ru;obtain⟨z,its,n,r,hl,e⟩:=I.Cj hH;have hs:xs.length<=2 ^ 62:=by rw [sizeLine_eq] at h2;omega
 have hfit:¬ (!Builtin.List.listFitsIndex i)=true:=by
  rw [fitsIndex_both (by omega) (by omega)];exact Bool.false_ne_true
 refine call_meets F.slot_list_insert ⟨_,e,rfl⟩ F.entry_list_insert (F.args_list_insert_3 _ _ _) (AutoSeq1.list_insert_list_int_val_1 l its.toArray n i t w hfit (by rw [Hr];omega)) ⟨e,?_⟩;refine⟨.non,_,I.BM (its':=its.take i.toNat ++ w :: its.drop i.toNat) hH e ?_ (r.insertAt rw' i.toNat) ?_,rfl,q⟩
 ·apply Array.toList_inj.mp
  have c1:¬ i < 0:=by omega
  have c2:min i.toNat its.toArray.size=i.toNat:=by rw [Hr];omega
  simp only [c1,if_false,c2];simp;exact Io (by simp)
 ·simp;omega
end
end L2
namespace L2.L3
open PySem PySem.Spec PyProof.Rows
section
variable {X:Cx} {e f:Expr} {te tf:TD} {ts:eD} {pos:Pos}
def mH (i:Nat) (te tf:TD):bG:=λD env=>∃xs,env[i]?=some (some (.own xs))/\te env λy=>tf env λx=>∃k:Int,y=.int k/\0<=k/\k<=xs.length/\xs.length < sizeLine/\D.nx (env.set i (some (.own (xs.take k.toNat ++ x :: xs.drop k.toNat))))
theorem wC {x:Str} {px apos cpos:Pos} (i:Nat) (he:QE X e te) (hf:QE X f tf) (hN:X.N[i]?=some x:=by rfl) (hv:qF X.env.scope x:=by first | exact Or.inl rfl | exact Or.inr (Or.inl rfl) | exact Or.inr (Or.inr rfl)) (hd:(x == ("__debug__" : Str))=false:=by decide) (hcd:(x == ("__classdict__" : Str))=false:=by decide)
  (hbase:attributeBase (.Name x px) "insert" X.env (eval (.Name x px) X.env)=eval (.Name x px) X.env:=by rfl)
  (hfew:((backTo cpos (starEach [e,f] X.env)).all (λx=>!x.1) && (backToKw cpos (keywordEach [] X.env)).all (λx=>x.1.isSome)
   && decide (([e,f]:List Expr).length + ([]:List Keyword).length + (if ([]:List Keyword).isEmpty then 0 else 1) < 30))=true:=by rfl)
  (hline:(apos.endLine == cpos.line)=true:=by rfl) (hst:starEach [e,f] X.env=(false,eval e X.env) :: starEach [f] X.env:=by exact aJ rfl) (hst2:starEach [f] X.env=(false,eval f X.env) :: starEach [] X.env:=by exact aJ rfl) (hplain:(backTo cpos (starEach ([f]:List Expr) X.env)).any (·.1)=false:=by rfl)
  (hs:swapsWith (.Call (.Attribute (.Name x px) "insert" apos) [e,f] [] cpos) none pos.line X.env=pure false:=by rfl) :
  QS X (.Expr (.Call (.Attribute (.Name x px) "insert" apos) [e,f] [] cpos) pos) (mH i te tf):=by
 refine⟨?_⟩;intro B σ F H env D rp h;refine cQ (mI (sq PySem.F.plainAttrs_list PySem.F.slot_list_insert PySem.F.type_list_insert xf (cF hN hv hd hcd) (cj bF (cj bF c9 hst2) hst) hbase hfew hline hst hplain) hs) ?_;obtain⟨xs,hx,h⟩:=h;obtain⟨p,vs,h1,h2,h3,h4,h5⟩:=rp.ov i xs hx;refine⟨.ref p,h1,.inl ⟨rfl,vs,dE.of h2⟩,?_⟩;refine aD (he B σ F H env _ rp h) λy H1 hq0=>?_;obtain⟨F1,d,r1,s1,d1,q1⟩:=hq0;refine aD (hf B σ F1 H1 env _ r1 q1) λz H2 hq0=>?_
 obtain⟨F2,d',r2,s2,d2,k,e1,k0,k1,k2,q2⟩:=hq0;subst e1;simp only [Den] at d1;subst d1;obtain⟨p',vs',g1,g2,g3,g4,g5⟩:=r2.ov i xs hx;rw [h1] at g1;cases g1;have hl:=g5.length;exact⟨p,vs',k,z,rfl,rfl,g2,k0,by omega,by omega,F2,_,r2.change hx h1 ((g5.take _).append (aH d2 (g5.drop _))),q2⟩
def ny (i:Nat):TB:=λenv Q=>∃xs,env[i]?=some (some (.own xs))/\bz xs<=50/\Q (!xs.isEmpty)
theorem vf {x:Str} {px pl:Pos} (i:Nat) (hu:X.A.units + 64 < cLine) (hN:X.N[i]?=some x:=by rfl) (hv:qF X.env.scope x:=by first | exact Or.inl rfl | exact Or.inr (Or.inl rfl) | exact Or.inr (Or.inr rfl)) (hd:(x == ("__debug__" : Str))=false:=by decide)
  (hcd:(x == ("__classdict__" : Str))=false:=by decide):QT X (.Compare (.Name x px) [.NotEq] [.List [] pl] pos) (ny i):=by
 refine⟨λB σ F H env Q rp h=>pb (mK t9 (cF hN hv hd hcd) (lE c9) (gy _)) ?_⟩;obtain⟨xs,hx,hdep,q⟩:=h;obtain⟨p,vs,h1,h2,h3,h4,h5⟩:=rp.ov i xs hx;refine⟨.ref p,h1,by simp [Ht],λw hw=>?_⟩;have ne:p≠w:=λz=>by subst z;rw [h2] at hw;cases hw
 have s1:aq F (upd F p (.lst vs)):=aY h3;refine⟨upd (upd F p (.lst vs)) w (.lst []),.lst xs,.lst [],?_,?_,?_,by simp only [dep];omega,by simp only [dep];omega,by decide,!xs.isEmpty,?_,F,rp.loose hw,aq.refl _,q⟩
 ·refine o4 λb o hb=>?_
  by_cases z:b=p
  ·subst z;rw [ao] at hb;cases hb;exact h2
  ·rw [aj z] at hb;exact rp.fh _ _ hb
 ·have s2:aq (upd F p (.lst vs)) (upd (upd F p (.lst vs)) w (.lst [])):=aY (by rw [aj (Ne.symm ne)];exact rp.l9 hw);exact ei (dE.of (by rw [aj ne];exact ao)) (ak.mono (s1.trans s2) _ _ h5)
 ·exact ei (dE.of ao) aI
 ·cases xs <;> rfl
def jD (j i:Nat) (te:TD):bG:=λZ env=>∃xs,env[i]?=some (some (.own xs))/\te env λy=>∃(k:Nat) (x:D),y=.int k/\xs[k]?=some x/\k < 2 ^ 62/\Z.nx ((env.set i (some (.own (xs.eraseIdx k)))).set j (some (.d x)))
theorem ak.eraseIdx {K:Ha} {F:Hp}:∀{ds:List D} {vs:List V} (k:Nat),ak K F ds vs->ak K F (ds.eraseIdx k) (vs.eraseIdx k)
 | [],vs,k,h=>by simp only [ak] at h;subst h;simpa using aI
 | d :: ds,vs,0,h=>by
  simp only [ak] at h;obtain⟨v,r,rfl,a,b⟩:=h
  exact b
 | d :: ds,vs,k + 1,h=>by
  simp only [ak] at h;obtain⟨v,r,rfl,a,b⟩:=h;exact aH a (ak.eraseIdx k b)
theorem pM {x y:Str} {px py apos cpos:Pos} (j i:Nat) (nd:X.N.Nodup) (he:QE X e te) (hN:X.N[i]?=some x:=by rfl) (hv:qF X.env.scope x:=by first | exact Or.inl rfl | exact Or.inr (Or.inl rfl) | exact Or.inr (Or.inr rfl)) (hd:(x == ("__debug__" : Str))=false:=by decide) (hcd:(x == ("__classdict__" : Str))=false:=by decide)
  (hj:X.N[j]?=some y:=by rfl) (hy:Loc X.env.scope y:=by first|exact Or.inl rfl|exact Or.inr rfl)
  (hbase:attributeBase (.Name x px) "pop" X.env (eval (.Name x px) X.env)=eval (.Name x px) X.env:=by rfl)
  (hfew:((backTo cpos (starEach [e] X.env)).all (λx=>!x.1) && (backToKw cpos (keywordEach [] X.env)).all (λx=>x.1.isSome)
   && decide (([e]:List Expr).length + ([]:List Keyword).length + (if ([]:List Keyword).isEmpty then 0 else 1) < 30))=true:=by rfl)
  (hline:(apos.endLine == cpos.line)=true:=by rfl) (hst:starEach [e] X.env=(false,eval e X.env) :: starEach [] X.env:=by exact aJ rfl) (hplain:(backTo cpos (starEach ([]:List Expr) X.env)).any (·.1)=false:=by rfl)
  (hs:swapsWith (.Call (.Attribute (.Name x px) "pop" apos) [e] [] cpos) (some (.Name y py)) pos.line X.env=pure false:=by rfl) (hf:X.fn y=true\/X.env.scope.names.lookup y=some .local:=by first | exact .inl rfl | exact .inr rfl) :
  QS X (.Assign [.Name y py] (.Call (.Attribute (.Name x px) "pop" apos) [e] [] cpos) pos) (jD j i te):=by
 refine⟨λB σ F H env D rp h pins s I=>?_⟩;refine lA (i:=j) nd hj hy (sq PySem.F.plainAttrs_list PySem.F.slot_list_pop PySem.F.type_list_pop sP (cF hN hv hd hcd) (cj bF c9 hst) hbase hfew hline hst hplain) hs hf pins s σ H _ I ?_;obtain⟨xs,hx,h⟩:=h;obtain⟨p,vs,h1,h2,h3,h4,h5⟩:=rp.ov i xs hx;refine⟨.ref p,h1,.inl ⟨rfl,vs,dE.of h2⟩,?_⟩;refine aD (he B σ F H env _ rp h) λw H1 hq0=>?_;obtain⟨F1,d,r1,s1,d1,k,x',e1,hk,hk2,q1⟩:=hq0
 subst e1;simp only [Den] at d1;subst d1;obtain⟨p',vs',g1,g2,g3,g4,g5⟩:=r1.ov i xs hx;rw [h1] at g1;cases g1;obtain⟨u,hu,du⟩:=g5.get hk;have hl:=g5.length;have hkl:=(G7.mp hk).1;have hix:seqIndex? (k:Int) vs'.length=some k:=(mC (n:=vs'.length) (i:=(k:Int)) (j:=k) (by unfold rj;rw [if_pos (by omega),if_pos (by omega)];simp)).1;refine⟨p,vs',k,k,u,rfl,rfl,g2,by omega,by omega,hix,hu,F1,_,(r1.change hx h1 (g5.eraseIdx k)).set du ?_,q1⟩
 rw [I.len];exact (G7.mp hj).1
theorem pz {a:Expr} {ta:TA} {p:Pos} (hg:Gl X "range") (hm:X.mg "range" = none) (ha:PA X [a] ta) (hs:starEach [a] X.env=[(false,eval a X.env)]:=by rfl) :
  PE X (.Call (.Name "range" p) [a] [] pos) (λσ H Q=>ta σ H λvs H1=>∃n:Int,vs=[.int n]/\∀r,H1 r=none->Q (.ref r) (upd H1 r (.rng 0 n))):=by
 intro pins s σ H Q I h;refine Call_ (je I hg hm boot_range (PyProof.Rows.callWith_type1 (bK (ha pos pins s σ H _ I h) λus s1 ⟨vs,H1,I1,r1,q1⟩=>?_) hs rfl));obtain⟨n,rfl,q⟩:=q1;obtain⟨u,rfl,ru⟩:=r1.one;obtain⟨t,rfl⟩:=ru;refine call_range_1 ⟨.ref s1.heap.objs.size,_,I1.laid (λb o e=>Hf _ e) (Hl _) (show bL X.prog X.w _ _ _ (.rng 0 n) from ⟨_,_,_,Hs _ rfl⟩),rfl,q _ (I1.hok.fresh (Hl _))⟩
theorem gk {n:Nat} {acc:Array Value} (h:ItemsOf (λi v=>∃t,v=.int ((0:Int) + i * 1) t) acc n):Vals ((List.range n).map λ(i:Nat)=>V.int (i:Int)) acc.toList:=by
 have hl:acc.toList.length=n:=by simpa using h.1
 have go:∀(l:List Value) (k:Nat),(∀(j:Nat) (v:Value),l[j]?=some v->∃t,v=.int ((k + j:Nat):Int) t)->Vals ((List.range' k l.length).map λ(i:Nat)=>V.int (i:Int)) l:=by
  intro l
  induction l with
  | nil=>intro k _;exact .nil
  | cons v r ih =>
   intro k hk;obtain⟨t,e⟩:=hk 0 v rfl;refine .cons ⟨t,by simpa using e⟩ (ih (k + 1) λj w hw=>?_);obtain⟨t',e'⟩:=hk (j + 1) w (by simpa using hw);exact⟨t',by rw [e'];congr 1;omega⟩
 have:=go acc.toList 0 λj v hv=>by
  obtain⟨t,e⟩:=h.2 j v (by simpa using hv);exact⟨t,by rw [e];congr 1;omega⟩
 rw [hl,<- List.range_eq_range'] at this;exact this
theorem uD (hc:X.calm=true):cV X (.type "list") (λxs H Q=>∃r n,xs=[.ref r]/\H r=some (.rng 0 n)/\(-(2 ^ 62)<=n/\n<=16777216)/\∀l,H l=none->Q (.ref l) (upd H l (.lst ((List.range n.toNat).map λ(i:Nat)=>V.int (i:Int))))):=by
 intro pins s σ H xs us Q I r h;obtain⟨a,n,rfl,hr,⟨n1,n2⟩,q⟩:=h;obtain⟨u,rfl,rx⟩:=vals1 r;cases rx;obtain⟨t,u,v,e⟩:=(show bL X.prog X.w H s.heap a (.rng 0 n) from I.hok a _ hr);have hsz:Builtin.Range.rangeSize 0 n 1=(n.toNat:Int):=by rw [rangeSize_one];split <;> omega
 refine call_list_range (I.ok.hd hc) e (small_one (by decide) (by decide) n1 (by omega)) hsz (by omega) λh' tk acc c kp e' it=>?_;refine⟨.ref s.heap.objs.size,_,I.laid (t':=tk) kp (Hl _) (show bL X.prog X.w _ h' _ (.lst ((List.range n.toNat).map λ(i:Nat)=>V.int (i:Int))) from ⟨by simp [Ht];omega,acc.toList,c,gk it,by simpa using e'⟩),rfl,q _ (I.hok.fresh (Hl _))⟩
def rf (ts:eD):eD:=λenv Q=>ts env λds=>∃n:Int,ds=[.int n]/\(-(2 ^ 62)<=n/\n<=16777216)/\Q (aM 0 n.toNat)
theorem nk {K:Ha} {F:Hp} (n:Nat):ak K F (aM 0 n) ((List.range n).map λ(i:Nat)=>V.int (i:Int)):=by
 have e:aM 0 n=((List.range n).map λ(i:Nat)=>(i:Int)).map D.int:=by unfold aM;rw [List.map_map];congr 1;funext i;simp
 have e2:((List.range n).map λ(i:Nat)=>V.int (i:Int))=((List.range n).map λ(i:Nat)=>(i:Int)).map V.int:=by rw [List.map_map];rfl
 rw [e,e2];exact o8 _
theorem xX {a:Expr} {p p2 pos2:Pos} (hm:X.mg "list" = none) (hm2:X.mg "range" = none) (ha:QA X [a] ts) (hc:X.calm=true:=by rfl) (hg:Gl X "list":=by rfl) (hg2:Gl X "range":=by rfl) (hs:starEach [a] X.env=[(false,eval a X.env)]:=by rfl)
  (he:starEach [.Call (.Name "range" p2) [a] [] pos2] X.env=(false,eval (.Call (.Name "range" p2) [a] [] pos2) X.env) :: starEach [] X.env:=by exact aJ rfl) (hpl:(backTo pos (starEach ([]:List Expr) X.env)).any (·.1)=false:=by rfl) :
  QF X (.Call (.Name "list" p) [.Call (.Name "range" p2) [a] [] pos2] [] pos) (rf ts):=by
 refine⟨λB σ F H env Q rp h=>bX (iF (uD hc) hg hm nO (cj (pz hg2 hm2 gR hs) c9 he) (by decide) (by decide) he hpl) ?_⟩;refine bV (ha B σ F H env _ rp h) λvs H1 hq0=>?_;obtain⟨F1,ds,r1,s1,d1,n,e1,hn,q1⟩:=hq0;subst e1;simp only [ak,Den] at d1;obtain⟨v,r,rfl,rfl,rfl⟩:=d1;refine⟨n,rfl,λr hr=>?_⟩;obtain⟨r2,s2⟩:=r1.laid (o:=.rng 0 n) hr;exact⟨r,n,rfl,ao,hn,λw hw=>⟨_,_,w,_,_,rfl,hw,rfl,r2,s1.trans s2,nk _,q1⟩⟩
end
section
variable {X:Cx} {N':List Str} {ix:List Nat} {scope:Scope} {elt a:Expr} {ifs:List Expr} {x:Str} {px py pos spos p pos2:Pos} {tt:TB} {te:TD} {ts:eD}
theorem mi {y:Str} (i:Nat) (hNd:X.N.Nodup) (hc:X.calm=true) (O:cm X N' 1 ix scope) (hN:N'.Nodup) (h0:N'[0]?=some x) (hx:(relabel scope X.env).names.lookup x=some .local) (hgl:Gl X "range") (hm:X.mg "range" = none) (ha:QA X [a] ts)
  (ht:∀C s H fp pins,uL (bM X N' scope C s H fp pins) ifs tt) (he:∀C s H fp pins,QE (bM X N' scope C s H fp pins) elt te) (hy:X.N[i]?=some y:=by rfl) (hl:Loc X.env.scope y:=by first|exact Or.inl rfl|exact Or.inr rfl)
  (hsw:swapsWith (.ListComp elt [⟨.Name x px,.Call (.Name "range" p) [a] [] pos2,ifs,0⟩] scope pos) (some (.Name y py)) spos.line X.env=pure true:=by rfl) (hf:X.fn y=true\/X.env.scope.names.lookup y=some .local:=by first | exact .inl rfl | exact .inr rfl)
  (hst:starEach [a] X.env=[(false,eval a X.env)]:=by rfl) (hs:∀x,HW (.Call (.Name "range" p) [a] [] pos2) X.env x=pure x:=by intro _;rfl) :
  QS X (.Assign [.Name y py] (.ListComp elt [⟨.Name x px,.Call (.Name "range" p) [a] [] pos2,ifs,0⟩] scope pos) spos) (bJ i (fQ iV ix ts tt te)):=by
 refine⟨λB σ F H env D rp h pins s I=>?_⟩;refine uH hc (iA hgl hm gR hst) O hNd hy hl hsw hf hs pins s σ H _ I ?_;refine bV (ha B σ F H env _ rp h) λvs H1 hq0=>?_;obtain⟨F1,ds,r1,s1,d1,q1⟩:=hq0
 (try dsimp only at q1);unfold iV at q1
 split at q1
 ·simp only [ak,Den] at d1;obtain⟨v,r,rfl,rfl,rfl⟩:=d1;refine⟨_,rfl,q1.1.1,q1.1.2,?_⟩;intro a' C s fp pins ha';obtain⟨W,w0,step⟩:=kZ (X:=X) (px:=px) hN h0 hx ht he s1 r1 ma q1.2 a' C s fp pins ha';refine⟨W,w0,λi' m σ' H' w=>?_⟩;rcases step i' m σ' H' w with ⟨st,z⟩|z
  ·refine .inl ⟨st,?_⟩;obtain⟨F',H2,p,vs,ds,e1,hp,e2,r',s',hd,q'⟩:=z;cases e1;subst e2;refine⟨F',_,r'.yP hp hd ?_,q'⟩;rw [I.len];exact (G7.mp hy).1
  ·exact .inr z
 ·exact q1.elim
end
section
variable {X:Cx} {o e:Expr} {to te:TD} {apos cpos:Pos}
theorem kJ {X:Cx} {pins:List (Addr×Obj)} {σ:St} {H F:Hp} {s:Shared} (I:Inv X pins σ H s) (fh:aq F H) {ds:List D} {vs:List V} {us:List Value} {d:D} {x:V} {v:Value} (A:Around) (hu:A.units + 62 < cLine) (hds:bz ds<=60) (hd:dep d<=60) (dl:ak X.K F ds vs) (rv:Vals vs us) (dx:Den X.K F d x) (rx:RelV x v) :
  ∀u∈us,SeqAt.EqAt A s u v (gb us ds d u):=by
 intro u hu';obtain⟨j,hj,e⟩:=List.getElem_of_mem hu';have h2:us[j]?=some u:=by rw [<- e];simp [hj]
 have l1:=dl.length;have l2:=rv.length;have h1:ds[j]?=some (ds[j]'(by omega)):=Hb _;rw [jT I fh (by omega) dl rv h1 h2];obtain⟨w,g1,g2⟩:=dl.get h1;obtain⟨u',g3,g4⟩:=rv.get g1;rw [h2] at g3;cases g3
 have dle:dep (ds[j]'(by omega))<=60:=by
  have go:∀(l:List D) (n:Nat),bz l<=n->∀y∈l,dep y<=n:=by
   intro l
   induction l with
   | nil=>intro n _ y hy;cases hy
   | cons z r ih =>
    intro n hn y hy;simp only [bz] at hn;rcases Hx.mp hy with rfl|hy
    ·omega
    ·exact ih n (by omega) y hy
  exact go ds 60 hds _ (Im _)
 exact nq I fh _ d A _ x u v (by omega) (by omega) (by omega) g2 dx g4 rx
theorem lX {α:Type} (f:α->Bool) (l:List α):l.countP f=(l.map f).countP id:=by rw [List.countP_map];rfl
end
section
variable {X:Cx} {a b e:Expr} {ta te:TD} {pos p2:Pos}
end
end L2.L3
local macro_rules | `(tactic| simp_arith only [$ls,*] $[$loc]?) => `(tactic| ((try dsimp only [$(⟨ls.elemsAndSeps⟩),*, L2.L3.aK, L2.L3.gK, L2.L3.b8, L2.L3.bC, L2.L3.iz, L2.L3.bT, L2.L3.mf, L2.L3.lh, L2.L3.gj, L2.L3.bJ, L2.L3.cE, L2.L3.cP, L2.L3.oG, L2.L3.ag, L2.L3.cC, L2.L3.aL, L2.L3.ye, L2.L3.aN, L2.L3.mx, L2.L3.oI, L2.L3.zJ, L2.L3.jH, L2.L3.j3, L2.L3.aB, L2.L3.af, L2.L3.av, L2.L3.a6, L2.L3.fX, L2.L3.kX, L2.L3.de, L2.L3.kn, L2.L3.Bw, L2.L3.j4, L2.L3.bW, L2.L3.aW, L2.L3.gT, L2.L3.ie, L2.L3.cD, L2.L3.aE, HL, List.map_nil, HY, Ij, List.cons_append, List.nil_append, HD, HB, List.set_cons_zero, List.set_cons_succ, L2.L3.fM, L2.L3.fQ, L2.L3.nD, L2.L3.gz, L2.L3.iN, L2.L3.iQ, L2.L3.iK, L2.L3.kL, L2.L3.kP, L2.L3.fU, L2.L3.lM, L2.L3.kI, L2.L3.lq, L2.L3.cJ, L2.L3.fV, L2.L3.kD, L2.L3.jd, L2.L3.DK, L2.L3.tO, L2.L3.jz, L2.L3.xg, L2.L3.iM, L2.L3.bI, L2.L3.mH, L2.L3.jD, L2.L3.ny, L2.L3.rf, L2.L3.oV] $[$loc]?); (try simp only [$ls,*, L2.L3.aK, L2.L3.gK, L2.L3.b8, L2.L3.bC, L2.L3.iz, L2.L3.bT, L2.L3.mf, L2.L3.lh, L2.L3.gj, L2.L3.bJ, L2.L3.cE, L2.L3.cP, L2.L3.oG, L2.L3.ag, L2.L3.cC, L2.L3.aL, L2.L3.ye, L2.L3.aN, L2.L3.mx, L2.L3.oI, L2.L3.zJ, L2.L3.jH, L2.L3.j3, L2.L3.aB, L2.L3.af, L2.L3.av, L2.L3.a6, L2.L3.fX, L2.L3.kX, L2.L3.de, L2.L3.kn, L2.L3.Bw, L2.L3.j4, L2.L3.bW, L2.L3.aW, L2.L3.gT, L2.L3.nj, L2.L3.mT, L2.L3.ie, L2.L3.cD, L2.L3.aE, HL, List.map_nil, HY, Ij, List.cons_append, List.nil_append, HR, HD, HB, List.getElem?_nil, List.set_cons_zero, List.set_cons_succ, Option.some.injEq, L2.L3.Lo.d.injEq, L2.L3.Lo.own.injEq, L2.L3.D.bl.injEq, L2.L3.D.int.injEq, exists_eq_left', exists_eq_left, Nat.reduceAdd, Nat.reduceSub, Nat.sub_self, Nat.add_one_sub_one, List.replicate_succ, List.replicate_zero, L2.L3.D.tup.injEq, List.cons.injEq, and_assoc, L2.L3.fM, L2.L3.fQ, L2.L3.nD, L2.L3.gz, L2.L3.iN, L2.L3.iQ, L2.L3.iK, L2.L3.kL, L2.L3.uT, L2.L3.ui, L2.L3.uF, L2.L3.uM, L2.L3.uA, L2.L3.kP, L2.L3.fU, L2.L3.lM, L2.L3.qI, L2.L3.qo, L2.L3.kI, L2.L3.lq, L2.L3.cJ, L2.L3.fV, L2.L3.oa, L2.L3.nH, L2.L3.zx, L2.L3.vc, L2.L3.tT, decide_eq_true_eq, true_and, and_true, if_true, if_false, He, Bool.not_eq_true', decide_eq_false_iff_not, Ht, Int.reduceToNat, Int.reducePow, Int.reduceMul, Int.reduceAdd, Int.reduceNeg, Int.reduceSub, Int.reduceLT, Int.reduceLE, Int.reduceEq, Nat.reduceEqDiff, decide_true, decide_false, Nat.reduceLeDiff, Nat.reduceLT, Bool.true_eq_false, Bool.not_true, Bool.not_false, Bool.not_not, L2.L3.kD, L2.L3.jd, L2.L3.DK, L2.L3.tO, L2.L3.jz, L2.L3.xg, L2.L3.qf, L2.L3.iM, L2.L3.pO, L2.L3.pv, L2.L3.D.lst.injEq, L2.L3.bI, L2.L3.mH, L2.L3.jD, L2.L3.ny, L2.L3.rf, L2.L3.oV, L2.L3.zL] $[$loc]?)))
namespace L2.L3
open PySem PySem.Spec PyProof.Rows
def XY (X:Cx) (B:Base) (xc:Str->Prop):Value->Shared->Prop:=λe s'=>wpAny (model X.prog X.w) X.A (noteFrame e X.env) (λ_ s2=>wpAny (model X.prog X.w) X.A (setFlight e none) (λ_ s3=>XZ X B xc e s3) (λ_ _=>False) s2) (λ_ _=>False) s'
theorem XZ.GQ {X:Cx} {B:Base} {xc:Str->Prop} {e:Value} {s':Shared} (hst:X.stack=X.env :: X.outer) (hf:X.env.frame=some X.env.locals) (h:XZ X B xc e s'):XY X B xc e s':=by
 obtain⟨pins,a,c,C,σ',H',F',env',rfl,th,r,hm,hx⟩:=h;exact th.note hst hf λs'' t''=>⟨pins,a,c,C,σ',H',F',env',rfl,t'',r,hm,hx⟩
structure QY (X:Cx) (st:Stmt) (t:sr):Prop where
 of ::
 run:∀(B:Base) (σ:St) (F H:Hp) (env:En) (D:tu),Rep X.K B F H σ env->t D env->wS (X.bU (XY X B D.xc)) st (RS X B D.toEnds3) σ H
structure DH (X:Cx) (st:List Stmt) (t:sr):Prop where
 of ::
 run:∀(B:Base) (σ:St) (F H:Hp) (env:En) (D:tu),Rep X.K B F H σ env->t D env->wSs (X.bU (XY X B D.xc)) st (RS X B D.toEnds3) σ H
section
variable {X:Cx} {c e:Expr} {es:List Expr} {st:Stmt} {sts xs ys body:List Stmt} {p q:sr} {tc:TB} {pos:Pos}
theorem jc (h:QZ X st p) (hst:X.stack=X.env :: X.outer:=by rfl) (hf:X.env.frame=some X.env.locals:=by rfl):QY X st p:=⟨λB σ F H env D rp hq pins s I =>
 HE (h.run B σ F H env D rp hq pins s (I.a9.bU _)) (λ_ _ q=>SP.tW q) λ_ _ z=>XZ.GQ hst hf z⟩
theorem vh (h:QY X st p):DH X [st] p:=⟨λB σ F H env D rp hq=>gB (mF rH) (h.run B σ F H env D rp hq)⟩
theorem dJ (h1:QY X st p) (h2:DH X sts q):DH X (st :: sts) (jz p q):=by
 refine⟨λB σ F H env D rp h=>gB (hW rH cR) ?_⟩;exact jA (h1.run B σ F H env { D with nx:=q D } rp h) (λσ' H' ⟨F',env',rp',q⟩=>h2.run B σ' F' H' env' D rp' q) (λ_ _ q=>q) (λ_ _ q=>q) (λ_ _ q=>q)
def uc (c:TB) (tb:sr):sr:=λD env=>∃(I:En->Prop) (μ:En->Nat),I env/\∀env,I env->c env λk=>if k=true then tb { D with nx:=λe'=>I e'/\μ e' < μ env,ct:=λe'=>I e'/\μ e' < μ env,bk:=D.nx } env else D.nx env
theorem xP (hc:QT X.pq c tc) (hb:DH X body p):QY X (.While c body [] pos) (uc tc p):=by
 refine⟨λB σ F H env D rp h=>?_⟩;obtain⟨I,μ,i0,turn⟩:=h;refine cQ (nA (X:=X.bU (XY X B D.xc)) PassesOwn.looking oP cR) ?_;refine⟨λm σ H=>∃F env,Rep X.K B F H σ env/\I env/\μ env=m,⟨_,F,env,rp,i0,rfl⟩,?_⟩
 rintro m σ1 H1 ⟨F1,env1,r1,i1,rfl⟩;refine fN (yG (hc B σ1 F1 H1 env1 _ r1 (turn env1 i1))) λk H2 ⟨F2,r2,s2,q2⟩=>?_
 cases k with
 | false=>exact⟨F2,env1,r2,q2⟩
 | true =>
  refine⟨λσ' H'=>∃F' env',Rep X.K B F' H' σ' env'/\I env'/\μ env' < μ env1,λσ' H' ⟨F',env',r',i',l⟩=>⟨_,l,F',env',r',i',rfl⟩,?_⟩;exact hb.run B σ1 F2 H2 env1 _ r2 q2
end
section
variable {P:Program} {w:World} {K:Ha} {mg:Str->Option Value} {base:Heap}
theorem XY.leave {N:List Str} {qual:Str} {scope:Scope} {f:Addr} {cd:Value} {A:Around} {outer:List Env} {s0:Shared} {H0:Hp} {E:XK} {B:Base} {xc:Str->Prop} {e:Value} {s':Shared}
  (t:XY (gM (BC P w) P w K mg base N qual scope f cd A outer s0 H0 E) B xc e s') (q:∀(c:Str) (C:Value) (σ':St) (H' F':Hp) (env':En),Rep K B F' H' σ' env'->mg c=some C->xc c->E C none H') :
  (gM (BC P w) P w K mg base N qual scope f cd A outer s0 H0 E).xe e s':=by
 show wpAny (model P w) _ (leaving _ e) _ _ s'
 unfold leaving;refine G8 (HE t (λ_ s2 z=>HE z (λ_ s3 y=>?_) λ_ _ y=>y.elim) λ_ _ y=>y.elim);obtain⟨pins,a,c,C,σ',H',F',env',rfl,t'',r,hm,hx⟩:=y;have I:=t''.inv;obtain⟨Hc,sc,Ic,os,bare,un,hok,fl⟩:=t'';refine⟨a,C,none,H',rfl,I.os,I.bare,I.base,I.hok,fl.Bz λb o e=>?_,q c C σ' H' F' env' r hm hx⟩;exact Ic.base.there b o e (by show b∉([]:List Addr);simp)
theorem oo.uu {x qual:Str} {st:Stmt} {fa:Addr} {fd:FuncData} {N ps:List Str} {k:Nat} {f:xu} (F:oo K x qual st fa fd) (S:aG N ps (ar st)) (hmg:mg x=some (.ref fa)) (hb:Binds K fd ps [])
  (hl:∀ds Q R,f ds Q R->ds.length=ps.length)
  (hbody:∀(cdv:Value) (A:Around) (outer:List Env) (s:Shared) (H:Hp) (E:XK),cI k (A.deeper (envOfC qual (ar st) s.heap.objs.size fa cdv)) ->
   ∃t,DH (gM (BC P w) P w K mg base N qual (ar st) fa cdv A outer s H E) (bh st) t/\∀ds (Q:D->Prop) (R:Str->Prop),f ds Q R->t { nx:=λ_=>Q .non,rt:=Q,xc:=R } (aE N ds)) :
  gG P w K mg base (k + 1) x f:=by
 refine⟨fa,fd,ps,?_,hmg,F.kp,hb⟩;obtain⟨oc,od,kV,doc,pm,an,cdv,ct,osl,rfl,lk,hcd⟩:=F.ex;refine yh lk hcd S (λvs H Q E h=>?_) λA outer s H vs Q E hr h=>?_
 ·obtain⟨F0,ds,P,R,_,hd,hf,_⟩:=h;rw [<- hd.length];exact hl ds _ _ hf
 ·obtain⟨F0,ds,P',R,fh,hd,hf,kk,kx⟩:=h;obtain⟨t,ht,hq⟩:=hbody cdv A outer s H E hr;refine⟨_,cR,?_⟩;have core:=ht.run _ (start N vs) F0 H (aE N ds) _ (fg fh hd) (hq ds P' R hf);intro pins s1 I;refine HE (core pins s1 (I.bU _)) (λfl s2 z=>?_) λex s2 z=>?_
  ·refine mD (SP.a9 z) (λσ' H' ⟨F',env',r,q⟩=>?_) (λv H' ⟨F',d',r,dd,q⟩=>?_) (λ_ _ ⟨_,_,_,q⟩=>q) (λ_ _ ⟨_,_,_,q⟩=>q)
   ·exact kk .non .non F' H' r.f0 r.h0 r.fh (λp h1 h2=>r.nf p ⟨h1,h2⟩) jZ q
   ·exact kk d' v F' H' r.f0 r.h0 r.fh (λp h1 h2=>r.nf p ⟨h1,h2⟩) dd q
  ·exact XY.leave z λc C σ' H' F' env' r hm hx=>kx c C F' H' r.f0 r.h0 r.fh (λp h1 h2=>r.nf p ⟨h1,h2⟩) hm hx
end
section
variable {P:Program} {w:World} {K:Ha} {mg:Str->Option Value} {base:Heap}
end
section
variable {X:Cx} {a b c e:Expr} {ta tb te:TD} {pos:Pos} {st:Stmt} {t:bG}
def r8 (i:Nat) (te:TD):bG:=λZ env=>∃xs,env[i]?=some (some (.own xs))/\te env λy=>∃(k:Nat),y=.int k/\k < xs.length/\k < 2 ^ 62/\Z.nx (env.set i (some (.own (xs.eraseIdx k))))
theorem zO {x:Str} {px apos cpos:Pos} (i:Nat) (he:QE X e te) (hN:X.N[i]?=some x:=by rfl) (hv:qF X.env.scope x:=by first | exact Or.inl rfl | exact Or.inr (Or.inl rfl) | exact Or.inr (Or.inr rfl)) (hd:(x == ("__debug__" : Str))=false:=by decide) (hcd:(x == ("__classdict__" : Str))=false:=by decide)
  (hbase:attributeBase (.Name x px) "pop" X.env (eval (.Name x px) X.env)=eval (.Name x px) X.env:=by rfl)
  (hfew:((backTo cpos (starEach [e] X.env)).all (λx=>!x.1) && (backToKw cpos (keywordEach [] X.env)).all (λx=>x.1.isSome)
   && decide (([e]:List Expr).length + ([]:List Keyword).length + (if ([]:List Keyword).isEmpty then 0 else 1) < 30))=true:=by rfl)
  (hline:(apos.endLine == cpos.line)=true:=by rfl) (hst:starEach [e] X.env=(false,eval e X.env) :: starEach [] X.env:=by exact aJ rfl) (hplain:(backTo cpos (starEach ([]:List Expr) X.env)).any (·.1)=false:=by rfl)
  (hs:swapsWith (.Call (.Attribute (.Name x px) "pop" apos) [e] [] cpos) none pos.line X.env=pure false:=by rfl) :
  QS X (.Expr (.Call (.Attribute (.Name x px) "pop" apos) [e] [] cpos) pos) (r8 i te):=by
 refine⟨λB σ F H env D rp h=>cQ (mI (sq PySem.F.plainAttrs_list PySem.F.slot_list_pop PySem.F.type_list_pop sP (cF hN hv hd hcd) (cj bF c9 hst) hbase hfew hline hst hplain) hs) ?_⟩;obtain⟨xs,hx,h⟩:=h;obtain⟨p,vs,h1,h2,h3,h4,h5⟩:=rp.ov i xs hx;refine⟨.ref p,h1,.inl ⟨rfl,vs,dE.of h2⟩,?_⟩;refine aD (he B σ F H env _ rp h) λw H1 hq0=>?_;obtain⟨F1,d,r1,s1,d1,k,e1,hk,hk2,q1⟩:=hq0;subst e1;simp only [Den] at d1
 subst d1;obtain⟨p',vs',g1,g2,g3,g4,g5⟩:=r1.ov i xs hx;rw [h1] at g1;cases g1;have hl:=g5.length;obtain⟨u,hu,du⟩:=g5.get (Hb hk);have hix:seqIndex? (k:Int) vs'.length=some k:=(mC (n:=vs'.length) (i:=(k:Int)) (j:=k) (by unfold rj;rw [if_pos (by omega),if_pos (by omega)];simp)).1;exact⟨p,vs',k,k,u,rfl,rfl,g2,by omega,by omega,hix,hu,F1,_,r1.change hx h1 (g5.eraseIdx k),q1⟩
end
section
variable {prog:Program} {w:World} {A:Around} {E:Value->Shared->Prop} {s:Shared}
def iP (prog:Program) (w:World) (A:Around) (s:Shared) (v:Value):Prop:=∀(E:Value->Shared->Prop) (Q:Bool->Shared->Prop),Q true s->wpAny (model prog w) A (eqIsQuiet 8 v) Q E s
def fT (prog:Program) (w:World) (A:Around) (s:Shared) (v:Value) (h:Int) (n:Nat):Prop:=∀(E:Value->Shared->Prop) (Q:Int->Shared->Prop),Q h { s with toks:=s.toks + n }->wpAny (model prog w) A (PySem.pyHash v) Q E s
theorem sv {key:Value} {stored:List Value} {Q:Bool->Shared->Prop} (hkey:iP prog w A s key)
  (hst:∀v∈stored,iP prog w A s v) (h:Q false s):wpAny (model prog w) A (tableMayTell key stored) Q E s:=by
 unfold tableMayTell
 split
 ·exact Hd h
 ·refine G8 (hkey _ _ ?_);simp only [Bool.not_true,He,if_false];refine G8 ?_;refine wpAny_forIn_list _ (λrest r s'=>s'=s/\r=(none,())/\∀v∈rest,iP prog w A s v) _ ?_ ?_ _ _ ⟨rfl,rfl,hst⟩
  ·rintro x rest r s' ⟨rfl,rfl,hr⟩;refine G8 (hr x Hy _ _ ?_);simp only [Bool.not_true,He,if_false];exact Hd ⟨rfl,rfl,λv hv=>hr v (Hq _ hv)⟩
  ·rintro r s' ⟨rfl,rfl,_⟩;exact Hd h
structure jw (prog:Program) (w:World) (A:Around) (s:Shared) (es:Array DictEntry) (key:Value) (h:Int) (m:Nat->Bool):Prop where
 eq:∀(j:Nat) (hj:j < es.size),SeqAt.EqAt A s es[j].key key (m j)
 mh:∀(j:Nat) (hj:j < es.size),m j=true->es[j].hash=h
 mu:∀(i j:Nat),i < es.size->j < es.size->m i=true->m j=true->i=j
 same:∀(j:Nat) (hj:j < es.size),es[j].key=key->es[j].hash=h
 qk:iP prog w A s key
 qs:∀(j:Nat) (hj:j < es.size),iP prog w A s es[j].key
 ns:(∃i t,key=.int i t)\/(∃a,key=.ref a)\/key=.none
theorem wy {M:Model} {A:Around} {E:Value->Shared->Prop} {s:Shared} {α β:Type} {c:Prop} [Decidable c] {t1 t2:Sem β} {k:β->Sem α} {v:β} {Q:α->Shared->Prop} (h1:∀{R:β->Shared->Prop},R v s->wpAny M A t1 R E s) (h2:∀{R:β->Shared->Prop},R v s->wpAny M A t2 R E s)
  (h:wpAny M A (k v) Q E s):wpAny M A (if c then t1 >>= k else t2 >>= k) Q E s:=by
 split
 ·exact G8 (h1 h)
 ·exact G8 (h2 h)
theorem pN {d:Addr} {o:Obj} {es:Array DictEntry} {ep} {key:Value} {h:Int} {m:Nat->Bool} {Q:Option Nat->Shared->Prop} (f:jw prog w A s es key h m)
  (ho:s.heap.get? d=some o) (hd:o.data=.dict es ep)
  (hnone:(∀j,j < es.size->m j=false)->Q none s) (hsome:∀j,j < es.size->m j=true->Q (some j) s) :
  wpAny (model prog w) A (dictFind d key h) Q E s:=by
 have hask:∀(j:Nat),j < es.size->m j=true->((es[j]?.map (·.hash)) == some h)=true:=by
  intro j hj hm;rw [Array.getElem?_eq_getElem hj,Option.map_some,f.mh j hj hm];simp
 have hst:∀v∈(placesWithHash es.size (λi=>es[i]?.map (·.hash)) h).filterMap (λi=>es[i]?.map (·.key)),iP prog w A s v:=by
  intro v hv;obtain⟨i,_,hi⟩:=List.mem_filterMap.mp hv
  cases hei:es[i]? with
  | none=>rw [hei] at hi;cases hi
  | some e =>
   rw [hei] at hi;obtain rfl:e.key=v:=by simpa using hi
   obtain⟨hl,rfl⟩:=HZ.mp hei;exact f.qs i hl
 have hany:¬ (es.any λe=>e.key == key && e.hash != h)=true:=by
  rw [<- Array.any_toList,List.any_eq_true]
  rintro⟨e,hin,hc⟩;obtain⟨i,hi,rfl⟩:=Array.mem_iff_getElem.mp (Array.mem_toList_iff.mp hin);simp only [Bool.and_eq_true,beq_iff_eq,bne_iff_ne,ne_eq] at hc;exact hc.2 (f.same i hi hc.1)
 have plain:wpAny (model prog w) A (dictWalkPlain d key h es (placesWithHash es.size (λi=>es[i]?.map (·.hash)) h)) Q E s:=by
  refine G8 ?_
  refine wpAny_forIn_list _
   (λrest b s'=>s'=s/\b=(none,())/\∃i,rest=(List.range' i (es.size - i)).filter (λi=>(es[i]?.map (·.hash)) == some h)/\i<=es.size /\
    ∀j,j < i->m j=false) _ ?_ ?_ _ _
   ⟨rfl,rfl,0,by rw [placesWithHash,List.range_eq_range',Nat.sub_zero],HU _,λ_ h=>absurd h (Ia _)⟩
  ·rintro x rest b s' ⟨rfl,rfl,i,hr,hi,hno⟩;obtain⟨hix,hxn,hpx,hskip,hrest⟩:=filter_range'_cons _ _ _ _ _ hr.symm;have hlt:x < es.size:=by omega
   have before:∀j,j < x->m j=false:=λj hjx=>by
    rcases Ih j i with c|c
    ·exact hno j c
    ·cases hmj:m j with
     | false=>rfl
     | true=>have q:=hskip j c hjx;rw [hask j (by omega) hmj] at q;cases q
   have hnext:m x=false->∃i,rest=(List.range' i (es.size - i)).filter (λi=>(es[i]?.map (·.hash)) == some h)/\i<=es.size/\∀j,j < i->m j=false:=λhne =>
    ⟨x + 1,by rw [hrest];congr 2;omega,hlt,λj hji=>by
     rcases Ih j x with c|c
     ·exact before j c
     ·have:j=x:=by omega
      subst this;exact hne⟩
   simp only [Array.getElem?_eq_getElem hlt]
   by_cases hh:(es[x].hash == h)=true
   ·rw [if_pos hh];refine G8 (wpAny_dictEpoch ho hd (G8 (f.eq x hlt prog w _ _ (G8 (wpAny_dictEpoch ho hd ?_)))));show wpAny _ _ (if (ep != ep)=true then _ else _) _ E _
    rw [if_neg (by simp)]
    cases hm:m x with
    | true=>exact G8 (wpAny_rule (Hd (Hd (hsome x hlt hm))))
    | false=>exact G8 (wpAny_rule (Hd ⟨rfl,rfl,hnext hm⟩))
   ·rw [if_neg hh];refine Hd ⟨rfl,rfl,hnext ?_⟩
    cases hm:m x with
    | false=>rfl
    | true=>exact absurd (beq_iff_eq.mpr (f.mh x hlt hm)) hh
  ·rintro b s' ⟨rfl,rfl,i,hr,hi,hno⟩;refine Hd (hnone λj hj=>?_);rcases Ih j i with c|c
   ·exact hno j c
   ·have:=List.filter_eq_nil_iff.mp hr.symm j (List.mem_range'_1.mpr ⟨c,by omega⟩)
    cases hmj:m j with
    | false=>rfl
    | true=>rw [hask j hj hmj] at this;exact absurd rfl this
 have ns:=f.ns;unfold dictFind
 try with_reducible refine wpAny_holding ?_
 refine G8 (wpAny_dictEntries ho hd ?_)
 extract_lets places stored hit jp2 jp1 jp0
 have h1:wpAny (model prog w) A (jp1 ()) Q E s:=by
  refine wy (v:=false) (λq=>Hd q) (λq=>sv f.qk hst q) ?_;dsimp only [jp2,stored,places,hit]
  (
   rw [if_neg (by simp)];refine G8 ?_
   refine wpAny_forIn_list _
    (λrest b s'=>s'=s/\∃i hit,b=(none,hit)/\rest=(List.range' i (es.size - i)).filter (λi=>(es[i]?.map (·.hash)) == some h)/\i<=es.size /\
     ((hit=none/\∀j,j < i->m j=false)\/∃j,hit=some j/\j < i/\m j=true)) _ ?_ ?_ _ _
    ⟨rfl,0,none,rfl,by rw [placesWithHash,List.range_eq_range',Nat.sub_zero],HU _,.inl ⟨rfl,λ_ h=>absurd h (Ia _)⟩⟩
   ·rintro x rest b s' ⟨rfl,i,hit,rfl,hr,hi,hH⟩;obtain⟨hix,hxn,hpx,hskip,hrest⟩:=filter_range'_cons _ _ _ _ _ hr.symm;have hlt:x < es.size:=by omega
    have hrest':rest=(List.range' (x + 1) (es.size - (x + 1))).filter (λi=>(es[i]?.map (·.hash)) == some h):=by rw [hrest];congr 2;omega
    have hHx:(hit=none/\∀j,j < x->m j=false)\/∃j,hit=some j/\j < x/\m j=true:=by
     rcases hH with ⟨h0,hno⟩|⟨j,h1,hji,hj⟩
     ·refine .inl ⟨h0,λj hjx=>?_⟩;rcases Ih j i with c|c
      ·exact hno j c
      ·cases hmj:m j with
       | false=>rfl
       | true=>have q:=hskip j c hjx;rw [hask j (by omega) hmj] at q;cases q
     ·exact .inr ⟨j,h1,by omega,hj⟩
    have hstay:m x=false->((hit=none/\∀j,j < x + 1->m j=false)\/∃j,hit=some j/\j < x + 1/\m j=true):=by
     intro hne;rcases hHx with ⟨h0,hno⟩|⟨j,h1,hjx,hj⟩
     ·refine .inl ⟨h0,λj hjx=>?_⟩;rcases Ih j x with c|c
      ·exact hno j c
      ·have:j=x:=by omega
       subst this;exact hne
     ·exact .inr ⟨j,h1,by omega,hj⟩
    rw [Array.getElem?_eq_getElem hlt];dsimp only
    by_cases hh:(es[x].hash == h)=true
    ·rw [if_pos hh];refine G8 (wpAny_dictEpoch ho hd (G8 (f.eq x hlt prog w _ _ (G8 (wpAny_dictEpoch ho hd ?_)))));show wpAny _ _ (if (ep != ep)=true then _ else _) _ E _
     rw [if_neg (by simp)]
     cases hm:m x with
     | true =>
      rcases hHx with ⟨rfl,_⟩|⟨j,_,hjx,hj⟩
      ·first|rw [if_pos rfl]|skip
       simp only [Option.isSome_none,He,if_false]
       first|refine G8 (Hd ?_)|skip
       refine G8 (wpAny_rule ?_)
       split
       ·exact Hd (Hd (hsome x hlt hm))
       ·exact Hd ⟨rfl,x + 1,some x,rfl,hrest',hlt,.inr ⟨x,rfl,Nat.lt_succ_self x,hm⟩⟩
      ·exact absurd (f.mu j x (by omega) hlt hj hm) (by omega)
     | false =>
      simp only [He,if_false];refine G8 (wpAny_rule ?_)
      first|rw [if_neg (by simp)]|skip
      first
       | exact Hd ⟨rfl,x + 1,hit,rfl,hrest',hlt,hstay hm⟩
       | exact G8 (Hd (Hd ⟨rfl,x + 1,hit,rfl,hrest',hlt,hstay hm⟩))
    ·rw [if_neg hh];refine Hd ⟨rfl,x + 1,hit,rfl,hrest',hlt,hstay ?_⟩
     cases hm:m x with
     | false=>rfl
     | true=>exact absurd (beq_iff_eq.mpr (f.mh x hlt hm)) hh
   ·rintro b s' ⟨rfl,i,hit,rfl,hr,hi,hH⟩;rcases hH with ⟨rfl,hno⟩|⟨j,rfl,hji,hj⟩
    ·refine Hd (hnone λj hj=>?_);rcases Ih j i with c|c
     ·exact hno j c
     ·have:=List.filter_eq_nil_iff.mp hr.symm j (List.mem_range'_1.mpr ⟨c,by omega⟩)
      cases hmj:m j with
      | false=>rfl
      | true=>rw [hask j hj hmj] at this;exact absurd rfl this
    ·exact Hd (hsome j (by omega) hj))
 rcases ns with ⟨ki,kt,rfl⟩|⟨ka,rfl⟩|rfl
 ·exact wpAny_ite_split (λ_=>plain) λ_=>h1
 ·exact wpAny_ite_split (λ_=>plain) λ_=>wpAny_ite_split (λz=>absurd z hany) λ_=>h1
 ·exact wpAny_ite_split (λ_=>plain) λ_=>h1
theorem bj.typeIs {d:Addr} {es:Array DictEntry} {ep:Nat} (x:bj s.heap d es ep):s.TypeIs (.ref d) "dict":=let ⟨o,ho,hc,_⟩:=x;⟨o,ho,hc.1⟩
theorem bj.new (h:Heap):bj (h.push { cls:=.type "dict",data:=.dict #[] }) h.objs.size #[] 0:=⟨_,Hs _ rfl,⟨rfl,rfl,rfl⟩,rfl⟩
theorem rM {d:Addr} {es:Array DictEntry} {ep:Nat} {key:Value} {h:Int} {n:Nat} {m:Nat->Bool} {Q:Option Value->Shared->Prop} (hh:fT prog w A s key h n) (f:jw prog w A { s with toks:=s.toks + n } es key h m) (x:bj s.heap d es ep)
  (hnone:(∀j,j < es.size->m j=false)->Q none { s with toks:=s.toks + n }) (hsome:∀j (hj:j < es.size),m j=true->Q (some es[j].val) { s with toks:=s.toks + n }) :
  wpAny (model prog w) A (dictGet d key) Q E s:=by
 obtain⟨o,ho,_,hd⟩:=x;unfold dictGet
 try with_reducible refine wpAny_holding ?_
 refine G8 (hh _ _ (G8 (pN (s:={ s with toks:=s.toks + n }) f ho hd ?_ ?_)))
 ·intro hno;exact Hd (hnone hno)
 ·intro j hj hm;refine G8 (wpAny_dictEntries (s:={ s with toks:=s.toks + n }) ho hd ?_);rw [Array.getElem?_eq_getElem hj];exact Hd (hsome j hj hm)
theorem r9 {d:Addr} {es:Array DictEntry} {ep:Nat} {key v:Value} {h:Int} {n:Nat} {m:Nat->Bool} {Q:Unit->Shared->Prop} (hh:fT prog w A s key h n) (f:jw prog w A { s with toks:=s.toks + n } es key h m) (x:bj s.heap d es ep) (hz:es.size<=sizeLine)
  (hnone:(∀j,j < es.size->m j=false)->∀h',bj h' d (es.push ⟨h,key,v⟩) (ep + 1)->Heap.SameBut d s.heap h'->Q () { s with heap:=h',toks:=s.toks + n })
  (hsome:∀j (hj:j < es.size),m j=true->∀h',bj h' d (es.modify j λe=>{ e with val:=v }) ep->Heap.SameBut d s.heap h'->Q () { s with heap:=h',toks:=s.toks + n }) :
  wpAny (model prog w) A (dictSet d key v) Q E s:=by
 obtain⟨o,ho,hc,hd⟩:=x;unfold dictSet
 try with_reducible refine wpAny_holding ?_
 refine G8 (hh _ _ ?_);unfold dictSetHashed
 try with_reducible refine wpAny_holding ?_
 refine G8 (pN (s:={ s with toks:=s.toks + n }) f ho hd ?_ ?_)
 ·intro hno;exact G8 (wpAny_rule (wpAny_updateDictKeys (hz:=hz) (s:={ s with toks:=s.toks + n }) ho hd (hnone hno _ ⟨_,Heap.get?_update_self _ ho (Obj.isFreed_of_dict (Obj.data_mapDictKeys hd _)),hc.mapDictKeys _,Obj.data_mapDictKeys hd _⟩ (Heap.SameBut.update ..))))
 ·intro j hj hm;exact G8 (wpAny_rule (G8 (wpAny_updateDict (s:={ s with toks:=s.toks + n }) ho hd (wpAny_point (hsome j hj hm _ ⟨_,Heap.get?_update_self _ ho (Obj.isFreed_of_dict (Obj.data_mapDict hd _)),hc.mapDict _,Obj.data_mapDict hd _⟩ (Heap.SameBut.update ..))))))
theorem rz {d:Addr} {es:Array DictEntry} {ep:Nat} {key:Value} {h:Int} {n j:Nat} {m:Nat->Bool} {Q:Value->Shared->Prop} (hh:fT prog w A.in1 s key h n) (f:jw prog w A.in1 { s with toks:=s.toks + n } es key h m) (x:bj s.heap d es ep)
  (hj:j < es.size) (hm:m j=true) (hq:Q es[j].val { s with toks:=s.toks + n }):wpAny (model prog w) A (getItem (.ref d) key) Q E s:=by
 unfold getItem
 try with_reducible refine wpAny_holding ?_
 refine G8 (wpAny_sequenceKey x.typeIs (by decide) ?_)
 refine G8 (HQ (name:=Str.ofString "__getitem__") x.typeIs slot_dict_getitem
  (wpAny_call_entry slot_dict_getitem x.typeIs entry_dict_getitem ?_ (args_dict_getitem _ _)))
 show wpAny _ _ (dictGet d key >>= _) _ _ s
 refine G8 (rM hh f x (λhno=>by rw [hno j hj] at hm;cases hm) λi hi hmi=>?_);have:=f.mu i j hi hj hmi hm;subst this;exact Hd ⟨_,rfl,Hd hq⟩
theorem rF {d:Addr} {es:Array DictEntry} {ep:Nat} {key v:Value} {h:Int} {n:Nat} {m:Nat->Bool} {Q:Unit->Shared->Prop} (hh:fT prog w A.in1 s key h n) (f:jw prog w A.in1 { s with toks:=s.toks + n } es key h m) (x:bj s.heap d es ep) (hz:es.size<=sizeLine)
  (hnone:(∀j,j < es.size->m j=false)->∀h',bj h' d (es.push ⟨h,key,v⟩) (ep + 1)->Heap.SameBut d s.heap h'->Q () { s with heap:=h',toks:=s.toks + n })
  (hsome:∀j (hj:j < es.size),m j=true->∀h',bj h' d (es.modify j λe=>{ e with val:=v }) ep->Heap.SameBut d s.heap h'->Q () { s with heap:=h',toks:=s.toks + n }) :
  wpAny (model prog w) A (setItem (.ref d) key v) Q E s:=by
 unfold setItem
 try with_reducible refine wpAny_holding ?_
 refine G8 (wpAny_sequenceKey x.typeIs (by decide) ?_)
 refine G8 (HQ (name:=Str.ofString "__setitem__") x.typeIs slot_dict_setitem
  (wpAny_call_entry slot_dict_setitem x.typeIs entry_dict_setitem ?_ (args_dict_setitem _ _ _)))
 show wpAny _ _ (Builtin.Dict.notOrdered "__setitem__" ⟨[.ref d,key,v],[]⟩ >>= _) _ _ s
 refine G8 (wpAny_notOrdered_dict x.typeIs ?_);show wpAny _ _ (dictSet d key v >>= _) _ _ s
 exact G8 (r9 hh f x hz (λhno h' a b=>Hd ⟨.none,rfl,Hd (hnone hno h' a b)⟩) (λj hj hm h' a b=>Hd ⟨.none,rfl,Hd (hsome j hj hm h' a b)⟩))
theorem qE {d:Addr} {es:Array DictEntry} {ep:Nat} {key:Value} {h:Int} {n:Nat} {m:Nat->Bool} {Q:Bool->Shared->Prop} (hh:fT prog w A.in1 s key h n) (f:jw prog w A.in1 { s with toks:=s.toks + n } es key h m) (x:bj s.heap d es ep) (hs:(d == sysModules)=false)
  (hnone:(∀j,j < es.size->m j=false)->Q false { s with toks:=s.toks + n }) (hsome:∀j (hj:j < es.size),m j=true->Q true { s with toks:=s.toks + n }):wpAny (model prog w) A (contains (.ref d) key) Q E s:=by
 unfold contains
 try with_reducible refine wpAny_holding ?_
 refine G8 (wpAny_specialOf x.typeIs slot_dict_contains.lookup ?_);show wpAny _ _ (if (some (Value.builtin "dict.__contains__") == some Value.none)=true then _ else _) _ E s
 rw [if_neg (by rw [beq_builtin_none];exact Bool.false_ne_true)]
 refine G8 (wpAny_callSpecialUnlessNone?_slot (name:=Str.ofString "__contains__") x.typeIs slot_dict_contains
  (wpAny_call_entry slot_dict_contains x.typeIs entry_dict_contains ?_ (args_dict_contains _ _)))
 show wpAny _ _ (dictGet d key >>= _) _ _ s
 refine G8 (rM hh f x (λhno=>?_) λi hi hmi=>?_)
 ·show wpAny _ _ (Builtin.Dict.pendingKey? d key >>= _) _ _ _
  exact G8 (wpAny_pendingKey_other hs (Hd ⟨_,rfl,wpAny_truthy_bool (hnone hno)⟩))
 ·show wpAny _ _ (ret (.bool true)) _ _ _
  exact Hd ⟨_,rfl,wpAny_truthy_bool (hsome i hi hmi)⟩
end
mutual
def aO:D->Bool
 | .int _=>true
 | .non=>true
 | .tup ds=>fy ds
 | _=>false
def fy:List D->Bool
 | []=>true
 | d :: ds=>aO d && fy ds
end
mutual
def zM:D->Nat
 | .int _=>1
 | .non=>1
 | .tup ds=>qW ds + 1
 | _=>0
def qW:List D->Nat
 | []=>0
 | d :: ds=>zM d + qW ds
end
theorem lI (d:D):∀ds:List D,nJ (ds ++ [d])=nJ ds ++ [vo d]
 | []=>rfl
 | x :: ds=>by show vo x :: nJ (ds ++ [d])=_;rw [lI d ds];rfl
theorem kY (d:D):∀ds:List D,qW (ds ++ [d])=qW ds + zM d
 | []=>by simp [qW]
 | x :: ds=>by show zM x + qW (ds ++ [d])=_;rw [kY d ds];simp only [qW];omega
mutual
theorem cO:∀(a b:D),aO a=true->aT a b=true->aO b=true->a=b
 | .int i,b,h,e,k=>by cases b <;> simp only [aT,aO,beq_iff_eq,He] at e k;rw [e]
 | .tup ds,b,h,e,k=>by
  cases b <;> simp only [aT,aO,He] at e k
  rw [rR _ _ (by simpa only [aO] using h) e k]
 | .non,b,h,e,k=>by cases b <;> simp only [aT,He] at e;rfl
 | .bl _,b,h,e,k=>by simp only [aO,He] at h
 | .str _,b,h,e,k=>by simp only [aO,He] at h
 | .lst _,b,h,e,k=>by simp only [aO,He] at h
 | .dct _ _,b,h,e,k=>by simp only [aO,He] at h
 | .ty _,b,h,e,k=>by simp only [aO,He] at h
 | .exc _,b,h,e,k=>by simp only [aO,He] at h
 | .cls _,b,h,e,k=>by simp only [aO,He] at h
 | .obj _,b,h,e,k=>by simp only [aO,He] at h
theorem rR:∀(a b:List D),fy a=true->cZ a b=true->fy b=true->a=b
 | [],b,h,e,k=>by cases b <;> simp only [cZ,He] at e;rfl
 | x :: a,b,h,e,k=>by
  cases b with
  | nil=>simp only [cZ,He] at e
  | cons y b =>
   simp only [cZ,fy,Bool.and_eq_true] at e h k;rw [cO x y h.1 e.1 k.1,rR a b h.2 e.2 k.2]
end
mutual
theorem e7:∀(a:D),aO a=true->aT a a=true
 | .int i,h=>by simp only [aT,beq_self_eq_true]
 | .tup ds,h=>by simp only [aT];exact nS ds (by simpa only [aO] using h)
 | .non,h=>by simp only [aT]
 | .bl _,h=>by simp only [aO,He] at h
 | .str _,h=>by simp only [aO,He] at h
 | .lst _,h=>by simp only [aO,He] at h
 | .dct _ _,h=>by simp only [aO,He] at h
 | .ty _,h=>by simp only [aO,He] at h
 | .exc _,h=>by simp only [aO,He] at h
 | .cls _,h=>by simp only [aO,He] at h
 | .obj _,h=>by simp only [aO,He] at h
theorem nS:∀(a:List D),fy a=true->cZ a a=true
 | [],h=>rfl
 | x :: a,h=>by
  simp only [fy,Bool.and_eq_true] at h;simp only [cZ,Bool.and_eq_true];exact⟨e7 x h.1,nS a h.2⟩
end
section
variable {X:Cx} {pins:List (Addr×Obj)} {σ:St} {H F:Hp}
theorem zp {s:Shared} {a:Addr} {items:List Value} {A:Around} {ds:List D} {vs:List V} (hu:A.units < cLine) (hT:IsTup s.heap a items.toArray) (rv:Vals vs items) (dl:ak X.K F ds vs)
  (rec:∀(d:D) (v:V) (u:Value) (n:Nat),d∈ds->Den X.K F d v->RelV v u->fT X.prog X.w A.in1 { s with toks:=s.toks + n } u (vo d) (zM d)) :
  fT X.prog X.w A s (.ref a) (reduceHash (Builtin.Tuple.tupleHashOf (nJ ds))) (qW ds + 1):=by
 intro E Q h;obtain⟨o,ho,hc,n,hd⟩:=hT;have hT:s.TypeIs (.ref a) "tuple":=⟨o,ho,hc⟩
 unfold PySem.pyHash
 first|unfold pyHashByItsType|skip
 first|refine G8 (wpAny_cRoomFor_or (.inr hu) ?_)|skip
 refine G8 (wpAny_specialOf hT PySem.F.slot_tuple_hash.lookup ?_);show wpAny _ _ (if (some (Value.builtin "tuple.__hash__") == some Value.none)=true then _ else _) Q E s
 rw [if_neg (by rw [beq_builtin_none];exact Bool.false_ne_true)];refine G8 (wpAny_specialOf hT PySem.F.slot_tuple_hash.lookup ?_);show wpAny _ _ (callSpecialIfBoundUnlessNone? (.ref a) "__hash__" _ >>= _) Q E s
 refine G8 (wpAny_callSpecialIfBoundUnlessNone?_slot hT PySem.F.slot_tuple_hash (wpAny_call_entry PySem.F.slot_tuple_hash hT PySem.F.entry_tuple_hash ?_ (PySem.F.args_tuple_hash_1 _)));show wpAny _ _ (Builtin.Tuple.tupleItemsOf (.ref a) >>= _) _ _ s
 refine G8 (wpAny_tupleItemsOf ho hd ?_);refine G8 ?_;rw [<- Array.forIn_toList]
 refine wpAny_forIn_list _
  (λrest (b:Array Int) s'=>∃done left vl,ds=done ++ left/\ak X.K F left vl/\Vals vl rest/\b.toList=nJ done/\s'={ s with toks:=s.toks + qW done })
  _ ?_ ?_ _ _ ⟨[],ds,vs,rfl,dl,by simpa using rv,rfl,rfl⟩
 ·rintro x rest b s' ⟨done,left,vl,rfl,hl,hv,hb,rfl⟩
  cases hv with
  | @cons v _ vl' _ r1 hv' =>
   cases left with
   | nil=>simp only [ak] at hl;cases hl
   | cons d left' =>
    simp only [ak] at hl;obtain⟨v',r',e,hd',hl'⟩:=hl;cases e;refine G8 (rec d v x _ (by simp) hd' r1 _ _ ?_)
    first
     | exact Hd ⟨done ++ [d],left',vl',by simp,hl',hv',by simp [hb,lI],by simp [kY,Nat.add_assoc]⟩
     | exact G8 (Hd (Hd ⟨done ++ [d],left',vl',by simp,hl',hv',by simp [hb,lI],by simp [kY,Nat.add_assoc]⟩))
 ·rintro b s' ⟨done,left,vl,rfl,hl,hv,hb,rfl⟩;cases hv
  cases left with
  | cons d left'=>simp only [ak] at hl;obtain⟨_,_,e,_⟩:=hl;cases e
  | nil =>
  rw [HR] at h;show wpAny _ _ (retInt (Builtin.Tuple.tupleHashOf b.toList)) _ _ _
  rw [hb];refine wpAny_ret_mkInt ?_;show wpAny _ _ (if (decide (-(2:Int) ^ 63<=Builtin.Tuple.tupleHashOf (nJ done)) && decide (Builtin.Tuple.tupleHashOf (nJ done) < 2 ^ 63))=true then _ else _) Q E _
  unfold reduceHash at h
  by_cases hr:(decide (-(2:Int) ^ 63<=Builtin.Tuple.tupleHashOf (nJ done)) && decide (Builtin.Tuple.tupleHashOf (nJ done) < 2 ^ 63))=true
  ·rw [if_pos hr];rw [if_pos hr] at h;exact Hd (by simpa [Nat.add_assoc] using h)
  ·rw [if_neg hr];rw [if_neg hr] at h;exact G8 (wpAny_rule (Hd (by simpa [Nat.add_assoc] using h)))
theorem yg {s:Shared} {A:Around} (hu:A.units < cLine):fT X.prog X.w A s .none 4238894112 1:=by
 intro E Q h;have hT:s.TypeIs .none "NoneType":=rfl
 unfold PySem.pyHash
 first|unfold pyHashByItsType|skip
 first|refine G8 (wpAny_cRoomFor_or (.inr hu) ?_)|skip
 refine G8 (wpAny_specialOf hT PySem.F.slot_NoneType_hash.lookup ?_);show wpAny _ _ (if (some (Value.builtin "NoneType.__hash__") == some Value.none)=true then _ else _) Q E s
 rw [if_neg (by rw [beq_builtin_none];exact Bool.false_ne_true)];refine G8 (wpAny_specialOf hT PySem.F.slot_NoneType_hash.lookup ?_);show wpAny _ _ (callSpecialIfBoundUnlessNone? .none "__hash__" _ >>= _) Q E s
 refine G8 (wpAny_callSpecialIfBoundUnlessNone?_slot hT PySem.F.slot_NoneType_hash (wpAny_call_entry PySem.F.slot_NoneType_hash hT PySem.F.entry_NoneType_hash ?_ (PySem.F.args_NoneType_hash_1 _)));show wpAny _ _ (retInt 4238894112) _ _ _
 refine wpAny_ret_mkInt ?_;exact Hd h
mutual
theorem iq (fh:aq F H):∀(d:D) (s:Shared) (A:Around) (v:V) (u:Value),Inv X pins σ H s->aO d=true->A.units + dep d < cLine->Den X.K F d v->RelV v u->fT X.prog X.w A s u (vo d) (zM d)
 | .int i,s,A,v,u,I,hk,hu,hd,r=>by
  simp only [Den] at hd;subst hd;obtain⟨t,rfl⟩:=r;intro E Q h
  exact (qT X.prog X.w).pyHash (k:=.inl i) (xq i t) h
 | .tup ds,s,A,v,u,I,hk,hu,hd,r=>by
  simp only [Den] at hd;obtain⟨a,vs,rfl,q,dl⟩:=hd;cases r;obtain⟨its,rv,ht,hz⟩:=I.tuple (aq.bR fh q);simp only [dep] at hu
  exact zp (by omega) ht rv dl λd v u n hm hd' r'=>pA fh ds d { s with toks:=s.toks + n } A.in1 v u (I.tok _) (by simpa only [aO] using hk) (by rw [units_in1];omega) hm hd' r'
 | .non,s,A,v,u,I,hk,hu,hd,r=>by
  simp only [Den] at hd;subst hd;cases r
  exact yg (by simp only [dep] at hu;omega)
 | .bl _,_,_,_,_,_,hk,_,_,_=>by simp only [aO,He] at hk
 | .str _,_,_,_,_,_,hk,_,_,_=>by simp only [aO,He] at hk
 | .lst _,_,_,_,_,_,hk,_,_,_=>by simp only [aO,He] at hk
 | .dct _ _,_,_,_,_,_,hk,_,_,_=>by simp only [aO,He] at hk
 | .ty _,_,_,_,_,_,hk,_,_,_=>by simp only [aO,He] at hk
 | .exc _,_,_,_,_,_,hk,_,_,_=>by simp only [aO,He] at hk
 | .cls _,_,_,_,_,_,hk,_,_,_=>by simp only [aO,He] at hk
 | .obj _,_,_,_,_,_,hk,_,_,_=>by simp only [aO,He] at hk
theorem pA (fh:aq F H):∀(ds:List D) (d:D) (s:Shared) (A:Around) (v:V) (u:Value),Inv X pins σ H s->fy ds=true->A.units + bz ds < cLine->d∈ds->Den X.K F d v->RelV v u->fT X.prog X.w A s u (vo d) (zM d)
 | [],d,s,A,v,u,I,hk,hu,hm,hd,r=>by cases hm
 | x :: ds,d,s,A,v,u,I,hk,hu,hm,hd,r=>by
  simp only [fy,Bool.and_eq_true] at hk;simp only [bz] at hu
  by_cases c:d∈ds
  ·exact pA fh ds d s A v u I hk.2 (by omega) c hd r
  ·have:d=x:=(Hx.mp hm).elim id (λe=>absurd e c);rw [this] at hd ⊢;exact iq fh x s A v u I hk.1 (by omega) hd r
end
def nX (prog:Program) (w:World) (A:Around) (s:Shared) (n:Nat) (v:Value):Prop:=∀(E:Value->Shared->Prop) (Q:Bool->Shared->Prop),Q true s->wpAny (model prog w) A (eqIsQuiet n v) Q E s
theorem xl {s:Shared} {a:Addr} {items:List Value} {A:Around} {n:Nat} (hT:IsTup s.heap a items.toArray)
  (rec:∀u∈items,nX X.prog X.w A s n u):nX X.prog X.w A s (n + 1) (.ref a):=by
 intro E Q h;obtain⟨o,ho,hc,k,hd⟩:=hT;have hT:s.TypeIs (.ref a) "tuple":=⟨o,ho,hc⟩
 unfold eqIsQuiet;refine G8 (wpAny_specialOf hT PySem.F.slot_tuple_eq.lookup ?_);show wpAny _ _ (isInstance (.ref a) (.type "tuple") >>= _) _ _ s
 refine G8 (wpAny_isInstance hT isSubtype_tuple_tuple ?_);simp only [Bool.not_true,He,if_false];refine G8 (wpAny_seqItems ho hd ?_);refine G8 ?_;show wpAny _ _ (forIn items.toArray _ _) _ _ s
 rw [<- Array.forIn_toList];refine wpAny_forIn_list _ (λrest r s'=>r.1=none/\s'=s/\∀v∈rest,nX X.prog X.w A s n v) _ ?_ ?_ _ _ ⟨rfl,rfl,by simpa using rec⟩
 ·rintro v rest r s' ⟨hr,rfl,hall⟩;refine G8 (hall v Hy _ _ ?_);simp only [Bool.not_true,He,if_false];exact Hd ⟨rfl,rfl,λu hu'=>hall u (Hq _ hu')⟩
 ·rintro⟨r1,r2⟩ s' ⟨hr,rfl,_⟩;simp only at hr;subst hr;exact Hd h
mutual
theorem kM (fh:aq F H):∀(d:D) (s:Shared) (A:Around) (n:Nat) (v:V) (u:Value),Inv X pins σ H s->aO d=true->dep d<=n->Den X.K F d v->RelV v u->nX X.prog X.w A s n u
 | .int i,s,A,n,v,u,I,hk,hu,hd,r=>by
  simp only [Den] at hd;subst hd;obtain⟨t,rfl⟩:=r;intro E Q h;rw [eqIsQuiet_byValue n (v:=.int i t) rfl]
  exact Hd h
 | .tup ds,s,A,n,v,u,I,hk,hu,hd,r=>by
  simp only [Den] at hd;obtain⟨a,vs,rfl,q,dl⟩:=hd;cases r;obtain⟨its,rv,ht,hz⟩:=I.tuple (aq.bR fh q);simp only [dep] at hu
  cases n with
  | zero=>omega
  | succ n=>exact xl ht (mV fh ds s A n vs its I (by simpa only [aO] using hk) (by omega) dl rv)
 | .non,s,A,n,v,u,I,hk,hu,hd,r=>by
  simp only [Den] at hd;subst hd;cases r;intro E Q h;rw [eqIsQuiet_byValue n (v:=.none) rfl]
  exact Hd h
 | .bl _,_,_,_,_,_,_,hk,_,_,_=>by simp only [aO,He] at hk
 | .str _,_,_,_,_,_,_,hk,_,_,_=>by simp only [aO,He] at hk
 | .lst _,_,_,_,_,_,_,hk,_,_,_=>by simp only [aO,He] at hk
 | .dct _ _,_,_,_,_,_,_,hk,_,_,_=>by simp only [aO,He] at hk
 | .ty _,_,_,_,_,_,_,hk,_,_,_=>by simp only [aO,He] at hk
 | .exc _,_,_,_,_,_,_,hk,_,_,_=>by simp only [aO,He] at hk
 | .cls _,_,_,_,_,_,_,hk,_,_,_=>by simp only [aO,He] at hk
 | .obj _,_,_,_,_,_,_,hk,_,_,_=>by simp only [aO,He] at hk
theorem mV (fh:aq F H):∀(ds:List D) (s:Shared) (A:Around) (n:Nat) (vs:List V) (us:List Value),Inv X pins σ H s->fy ds=true->bz ds<=n->ak X.K F ds vs->Vals vs us->∀u∈us,nX X.prog X.w A s n u
 | [],s,A,n,vs,us,I,hk,hu,dl,rv,u,hm=>by
  simp only [ak] at dl;subst dl
  cases rv;cases hm
 | d :: ds,s,A,n,vs,us,I,hk,hu,dl,rv,u,hm=>by
  simp only [ak] at dl;obtain⟨v,r,rfl,a,b⟩:=dl;simp only [fy,Bool.and_eq_true] at hk;simp only [bz] at hu
  cases rv with
  | @cons _ x _ xs r1 rv' =>
   by_cases c:u∈xs
   ·exact mV fh ds s A n r xs I hk.2 (by omega) b rv' u c
   ·have:u=x:=(Hx.mp hm).elim id (λe=>absurd e c);rw [this];exact kM fh d s A n v x I hk.1 (by omega) a r1
end
end
end L2.L3
namespace L2.L3
open PySem PySem.Spec PyProof.Rows
structure cg (kvs:List (D×D)):Prop where
 key:∀kv∈kvs,aO kv.1=true/\dep kv.1<=8
 dif:∀(i j:Nat) (x y:D×D),kvs[i]?=some x->kvs[j]?=some y->x.1=y.1->i=j
def sI (kvs:List (D×D)) (d:D) (j:Nat):Bool:=match kvs[j]? with
 | some kv=>aT kv.1 d
 | none=>false
section
variable {X:Cx} {pins:List (Addr×Obj)} {σ:St} {H F:Hp} {s:Shared} {kvs:List (D×D)} {us vs:List V} {p:Addr} {A:Around} {d:D} {v:V} {u:Value}
theorem gp (I:Inv X pins σ H s) {ep:Nat} {rows:List (Int×V×V)} (e:H p=some (ft p ep rows)):rows.length<=sizeLine/\(p == sysModules)=false/\∃es,bj s.heap p es ep/\Paired xY rows es.toList:=(I.hok p _ e).1
theorem hJ {α β:Type} {R:α->β->Prop}:∀{xs:List α} {ys:List β} {i:Nat} {y:β},Paired R xs ys->ys[i]?=some y->∃x,xs[i]?=some x/\R x y
 | _,_,_,_,.nil,e=>by simp at e
 | _,_,0,_,.cons r _,e=>by simp at e;subst e;exact⟨_,rfl,r⟩
 | _,_,i + 1,y,.cons _ t,e=>by
  obtain⟨x,h1,h2⟩:=hJ (i:=i) (y:=y) t (by simpa using e);exact⟨x,by simpa using h1,h2⟩
theorem dC (d1:ak X.K F (kvs.map (·.1)) us) (d2:ak X.K F (kvs.map (·.2)) vs):(bo kvs us vs).length=kvs.length:=by
 have l1:=d1.length;have l2:=d2.length;simp only [Hh] at l1 l2;unfold bo;simp only [List.length_zip,Hh,<- l1,<- l2,Nat.min_self]
theorem ud (d1:ak X.K F (kvs.map (·.1)) us) (d2:ak X.K F (kvs.map (·.2)) vs) {es:Array DictEntry} (pr:Paired xY (bo kvs us vs) es.toList) {j:Nat} (hj:j < es.size) :
  ∃kv a b,kvs[j]?=some kv/\us[j]?=some a/\vs[j]?=some b/\Den X.K F kv.1 a/\Den X.K F kv.2 b/\es[j].hash=vo kv.1/\RelV a es[j].key/\RelV b es[j].val:=by
 have l:=dC d1 d2;have lp:=Paired.length pr;have hk:j < kvs.length:=by rw [<- l,lp];simpa using hj
 obtain⟨row,hr,e1,e2,e3⟩:=hJ pr (y:=es[j]) (i:=j) (by simp [hj]);have g0:kvs[j]?=some kvs[j]:=Hb hk;obtain⟨a,ha,da⟩:=d1.get (i:=j) (d:=kvs[j].1) (by rw [Hi,g0];rfl);obtain⟨b,hb,db⟩:=d2.get (i:=j) (d:=kvs[j].2) (by rw [Hi,g0];rfl)
 have:row=(vo kvs[j].1,a,b):=by
  unfold bo at hr;rw [List.getElem?_zip_eq_some,List.getElem?_zip_eq_some,Hi,g0] at hr;obtain⟨h1,h2,h3⟩:=hr;rw [ha] at h2;rw [hb] at h3;exact Ik (Hn h1).symm (Ik (Hn h2).symm (Hn h3).symm)
 subst this;exact⟨_,a,b,g0,ha,hb,da,db,e1,e2,e3⟩
theorem mE (I:Inv X pins σ H s) (fh:aq F H) (ok:cg kvs) (d1:ak X.K F (kvs.map (·.1)) us) (d2:ak X.K F (kvs.map (·.2)) vs) {es:Array DictEntry} (pr:Paired xY (bo kvs us vs) es.toList)
  (hk:aO d=true) (hd:dep d<=8) (hu:A.units + 8 < cLine) (dd:Den X.K F d v) (rv:RelV v u):jw X.prog X.w A s es u (vo d) (sI kvs d):=by
 have at_:=λj hj=>ud d1 d2 pr (j:=j) hj;have mat:∀j kv,kvs[j]?=some kv->sI kvs d j=aT kv.1 d:=λj kv e=>by unfold sI;rw [e]
 have kk:∀(j:Nat) (kv:D×D),kvs[j]?=some kv->aO kv.1=true/\dep kv.1<=8:=λj kv e=>ok.key kv (Hm e);refine⟨λj hj=>?_,λj hj hm=>?_,λi j hi hj h1 h2=>?_,λj hj he=>?_,?_,λj hj=>?_,?_⟩
 ·obtain⟨kv,a,b,g0,g1,g2,da,db,e1,e2,e3⟩:=at_ j hj;rw [mat j kv g0];have:=(kk j kv g0).2;exact nq I fh kv.1 d A a v _ _ (by omega) (by omega) (by omega) da dd e2 rv
 ·obtain⟨kv,a,b,g0,g1,g2,da,db,e1,e2,e3⟩:=at_ j hj;rw [mat j kv g0] at hm;rw [e1,cO kv.1 d (kk j kv g0).1 hm hk]
 ·obtain⟨kv,_,_,g0,_⟩:=at_ i hi;obtain⟨kw,_,_,f0,_⟩:=at_ j hj;rw [mat i kv g0] at h1;rw [mat j kw f0] at h2;exact ok.dif i j kv kw g0 f0 (by rw [cO kv.1 d (kk i kv g0).1 h1 hk,cO kw.1 d (kk j kw f0).1 h2 hk])
 ·obtain⟨kv,a,b,g0,g1,g2,da,db,e1,e2,e3⟩:=at_ j hj;rw [he] at e2;have:=e2.inj rv;subst this;have k1:=(kk j kv g0).2;rw [e1,cO kv.1 d (kk j kv g0).1 (mJ I fh kv.1 d a (by omega) (by omega) da dd) hk]
 ·exact kM fh d s A 8 v u I hk hd dd rv
 ·obtain⟨kv,a,b,g0,g1,g2,da,db,e1,e2,e3⟩:=at_ j hj;exact kM fh kv.1 s A 8 a _ I (kk j kv g0).1 (kk j kv g0).2 da e2
 ·cases d with
  | int i=>simp only [Den] at dd;subst dd;obtain⟨t,rfl⟩:=rv;exact .inl ⟨i,t,rfl⟩
  | tup ds=>simp only [Den] at dd;obtain⟨a,_,rfl,_⟩:=dd;cases rv;exact .inr (.inl ⟨a,rfl⟩)
  | non=>simp only [Den] at dd;subst dd;cases rv;exact .inr (.inr rfl)
  | _=>simp only [aO,He] at hk
def gn (kvs:List (D×D)) (d:D):Option D:=(kvs.find? λkv=>aT kv.1 d).map (·.2)
def putN (kvs:List (D×D)) (d x:D):List (D×D):=if (kvs.any λkv=>aT kv.1 d)=true then kvs.map (λkv=>if aT kv.1 d=true then (kv.1,x) else kv) else kvs ++ [(d,x)]
theorem Ay (ok:cg kvs) (hk:aO d=true) {x:D} (h:gn kvs d=some x):∃(j:Nat) (kv:D×D),kvs[j]?=some kv/\aT kv.1 d=true/\kv.2=x:=by
 unfold gn at h;obtain⟨kv,h1,h2⟩:=HV.mp h;obtain⟨j,hj⟩:=HM (List.mem_of_find?_eq_some h1);have m:=List.find?_some (p:=λkv:D×D=>aT kv.1 d) h1;exact⟨j,kv,hj,m,h2⟩
theorem yS (hu:A.units + 9 < cLine) (I:Inv X pins σ H s) (fh:aq F H) (ok:cg kvs) (d1:ak X.K F (kvs.map (·.1)) us) (d2:ak X.K F (kvs.map (·.2)) vs) {ep:Nat} (e:H p=some (ft p ep (bo kvs us vs)))
  (hk:aO d=true) (hd:dep d<=8) (dd:Den X.K F d v) (rv:RelV v u) {x:D} (hx:gn kvs d=some x) {E:Value->Shared->Prop} {Q:Value->Shared->Prop}
  (h:∀w' u' s',Inv X pins σ H s'->Den X.K F x w'->RelV w' u'->Q u' s'):wpAny (model X.prog X.w) A (getItem (.ref p) u) Q E s:=by
 obtain⟨hz,hs,es,dh,pr⟩:=gp I e;obtain⟨j,kv,g0,m0,rfl⟩:=Ay ok hk hx;have lp:=Paired.length pr;rw [dC d1 d2] at lp;have hj:j < es.size:=by have:=(G7.mp g0).1;simp at lp;omega
 obtain⟨kv',a,b,g0',g1,g2,da,db,e1,e2,e3⟩:=ud d1 d2 pr hj;rw [g0] at g0';cases g0';refine rz (j:=j) (iq fh d s A.in1 v u I hk (by rw [units_in1];omega) dd rv) (mE (I.tok _) fh ok d1 d2 pr hk hd (by rw [units_in1];omega) dd rv) dh hj (by unfold sI;rw [g0];exact m0) ?_;exact h b _ _ (I.tok _) db e3
theorem E5 (hu:A.units + 9 < cLine) (I:Inv X pins σ H s) (fh:aq F H) (ok:cg kvs) (d1:ak X.K F (kvs.map (·.1)) us) (d2:ak X.K F (kvs.map (·.2)) vs) {ep:Nat} (e:H p=some (ft p ep (bo kvs us vs)))
  (hk:aO d=true) (hd:dep d<=8) (dd:Den X.K F d v) (rv:RelV v u) {E:Value->Shared->Prop} {Q:Bool->Shared->Prop}
  (h:∀s',Inv X pins σ H s'->Q (kvs.any λkv=>aT kv.1 d) s'):wpAny (model X.prog X.w) A (contains (.ref p) u) Q E s:=by
 obtain⟨hz,hs,es,dh,pr⟩:=gp I e;have lp:=Paired.length pr;rw [dC d1 d2] at lp;refine qE (iq fh d s A.in1 v u I hk (by rw [units_in1];omega) dd rv) (mE (I.tok _) fh ok d1 d2 pr hk hd (by rw [units_in1];omega) dd rv) dh hs (λhno=>?_) λj hj hm=>?_
 ·have:(kvs.any λkv=>aT kv.1 d)=false:=by
   rw [List.any_eq_false];intro kv hm;obtain⟨j,hj⟩:=HM hm;have:=hno j (by have:=(G7.mp hj).1;simp at lp;omega);unfold sI at this;rw [hj] at this
   simpa using this
  have q:=h { s with toks:=s.toks + zM d } (I.tok _);rw [this] at q;exact q
 ·have:(kvs.any λkv=>aT kv.1 d)=true:=by
   rw [List.any_eq_true];unfold sI at hm
   cases g:kvs[j]? with
   | none=>rw [g] at hm;cases hm
   | some kv=>rw [g] at hm;exact⟨kv,Hm g,hm⟩
  have q:=h { s with toks:=s.toks + zM d } (I.tok _);rw [this] at q;exact q
end
theorem lr {α β:Type} {R:α->β->Prop}:∀{xs:List α} {ys:List β},xs.length=ys.length->(∀(i:Nat) x y,xs[i]?=some x->ys[i]?=some y->R x y)->Paired R xs ys
 | [],[],_,_=>.nil
 | [],_ :: _,h,_=>by simp at h
 | _ :: _,[],h,_=>by simp at h
 | x :: xs,y :: ys,h,f=>.cons (f 0 x y rfl rfl) (lr (by simpa using h) λi a b h1 h2=>f (i + 1) a b (by simpa using h1) (by simpa using h2))
theorem ir {kvs:List (D×D)} {us vs:List V} {i:Nat} {row:Int×V×V} (h:(bo kvs us vs)[i]?=some row):∃kv,kvs[i]?=some kv/\row.1=vo kv.1/\us[i]?=some row.2.1/\vs[i]?=some row.2.2:=by
 unfold bo at h;rw [List.getElem?_zip_eq_some,List.getElem?_zip_eq_some,Hi] at h;obtain⟨h1,h2,h3⟩:=h;obtain⟨kv,a,b⟩:=HV.mp h1;exact⟨kv,a,b.symm,h2,h3⟩
theorem zP {kvs:List (D×D)} {d x:D} {j:Nat} {kv:D×D} (ok:cg kvs) (hk:aO d=true) (hj:kvs[j]?=some kv) (hm:aT kv.1 d=true):kvs.map (λkv=>if aT kv.1 d=true then (kv.1,x) else kv)=kvs.set j (kv.1,x):=by
 apply List.ext_getElem?
 intro i;rw [Hi]
 by_cases e:j=i
 ·subst e;rw [Hg (G7.mp hj).1,hj];simp only [Option.map_some,if_pos hm]
 ·rw [G9 e]
  cases g:kvs[i]? with
  | none=>rfl
  | some kw =>
   simp only [Option.map_some];rw [if_neg];intro hw;exact e (ok.dif j i kv kw hj g (by rw [cO kv.1 d (ok.key kv (Hm hj)).1 hm hk,cO kw.1 d (ok.key kw (Hm g)).1 hw hk]))
theorem sW {kvs:List (D×D)} {j:Nat} {kv:D×D} {x:D} (hj:kvs[j]?=some kv):(kvs.set j (kv.1,x)).map (·.1)=kvs.map (·.1):=by
 apply List.ext_getElem?
 intro i;rw [Hi,Hi]
 by_cases e:j=i
 ·subst e;rw [Hg (G7.mp hj).1,hj];rfl
 ·rw [G9 e]
theorem sN {kvs:List (D×D)} {j:Nat} {y x:D}:(kvs.set j (y,x)).map (·.2)=(kvs.map (·.2)).set j x:=by
 rw [List.map_set]
section
variable {X:Cx} {pins:List (Addr×Obj)} {σ:St} {H F:Hp} {s:Shared} {kvs:List (D×D)} {us vs:List V} {p:Addr} {A:Around} {d x:D} {v w:V} {u r:Value}
theorem Cv (hu:A.units + 9 < cLine) (I:Inv X pins σ H s) (fh:aq F H) (ok:cg kvs) (d1:ak X.K F (kvs.map (·.1)) us) (d2:ak X.K F (kvs.map (·.2)) vs) {ep:Nat} (e:H p=some (ft p ep (bo kvs us vs)))
  (hk:aO d=true) (hd:dep d<=8) (dd:Den X.K F d v) (rv:RelV v u) (dx:Den X.K F x w) (rw':RelV w r) (hl:kvs.length < sizeLine) {E:Value->Shared->Prop} {Q:Unit->Shared->Prop}
  (h:∀ep' us' vs' s',ak X.K F ((putN kvs d x).map (·.1)) us'->ak X.K F ((putN kvs d x).map (·.2)) vs'->Inv X pins σ (upd H p (ft p ep' (bo (putN kvs d x) us' vs'))) s'->Q () s'):wpAny (model X.prog X.w) A (setItem (.ref p) u r) Q E s:=by
 obtain⟨hz,hs,es,dh,pr⟩:=gp I e;have lp:=Paired.length pr;have l0:=dC d1 d2;rw [l0] at lp hz;have lp':kvs.length=es.size:=by simpa using lp
 have l1:=d1.length;have l2:=d2.length;simp only [Hh] at l1 l2
 have ext:∀(ep':Nat) (rows:List (Int×V×V)) (h':Heap) (es':Array DictEntry),rows.length<=sizeLine->bj h' p es' ep'->Paired xY rows es'.toList->bL X.prog X.w (upd H p (ft p ep' rows)) h' p (ft p ep' rows):=λep' rows h' es' z dh' pr'=>by
  refine⟨⟨z,hs,es',dh',pr'⟩,?_,?_⟩
  ·obtain⟨o,ho,_⟩:=dh';exact⟨o,ho⟩
  ·rintro h1 h2 ⟨z,hs,es,⟨o,ho,c,dd⟩,pr⟩ k;exact⟨z,hs,es,⟨o,k _ ho,c,dd⟩,pr⟩
 have hash:=iq fh d s A.in1 v u I hk (by rw [units_in1];omega) dd rv;have find:=mE (I.tok (s.toks + zM d)) fh ok d1 d2 pr hk hd (A:=A.in1) (by rw [units_in1];omega) dd rv;refine rF hash find dh (by omega) (λhno h' dh' sb=>?_) λj hj hm h' dh' sb=>?_
 ·have any:(kvs.any λkv=>aT kv.1 d)=false:=by
   rw [List.any_eq_false];intro kv hm;obtain⟨j,hj⟩:=HM hm;have:=hno j (by have:=(G7.mp hj).1;omega);unfold sI at this;rw [hj] at this
   simpa using this
  have pe:putN kvs d x=kvs ++ [(d,x)]:=by unfold putN;rw [any];rfl
  have q1:ak X.K F ((putN kvs d x).map (·.1)) (us ++ [v]):=by rw [pe,List.map_append];exact d1.append (aH dd aI)
  have q2:ak X.K F ((putN kvs d x).map (·.2)) (vs ++ [w]):=by rw [pe,List.map_append];exact d2.append (aH dx aI)
  refine h _ _ _ _ q1 q2 (ra I (by rw [e];exact True.intro) sb (let ⟨o,ho,_⟩:=dh';⟨o,ho⟩) (ext _ _ h' _ ?_ dh' ?_))
  ·rw [dC q1 q2,pe];simp;omega
  ·refine lr (by rw [dC q1 q2,pe];simp;omega) λi row en h1 h2=>?_;obtain⟨kv,k1,k2,k3,k4⟩:=ir h1;rw [pe] at k1;simp only [Array.toList_push] at h2
   by_cases c:i < kvs.length
   ·rw [Hw c] at k1;rw [Hw (by omega)] at k3 k4;rw [Hw (by simp;omega)] at h2;obtain⟨row',g1,g2⟩:=hJ pr h2;obtain⟨kv',f1,f2,f3,f4⟩:=ir g1;rw [f1] at k1;cases k1;rw [f3] at k3;rw [f4] at k4;have:row'=row:=Ik (by rw [f2,k2]) (Ik (Hn k3) (Hn k4));rw [<- this];exact g2
   ·have hi:i=kvs.length:=by
     have:=(G7.mp k1).1;simp at this;omega
    rw [hi,Hu (Hl _),Nat.sub_self] at k1;rw [show i=us.length by omega,Hu (Hl _),Nat.sub_self] at k3;rw [show i=vs.length by omega,Hu (Hl _),Nat.sub_self] at k4;rw [show i=es.toList.length by simp;omega,Hu (Hl _),Nat.sub_self] at h2;cases k1;cases h2;have a3:v=row.2.1:=Hn k3;have a4:w=row.2.2:=Hn k4;exact⟨k2.symm,by rw [<- a3];exact rv,by rw [<- a4];exact rw'⟩
 ·obtain⟨kv,a,b,g0,g1,g2,da,db,e1,e2,e3⟩:=ud d1 d2 pr hj;unfold sI at hm;rw [g0] at hm;have any:(kvs.any λkv=>aT kv.1 d)=true:=List.any_eq_true.mpr ⟨kv,Hm g0,hm⟩;have pe:putN kvs d x=kvs.set j (kv.1,x):=by unfold putN;rw [any,if_pos rfl];exact zP ok hk g0 hm
  have q1:ak X.K F ((putN kvs d x).map (·.1)) us:=by rw [pe,sW g0];exact d1
  have q2:ak X.K F ((putN kvs d x).map (·.2)) (vs.set j w):=by rw [pe,sN];exact ak.set dx j d2
  refine h _ _ _ _ q1 q2 (ra I (by rw [e];exact True.intro) sb (let ⟨o,ho,_⟩:=dh';⟨o,ho⟩) (ext _ _ h' _ ?_ dh' ?_))
  ·rw [dC q1 q2,pe];simp;omega
  ·refine lr (by rw [dC q1 q2,pe];simp;omega) λi row en h1 h2=>?_;obtain⟨kw,k1,k2,k3,k4⟩:=ir h1;rw [pe] at k1;rw [Ii,Array.getElem?_modify] at h2
   by_cases c:j=i
   ·subst c;rw [if_pos rfl,Array.getElem?_eq_getElem hj] at h2;rw [Hg (by omega)] at k1 k4;cases k1;cases h2;rw [g1] at k3;have a3:a=row.2.1:=Hn k3;have a4:w=row.2.2:=Hn k4;exact⟨by rw [k2];exact e1,by rw [<- a3];exact e2,by rw [<- a4];exact rw'⟩
   ·rw [if_neg c,<- Ii] at h2;rw [G9 c] at k1 k4;obtain⟨row',f0,f1⟩:=hJ pr h2;obtain⟨kv',t1,t2,t3,t4⟩:=ir f0;rw [t1] at k1;cases k1;rw [t3] at k3;rw [t4] at k4;have:row'=row:=Ik (by rw [t2,k2]) (Ik (Hn k3) (Hn k4));rw [<- this];exact f1
end
section
variable {K:Ha} {B:Base} {F H F' H':Hp} {σ:St} {e:En}
theorem aP {e:En} {i j:Nat} {l:Lo} {xs:List D} (hl:∀z,l≠.own z) (q:(e.set i (some l))[j]?=some (some (.own xs))):i≠j:=λz=>by
 subst z
 by_cases w:i < e.length
 ·rw [Hg w] at q;cases q;exact hl _ rfl
 ·rw [Hv (by simpa using w)] at q;cases q
theorem jO {e:En} {i j:Nat} {l:Lo} {x:D} (hl:∀z,l≠.d z) (q:(e.set i (some l))[j]?=some (some (.d x))):i≠j:=λz=>by
 subst z
 by_cases w:i < e.length
 ·rw [Hg w] at q;cases q;exact hl _ rfl
 ·rw [Hv (by simpa using w)] at q;cases q
theorem Rep.B4 (r:Rep K B F H σ e) {i:Nat} {p:Addr} (h:H p=none) (hl:i < σ.length) :
  Rep K B F (upd H p (ft p 0 [])) (σ.set i (some (.ref p))) (e.set i (some (.dic []))):=by
 have r1:=r.loose (o:=ft p 0 []) h;have hb:B.H p=none:=r.h0.free h
 have old:∀(j:Nat) (ys:List (D×D)),e[j]?=some (some (.dic ys))->σ[j]?≠some (some (.ref p)):=λj ys q z=>by
  obtain⟨q1,_,_,_,h1,h2,_⟩:=r.mv j ys q;rw [z] at h1;cases h1;rw [h] at h2;cases h2
 refine⟨r1.f0,r1.fh,r1.h0,r1.nf,λj y q=>?_,λj y q=>?_,λj k ys zs q hjk q1 q2 q3 q4=>?_,λj y q=>?_,λj k ys zs q hjk q1 q2 q3 q4=>?_⟩
 ·have z:=jO (λ_ w=>by cases w) q;rw [G9 z] at q ⊢;exact r1.dv j y q
 ·have z:=aP (λ_ w=>by cases w) q;rw [G9 z] at q ⊢;exact r1.ov j y q
 ·have z1:=aP (λ_ w=>by cases w) q1;have z2:=aP (λ_ w=>by cases w) q2;rw [G9 z1] at q1 q3;rw [G9 z2] at q2 q4;exact r.ne j k ys zs q hjk q1 q2 q3 q4
 ·by_cases z:i=j
  ·subst z
   by_cases w:i < e.length
   ·rw [Hg w] at q;cases q;exact⟨p,0,[],[],Hg hl,ao,r.l9 h,hb,aI,aI⟩
   ·rw [Hv (by simpa using w)] at q;cases q
  ·rw [G9 z] at q ⊢;exact r1.mv j y q
 ·by_cases z1:i=j
  ·subst z1;rw [G9 hjk] at q2 q4;rw [Hg hl] at q3;cases q3;exact old k zs q2 q4
  ·rw [G9 z1] at q1 q3
   by_cases z2:i=k
   ·subst z2;rw [Hg hl] at q4;cases q4;exact old j ys q1 q3
   ·rw [G9 z2] at q2 q4;exact r.nm j k ys zs q hjk q1 q2 q3 q4
theorem Rep.wb (r:Rep K B F H σ e) {i:Nat} {p:Addr} (ep:Nat) {us vs:List V} {xs ys:List (D×D)} (h:e[i]?=some (some (.dic xs))) (hp:σ[i]?=some (some (.ref p))) (hd:ak K F (ys.map (·.1)) us) (hd':ak K F (ys.map (·.2)) vs) :
  Rep K B F (upd H p (ft p ep (bo ys us vs))) σ (e.set i (some (.dic ys))):=by
 obtain⟨p',_,_,_,h1,h2,h3,h4,_⟩:=r.mv i xs h;rw [hp] at h1;cases h1;have wl:i < e.length:=(G7.mp h).1;have fk:∀q o,F q=some o->q≠p:=λq o z w=>by subst w;rw [h3] at z;cases z
 have bk:∀q o,B.H q=some o->q≠p:=λq o z w=>by subst w;rw [h4] at z;cases z
 have dicAt:∀(j:Nat) (zs:List (D×D)),(e.set i (some (.dic ys)))[j]?=some (some (.dic zs))->∃ws,e[j]?=some (some (.dic ws)):=λj zs q=>by
  by_cases z:i=j
  ·subst z;exact⟨xs,h⟩
  ·rw [G9 z] at q;exact⟨zs,q⟩
 refine⟨r.f0,λb o z=>by rw [aj (fk b o z)];exact r.fh _ _ z,λb o z=>by rw [aj (bk b o z)];exact r.h0 _ _ z,r.nf,λj y q=>?_,λj y q=>?_,λj k as bs q hjk q1 q2 q3 q4=>?_,λj y q=>?_,λj k as bs q hjk q1 q2 q3 q4=>?_⟩
 ·have z:=jO (λ_ w=>by cases w) q;rw [G9 z] at q;exact r.dv j y q
 ·have z:=aP (λ_ w=>by cases w) q;rw [G9 z] at q;obtain⟨p2,us,g1,g2,g3,g4,g5⟩:=r.ov j y q;have:p2≠p:=λw=>by subst w;rw [h2] at g2;cases g2
  exact⟨p2,us,g1,by rw [aj this];exact g2,g3,g4,g5⟩
 ·have z1:=aP (λ_ w=>by cases w) q1;have z2:=aP (λ_ w=>by cases w) q2;rw [G9 z1] at q1;rw [G9 z2] at q2;exact r.ne j k as bs q hjk q1 q2 q3 q4
 ·by_cases z:i=j
  ·subst z;rw [Hg wl] at q;cases q;exact⟨p,ep,us,vs,hp,ao,h3,h4,hd,hd'⟩
  ·rw [G9 z] at q;obtain⟨p2,ep2,as,bs,g1,g2,g3,g4,g5⟩:=r.mv j y q;have:p2≠p:=λw=>by subst w;exact r.nm j i y xs p2 (Ne.symm z) q h g1 hp
   exact⟨p2,ep2,as,bs,g1,by rw [aj this];exact g2,g3,g4,g5⟩
 ·obtain⟨as',w1⟩:=dicAt j as q1;obtain⟨bs',w2⟩:=dicAt k bs q2;exact r.nm j k as' bs' q hjk w1 w2 q3 q4
def qe (kvs:List (D×D)):Ha->Hp->Addr->Prop:=λK G a=>∃ep us vs,G a=some (ft a ep (bo kvs us vs))/\ak K G (kvs.map (·.1)) us/\ak K G (kvs.map (·.2)) vs
theorem Rep.xo (r:Rep K B F H σ e) {i:Nat} {xs:List (D×D)} (h:e[i]?=some (some (.dic xs))):∃F',aq F F'/\Rep K B F' H σ (e.set i (some (.d (.obj (qe xs))))):=by
 obtain⟨p,ep,us,vs,h1,h2,h3,h4,h5,h6⟩:=r.mv i xs h;have wl:i < e.length:=(G7.mp h).1;have s1:aq F (upd F p (ft p ep (bo xs us vs))):=aY h3;refine⟨upd F p (ft p ep (bo xs us vs)),s1,r.f0.trans s1,λb o z=>?_,r.h0,λq hq=>?_,λj y q=>?_,λj y q=>?_,λj k as bs q hjk q1 q2 q3 q4=>?_,λj y q=>?_,λj k as bs q hjk q1 q2 q3 q4=>?_⟩
 ·by_cases w:b=p
  ·subst w;rw [ao] at z;cases z;exact h2
  ·rw [aj w] at z;exact r.fh _ _ z
 ·have:q≠p:=λw=>by subst w;exact B.nb _ hq h4
  rw [aj this];exact r.nf q hq
 ·by_cases z:i=j
  ·subst z;rw [Hg wl] at q;cases q;refine⟨_,h1,?_⟩;simp only [Den];exact⟨p,rfl,λG sG=>⟨ep,us,vs,sG _ _ ao,ak.mono (s1.trans sG) _ _ h5,ak.mono (s1.trans sG) _ _ h6⟩⟩
  ·rw [G9 z] at q;obtain⟨v,a,b⟩:=r.dv j y q;exact⟨v,a,Den.mono s1 _ _ b⟩
 ·have z:=aP (λ_ w=>by cases w) q;rw [G9 z] at q;obtain⟨p2,us,g1,g2,g3,g4,g5⟩:=r.ov j y q;have:p2≠p:=λw=>by subst w;rw [h2] at g2;cases g2
  exact⟨p2,us,g1,g2,by rw [aj this];exact g3,g4,ak.mono s1 _ _ g5⟩
 ·have z1:=aP (λ_ w=>by cases w) q1;have z2:=aP (λ_ w=>by cases w) q2;rw [G9 z1] at q1;rw [G9 z2] at q2;exact r.ne j k as bs q hjk q1 q2 q3 q4
 ·have z:i≠j:=aQ (λ_ w=>by cases w) q;rw [G9 z] at q;obtain⟨p2,ep2,as,bs,g1,g2,g3,g4,g5,g6⟩:=r.mv j y q;have:p2≠p:=λw=>by subst w;exact r.nm j i y xs p2 (Ne.symm z) q h g1 h1
  exact⟨p2,ep2,as,bs,g1,g2,by rw [aj this];exact g3,g4,ak.mono s1 _ _ g5,ak.mono s1 _ _ g6⟩
 ·have z1:=aQ (λ_ w=>by cases w) q1;have z2:=aQ (λ_ w=>by cases w) q2;rw [G9 z1] at q1;rw [G9 z2] at q2;exact r.nm j k as bs q hjk q1 q2 q3 q4
end
theorem pI {P:Program} {w:World} {H:Hp} (h:Heap) (hb:sysModules < h.objs.size):bL P w H (h.push { cls:=.type "dict",data:=.dict #[] }) h.objs.size (ft h.objs.size 0 []):=by
 have dh:=bj.new h;refine⟨⟨HU _,beq_eq_false_iff_ne.mpr (Ne.symm (HC hb)),#[],dh,.nil⟩,?_,?_⟩
 ·obtain⟨o,ho,_⟩:=dh;exact⟨o,ho⟩
 ·rintro h1 h2 ⟨z,hs,es,⟨o,ho,c,dd⟩,pr⟩ k;exact⟨z,hs,es,⟨o,k _ ho,c,dd⟩,pr⟩
def DB:TE:=λ_ H Q=>∀p,H p=none->Q (.ref p) (upd H p (ft p 0 []))
def E8 (X:Cx) (td ty tv:TE):TS:=λD σ H=>tv σ H λv H1=>td σ H1 λx H2=>ty σ H2 λy H3=>∃p ep F kvs us vs d z,x=.ref p/\aq F H3/\cg kvs/\ak X.K F (kvs.map (·.1)) us/\ak X.K F (kvs.map (·.2)) vs/\H3 p=some (ft p ep (bo kvs us vs)) /\
 aO d=true/\dep d<=8/\Den X.K F d y/\Den X.K F z v/\kvs.length < sizeLine/\∀ep' us' vs',ak X.K F ((putN kvs d z).map (·.1)) us'->ak X.K F ((putN kvs d z).map (·.2)) vs'->D.nx σ (upd H3 p (ft p ep' (bo (putN kvs d z) us' vs')))
def Et (X:Cx) (td ty:TE):TE:=λσ H Q=>td σ H λx H1=>ty σ H1 λy H2=>∃p ep F kvs us vs d z,x=.ref p/\aq F H2/\cg kvs/\ak X.K F (kvs.map (·.1)) us/\ak X.K F (kvs.map (·.2)) vs/\H2 p=some (ft p ep (bo kvs us vs)) /\
 aO d=true/\dep d<=8/\Den X.K F d y/\gn kvs d=some z/\∀w,Den X.K F z w->Q w H2
section
variable {X:Cx} {o i e value a b:Expr} {pos pos' tpos:Pos} {td ty tv:TE} {ta tb:TD}
theorem y3:PE X (.Dict [] [] pos) DB:=λpins s σ H Q I h =>
 wpAny_Dict_empty ⟨.ref s.heap.objs.size,_,I.laid (a:=s.heap.objs.size) (o:=ft s.heap.objs.size 0 []) (t':=s.toks) (λ_ _ q=>Hf _ q) (Hl _) (pI s.heap I.big),rfl,h _ (I.hok.fresh (Hl _))⟩
theorem Aa (hu:X.A.units + 64 < cLine) (ho:PE X o td) (hi:PE X i ty) (hv:PE X value tv) (hs:swapsWith value (some (.Subscript o i pos')) pos.line X.env=pure false) :
  PS X (.Assign [.Subscript o i pos'] value pos) (E8 X td ty tv):=by
 intro pins s σ H D I h;refine wpAny_Assign_Subscript (bK (hv pins s σ H _ I h) λr s1 ⟨v,H1,I1,rv,q1⟩=>bK (ho pins s1 σ H1 _ I1 q1) λu s2 ⟨x,H2,I2,rx,q2⟩=>bK (hi pins s2 σ H2 _ I2 q2) λiv s3 hq=>?_) hs;obtain⟨y,H3,I3,ry,p,ep,F,kvs,us,vs,d,z,ex,fh,ok,d1,d2,e,hk,hd,dd,dz,hl,q3⟩:=hq;subst ex;obtain rfl:u=Value.ref p:=rx;exact Cv (by omega) I3 fh ok d1 d2 e hk hd dd ry dz rv hl λep' us' vs' s4 e1 e2 I4=>⟨σ,_,I4,q3 ep' us' vs' e1 e2⟩
theorem Aq (hu:X.A.units + 64 < cLine) (ho:PE X a td) (hi:PE X b ty) (hs:BP b):PE X (.Subscript a b pos) (Et X td ty):=by
 intro pins s σ H Q I h;refine Ae PySem.F.slot_dict_getitem.lookup hs (bK (ho pins s σ H _ I h) λu s1 ⟨x,H1,I1,rx,q1⟩=>bK (hi pins s1 σ H1 _ I1 q1) λiv s2 hq=>?_);obtain⟨y,H2,I2,ry,p,ep,F,kvs,us,vs,d,z,ex,fh,ok,d1,d2,e,hk,hd,dd,hz,q2⟩:=hq;subst ex;obtain rfl:u=Value.ref p:=rx;refine⟨?_,yS (by omega) I2 fh ok d1 d2 e hk hd dd ry hz λw' u' s3 I3 dw rw'=>⟨w',H2,I3,rw',q2 w' dw⟩⟩;obtain⟨_,_,es,dh,_⟩:=gp I2 e
 exact dh.typeIs
def iJ (i:Nat):bG:=λD env=>D.nx (env.set i (some (.dic [])))
theorem pF {x:Str} {pd:Pos} (i:Nat) (hN:X.N.Nodup) (hi:X.N[i]?=some x:=by rfl) (hx:Loc X.env.scope x:=by first|exact Or.inl rfl|exact Or.inr rfl) (hs:swapsWith (.Dict [] [] pd) (some (.Name x pos')) pos.line X.env=pure false:=by rfl)
  (hf:X.fn x=true\/X.env.scope.names.lookup x=some .local:=by first|exact .inl rfl|exact .inr rfl):QS X (.Assign [.Name x pos'] (.Dict [] [] pd) pos) (iJ i):=by
 refine⟨λB σ F H env D rp h pins s I=>?_⟩;refine lA (i:=i) hN hi hx y3 hs hf pins s σ H _ I λp hp=>?_;exact⟨F,_,rp.B4 hp (by rw [I.len];exact (G7.mp hi).1),h⟩
def aS (i:Nat) (tk tv:TD):bG:=λZ env=>tv env λv=>∃kvs,env[i]?=some (some (.dic kvs))/\tk env λk=>aO k=true/\dep k<=8/\cg kvs/\kvs.length < sizeLine/\Z.nx (env.set i (some (.dic (putN kvs k v))))
theorem bZ {x:Str} {px p2:Pos} (i:Nat) (hu:X.A.units + 64 < cLine) (hb:QE X b tb) (he:QE X e ta) (hN:X.N[i]?=some x:=by rfl) (hv:qF X.env.scope x:=by first | exact Or.inl rfl | exact Or.inr (Or.inl rfl) | exact Or.inr (Or.inr rfl)) (hd:(x == ("__debug__" : Str))=false:=by decide)
  (hcd:(x == ("__classdict__" : Str))=false:=by decide) (hs:swapsWith e (some (.Subscript (.Name x px) b p2)) pos.line X.env=pure false:=by rfl):QS X (.Assign [.Subscript (.Name x px) b p2] e pos) (aS i tb ta):=by
 refine⟨λB σ F H env Z rp h=>?_⟩;refine cQ (Aa hu (cF hN hv hd hcd) bF bF hs) ?_;refine aD (he B σ F H env _ rp h) λy H1 hq0=>?_;obtain⟨F1,d,r1,s1,d1,kvs,hx,q1⟩:=hq0;obtain⟨p,ep,us,vs,g1,g2,g3,g4,g5,g6⟩:=r1.mv i kvs hx;refine⟨.ref p,g1,?_⟩;refine aD (hb B σ F1 H1 env _ r1 q1) λz H2 hq0=>?_;obtain⟨F2,d2,r2,s2,dd2,hk,hdp,ok,hl,q2⟩:=hq0;obtain⟨p',ep',us',vs',e1,e2,e3,e4,e5,e6⟩:=r2.mv i kvs hx
 rw [g1] at e1;cases e1;exact⟨p,ep',F2,kvs,us',vs',d2,d,rfl,r2.fh,ok,e5,e6,e2,hk,hdp,dd2,Den.mono s2 _ _ d1,hl,λep2 as bs f1 f2=>⟨F2,_,r2.wb ep2 hx g1 f1 f2,q2⟩⟩
def fJ (i:Nat) (tk:TD):TD:=λenv Q=>∃kvs,env[i]?=some (some (.dic kvs))/\tk env λk=>∃v,aO k=true/\dep k<=8/\cg kvs/\gn kvs k=some v/\Q v
theorem nT {x:Str} {px:Pos} (i:Nat) (hu:X.A.units + 64 < cLine) (hb:QE X b tb) (hs:BP b) (hN:X.N[i]?=some x:=by rfl) (hv:qF X.env.scope x:=by first | exact Or.inl rfl | exact Or.inr (Or.inl rfl) | exact Or.inr (Or.inr rfl)) (hd:(x == ("__debug__" : Str))=false:=by decide)
  (hcd:(x == ("__classdict__" : Str))=false:=by decide):QE X (.Subscript (.Name x px) b pos) (fJ i tb):=by
 refine⟨λB σ F H env Q rp h=>?_⟩;refine bX (Aq hu (cF hN hv hd hcd) bF hs) ?_;obtain⟨kvs,hx,h⟩:=h;obtain⟨p,ep,us,vs,g1,g2,g3,g4,g5,g6⟩:=rp.mv i kvs hx;refine⟨.ref p,g1,?_⟩;refine aD (hb B σ F H env _ rp h) λz H2 hq0=>?_;obtain⟨F2,d2,r2,s2,dd2,v,hk,hdp,ok,hl,q2⟩:=hq0;obtain⟨p',ep',us',vs',e1,e2,e3,e4,e5,e6⟩:=r2.mv i kvs hx;rw [g1] at e1;cases e1;exact⟨p,ep',F2,kvs,us',vs',d2,v,rfl,r2.fh,ok,e5,e6,e2,hk,hdp,dd2,hl,λw dw=>⟨F2,v,r2,s2,dw,q2⟩⟩
def GV (x y:D) (Q:D->Prop):Prop:=∃kvs v,x=.obj (qe kvs)/\aO y=true/\dep y<=8/\cg kvs/\gn kvs y=some v/\Q v
def dH (i:Nat) (t:bG):bG:=λD env=>∃xs,env[i]?=some (some (.dic xs))/\t D (env.set i (some (.d (.obj (qe xs)))))
theorem m3 {st:Stmt} {t:bG} (i:Nat) (h:QS X st t):QS X st (dH i t):=by
 refine⟨λB σ F H env D rp hq=>?_⟩;obtain⟨xs,hx,q⟩:=hq;obtain⟨F',s',r'⟩:=rp.xo hx;exact h B σ F' H _ D r' q
end
section
variable {prog:Program} {w:World} {A:Around} {E:Value->Shared->Prop} {s:Shared}
theorem zk {d:Addr} {es:Array DictEntry} {ep:Nat} {Q:Value->Shared->Prop} (hd:(d == sysModules)=false) (x:bj s.heap d es ep)
  (hQ:Q (.ref s.heap.objs.size) { s with heap:=s.heap.push { cls:=.type "dict_keyiterator",data:=.fields #[.ref d,.int 0 0,.int es.size 0,.int ep 0] } }) :
  wpAny (model prog w) A (pyIter (.ref d)) Q E s:=by
 have hT:s.TypeIs (.ref d) "dict":=x.typeIs
 obtain⟨o,ho,hc,hdat⟩:=x;refine wpAny_pyIter_slot hT PySem.F.slot_dict_iter (wpAny_call_entry PySem.F.slot_dict_iter hT PySem.F.entry_dict_iter ?_ (PySem.F.args_dict_iter_1 _));unfold Builtin.«dict.__iter__»;refine G8 ?_;unfold Builtin.Dict.dictSlotNone;refine G8 (wpAny_notOrdered_dict hT ?_);show wpAny _ _ (pure (Value.ref d)) _ _ s
 refine Hd ?_;show wpAny _ _ (Builtin.Dict.showsAll d >>= _) _ _ s
 unfold Builtin.Dict.showsAll;rw [if_neg (by rw [hd];exact Bool.false_ne_true)];refine G8 (Hd ?_);refine G8 (wpAny_dictEntries ho hdat ?_);refine G8 (wpAny_dictEpoch ho hdat ?_);refine G8 (wpAny_newObj_type (Hd ⟨_,rfl,"dict_keyiterator",_,⟨_,Hs _ rfl,rfl⟩,PySem.F.slot_dict_keyiterator_next.lookup,?_⟩))
 simpa [rawInt] using hQ
theorem xA {it d:Addr} {i ep:Nat} {es:Array DictEntry} {Q:Option Value->Shared->Prop} (hit:s.heap.IsKeyIter it d i es.size ep) (x:bj s.heap d es ep) (hlt':i < es.size)
  (hQ:∀h',h'.IsKeyIter it d (i + 1) es.size ep->Heap.SameBut it s.heap h'->Q (some es[i].key) { s with heap:=h' }) :
  wpAny (model prog w) A (pyNext (.ref it)) Q E s:=by
 obtain⟨o,ho,hc,hd⟩:=id hit;obtain⟨od,hod,hcd,hdd⟩:=id x;unfold pyNext
 refine G8 (wpAny_attempt (HQ (name:=Str.ofString "__next__") hit.typeIs PySem.F.slot_dict_keyiterator_next
  (wpAny_call_entry PySem.F.slot_dict_keyiterator_next hit.typeIs PySem.F.entry_dict_keyiterator_next ?_ (PySem.F.args_dict_keyiterator_next_1 _))))
 refine G8 (Hd ?_);refine G8 ?_;refine G8 ?_
 first|refine G8 (wpAny_typeNameOfWhole_keyiter hit.typeIs (Hd ?_))|refine G8 (wpAny_typeNameOf_keyiter hit.typeIs (Hd ?_))
 refine G8 (wpAny_fieldsOf ho hd ?_);have hown:Builtin.Dict_items.ownsTuple "dict_keyiterator" = false:=by decide
 simp only [hown,He,if_false];show wpAny _ _ (if (Value.ref d == Value.none)=true then _ else _) _ _ s
 rw [if_neg (show ¬ ((Value.ref d == Value.none)=true) from Bool.false_ne_true)];refine G8 (Hd ?_);refine G8 (wpAny_dictEntries hod hdd ?_);rw [if_neg (by simp)];refine G8 (Hd ?_);refine G8 (wpAny_dictEpoch hod hdd ?_);rw [if_neg (by simp)];refine Hd ?_;simp only [show ¬ ((i:Int) < 0) from by omega,if_false,Int.toNat_natCast,Array.getElem?_eq_getElem hlt'];refine G8 ?_
 first|refine G8 (wpAny_typeNameOfWhole_keyiter hit.typeIs (Hd ?_))|refine G8 (wpAny_typeNameOf_keyiter hit.typeIs (Hd ?_))
 refine G8 (wpAny_isOneOf_keyiter hit.typeIs ?_);show wpAny _ _ (setField (.ref it) 1 (rawInt ((i:Int) + 1)) >>= _) _ _ s
 refine G8 (wpAny_setField ho hd (by simp) ?_)
 have hit':(s.heap.update it (Obj.mapFields (·.setIfInBounds 1 (rawInt ((i:Int) + 1))))).IsKeyIter it d (i + 1) es.size ep :=
  ⟨_,Heap.get?_update_self _ ho (Obj.isFreed_of_fields (Obj.data_mapFields hd _)),(Obj.cls_mapFields ..).trans hc,by rw [Obj.data_mapFields hd];simp [rawInt]⟩
 refine G8 (wpAny_holding ?_);refine G8 (wpAny_isOneOf_keyiter (s:={ s with heap:=s.heap.update it (Obj.mapFields (·.setIfInBounds 1 (rawInt ((i:Int) + 1)))) }) hit'.typeIs ?_);show wpAny _ _ (pure es[i].key) _ _ _
 exact Hd (Hd ⟨_,rfl,Hd (hQ _ hit' (Heap.SameBut.update ..))⟩)
theorem AE {it d:Addr} {i ep:Nat} {es:Array DictEntry} {Q:Option Value->Shared->Prop} (hh:A.handled=none) (hit:s.heap.IsKeyIter it d i es.size ep) (x:bj s.heap d es ep) (hge:es.size<=i)
  (hQ:∀h',Heap.ExtBut it s.heap h'->Q none { s with heap:=h' }):wpAny (model prog w) A (pyNext (.ref it)) Q E s:=by
 obtain⟨o,ho,hc,hd⟩:=id hit;obtain⟨od,hod,hcd,hdd⟩:=id x;unfold pyNext
 refine G8 (wpAny_attempt (HQ (name:=Str.ofString "__next__") hit.typeIs PySem.F.slot_dict_keyiterator_next
  (wpAny_call_entry PySem.F.slot_dict_keyiterator_next hit.typeIs PySem.F.entry_dict_keyiterator_next ?_ (PySem.F.args_dict_keyiterator_next_1 _))))
 refine G8 (Hd ?_);refine G8 ?_;refine G8 ?_
 first|refine G8 (wpAny_typeNameOfWhole_keyiter hit.typeIs (Hd ?_))|refine G8 (wpAny_typeNameOf_keyiter hit.typeIs (Hd ?_))
 refine G8 (wpAny_fieldsOf ho hd ?_);have hown:Builtin.Dict_items.ownsTuple "dict_keyiterator" = false:=by decide
 simp only [hown,He,if_false];show wpAny _ _ (if (Value.ref d == Value.none)=true then _ else _) _ _ s
 rw [if_neg (show ¬ ((Value.ref d == Value.none)=true) from Bool.false_ne_true)];refine G8 (Hd ?_);refine G8 (wpAny_dictEntries hod hdd ?_);rw [if_neg (by simp)];refine G8 (Hd ?_);refine G8 (wpAny_dictEpoch hod hdd ?_);rw [if_neg (by simp)];refine Hd ?_;simp only [show ¬ ((i:Int) < 0) from by omega,if_false,Int.toNat_natCast,Array.getElem?_eq_none hge];refine G8 ?_
 first|refine G8 (wpAny_typeNameOfWhole_keyiter hit.typeIs (Hd ?_))|refine G8 (wpAny_typeNameOf_keyiter hit.typeIs (Hd ?_))
 show wpAny _ _ (setField (.ref it) 0 .none >>= _) _ _ s
 refine G8 (wpAny_setField ho hd (by simp) ?_);show wpAny _ _ (newExc (.type "StopIteration") [] >>= _) _ _ _
 refine G8 ?_;simp only [newExc,newTuple];refine G8 (wpAny_newObj_type ?_ (by size_fits));refine G8 (m:=firstArgMember _ _) (wpAny_of_eq (a:=Value.none) (by first | rfl | (simp only [firstArgMember];rfl)) ?_);refine wpAny_newObj_type ?_ (by size_fits);simp only [raiseNew];refine G8 (wpAny_handled ?_);rw [show A.in1.handled=none from hh];refine G8 (Hd (wpAny_throw ?_));refine G8 (wpAny_isInstance (T:="StopIteration") (b:=true) ⟨_,Hs _ rfl,rfl⟩ isSubtype_stop ?_)
 exact Hd (hQ _ (((Heap.SameBut.update ..).extBut.push _).push _))
end
def GP (p:Addr) (ep:Nat) (rows:List (Int×V×V)):It :=
 ⟨λi H=>H p=some (ft p ep rows)/\i < rows.length,λi H x H'=>H'=H/\∃row,rows[i]?=some row/\x=row.2.1,λi H=>H p=some (ft p ep rows)/\rows.length<=i⟩
theorem y6 {P:Program} {w:World} {K:Ha} {tg:Expr} (p it:Addr) (ep:Nat) (rows:List (Int×V×V)):Turn P w K tg (GP p ep rows) [it] it (λi h=>h.IsKeyIter it p i rows.length ep) where
 mem:=by simp
 obj:=λi h st b hb=>by
  have e:b=it:=by simpa using hb
  subst e;obtain⟨o,e,c,d⟩:=st;exact⟨o,e,λv z=>by rw [d] at z;cases z⟩
 keep:=λi h h' st k=>let ⟨o,e,c,d⟩:=st;⟨o,k it (by simp) o e,c,d⟩
 item:=by
  intro X hP hw hK hc i pins s σ H E I hf st hg;subst hP hw hK;obtain⟨e,hlt⟩:=hg;obtain⟨hz,hs,es,dh,pr⟩:=gp I e;have lp:rows.length=es.size:=by simpa using Paired.length pr
  have hlt':i < es.size:=by omega
  obtain⟨row,hr,e1,e2,e3⟩:=hJ pr (y:=es[i]) (i:=i) (by simp [hlt']);obtain⟨f0,f1,f2,f3,f4,f5⟩:=hf it (by simp);rw [lp] at st;refine xA st dh hlt' λh' st' sb=>?_;have I1:Inv X pins σ H { s with heap:=h' }:=I.turned (t':=s.toks) (λb o hb e=>(sb.2 b hb).trans e) f0 f1 f3 f4 f5;obtain⟨o,eo,c,d⟩:=id st';rw [<- lp] at st';exact⟨_,rfl,tJ (s:={ s with heap:=h' }) eo c d (by decide) ⟨row.2.1,H,I1,e2,⟨rfl,row,hr,rfl⟩,st',λb hb=>(hf b hb).1⟩⟩
 done:=by
  intro X hP hw hK hc i pins s σ H E I hf st hg;subst hP hw hK;obtain⟨e,hge⟩:=hg;obtain⟨hz,hs,es,dh,pr⟩:=gp I e;have lp:rows.length=es.size:=by simpa using Paired.length pr
  obtain⟨f0,f1,f2,f3,f4,f5⟩:=hf it (by simp);rw [lp] at st;exact AE (I.ok.hd hc) st dh (by omega) λh' eb=>⟨rfl,I.turned (t':=s.toks) (λb o hb e=>eb b o hb e) f0 f1 f3 f4 f5⟩
 self:=λ_ _ _ _ _ st h=>wpAny_pyIter_keyiter st h
def FW (tl:TE):TI:=λσ H R=>tl σ H λx H1=>∃p ep rows,x=.ref p/\H1 p=some (ft p ep rows)/\R (GP p ep rows) H1
section
variable {X:Cx} {tg:Expr}
theorem CI {l:Expr} {tl:TE} (hl:PE X l tl):PI X tg l (FW tl):=by
 intro pins s σ H R I h;refine bK (hl pins s σ H _ I h) λv s1 hq0=>?_;obtain⟨x,H1,I1,r1,q1⟩:=hq0;obtain⟨p,ep,rows,e,hp,q⟩:=q1;subst e;cases r1;obtain⟨hz,hs,es,dh,pr⟩:=gp I1 hp;have lp:rows.length=es.size:=by simpa using Paired.length pr
 refine zk hs dh ?_;refine⟨s1.heap.objs.size,[s1.heap.objs.size],_,_,H1,rfl,I1.kept (t':=s1.toks) λb o e=>Hf _ e,y6 p _ ep rows,⟨_,Hs _ rfl,rfl,by rw [lp];rfl⟩,λb hb=>?_,q⟩;have e:b=s1.heap.objs.size:=by simpa using hb
 subst e;exact I1.w6 (Hl _) (I1.hok.fresh (Hl _))
end
section
variable {K:Ha} {B:Base} {F H:Hp} {σ:St} {e:En}
def tP (x:Addr):Ha->Hp->Addr->Prop:=λ_ _ a=>a=x
theorem mS {i:Nat} {a:Addr} (r:Rep K B F H σ e) (h:e[i]?=some (some (.d (.obj (tP a))))):σ[i]?=some (some (.ref a)):=by
 obtain⟨v,h1,h2⟩:=r.dv i _ h;simp only [Den] at h2;obtain⟨b,rfl,h3⟩:=h2;have:b=a:=h3 F (aq.refl _);rw [this] at h1;exact h1
theorem Rep.zc (r:Rep K B F H σ e) {i:Nat} {kvs:List (D×D)} (h:e[i]?=some (some (.dic kvs))) :
  ∃p ep us vs,σ[i]?=some (some (.ref p))/\H p=some (ft p ep (bo kvs us vs))/\B.H p=none/\ak K F (kvs.map (·.1)) us/\ak K F (kvs.map (·.2)) vs/\Rep K (B.guard p (ft p ep (bo kvs us vs))) F H σ (e.set i (some (.d (.obj (tP p))))):=by
 obtain⟨p,ep,us,vs,h1,h2,h3,h4,h5,h6⟩:=r.mv i kvs h;have wl:i < e.length:=(G7.mp h).1;refine⟨p,ep,us,vs,h1,h2,h4,h5,h6,r.f0,r.fh,λb u q=>?_,λa q=>?_,λj y q=>?_,λj y q=>?_,λj k as bs q hjk q1 q2 q3 q4=>?_,λj y q=>?_,λj k as bs q hjk q1 q2 q3 q4=>?_⟩
 ·have q':upd B.H p (ft p ep (bo kvs us vs)) b=some u:=q
  by_cases z:b=p
  ·subst z;rw [ao] at q';cases q';exact h2
  ·rw [aj z] at q';exact r.h0 _ _ q'
 ·rcases q with rfl|q
  ·exact h3
  ·exact r.nf a q
 ·by_cases z:i=j
  ·subst z;rw [Hg wl] at q;cases q;refine⟨_,h1,?_⟩;simp only [Den];exact⟨p,rfl,λ_ _=>rfl⟩
  ·rw [G9 z] at q;exact r.dv j y q
 ·have z:=aP (λ_ w=>by cases w) q;rw [G9 z] at q;obtain⟨p2,us2,g1,g2,g3,g4,g5⟩:=r.ov j y q;have:p2≠p:=λw=>by subst w;rw [h2] at g2;cases g2
  exact⟨p2,us2,g1,g2,g3,by show upd B.H p _ p2=none;rw [aj this];exact g4,g5⟩
 ·have z1:=aP (λ_ w=>by cases w) q1;have z2:=aP (λ_ w=>by cases w) q2;rw [G9 z1] at q1;rw [G9 z2] at q2;exact r.ne j k as bs q hjk q1 q2 q3 q4
 ·have z:i≠j:=aQ (λ_ w=>by cases w) q;rw [G9 z] at q;obtain⟨p2,ep2,as,bs,g1,g2,g3,g4,g5,g6⟩:=r.mv j y q;have:p2≠p:=λw=>by subst w;exact r.nm j i y kvs p2 (Ne.symm z) q h g1 h1
  exact⟨p2,ep2,as,bs,g1,g2,g3,by show upd B.H p _ p2=none;rw [aj this];exact g4,g5,g6⟩
 ·have z1:=aQ (λ_ w=>by cases w) q1;have z2:=aQ (λ_ w=>by cases w) q2;rw [G9 z1] at q1;rw [G9 z2] at q2;exact r.nm j k as bs q hjk q1 q2 q3 q4
theorem Rep.t6 {p:Addr} {ep:Nat} {us vs:List V} {i:Nat} {kvs:List (D×D)} (r:Rep K (B.guard p (ft p ep (bo kvs us vs))) F H σ e) (hb:B.H p=none) (h:e[i]?=some (some (.d (.obj (tP p))))) (h5:ak K F (kvs.map (·.1)) us) (h6:ak K F (kvs.map (·.2)) vs) :
  Rep K B F H σ (e.set i (some (.dic kvs))):=by
 have wl:i < e.length:=(G7.mp h).1;have hs:=mS r h;obtain⟨r',hp,hf⟩:=r.gD hb
 have oth:∀(j:Nat) (ys:List (D×D)),e[j]?=some (some (.dic ys))->σ[j]?≠some (some (.ref p)):=λj ys q z=>by
  obtain⟨q1,_,_,_,h1,_,_,h4,_⟩:=r.mv j ys q;rw [z] at h1;cases h1;have h4':upd B.H p (ft p ep (bo kvs us vs)) p=none:=h4;rw [ao] at h4';cases h4'
 refine⟨r'.f0,r'.fh,r'.h0,r'.nf,λj y q=>?_,λj y q=>?_,λj k as bs q hjk q1 q2 q3 q4=>?_,λj y q=>?_,λj k as bs q hjk q1 q2 q3 q4=>?_⟩
 ·have z:=jO (λ_ w=>by cases w) q;rw [G9 z] at q;exact r'.dv j y q
 ·have z:=aP (λ_ w=>by cases w) q;rw [G9 z] at q;exact r'.ov j y q
 ·have z1:=aP (λ_ w=>by cases w) q1;have z2:=aP (λ_ w=>by cases w) q2;rw [G9 z1] at q1;rw [G9 z2] at q2;exact r'.ne j k as bs q hjk q1 q2 q3 q4
 ·by_cases z:i=j
  ·subst z;rw [Hg wl] at q;cases q;exact⟨p,ep,us,vs,hs,hp,hf,hb,h5,h6⟩
  ·rw [G9 z] at q;exact r'.mv j y q
 ·by_cases z1:i=j
  ·subst z1;rw [G9 hjk] at q2;rw [hs] at q3;cases q3;exact oth k bs q2 q4
  ·rw [G9 z1] at q1
   by_cases z2:i=k
   ·subst z2;rw [hs] at q4;cases q4;exact oth j as q1 q3
   ·rw [G9 z2] at q2;exact r'.nm j k as bs q hjk q1 q2 q3 q4
end
section
variable {X:Cx} {a b:Expr} {ta tb:TD} {pos:Pos} {t:bG}
def mO (i:Nat) (g:mj) (t:bG):bG:=λZ env=>∃kvs,env[i]?=some (some (.dic kvs))/\∀p,turns g t { Z with nx:=λe=>e[i]?=some (some (.d (.obj (tP p))))/\Z.nx (e.set i (some (.dic kvs))) } (kvs.map (·.1)) (env.set i (some (.d (.obj (tP p)))))
theorem wJ {x:Str} {px:Pos} {tg:Expr} {body:List Stmt} {g:mj} (i:Nat) (hp:PassesOwn (model X.prog X.w) X.A X.env X.xe) (hc:X.calm=true) (hg:QG X tg g) (hb:mB X body t) (hN:X.N[i]?=some x:=by rfl) (hv:qF X.env.scope x:=by first | exact Or.inl rfl | exact Or.inr (Or.inl rfl) | exact Or.inr (Or.inr rfl)) (hd:(x == ("__debug__" : Str))=false:=by decide)
  (hcd:(x == ("__classdict__" : Str))=false:=by decide) (hs:∀z,HW (.Name x px) X.env z=pure z:=by intro _;rfl):QS X (.For tg (.Name x px) body [] pos) (mO i g t):=by
 refine⟨λB σ F H env Z rp h=>cQ (kO hp hc (CI (cF hN hv hd hcd)) tF cR hs) ?_⟩;obtain⟨kvs,hx,h⟩:=h;obtain⟨p,ep,us,vs,h1,h2,h4,h5,h6,r0⟩:=rp.zc hx;refine⟨.ref p,h1,p,ep,bo kvs us vs,rfl,h2,?_⟩;have q1:=h p;generalize hB:B.guard p (ft p ep (bo kvs us vs))=B' at r0;generalize hD:({ Z with nx:=λe=>e[i]?=some (some (.d (.obj (tP p))))/\Z.nx (e.set i (some (.dic kvs))) }:Ends3)=Z' at q1;have hBp:B'.H p=some (ft p ep (bo kvs us vs)):=by rw [<- hB];exact ao
 have fnx:∀σ2 H2,(RS X B' Z').nx σ2 H2->aq F F->(∃F' env',Rep X.K B' F' H2 σ2 env'/\aq F F'/\Z'.nx env')->(RS X B Z).nx σ2 H2:=by
  rintro σ2 H2 _ _ ⟨F',env',r',s',q'⟩;rw [<- hD] at q';rw [<- hB] at r';exact⟨F',_,r'.t6 h4 q'.1 (ak.mono s' _ _ h5) (ak.mono s' _ _ h6),q'.2⟩
 have frt:∀v H2,(RS X ⟨F,B'.H,B'.N,B'.nb⟩ Z').rt v H2->(RS X B Z).rt v H2:=by
  rintro v H2 ⟨F',d,r',hd',q'⟩;have r2:=Rep.back (B:=B') r0.f0 r';rw [<- hB] at r2;rw [<- hD] at q';exact⟨F',d,(r2.gD h4).1,hd',q'⟩
 have fin:∀σ2 H2,(∃F' env',Rep X.K ⟨F,B'.H,B'.N,B'.nb⟩ F' H2 σ2 env'/\Z'.nx env')->(RS X B Z).nx σ2 H2:=by
  rintro σ2 H2 ⟨F',env',r',q'⟩;have r2:=Rep.back (B:=B') r0.f0 r';exact fnx σ2 H2 ⟨F',env',r2,q'⟩ (aq.refl _) ⟨F',env',r2,r'.f0,q'⟩
 have hl:(bo kvs us vs).length=(kvs.map (·.1)).length:=by rw [dC h5 h6,Hh]
 generalize hxs:kvs.map (·.1)=xs at q1 h5 hl;refine⟨λi m σ H=>m=xs.length - i/\i<=xs.length/\∃F2 env,Rep X.K ⟨F,B'.H,B'.N,B'.nb⟩ F2 H σ env/\turns g t Z' (xs.drop i) env,⟨xs.length,by simp,HU _,F,_,r0.now,by simpa using q1⟩,?_⟩
 rintro j m σ2 H2 ⟨rfl,hi2,F2,env2,r2,q2⟩;have hcell:H2 p=some (ft p ep (bo kvs us vs)):=r2.h0 _ _ hBp
 by_cases hlt:j < xs.length
 ·have hxi:xs[j]?=some xs[j]:=by simp [hlt]
  rw [drop_cons hxi] at q2;refine .inr ⟨⟨hcell,by omega⟩,λσ' H'=>∃F3 env,Rep X.K ⟨F,B'.H,B'.N,B'.nb⟩ F3 H' σ' env/\turns g t Z' (xs.drop (j + 1)) env,λσ' H' ⟨F',env',r',q'⟩=>⟨xs.length - (j + 1),by omega,rfl,by omega,F',env',r',q'⟩,λz H' hz=>?_⟩;obtain⟨rfl,row,hr,rfl⟩:=hz;obtain⟨kv,k1,k2,k3,k4⟩:=ir hr;obtain⟨v,hv',dv'⟩:=h5.get hxi;rw [k3] at hv';cases hv';refine fv (hg _ σ2 F2 _ env2 _ _ _ r2 (Den.mono r2.f0 _ _ dv') q2) λσ3 H3 hq0=>?_
  obtain⟨F3,env3,r3,s3,q3⟩:=hq0;exact fj (hb _ σ3 F3 H3 env3 _ r3 q3) (λ_ _ q=>q) (λv H q=>frt v H q) (λv H q=>fin v H q) (λ_ _ q=>q)
 ·have e:j=xs.length:=by omega
  subst e;rw [Ib (Hl _)] at q2;exact .inl ⟨⟨hcell,by omega⟩,fin _ _ ⟨F2,env2,r2,q2⟩⟩
def E2 (neg:Bool) (y x:D) (Q:D->Prop):Prop:=∃kvs,x=.obj (qe kvs)/\aO y=true/\dep y<=8/\cg kvs/\Q (.bl (if neg then !(kvs.any λkv=>aT kv.1 y) else kvs.any λkv=>aT kv.1 y))
def Ff (X:Cx) (neg:Bool):R2:=λy x H Q=>∃p ep F kvs us vs d,x=.ref p/\aq F H/\cg kvs/\ak X.K F (kvs.map (·.1)) us/\ak X.K F (kvs.map (·.2)) vs/\H p=some (ft p ep (bo kvs us vs)) /\
 aO d=true/\dep d<=8/\Den X.K F d y/\Q (.bl (if neg then !(kvs.any λkv=>aT kv.1 d) else kvs.any λkv=>aT kv.1 d)) H
theorem vE (hu:X.A.units + 64 < cLine):iS X (compareOp .NotIn) (Ff X true):=by
 intro pins s σ H x y v u Q I rx ry h;obtain⟨p,ep,F,kvs,us,vs,d,rfl,fh,ok,d1,d2,e,hk,hd,dd,h⟩:=h;cases ry;show wpAny _ _ ((do return Value.bool (!(<- contains (.ref p) v))):Sem Value) _ _ s
 exact G8 (E5 (by omega) I fh ok d1 d2 e hk hd dd rx λs' I'=>Hd ⟨.bl _,H,I',rfl,h⟩)
theorem Dk (neg:Bool):va X (Ff X neg) (E2 neg):=by
 intro B σ F H env Q d d' x y Z rp h1 h2 hz hf;obtain⟨kvs,rfl,hk,hd,ok,q⟩:=hf;simp only [Den] at h2;obtain⟨p,rfl,hp⟩:=h2;obtain⟨ep,us,vs,hg,g1,g2⟩:=hp F (aq.refl _);exact⟨p,ep,F,kvs,us,vs,d,rfl,rp.fh,ok,g1,g2,rp.fh _ _ hg,hk,hd,h1,hz _ H F _ rp (aq.refl _) d7 q⟩
theorem C2 (hu:X.A.units + 64 < cLine) (ha:QE X a ta) (hb:QE X b tb) (hm:behindInMarks .NotIn b=false:=by rfl):QT X (.Compare a [.NotIn] [b] pos) (aN (aL (E2 true) ta tb)):=gS (vE hu) (Dk true) ha hb hm
end
theorem cg.nil:cg []:=⟨λ_ h=>absurd h HN,λi j x y h=>by simp at h⟩
theorem Ac {a b:D} (ha:aO a=true) (hb:aO b=true):aT a b=true↔a=b:=⟨λh=>cO a b ha h hb,λh=>h▸e7 a ha⟩
theorem cg.put {kvs:List (D×D)} {k v:D} (h:cg kvs) (hk:aO k=true) (hd:dep k<=8):cg (putN kvs k v):=by
 unfold putN
 by_cases c:(kvs.any λkv=>aT kv.1 k)=true
 ·rw [if_pos c];refine⟨λkv m=>?_,λi j x y hx hy e=>?_⟩
  ·obtain⟨kw,m',rfl⟩:=HG.mp m
   split
   ·exact h.key kw m'
   ·exact h.key kw m'
  ·rw [Hi] at hx hy;obtain⟨x',hx',rfl⟩:=HV.mp hx;obtain⟨y',hy',rfl⟩:=HV.mp hy;refine h.dif i j x' y' hx' hy' ?_
   split at e <;> split at e <;> exact e
 ·rw [if_neg c];have no:∀(i:Nat) (x:D×D),kvs[i]?=some x->x.1≠k:=λi x hx e=>c (List.any_eq_true.mpr ⟨x,Hm hx,by rw [e];exact e7 k hk⟩);refine⟨λkv m=>?_,λi j x y hx hy e=>?_⟩
  ·rcases HJ.mp m with m|m
   ·exact h.key kv m
   ·rw [HA] at m;subst m;exact⟨hk,hd⟩
  ·have at_:∀(i:Nat) (x:D×D),(kvs ++ [(k,v)])[i]?=some x->kvs[i]?=some x\/(i=kvs.length/\x.1=k):=λi x hx=>by
    by_cases l:i < kvs.length
    ·rw [Hw l] at hx;exact .inl hx
    ·have:=(G7.mp hx).1;have e:i=kvs.length:=by simp at this;omega
     subst e;rw [Hu (Hl _),Nat.sub_self] at hx;cases hx;exact .inr ⟨rfl,rfl⟩
   rcases at_ i x hx with a|⟨a,a'⟩ <;> rcases at_ j y hy with b|⟨b,b'⟩
   ·exact h.dif i j x y a b e
   ·exact absurd (e.trans b') (no i x a)
   ·exact absurd (e.symm.trans a') (no j y b)
   ·omega
theorem nr {kvs:List (D×D)} {k k' v:D} (h:cg kvs) (hk:aO k=true) (hk':aO k'=true):gn (putN kvs k v) k'=if aT k k'=true then some v else gn kvs k':=by
 have find:∀(l:List (D×D)),(∀kv∈l,aO kv.1=true)->gn (l.map (λkv=>if aT kv.1 k=true then (kv.1,v) else kv)) k'=if aT k k'=true/\(l.any λkv=>aT kv.1 k)=true then some v else gn l k':=λl=>by
  induction l with
  | nil=>intro _;simp [gn]
  | cons x r ih =>
   intro hl;have ih':=ih λkv m=>hl kv (Hq _ m);have hx:=hl x (Hy ..);unfold gn at ih' ⊢;rw [HL,List.find?_cons,List.find?_cons]
   by_cases c1:aT x.1 k=true
   ·rw [if_pos c1];have e:=cO _ _ hx c1 hk
    by_cases c2:aT x.1 k'=true
    ·simp only [c2,Option.map_some];rw [if_pos ⟨e▸c2,by rw [List.any_cons,c1];rfl⟩]
    ·have c3:¬ aT k k'=true:=λq=>c2 (e▸q);simp only [c2];rw [ih',if_neg (λq=>c3 q.1),if_neg (λq=>c3 q.1)]
   ·rw [if_neg c1]
    by_cases c2:aT x.1 k'=true
    ·have c3:¬ aT k k'=true:=λq=>c1 (by
      have e1:=cO _ _ hx c2 hk';have e2:=cO _ _ hk q hk'
      rw [e1,<- e2];exact e7 k hk)
     simp only [c2,Option.map_some];rw [if_neg (λq=>c3 q.1)]
    ·simp only [c2];rw [ih',List.any_cons];have:aT x.1 k=false:=by simpa using c1
     rw [this,Bool.false_or]
 unfold putN
 by_cases c:(kvs.any λkv=>aT kv.1 k)=true
 ·rw [if_pos c,find kvs λkv m=>(h.key kv m).1];simp only [c,and_true]
 ·rw [if_neg c];unfold gn;rw [List.find?_append]
  by_cases c2:aT k k'=true
  ·rw [if_pos c2]
   have none:kvs.find? (λkv=>aT kv.1 k')=none:=by
    rw [List.find?_eq_none];intro kv m q;refine c (List.any_eq_true.mpr ⟨kv,m,?_⟩);have e1:=cO _ _ (h.key kv m).1 q hk';have e2:=cO _ _ hk c2 hk';rw [e1,<- e2];exact e7 k hk
   rw [none];simp [c2]
  ·rw [if_neg c2]
   cases kvs.find? (λkv=>aT kv.1 k') with
   | some z=>rfl
   | none=>simp [c2]
theorem sD {kvs:List (D×D)} {k:D}:(kvs.any λkv=>aT kv.1 k)=(gn kvs k).isSome:=by
 unfold gn;rw [Option.isSome_map,Bool.eq_iff_iff,List.find?_isSome,List.any_eq_true]
theorem cW {kvs:List (D×D)} {k v:D}:(putN kvs k v).length<=kvs.length + 1:=by
 unfold putN
 split
 ·simp
 ·simp
section
variable {X:Cx} {a e o:Expr} {ta te to:TD} {pos apos cpos:Pos}
def Gk (X:Cx) (neg:Bool):R2:=λx y H Q=>∃(F:Hp) (d:D) (ds:List D) (vs:List V) (p:Addr),aq F H/\Den X.K F d x/\y=.ref p/\dE X.K H p vs/\ak X.K F ds vs/\X.A.units + 64 < cLine/\bz ds<=60/\dep d<=60/\Q (.bl (if neg then !ds.any (λe=>aT e d) else ds.any λe=>aT e d)) H
theorem Ad:iS X (compareOp .NotIn) (Gk X true):=by
 intro pins s σ H x y v u Q I rx ry h;obtain⟨F,d,ds,vs,p,fh,dx,rfl,hq,dl,hu,h1,h2,q⟩:=h;cases ry;obtain⟨its,r,pl,hz⟩:=I.list hq;refine SeqAt.notIn_listAt (gb its ds d) pl.isList (λw hw=>og I fh hu h1 h2 dl r dx rx w (by simpa using hw)) ⟨.bl _,H,I,rfl,?_⟩;rw [show its.toArray.any (gb its ds d)=its.any (gb its ds d) by simp,any_map',jG I fh (by omega) dl r,<- any_map'];exact q
def lK (neg:Bool) (i:Nat) (ta:TD):TB:=λenv Q=>ta env λx=>∃xs,env[i]?=some (some (.own xs))/\bz xs<=60/\dep x<=60/\Q (if neg then !xs.any (λe=>aT e x) else xs.any λe=>aT e x)
theorem tw {x:Str} {px:Pos} (i:Nat) (hu:X.A.units + 64 < cLine) (ha:QE X a ta) (hN:X.N[i]?=some x:=by rfl) (hv:qF X.env.scope x:=by first | exact Or.inl rfl | exact Or.inr (Or.inl rfl) | exact Or.inr (Or.inr rfl)) (hd:(x == ("__debug__" : Str))=false:=by decide)
  (hcd:(x == ("__classdict__" : Str))=false:=by decide) (hm:behindInMarks .NotIn (.Name x px)=false:=by rfl):QT X (.Compare a [.NotIn] [.Name x px] pos) (lK true i ta):=by
 refine⟨λB σ F H env Q rp h=>pb (mK Ad bF (cF hN hv hd hcd) hm) ?_⟩;refine aD (ha B σ F H env _ rp h) λy H1 hq0=>?_;obtain⟨F1,d,r1,s1,d1,xs,hx,l1,l2,q1⟩:=hq0;obtain⟨p,vs,g1,g2,g3,g4,g5⟩:=r1.ov i xs hx;exact⟨.ref p,g1,F1,d,xs,vs,p,r1.fh,d1,rfl,dE.of g2,g5,hu,l1,l2,_,rfl,F1,r1,s1,q1⟩
def jm (to te:TD):TD:=λenv Q=>to env λx=>∃ds,x=.lst ds/\bz ds<=60/\te env λy=>dep y<=60/\∃j:Nat,(ds[j]?.map λd=>aT d y)=some true/\(∀m,m < j->(ds[m]?.map λd=>aT d y)=some false)/\Q (.int j)
theorem qi (hu:X.A.units + 64 < cLine) (ho:QE X o to) (he:QE X e te) (m:M1 X o "index" apos e cpos:=by exact⟨rfl,rfl,rfl,rfl⟩):QE X (.Call (.Attribute o "index" apos) [e] [] cpos) (jm to te):=by
 refine⟨λB σ F H env Q rp h pins s I=>?_⟩;refine wpAny_Call_method m.base m.few m.line PySem.F.plainAttrs_list PySem.F.slot_list_index PySem.F.type_list_index (bK (ho B σ F H env _ rp h pins s I) λu s1 hq0=>?_);obtain⟨x,H1,I1,rx,F1,d,r1,z1,d1,ds,e1,hds,q1⟩:=hq0;subst e1;simp only [Den] at d1;obtain⟨p,vs,rfl,hq,dl⟩:=d1;cases rx;obtain⟨its0,_,⟨o0,n0,g0,c0,nd0,_⟩,_⟩:=I1.list (r1.fh.seq hq);refine⟨⟨o0,g0,c0⟩,λb eb=>by cases eb;exact⟨o0,g0,nd0⟩,?_⟩
 rw [m.trees];refine Calls.callWith_builtin rfl (Calls.evalArgs_plain (Ir (bK (he B σ F1 H1 env _ r1 q1 pins s1 I1) λiv s2 ⟨y,H2,I2,ry,F2,d',r2,z2,d2,hy,j,hj,hno,q2⟩=>Calls.spliced_nil ?_)));have hq2:=z2.seq hq;have dl2:=ak.mono z2 _ _ dl;obtain⟨its,rv,⟨⟨oc,od,odt,osl⟩,n,g,c,nd,dd⟩,hz⟩:=I2.list (r2.fh.seq hq2)
 replace c:oc=.type "list":=c
 replace dd:odt=.seq its.toArray n:=dd
 subst c dd;have l1:=dl2.length;have l2:=rv.length
 have at_:∀(k:Nat) (b:Bool),(ds[k]?.map λd=>aT d d')=some b->∃hk:k < its.length,gb its ds d' its[k]=b:=λk b hb=>by
  obtain⟨w,hw,rfl⟩:=HV.mp hb;have hk:k < its.length:=by have:=(G7.mp hw).1;omega
  exact⟨hk,jT I2 r2.fh (by omega) dl2 rv hw (Hb hk)⟩
 obtain⟨hjl,hit⟩:=at_ j true hj
 have hsz:(j:Int) < 2 ^ 63 - 1:=by
  have:j < sizeLine:=by omega
  rw [Ht] at this;omega
 refine call_meets PySem.F.slot_list_index ⟨_,g,rfl⟩ PySem.F.entry_list_index (PySem.F.args_list_index_2 _ _) (SeqAt.list_indexAt p its.toArray n od osl iv (gb its ds d') j (by simpa using hjl) hsz (by simpa using hit) (λk hk hkj=>by
  obtain⟨hkl,z⟩:=at_ k false (hno k hkj)
  simpa using z)) ⟨g,λw hw=>kJ I2 r2.fh _ (by simp only [units_in1];omega) hds hy dl2 rv d2 ry w (by simpa using hw),?_⟩
 exact⟨.int _,H2,I2.tok _,⟨_,rfl⟩,F2,_,r2,z1.trans z2,aZ,q2⟩
end
section
variable {X:Cx} {a e:Expr} {es:List Expr} {ta te:TD} {ts:eD} {p pos apos cpos:Pos}
def uE (neg:Bool) (i:Nat) (ta:TD):TB:=λenv Q=>ta env λx=>∃kvs,env[i]?=some (some (.dic kvs))/\aO x=true/\dep x<=8/\cg kvs/\Q (if neg then !(kvs.any λkv=>aT kv.1 x) else kvs.any λkv=>aT kv.1 x)
theorem yo {x:Str} {px:Pos} (i:Nat) (hu:X.A.units + 64 < cLine) (ha:QE X a ta) (hN:X.N[i]?=some x:=by rfl) (hv:qF X.env.scope x:=by first | exact Or.inl rfl | exact Or.inr (Or.inl rfl) | exact Or.inr (Or.inr rfl)) (hd:(x == ("__debug__" : Str))=false:=by decide)
  (hcd:(x == ("__classdict__" : Str))=false:=by decide) (hm:behindInMarks .NotIn (.Name x px)=false:=by rfl):QT X (.Compare a [.NotIn] [.Name x px] pos) (uE true i ta):=by
 refine⟨λB σ F H env Q rp h=>pb (mK (vE hu) bF (cF hN hv hd hcd) hm) ?_⟩;refine aD (ha B σ F H env _ rp h) λy H1 hq0=>?_;obtain⟨F1,d,r1,s1,d1,kvs,hx,l1,l2,ok,q1⟩:=hq0;obtain⟨p,ep,us,vs,g1,g2,g3,g4,g5,g6⟩:=r1.mv i kvs hx;exact⟨.ref p,g1,p,ep,F1,kvs,us,vs,d,rfl,r1.fh,ok,g5,g6,g2,l1,l2,d1,_,rfl,F1,r1,s1,q1⟩
end
section
variable {P:Program} {w:World} {K:Ha} {mg:Str->Option Value} {base:Heap}
end
def lY (a:Addr):HO:=.ext λh=>∃(r:Int) (t:Tok) (n:Nat),h.get? a=some { cls:=.type "list",data:=.seq #[.int r t] n }
def f6:Ha->Hp->Addr->Prop:=λ_ G a=>G a=some (lY a)
theorem vW {P:Program} {w:World} {H:Hp} {h:Heap} {a:Addr} {r:Int} {t:Tok} {n:Nat} (e:h.get? a=some { cls:=.type "list",data:=.seq #[.int r t] n }):bL P w H h a (lY a):=by
 refine⟨⟨r,t,n,e⟩,⟨_,e⟩,?_⟩
 rintro h1 h2 ⟨r,t,n,e⟩ k;exact⟨r,t,n,k _ e⟩
section
variable {X:Cx} {a b e:Expr} {ta te:TD} {pos:Pos}
theorem yA {H:Hp} {p:Addr} {o:HO} (h:H p=some o):upd H p o=H:=by
 funext b
 by_cases e:b=p
 ·subst e;rw [ao,h]
 ·rw [aj e]
def nM (i:Nat) (te:TD):bG:=λZ env=>te env λx=>∃r:Int,x=.int r/\Z.nx (env.set i (some (.d (.obj f6))))
theorem uC {x:Str} {pos' pl:Pos} (i:Nat) (hN:X.N.Nodup) (he:QE X e te) (hi:X.N[i]?=some x:=by rfl) (hx:Loc X.env.scope x:=by first|exact Or.inl rfl|exact Or.inr rfl) (hs:swapsWith (.List [e] pl) (some (.Name x pos')) pos.line X.env=pure false:=by rfl)
  (hf:X.fn x=true\/X.env.scope.names.lookup x=some .local:=by first|exact .inl rfl|exact .inr rfl) (hst:starEach [e] X.env=(false,eval e X.env) :: starEach [] X.env:=by exact aJ rfl):QS X (.Assign [.Name x pos'] (.List [e] pl) pos) (nM i te):=by
 refine⟨λB σ F H env Z rp h pins s I=>?_⟩;refine wpAny_Assign_Name ?_ hs;refine wpAny_List_spliced (bK (cj bF c9 hst pl pins s σ H (λvs H1=>∃r,vs=[.int r]/\∃F1,Rep X.K B F1 H1 σ env/\Z.nx (env.set i (some (.d (.obj f6))))) I ?_) λus s1 ⟨vs,H1,I1,rv,r,ev,F1,r1,q⟩=>?_)
 ·refine aD (he B σ F H env _ rp h) λv H1 hq0=>?_;obtain⟨F1,d,r1,s1,d1,r,ed,q⟩:=hq0;subst ed;simp only [Den] at d1;subst d1;exact⟨r,rfl,F1,r1,q⟩
 ·subst ev;obtain⟨u,rfl,ru⟩:=rv.one;obtain⟨t,rfl⟩:=ru;refine⟨by show 1<=sizeLine;simp [Ht],?_⟩;have hfr:H1 s1.heap.objs.size=none:=I1.hok.fresh (Hl _);have I2:=I1.laid (a:=s1.heap.objs.size) (o:=lY s1.heap.objs.size) (h':=s1.heap.push { cls:=.type "list",data:=.seq [Value.int r t].toArray }) (t':=s1.toks) (λb u e=>Hf _ e) (Hl _) (vW (r:=r) (t:=t) (n:=0) (Hs _ rfl))
  refine ko I2 hN hi hx (v:=.ref s1.heap.objs.size) rfl (λs2 I3=>⟨_,_,I3,?_⟩) hf;obtain⟨r2,s2'⟩:=r1.laid (o:=lY s1.heap.objs.size) hfr;refine⟨_,_,r2.set (i:=i) (x:=.obj f6) ?_ ?_,q⟩
  ·simp only [Den];exact⟨_,rfl,λG sG=>sG _ _ ao⟩
  ·rw [I.len];exact (G7.mp hi).1
def EL:R2:=λx y H Q=>∃p,x=.ref p/\y=.int 0/\H p=some (lY p)/\∀r:Int,Q (.int r) H
theorem vk {pins:List (Addr×Obj)} {σ:St} {H:Hp} {s:Shared} {p:Addr} (I:Inv X pins σ H s) (h:H p=some (lY p)):∃(r:Int) (t:Tok) (n:Nat),s.heap.get? p=some { cls:=.type "list",data:=.seq #[.int r t] n }:=(I.hok p _ h).1
theorem zN:ya X EL:=by
 intro value slice pins s σ H x y v u Q I rx ry h hs;obtain⟨p,rfl,rfl,hp,q⟩:=h;cases rx;obtain⟨t,rfl⟩:=ry;obtain⟨r,t',n,e⟩:=vk I hp;have fin:EP X pins σ Q (.int r t') s:=⟨.int r,H,I,⟨_,rfl⟩,q r⟩;exact item_listR ⟨_,e,rfl,n,rfl⟩ (by omega) (by simp) (by simp) fin hs
def vR (ta:TD):TD:=λenv Q=>ta env λx=>x=.obj f6/\∀r:Int,Q (.int r)
theorem zf {p1:Pos} {j1:_} (ha:QE X a ta) (hs:iI (.Constant (.int 0) j1 p1):=by intro _ _;rfl):QE X (.Subscript a (.Constant (.int 0) j1 p1) pos) (vR ta):=by
 refine⟨λB σ F H env Q rp h=>bX (sY zN bF uY hs) ?_⟩;refine aD (ha B σ F H env _ rp h) λx H1 hq0=>?_;obtain⟨F1,d,r1,s1,d1,ed,q⟩:=hq0;subst ed;simp only [Den] at d1;obtain⟨p,rfl,hp⟩:=d1;exact⟨p,rfl,rfl,r1.fh _ _ (hp F1 (aq.refl _)),λr=>⟨F1,_,r1,s1,aZ,q r⟩⟩
def D0:V->V->V->Hp->(Hp->Prop)->Prop:=λo i v H Q=>∃p r,o=.ref p/\i=.int 0/\v=.int r/\H p=some (lY p)/\Q H
theorem yy:Du X D0:=by
 intro pins s σ H o i v ov iv u Q I ro ri rv h;obtain⟨p,r,rfl,rfl,rfl,hp,q⟩:=h;cases ro;obtain⟨t,rfl⟩:=ri;obtain⟨t2,rfl⟩:=rv;obtain⟨r0,t0,n,e⟩:=vk I hp
 have e2:(s.heap.update p (Obj.mapSeq (·.setIfInBounds 0 (.int r t2)))).get? p=some { cls:=.type "list",data:=.seq #[.int r t2] n }:=by
  rw [Heap.get?_update_self _ e (by rfl)];rfl
 have I':Inv X pins σ (upd H p (lY p)) { s with heap:=s.heap.update p (Obj.mapSeq (·.setIfInBounds 0 (.int r t2))),toks:=s.toks } :=
  I.write (x:=p) (e:=p) (by rw [hp];trivial) (.inl rfl) (λb u hb q=>(Heap.get?_update_other _ _ (Ne.symm hb)).trans q) ⟨_,e2⟩ (vW e2)
 rw [yA hp] at I';exact PySem.W.ki_setAt e (by omega) (by decide) (by simp) ⟨_,I',q⟩
def mY (ta te:TD):bG:=λZ env=>te env λy=>∃r:Int,y=.int r/\ta env λx=>x=.obj f6/\Z.nx env
theorem uX {p1 p2:Pos} {j1:_} (ha:QE X a ta) (he:QE X e te) (hs:swapsWithSole [.Subscript a (.Constant (.int 0) j1 p1) p2] e pos.line X.env=pure false:=by rfl) (hw:swappedStores [.Subscript a (.Constant (.int 0) j1 p1) p2] e X.env=pure none:=by rfl)
  (h1:(assignEach [.Subscript a (.Constant (.int 0) j1 p1) p2] X.env).map (·.2)=[assign (.Subscript a (.Constant (.int 0) j1 p1) p2) X.env]:=by rfl)
  (hg:∀v,assign (.Subscript a (.Constant (.int 0) j1 p1) p2) X.env v=(do
   let ov <- holding [v] (eval a X.env)
   let iv <- holding [v,ov] (eval (.Constant (.int 0) j1 p1) X.env)
   standAt p2
   holding [v,ov,iv] (setItem ov iv v)
   release [v,ov,iv] []):=by intro _;rfl):QS X (.Assign [.Subscript a (.Constant (.int 0) j1 p1) p2] e pos) (mY ta te):=by
 refine⟨λB σ F H env Z rp h=>?_⟩;refine cQ (uo bF (y4 bF uY yy hg) hs hw h1) ?_;refine aD (he B σ F H env _ rp h) λy H1 hq0=>?_;obtain⟨F1,d,r1,s1,d1,r,ed,q1⟩:=hq0;subst ed;simp only [Den] at d1;subst d1;refine aD (ha B σ F1 H1 env _ r1 q1) λx H2 hq0=>?_;obtain⟨F2,d2,r2,s2,dd2,ed,q2⟩:=hq0;subst ed;simp only [Den] at dd2;obtain⟨p,rfl,hp⟩:=dd2;exact⟨p,r,rfl,rfl,rfl,r2.fh _ _ (hp F2 (aq.refl _)),F2,env,r2,q2⟩
end
theorem A8 {prog:Program} {w:World} {A:Around} {E:Value->Shared->Prop} {s:Shared} {value slice:Expr} {o i:Value} {T id:String} {Q:Value->Shared->Prop}
  (hT:s.TypeIs o T) (hl:typeLookup (.type T) "__getitem__" = pure (some (.builtin id))) (hs:subscripted slice false o i=operate [o,i] (getItem o i)) (h:wpAny (model prog w) A (getItem o i) Q E s) :
  wpAny (model prog w) A (subscriptTail value slice o i) Q E s:=by
 unfold subscriptTail;refine G8 ?_;rw [getitemInPython_of_ne hT.not_modules];refine G8 (wpAny_specialOf hT hl ?_)
 have fin:wpAny (model prog w) A (subscripted slice false o i) (λr s₃=>wpAny (model prog w) A (letTemporaryGo value o r >>= λ_=>pure r) Q E s₃) E s:=by
  rw [hs];exact wpAny_operating (HE h (λr s₃ h₃=>G8 (wpAny_letTemporaryGo (Hd h₃))) λ_ _ x=>x)
 first
  | exact Hd (G8 fin)
  | exact G8 (Hd (G8 fin))
  | exact G8 fin
section
variable {X:Cx} {a b:Expr} {ta tb:TD} {pos:Pos}
def Bx (X:Cx):R2:=λx y H Q=>∃p ep F kvs us vs d z,x=.ref p/\aq F H/\cg kvs/\ak X.K F (kvs.map (·.1)) us/\ak X.K F (kvs.map (·.2)) vs/\H p=some (ft p ep (bo kvs us vs)) /\
 aO d=true/\dep d<=8/\Den X.K F d y/\gn kvs d=some z/\∀w,Den X.K F z w->Q w H
theorem Ao (hu:X.A.units + 64 < cLine):ya X (Bx X):=by
 intro value slice pins s σ H x y v u Q I rx ry h hs;obtain⟨p,ep,F,kvs,us,vs,d,z,rfl,fh,ok,d1,d2,e,hk,hd,dd,hz,q⟩:=h;cases rx;obtain⟨_,_,es,dh,_⟩:=gp I e;exact A8 dh.typeIs PySem.F.slot_dict_getitem.lookup hs (yS (by omega) I fh ok d1 d2 e hk hd dd ry hz λw' u' s3 I3 dw rw'=>⟨w',H,I3,rw',q w' dw⟩)
def Bq (x y:D) (Q:D->Prop):Prop:=GV x y Q\/cK x y Q
theorem CT:va X (λx y H Q=>Bx X x y H Q\/Gi X.K x y H Q) Bq:=by
 intro B σ F H env Q d d' x y Z rp h1 h2 hz hf;rcases hf with hf|hf
 ·obtain⟨kvs,v,rfl,hk,hd,ok,hv,q⟩:=hf;simp only [Den] at h1;obtain⟨p,rfl,hp⟩:=h1;obtain⟨ep,us,vs,hg,g1,g2⟩:=hp F (aq.refl _);exact .inl ⟨p,ep,F,kvs,us,vs,d',v,rfl,rp.fh,ok,g1,g2,rp.fh _ _ hg,hk,hd,h2,hv,λw dw=>hz w H F v rp (aq.refl _) dw q⟩
 ·exact .inr (By B σ F H env Q d d' x y Z rp h1 h2 hz hf)
theorem p7 (hu:X.A.units + 64 < cLine) (ha:QE X a ta) (hb:QE X b tb) (hs:iI b):QE X (.Subscript a b pos) (aL Bq ta tb):=⟨λB σ F H env Q rp h=>bX (sY ((Ao hu).or xZ) bF bF hs) (two CT ha hb rp Fs h)⟩
end
section
variable {X:Cx} {a b:Expr} {ta tb:TD} {p pos:Pos}
theorem Rep.wV {K:Ha} {B:Base} {F H:Hp} {σ:St} {e:En} (r:Rep K B F H σ e) {i:Nat} {p:Addr} (ep:Nat) {kvs:List (D×D)} {us vs:List V} (h:H p=none) (hl:i < σ.length) (hd1:ak K F (kvs.map (·.1)) us) (hd2:ak K F (kvs.map (·.2)) vs) :
  Rep K B F (upd H p (ft p ep (bo kvs us vs))) (σ.set i (some (.ref p))) (e.set i (some (.dic kvs))):=by
 have r1:=r.loose (o:=ft p ep (bo kvs us vs)) h;have hb:B.H p=none:=r.h0.free h
 have old:∀(j:Nat) (ys:List (D×D)),e[j]?=some (some (.dic ys))->σ[j]?≠some (some (.ref p)):=λj ys q z=>by
  obtain⟨q1,_,_,_,h1,h2,_⟩:=r.mv j ys q;rw [z] at h1;cases h1;rw [h] at h2;cases h2
 refine⟨r1.f0,r1.fh,r1.h0,r1.nf,λj y q=>?_,λj y q=>?_,λj k ys zs q hjk q1 q2 q3 q4=>?_,λj y q=>?_,λj k ys zs q hjk q1 q2 q3 q4=>?_⟩
 ·have z:=jO (λ_ w=>by cases w) q;rw [G9 z] at q ⊢;exact r1.dv j y q
 ·have z:=aP (λ_ w=>by cases w) q;rw [G9 z] at q ⊢;exact r1.ov j y q
 ·have z1:=aP (λ_ w=>by cases w) q1;have z2:=aP (λ_ w=>by cases w) q2;rw [G9 z1] at q1 q3;rw [G9 z2] at q2 q4;exact r.ne j k ys zs q hjk q1 q2 q3 q4
 ·by_cases z:i=j
  ·subst z
   by_cases w:i < e.length
   ·rw [Hg w] at q;cases q;exact⟨p,ep,us,vs,Hg hl,ao,r.l9 h,hb,hd1,hd2⟩
   ·rw [Hv (by simpa using w)] at q;cases q
  ·rw [G9 z] at q ⊢;exact r1.mv j y q
 ·by_cases z1:i=j
  ·subst z1;rw [G9 hjk] at q2 q4;rw [Hg hl] at q3;cases q3;exact old k zs q2 q4
  ·rw [G9 z1] at q1 q3
   by_cases z2:i=k
   ·subst z2;rw [Hg hl] at q4;cases q4;exact old j ys q1 q3
   ·rw [G9 z2] at q2 q4;exact r.nm j k ys zs q hjk q1 q2 q3 q4
end
section
variable {P:Program} {w:World} {K:Ha} {mg:Str->Option Value} {base:Heap}
end
abbrev Cells:=List (Addr×HO)
def Base.gs (B:Base):Cells->Base
 | []=>B
 | c :: r=>(B.gs r).guard c.1 c.2
structure xV (T:Type) where
 lay:T->Hp->Cells->Prop
 ad:List Addr
 nd:ad.Nodup
 at_:∀S F cs,lay S F cs->cs.map (·.1)=ad
 mono:∀S F F' cs,aq F F'->lay S F cs->lay S F' cs
variable {T:Type}
def eB (K:Ha) (B:Base) (h:xV T) (S:T) (F H:Hp) (σ:St) (env:En):Prop:=∃cs,h.lay S F cs/\Rep K (B.gs cs) F H σ env
def uO (B:Base) (h:xV T):Prop:=∀p∈h.ad,B.H p=none
structure gH (T:Type) where
 nx:T->En->Prop
 rt:T->D->Prop
 bk:T->En->Prop:=λ_ _=>False
 ct:T->En->Prop:=λ_ _=>False
abbrev uP (T:Type):=gH T->T->En->Prop
def E7 (X:Cx) (B:Base) (h:xV T) (D:gH T):Ends where
 nx:=λσ' H'=>∃S' F' env',eB X.K B h S' F' H' σ' env'/\D.nx S' env'
 rt:=λv H'=>∃S' F' d,eB X.K B h S' F' H' [] []/\Den X.K F' d v/\D.rt S' d
 bk:=λσ' H'=>∃S' F' env',eB X.K B h S' F' H' σ' env'/\D.bk S' env'
 ct:=λσ' H'=>∃S' F' env',eB X.K B h S' F' H' σ' env'/\D.ct S' env'
structure BS (X:Cx) (h:xV T) (st:Stmt) (t:uP T):Prop where
 of ::
 run:∀(B:Base) (σ:St) (F H:Hp) (env:En) (D:gH T) (S:T),uO B h->eB X.K B h S F H σ env->t D S env->wS X st (E7 X B h D) σ H
structure wo (X:Cx) (h:xV T) (st:List Stmt) (t:uP T):Prop where
 of ::
 run:∀(B:Base) (σ:St) (F H:Hp) (env:En) (D:gH T) (S:T),uO B h->eB X.K B h S F H σ env->t D S env->wSs X st (E7 X B h D) σ H
section
variable {X:Cx} {h:xV T} {st:Stmt} {sts xs ys body:List Stmt} {t:bG} {q q':uP T} {c:Expr} {tc:TB} {pos:Pos}
def gH.at (D:gH T) (S:T):Ends3:={ nx:=D.nx S,rt:=D.rt S,bk:=D.bk S,ct:=D.ct S }
def xK (t:bG):uP T:=λD S env=>t (D.at S) env
theorem eB.lift {K:Ha} {B:Base} {S:T} {F F' H':Hp} {σ':St} {env':En} {cs:Cells} (l:h.lay S F cs) (f0:aq (B.gs cs).F F)
  (r:Rep K ⟨F,(B.gs cs).H,(B.gs cs).N,(B.gs cs).nb⟩ F' H' σ' env'):eB K B h S F' H' σ' env':=⟨cs,h.mono _ _ _ _ r.f0 l,Rep.back (B:=B.gs cs) (G:=F) f0 r⟩
theorem yY (hq:QS X st t):BS X h st (xK t):=by
 refine⟨λB σ F H env D S _ ⟨cs,l,r⟩ q=>?_⟩;refine jA (hq _ σ F H env (D.at S) r.now q) ?_ ?_ ?_ ?_
 ·rintro σ' H' ⟨F',env',r',q'⟩;exact⟨S,F',env',eB.lift l r.f0 r',q'⟩
 ·rintro v H' ⟨F',d,r',hd,q'⟩;exact⟨S,F',d,eB.lift l r.f0 r',hd,q'⟩
 ·rintro σ' H' ⟨F',env',r',q'⟩;exact⟨S,F',env',eB.lift l r.f0 r',q'⟩
 ·rintro σ' H' ⟨F',env',r',q'⟩;exact⟨S,F',env',eB.lift l r.f0 r',q'⟩
def qM (q q':uP T):uP T:=λD S env=>q { D with nx:=λS' e'=>q' D S' e' } S env
theorem yi (h1:BS X h st q):wo X h [st] q:=⟨λB σ F H env D S fit r hq=>gB (mF rH) (h1.run B σ F H env D S fit r hq)⟩
theorem mL (h1:BS X h st q) (h2:wo X h sts q'):wo X h (st :: sts) (qM q q'):=by
 refine⟨λB σ F H env D S fit r hq=>gB (hW rH cR) ?_⟩;exact jA (h1.run B σ F H env { D with nx:=λS' e'=>q' D S' e' } S fit r hq) (λσ' H' ⟨S',F',env',r',q⟩=>h2.run B σ' F' H' env' D S' fit r' q) (λ_ _ q=>q) (λ_ _ q=>q) (λ_ _ q=>q)
def uG (c:TB) (q:uP T):uP T:=λD S env=>∃(I:T->En->Prop) (μ:T->En->Nat),I S env/\∀S env,I S env->c env λk=>if k=true then q { D with nx:=λS' e'=>I S' e'/\μ S' e' < μ S env,ct:=λS' e'=>I S' e'/\μ S' e' < μ S env,bk:=D.nx } S env else D.nx S env
theorem Ab (hp:PassesOwn (model X.prog X.w) X.A X.env X.xe) (hc:QT X c tc) (hb:wo X h body q):BS X h (.While c body [] pos) (uG tc q):=by
 refine⟨λB σ F H env D S fit r hq=>?_⟩;obtain⟨I,μ,i0,turn⟩:=hq;refine cQ (nA hp oP cR) ?_;refine⟨λm σ H=>∃S F env,eB X.K B h S F H σ env/\I S env/\μ S env=m,⟨_,S,F,env,r,i0,rfl⟩,?_⟩
 rintro m σ1 H1 ⟨S1,F1,env1,⟨cs,l,r1⟩,i1,rfl⟩;refine fN (hc _ σ1 F1 H1 env1 _ r1.now (turn S1 env1 i1)) λk H2 ⟨F2,r2,s2,q2⟩=>?_;have rl:eB X.K B h S1 F2 H2 σ1 env1:=eB.lift l r1.f0 r2
 cases k with
 | false=>exact⟨S1,F2,env1,rl,q2⟩
 | true =>
  refine⟨λσ' H'=>∃S' F' env',eB X.K B h S' F' H' σ' env'/\I S' env'/\μ S' env' < μ S1 env1,λσ' H' ⟨S',F',env',r',i',l⟩=>⟨_,l,S',F',env',r',i',rfl⟩,?_⟩;exact hb.run B σ1 F2 H2 env1 { D with nx:=λS' e'=>I S' e'/\μ S' e' < μ S1 env1,ct:=λS' e'=>I S' e'/\μ S' e' < μ S1 env1,bk:=D.nx } S1 fit rl q2
def fR (g:mj) (tb:uP T) (Z:gH T):List D->T->En->Prop
 | [],S,env=>Z.nx S env
 | x :: xs,S,env=>g x env λenv'=>tb { Z with nx:=λS' e'=>fR g tb Z xs S' e',ct:=λS' e'=>fR g tb Z xs S' e',bk:=Z.nx } S env'
variable {a:Expr} {ts:eD} {tg:Expr} {g:mj} {ti:TD}
theorem we (hg:QG X tg g) (hb:wo X h body q) {B:Base} {D:gH T} {lo:Int} {n:Nat} {σ:St} {F1 H1:Hp} {env:En} {S:T} (fit:uO B h) (r1:eB X.K B h S F1 H1 σ env) (q1:fR g q D (aM lo n) S env) :
  ∃W:Nat->Nat->St->Hp->Prop,(∃m,W 0 m σ H1)/\∀i m σ H,W i m σ H->((yD lo n).stop i H/\(E7 X B h D).nx σ H)\/((yD lo n).go i H/\∃N:St->Hp->Prop,(∀σ' H',N σ' H'->∃m',m' < m/\W (i + 1) m' σ' H') /\
    ∀x H',(yD lo n).yld i H x H'->wG X tg x σ H' λσ2 H2=>wSs X body { E7 X B h D with nx:=N,ct:=N,bk:=(E7 X B h D).nx } σ2 H2):=by
 have hl:(aM lo n).length=n:=by simp [aM]
 refine⟨λi m σ H=>m=n - i/\i<=n/\∃S F env,eB X.K B h S F H σ env/\fR g q D ((aM lo n).drop i) S env,⟨n,by simp,HU _,S,F1,env,r1,by simpa using q1⟩,?_⟩
 rintro i m σ2 H2 ⟨rfl,hi2,S2,F2,env2,r2,q2⟩
 by_cases hlt:i < n
 ·have hdx:(aM lo n)[i]?=some (L3.D.int (lo + (i:Int))):=by simp [aM,hlt]
  rw [drop_cons hdx] at q2;refine .inr ⟨hlt,λσ' H'=>∃S F env,eB X.K B h S F H' σ' env/\fR g q D ((aM lo n).drop (i + 1)) S env,λσ' H' ⟨S',F',env',r',q'⟩=>⟨n - (i + 1),by omega,rfl,by omega,S',F',env',r',q'⟩,λy H' hy=>?_⟩;obtain⟨rfl,rfl⟩:=hy;obtain⟨cs,l,r⟩:=r2;refine fv (hg _ σ2 F2 _ env2 _ _ _ r.now aZ q2) λσ3 H3 hq0=>?_;obtain⟨F3,env3,r3,s3,q3⟩:=hq0;have rl:eB X.K B h S2 F3 H3 σ3 env3:=eB.lift l r.f0 r3
  exact fj (hb.run B σ3 F3 H3 env3 { D with nx:=λS' e'=>fR g q D ((aM lo n).drop (i + 1)) S' e',ct:=λS' e'=>fR g q D ((aM lo n).drop (i + 1)) S' e',bk:=D.nx } S2 fit rl q3) (λ_ _ q=>q) (λ_ _ q=>q) (λ_ _ q=>q) (λ_ _ q=>q)
 ·have e:i=n:=by omega
  subst e;rw [Ib (by omega)] at q2;exact .inl ⟨Hl _,S2,F2,env2,r2,q2⟩
def xU (f:List L3.D->(Int->Nat->Prop)->Prop) (ts:eD) (g:mj) (tb:uP T):uP T:=λD S env=>ts env λxs=>f xs λlo n=>fR g tb D (aM lo n) S env
theorem zR {p1 pos2:Pos} (hp:PassesOwn (model X.prog X.w) X.A X.env X.xe) (hc:X.calm=true) (hgl:Gl X "range") (hm:X.mg "range" = none) (ha:QA X [a] ts) (hg:QG X tg g) (hb:wo X h body q)
  (hst:starEach [a] X.env=[(false,eval a X.env)]:=by rfl) (hs:∀x,HW (.Call (.Name "range" p1) [a] [] pos2) X.env x=pure x:=by intro _;rfl):BS X h (.For tg (.Call (.Name "range" p1) [a] [] pos2) body [] pos) (xU iV ts g q):=by
 refine⟨λB σ F H env D S fit ⟨cs,l,r⟩ hq=>?_⟩;refine cQ (kO hp hc (iA hgl hm gR hst) tF cR hs) ?_;refine bV (ha _ σ F H env _ r.now hq) λvs' H1 hq0=>?_;obtain⟨F1,ds,r1,s1,dd,q1⟩:=hq0;have rl:eB X.K B h S F1 H1 σ env:=eB.lift l r.f0 r1
 (try dsimp only at q1);unfold iV at q1
 split at q1
 ·simp only [ak,Den] at dd;obtain⟨v,r',rfl,rfl,rfl⟩:=dd;exact⟨_,rfl,q1.1.1,q1.1.2,we hg hb fit rl q1.2⟩
 ·exact q1.elim
theorem vM {B:Base}:∀{cs:Cells} {p:Addr} {o:HO},(cs.map (·.1)).Nodup->(p,o)∈cs->(B.gs cs).H p=some o
 | c :: r,p,o,nd,hm=>by
  obtain⟨n1,n2⟩:=HS.mp nd;show upd (B.gs r).H c.1 c.2 p=some o
  rcases Hx.mp hm with e|e
  ·subst e;exact ao
  ·rw [aj (λz=>n1 (by show c.1∈_;rw [<- z];exact HG.mpr ⟨_,e,rfl⟩))];exact vM n2 e
theorem Rep.cell {K:Ha} {B:Base} {cs:Cells} {F H:Hp} {σ:St} {env:En} (r:Rep K (B.gs cs) F H σ env) (nd:(cs.map (·.1)).Nodup) {p:Addr} {o:HO} (hm:(p,o)∈cs):H p=some o:=r.h0 p o (vM nd hm)
end
end L2.L3
namespace L2.L3
open PySem PySem.Spec PyProof.Rows
theorem Rep.BY {K:Ha} {B:Base} {F H:Hp} {σ:St} {env:En} {p:Addr} {o:HO} (r:Rep K (B.guard p o) F H σ env) (hb:B.H p=none):Rep K B (upd F p o) H σ env/\aq F (upd F p o):=by
 obtain⟨r',hp,hf⟩:=r.gD hb;have s1:aq F (upd F p o):=aY hf
 have far:∀q,(B.guard p o).H q=none->q≠p/\B.H q=none:=λq h=>by
  have h':upd B.H p o q=none:=h;have ne:q≠p:=λe=>by subst e;rw [ao] at h';cases h'
  rw [aj ne] at h';exact⟨ne,h'⟩
 refine⟨⟨r'.f0.trans s1,λb u z=>?_,r'.h0,λa h=>?_,λi x h=>?_,λi xs h=>?_,r.ne,λi xs h=>?_,r.nm⟩,s1⟩
 ·by_cases e:b=p
  ·subst e;rw [ao] at z;cases z;exact hp
  ·rw [aj e] at z;exact r.fh _ _ z
 ·have:a≠p:=λe=>by subst e;exact B.nb a h hb
  rw [aj this];exact r'.nf a h
 ·obtain⟨v,h1,h2⟩:=r.dv i x h;exact⟨v,h1,Den.mono s1 _ _ h2⟩
 ·obtain⟨q,vs,h1,h2,h3,h4,h5⟩:=r.ov i xs h;obtain⟨ne,h4'⟩:=far q h4;exact⟨q,vs,h1,h2,by rw [aj ne];exact h3,h4',ak.mono s1 _ _ h5⟩
 ·obtain⟨q,ep,us,vs,h1,h2,h3,h4,h5,h6⟩:=r.mv i xs h;obtain⟨ne,h4'⟩:=far q h4;exact⟨q,ep,us,vs,h1,h2,by rw [aj ne];exact h3,h4',ak.mono s1 _ _ h5,ak.mono s1 _ _ h6⟩
theorem Rep.EE {K:Ha} {B1 B2:Base} {F H:Hp} {σ:St} {env:En} {a:Addr} {o o':HO} (r:Rep K B1 F H σ env) (ha:B1.H a=some o) (hn:B1.N a) (hF:aq B2.F F) (hH:∀z,B2.H z=upd B1.H a o' z) (hN:∀z,B2.N z->B1.N z):Rep K B2 F (upd H a o') σ env where
 f0:=hF
 fh:=λz u q=>by
  have:z≠a:=λe=>by subst e;rw [r.nf z hn] at q;cases q
  rw [aj this];exact r.fh _ _ q
 h0:=λz u q=>by
  rw [hH] at q
  by_cases e:z=a
  ·subst e;rw [ao] at q ⊢;exact q
  ·rw [aj e] at q ⊢;exact r.h0 _ _ q
 nf:=λz h=>r.nf z (hN z h)
 dv:=r.dv
 ov:=λi xs h=>by
  obtain⟨q,vs,h1,h2,h3,h4,h5⟩:=r.ov i xs h;have ne:q≠a:=λe=>by subst e;rw [ha] at h4;cases h4
  exact⟨q,vs,h1,by rw [aj ne];exact h2,h3,by rw [hH,aj ne];exact h4,h5⟩
 ne:=r.ne
 mv:=λi xs h=>by
  obtain⟨q,ep,us,vs,h1,h2,h3,h4,h5⟩:=r.mv i xs h;have ne:q≠a:=λe=>by subst e;rw [ha] at h4;cases h4
  exact⟨q,ep,us,vs,h1,by rw [aj ne];exact h2,h3,by rw [hH,aj ne];exact h4,h5⟩
 nm:=r.nm
structure P3 where
 z:Addr
 a:Addr
 b:Addr
 za:z≠a
 zb:z≠b
 ab:a≠b
abbrev wu:=List D×List D
def wu.push (S:wu) (n:Int) (d:D):wu:=if n=0 then (S.1 ++ [d],S.2) else (S.1,S.2 ++ [d])
def iW (K:Ha) (p:P3):xV wu where
 lay:=λS F cs=>∃us vs,cs=[(p.z,.lst [.ref p.a,.ref p.b]),(p.a,.lst us),(p.b,.lst vs)]/\ak K F S.1 us/\ak K F S.2 vs
 ad:=[p.z,p.a,p.b]
 nd:=by simp [p.za,p.zb,p.ab]
 at_:=λS F cs ⟨us,vs,e,_⟩=>by subst e;rfl
 mono:=λS F F' cs s ⟨us,vs,e,h1,h2⟩=>⟨us,vs,e,ak.mono s _ _ h1,ak.mono s _ _ h2⟩
structure Fo (X:Cx) (h:xV T) (sts:List Stmt) (t:Ends3->T->En->Prop):Prop where
 of ::
 run:∀(B:Base) (σ:St) (F H:Hp) (env:En) (D:Ends3) (S:T),uO B h->eB X.K B h S F H σ env->t D S env->wSs X sts (RS X B D) σ H
structure BD (K:Ha) (h:xV T) (m:T->En->En->Prop):Prop where
 of ::
 run:∀(B:Base) (σ:St) (F H:Hp) (env env':En) (S:T),uO B h->eB K B h S F H σ env->m S env env'->∃F',Rep K B F' H σ env'/\aq F F'
structure Be (K:Ha) (h:xV T):Prop where
 of ::
 run:∀(B:Base) (σ:St) (F H:Hp) (env:En) (S:T),uO B h->eB K B h S F H σ env->Rep K B F H σ env
section
variable {X:Cx} {h:xV T} {st:Stmt} {sts:List Stmt} {q:uP T} {q':Ends3->T->En->Prop} {tl:bG} {m:T->En->En->Prop}
def qQ (q:uP T) (q':Ends3->T->En->Prop):Ends3->T->En->Prop:=λD S env=>q { nx:=λS' e'=>q' D S' e',rt:=λ_ d=>D.rt d } S env
theorem vS (hd:Be X.K h) (h1:BS X h st q) (h2:Fo X h sts q'):Fo X h (st :: sts) (qQ q q'):=by
 refine⟨λB σ F H env D S fit r hq=>gB (hW rH cR) ?_⟩;refine jA (h1.run B σ F H env _ S fit r hq) (λσ' H' ⟨S',F',env',r',q⟩=>h2.run B σ' F' H' env' D S' fit r' q) (λv H' ⟨S',F',d,r',dd,q⟩=>⟨F',d,hd.run B _ _ _ _ S' fit r',dd,q⟩) (λ_ _ ⟨_,_,_,_,z⟩=>z.elim) (λ_ _ ⟨_,_,_,_,z⟩=>z.elim)
def ur (m:T->En->En->Prop) (tl:bG):Ends3->T->En->Prop:=λD S env=>∃env',m S env env'/\tl D env'
theorem AU (hm:BD X.K h m) (hl:mB X sts tl):Fo X h sts (ur m tl):=by
 refine⟨λB σ F H env D S fit r ⟨env',hq,q⟩=>?_⟩;obtain⟨F',r',s⟩:=hm.run B σ F H env env' S fit r hq;exact hl B σ F' H env' D r' q
end
section
variable {K:Ha} {p:P3}
theorem E1 {B:Base} (f:uO B (iW K p)):B.H p.z=none/\B.H p.a=none/\B.H p.b=none:=⟨f _ (by simp [iW]),f _ (by simp [iW]),f _ (by simp [iW])⟩
theorem GI {B:Base} {o1 o2 o3:HO}:B.gs [(p.z,o1),(p.a,o2),(p.b,o3)]=((B.guard p.b o3).guard p.a o2).guard p.z o1:=rfl
theorem l5:Be K (iW K p):=by
 refine⟨λB σ F H env S fit ⟨cs,⟨us,vs,e,d1,d2⟩,r⟩=>?_⟩;subst e;obtain⟨fz,fa,fb⟩:=E1 fit;rw [GI] at r;have ha:(B.guard p.b (.lst vs)).H p.a=none:=by show upd B.H p.b _ p.a=none;rw [aj p.ab];exact fa
 have hz:((B.guard p.b (.lst vs)).guard p.a (.lst us)).H p.z=none:=by show upd (upd B.H p.b _) p.a _ p.z=none;rw [aj p.za,aj p.zb];exact fz
 exact (((r.gD hz).1.gD ha).1.gD fb).1
def m2 (i:Nat) (z:Addr):wu->En->En->Prop:=λS env env'=>env[i]?=some (some (.d (.obj (tP z))))/\env'=env.set i (some (.d (.lst [.lst S.1,.lst S.2])))
theorem set_same {σ:St} {i:Nat} {v:V} (h:σ[i]?=some (some v)):σ.set i (some v)=σ:=by
 obtain⟨hl,e⟩:=G7.mp h;rw [<- e];exact List.set_getElem_self hl
theorem sj (i:Nat):BD K (iW K p) (m2 i p.z):=by
 refine⟨λB σ F H env env' S fit ⟨cs,⟨us,vs,e,d1,d2⟩,r⟩ ⟨hi,he⟩=>?_⟩;subst e he;obtain⟨fz,fa,fb⟩:=E1 fit;have hs:=mS r hi;rw [GI] at r;have ha:(B.guard p.b (.lst vs)).H p.a=none:=by show upd B.H p.b _ p.a=none;rw [aj p.ab];exact fa
 have hz:((B.guard p.b (.lst vs)).guard p.a (.lst us)).H p.z=none:=by show upd (upd B.H p.b _) p.a _ p.z=none;rw [aj p.za,aj p.zb];exact fz
 obtain⟨r1,s1⟩:=r.BY hz;obtain⟨r2,s2⟩:=r1.BY ha;obtain⟨r3,s3⟩:=r2.BY fb;refine⟨_,?_,(s1.trans s2).trans s3⟩;have x3:upd (upd (upd F p.z (.lst [.ref p.a,.ref p.b])) p.a (.lst us)) p.b (.lst vs) p.z=some (.lst [.ref p.a,.ref p.b]):=by rw [aj p.zb,aj p.za,ao]
 have x1:upd (upd (upd F p.z (.lst [.ref p.a,.ref p.b])) p.a (.lst us)) p.b (.lst vs) p.a=some (.lst us):=by rw [aj p.ab,ao]
 have x2:upd (upd (upd F p.z (.lst [.ref p.a,.ref p.b])) p.a (.lst us)) p.b (.lst vs) p.b=some (.lst vs):=by rw [ao]
 have s:=(s1.trans s2).trans s3;have den:Den K (upd (upd (upd F p.z (.lst [.ref p.a,.ref p.b])) p.a (.lst us)) p.b (.lst vs)) (.lst [.lst S.1,.lst S.2]) (.ref p.z):=ei (dE.of x3) (aH (ei (dE.of x1) (ak.mono s _ _ d1)) (aH (ei (dE.of x2) (ak.mono s _ _ d2)) aI));have hl:i < σ.length:=(G7.mp hs).1;have:=r3.set (i:=i) den hl
 rwa [set_same hs] at this
end
section
variable {X:Cx} {x:Str} {p:P3} {ke ve:Expr} {tk tv:TD}
def vZ (i:Nat) (z:Addr) (tk tv:TD):uP wu:=λD S env=>env[i]?=some (some (.d (.obj (tP z))))/\tk env λdk=>∃n:Int,dk=.int n/\(n=0\/n=1)/\tv env λdv=>S.1.length < sizeLine/\S.2.length < sizeLine/\D.nx (S.push n dv) env
theorem CO {px ps pa pc pos:Pos} (i:Nat) (hk:QE X ke tk) (hv:QE X ve tv) (hN:X.N[i]?=some x:=by rfl) (hvis:qF X.env.scope x:=by first | exact Or.inl rfl | exact Or.inr (Or.inl rfl) | exact Or.inr (Or.inr rfl)) (hd:(x == ("__debug__" : Str))=false:=by decide) (hcd:(x == ("__classdict__" : Str))=false:=by decide)
  (hbase:attributeBase (.Subscript (.Name x px) ke ps) "append" X.env (eval (.Subscript (.Name x px) ke ps) X.env)=eval (.Subscript (.Name x px) ke ps) X.env:=by rfl)
  (hline:(pa.endLine == pc.line)=true:=by rfl) (hp:iI ke:=by intro _ _;rfl) (hfew:((backTo pc (starEach [ve] X.env)).all (λx=>!x.1) && (backToKw pc (keywordEach [] X.env)).all (λx=>x.1.isSome) && decide ([ve].length + ([]:List Keyword).length + (if ([]:List Keyword).isEmpty then 0 else 1) < 30))=true:=by rfl) (hst:starEach [ve] X.env=(false,eval ve X.env) :: starEach [] X.env:=by exact aJ rfl)
  (hs:swapsWith (.Call (.Attribute (.Subscript (.Name x px) ke ps) "append" pa) [ve] [] pc) none pos.line X.env=pure false:=by rfl) :
  BS X (iW X.K p) (.Expr (.Call (.Attribute (.Subscript (.Name x px) ke ps) "append" pa) [ve] [] pc) pos) (vZ i p.z tk tv):=by
 refine⟨λB σ F H env D S fit ⟨cs,l,r⟩ ⟨hi,hq⟩=>?_⟩;refine cQ (mI (sq PySem.F.plainAttrs_list PySem.F.slot_list_append PySem.F.type_list_append kS (sY p0 (cF hN hvis hd hcd) bF hp) (cj bF c9 hst) hbase hfew hline hst rfl) hs) ?_;have hs:=mS r hi;refine⟨.ref p.z,hs,?_⟩;refine aD (hk _ σ F H env _ r.now hq) λk H1 hq0=>?_;obtain⟨F1,d1,r1,s1,dd1,q1⟩:=hq0;have r1':Rep X.K (B.gs cs) F1 H1 σ env:=Rep.back (B:=B.gs cs) r.f0 r1
 have l1:=(iW X.K p).mono _ _ _ _ s1 l;obtain⟨n,rfl,hn,q1⟩:=q1;simp only [Den] at dd1;subst dd1;obtain⟨us,vs,e,du,dw⟩:=l1;subst e;have nd:([(p.z,HO.lst [.ref p.a,.ref p.b]),(p.a,.lst us),(p.b,.lst vs)].map (·.1)).Nodup:=by simp [p.za,p.zb,p.ab]
 have cz:=r1'.cell nd (p:=p.z) (o:=.lst [.ref p.a,.ref p.b]) (by simp);have ca:=r1'.cell nd (p:=p.a) (o:=.lst us) (by simp);have cb:=r1'.cell nd (p:=p.b) (o:=.lst vs) (by simp);rcases hn with rfl|rfl
 ·refine⟨p.z,[.ref p.a,.ref p.b],0,.ref p.a,rfl,rfl,dE.of cz,rfl,.inl ⟨rfl,us,dE.of ca⟩,?_⟩;refine aD (hv _ σ F1 H1 env _ r1'.now q1) λv H2 hq0=>?_;obtain⟨F2,d2,r2,s2,dd2,w1,w2,q2⟩:=hq0;have r2':Rep X.K (B.gs _) F2 H2 σ env:=Rep.back (B:=B.gs [(p.z,HO.lst [.ref p.a,.ref p.b]),(p.a,.lst us),(p.b,.lst vs)]) r1'.f0 r2;have ca':=r2'.cell nd (p:=p.a) (o:=.lst us) (by simp);refine⟨p.a,us,v,rfl,rfl,ca',by rw [<- du.length];exact w1,?_⟩
  have q2:D.nx (S.1 ++ [d2],S.2) env:=q2;refine⟨(S.1 ++ [d2],S.2),F2,env,⟨_,⟨us ++ [v],vs,rfl,ak.append (ak.mono s2 _ _ du) (aH dd2 aI),ak.mono s2 _ _ dw⟩,?_⟩,q2⟩;refine r2'.EE (o:=.lst us) (vM nd (by simp)) (.inr (.inl rfl)) r2'.f0 (λz=>?_) (λz h=>h);show upd (upd (upd B.H p.b _) p.a _) p.z _ z=upd (upd (upd (upd B.H p.b _) p.a _) p.z _) p.a _ z
  by_cases e:z=p.a
  ·subst e;rw [ao,aj p.za.symm,ao]
  ·rw [aj e]
   by_cases e2:z=p.z
   ·subst e2;rw [ao,ao]
   ·rw [aj e2,aj e2,aj e,aj e]
 ·refine⟨p.z,[.ref p.a,.ref p.b],1,.ref p.b,rfl,rfl,dE.of cz,rfl,.inl ⟨rfl,vs,dE.of cb⟩,?_⟩;refine aD (hv _ σ F1 H1 env _ r1'.now q1) λv H2 hq0=>?_;obtain⟨F2,d2,r2,s2,dd2,w1,w2,q2⟩:=hq0;have r2':Rep X.K (B.gs _) F2 H2 σ env:=Rep.back (B:=B.gs [(p.z,HO.lst [.ref p.a,.ref p.b]),(p.a,.lst us),(p.b,.lst vs)]) r1'.f0 r2;have cb':=r2'.cell nd (p:=p.b) (o:=.lst vs) (by simp);refine⟨p.b,vs,v,rfl,rfl,cb',by rw [<- dw.length];exact w2,?_⟩
  have q2:D.nx (S.1,S.2 ++ [d2]) env:=q2;refine⟨(S.1,S.2 ++ [d2]),F2,env,⟨_,⟨us,vs ++ [v],rfl,ak.mono s2 _ _ du,ak.append (ak.mono s2 _ _ dw) (aH dd2 aI)⟩,?_⟩,q2⟩;refine r2'.EE (o:=.lst vs) (vM nd (by simp)) (.inr (.inr (.inl rfl))) r2'.f0 (λz=>?_) (λz h=>h);show upd (upd (upd B.H p.b _) p.a _) p.z _ z=upd (upd (upd (upd B.H p.b _) p.a _) p.z _) p.b _ z
  by_cases e:z=p.b
  ·subst e;rw [ao,aj p.zb.symm,aj p.ab.symm,ao]
  ·rw [aj e]
   by_cases e2:z=p.z
   ·subst e2;rw [ao,ao]
   ·rw [aj e2,aj e2]
    by_cases e3:z=p.a
    ·subst e3;rw [ao,ao]
    ·rw [aj e3,aj e3,aj e,aj e]
def u3 (i:Nat) (q:P3->Ends3->wu->En->Prop):bG:=λD env=>∀p:P3,q p D ([],[]) (env.set i (some (.d (.obj (tP p.z)))))
theorem xn {sts:List Stmt} {q:P3->Ends3->wu->En->Prop} {px l1 l2 lp ap:Pos} (i:Nat) (hN:X.N.Nodup) (hm:∀p:P3,Fo X (iW X.K p) sts (q p))
  (hi:X.N[i]?=some x:=by rfl) (hx:Loc X.env.scope x:=by first|exact Or.inl rfl|exact Or.inr rfl) (hs:swapsWith (.List [.List [] l1,.List [] l2] lp) (some (.Name x px)) ap.line X.env=pure false:=by rfl)
  (hf:X.fn x=true\/X.env.scope.names.lookup x=some .local:=by first|exact .inl rfl|exact .inr rfl) :
  mB X (.Assign [.Name x px] (.List [.List [] l1,.List [] l2] lp) ap :: sts) (u3 i q):=by
 refine⟨?_⟩;intro B σ F H env D rp h pins s I;have hl:i < σ.length:=by rw [I.len];exact (G7.mp hi).1
 refine (hW (lA (i:=i) hN hi hx (lE (cj (lE c9) (cj (lE c9) c9 (aJ rfl)) (aJ rfl))) hs hf) cR) pins s σ H _ I ?_;refine⟨HU _,λa ha=>⟨HU _,λb hb=>⟨by show 2<=sizeLine;simp [Ht],λz hz=>?_⟩⟩⟩;have ab:a≠b:=λe=>by subst e;rw [ao] at hb;cases hb
 have zb:z≠b:=λe=>by subst e;rw [ao] at hz;cases hz
 have hz1:upd H a (.lst []) z=none:=by rwa [aj zb] at hz
 have za:z≠a:=λe=>by subst e;rw [ao] at hz1;cases hz1
 have hb1:H b=none:=by rwa [aj ab.symm] at hb
 have hz2:H z=none:=by rwa [aj za] at hz1
 have ha1:upd H b (.lst []) a=none:=by rw [aj ab];exact ha
 have hz3:upd (upd H b (.lst [])) a (.lst []) z=none:=by rw [aj za,aj zb];exact hz2
 have r3:=((rp.guarded (o:=.lst []) hb1).guarded (o:=.lst []) ha1).guarded (o:=.lst [.ref a,.ref b]) hz3
 have hsw:upd (upd (upd H b (.lst [])) a (.lst [])) z (.lst [.ref a,.ref b])=upd (upd (upd H a (.lst [])) b (.lst [])) z (.lst [.ref a,.ref b]):=by
  funext c
  by_cases c1:c=z
  ·subst c1;rw [ao,ao]
  ·rw [aj c1,aj c1]
   by_cases c2:c=a
   ·subst c2;rw [ao,aj ab,ao]
   ·rw [aj c2]
    by_cases c3:c=b
    ·subst c3;rw [ao,ao]
    ·rw [aj c3,aj c3,aj c2]
 rw [hsw] at r3
 have den:Den X.K F (.obj (tP z)) (.ref z):=by
  simp only [Den];exact⟨z,rfl,λ_ _=>rfl⟩
 have r4:=r3.set (i:=i) den hl
 exact (hm ⟨z,a,b,za,zb,ab⟩).run B _ F _ _ D ([],[]) (λc hc=>by
  simp only [iW,Hx,List.mem_nil_iff,or_false] at hc;rcases hc with rfl|rfl|rfl
  ·exact rp.h0.free hz2
  ·exact rp.h0.free ha
  ·exact rp.h0.free hb1) ⟨_,⟨[],[],rfl,aI,aI⟩,r4⟩ (h _)
end
section
variable {X:Cx} {a e o:Expr} {ta te to:TD} {pos apos cpos:Pos}
def f7 (i:Nat) (te:TD):TD:=λenv Q=>∃ds,env[i]?=some (some (.own ds))/\bz ds<=60/\te env λy=>dep y<=60/\∃j:Nat,(ds[j]?.map λd=>aT d y)=some true/\(∀m,m < j->(ds[m]?.map λd=>aT d y)=some false)/\Q (.int j)
theorem ue {x:Str} {px:Pos} (i:Nat) (hu:X.A.units + 64 < cLine) (he:QE X e te) (m:M1 X (.Name x px) "index" apos e cpos:=by exact⟨rfl,rfl,rfl,rfl⟩) (hN:X.N[i]?=some x:=by rfl) (hv:qF X.env.scope x:=by first | exact Or.inl rfl | exact Or.inr (Or.inl rfl) | exact Or.inr (Or.inr rfl)) (hd:(x == ("__debug__" : Str))=false:=by decide)
  (hcd:(x == ("__classdict__" : Str))=false:=by decide):QE X (.Call (.Attribute (.Name x px) "index" apos) [e] [] cpos) (f7 i te):=by
 refine⟨λB σ F H env Q rp h pins s I=>?_⟩;obtain⟨ds,hx,hds,q0⟩:=h;obtain⟨p,vs0,h1,h2,h3,h4,h5⟩:=rp.ov i ds hx;refine wpAny_Call_method m.base m.few m.line PySem.F.plainAttrs_list PySem.F.slot_list_index PySem.F.type_list_index (bK (cF hN hv hd hcd pins s σ H (λv H'=>v=.ref p/\H'=H) I ⟨.ref p,h1,rfl,rfl⟩) λu s1 hq0=>?_);obtain⟨x',H1,I1,rx,ex,eH⟩:=hq0;subst ex eH;cases rx;obtain⟨its0,_,⟨o0,n0,g0,c0,nd0,_⟩,_⟩:=I1.list (dE.of h2)
 refine⟨⟨o0,g0,c0⟩,λb eb=>by cases eb;exact⟨o0,g0,nd0⟩,?_⟩;rw [m.trees];refine Calls.callWith_builtin rfl (Calls.evalArgs_plain (Ir (bK (he B σ F H1 env _ rp q0 pins s1 I1) λiv s2 ⟨y,H2,I2,ry,F2,d',r2,z2,d2,hy,j,hj,hno,q2⟩=>Calls.spliced_nil ?_)));obtain⟨p',vs,e1,e2,e3,e4,e5⟩:=r2.ov i ds hx;rw [h1] at e1;cases e1;obtain⟨its,rv,⟨⟨oc,od,odt,osl⟩,n,g,c,nd,dd⟩,hz⟩:=I2.list (dE.of e2)
 replace c:oc=.type "list":=c
 replace dd:odt=.seq its.toArray n:=dd
 subst c dd;have l1:=e5.length;have l2:=rv.length
 have at_:∀(k:Nat) (b:Bool),(ds[k]?.map λd=>aT d d')=some b->∃hk:k < its.length,gb its ds d' its[k]=b:=λk b hb=>by
  obtain⟨w,hw,rfl⟩:=HV.mp hb;have hk:k < its.length:=by have:=(G7.mp hw).1;omega
  exact⟨hk,jT I2 r2.fh (by omega) e5 rv hw (Hb hk)⟩
 obtain⟨hjl,hit⟩:=at_ j true hj
 have hsz:(j:Int) < 2 ^ 63 - 1:=by
  have:j < sizeLine:=by omega
  rw [Ht] at this;omega
 refine call_meets PySem.F.slot_list_index ⟨_,g,rfl⟩ PySem.F.entry_list_index (PySem.F.args_list_index_2 _ _) (SeqAt.list_indexAt p its.toArray n od osl iv (gb its ds d') j (by simpa using hjl) hsz (by simpa using hit) (λk hk hkj=>by
  obtain⟨hkl,z⟩:=at_ k false (hno k hkj)
  simpa using z)) ⟨g,λw hw=>kJ I2 r2.fh _ (by simp only [units_in1];omega) hds hy e5 rv d2 ry w (by simpa using hw),?_⟩
 exact⟨.int _,H2,I2.tok _,⟨_,rfl⟩,F2,_,r2,z2,aZ,q2⟩
end
section
variable {X:Cx} {a e o:Expr} {ta te to:TD} {pos apos cpos:Pos}
def qa (to te:TD):TD:=λenv Q=>to env λx=>∃ds,x=.lst ds/\bz ds<=60/\te env λy=>dep y<=60/\Q (.int (ds.countP λd=>aT d y))
theorem xF (hu:X.A.units + 64 < cLine) (ho:QE X o to) (he:QE X e te) (m:M1 X o "count" apos e cpos:=by exact⟨rfl,rfl,rfl,rfl⟩):QE X (.Call (.Attribute o "count" apos) [e] [] cpos) (qa to te):=by
 refine⟨λB σ F H env Q rp h pins s I=>?_⟩;refine wpAny_Call_method m.base m.few m.line PySem.F.plainAttrs_list PySem.F.slot_list_count PySem.F.type_list_count (bK (ho B σ F H env _ rp h pins s I) λu s1 hq0=>?_);obtain⟨x,H1,I1,rx,F1,d,r1,z1,d1,ds,e1,hds,q1⟩:=hq0;subst e1;simp only [Den] at d1;obtain⟨p,vs,rfl,hq,dl⟩:=d1;cases rx;obtain⟨its0,_,⟨o0,n0,g0,c0,nd0,_⟩,_⟩:=I1.list (r1.fh.seq hq);refine⟨⟨o0,g0,c0⟩,λb eb=>by cases eb;exact⟨o0,g0,nd0⟩,?_⟩
 rw [m.trees];refine Calls.callWith_builtin rfl (Calls.evalArgs_plain (Ir (bK (he B σ F1 H1 env _ r1 q1 pins s1 I1) λiv s2 ⟨y,H2,I2,ry,F2,d',r2,z2,d2,hy,q2⟩=>Calls.spliced_nil ?_)));have hq2:=z2.seq hq;have dl2:=ak.mono z2 _ _ dl;obtain⟨its,rv,⟨⟨oc,od,odt,osl⟩,n,g,c,nd,dd⟩,hz⟩:=I2.list (r2.fh.seq hq2)
 replace c:oc=.type "list":=c
 replace dd:odt=.seq its.toArray n:=dd
 subst c dd;refine call_meets PySem.F.slot_list_count ⟨_,g,rfl⟩ PySem.F.entry_list_count (PySem.F.args_list_count_2 _ _) (SeqAt.list_countAt p its.toArray n od osl iv (gb its ds d')) ⟨g,λw hw=>kJ I2 r2.fh _ (by simp only [units_in1];omega) hds hy dl2 rv d2 ry w (by simpa using hw),?_⟩;refine⟨.int _,H2,I2.tok _,⟨_,rfl⟩,F2,_,r2,z1.trans z2,?_,q2⟩
 rw [show its.toArray.toList.countP (gb its ds d')=ds.countP λd=>aT d d' by
  rw [show its.toArray.toList=its by simp,lX,jG I2 r2.fh (by omega) dl2 rv,<- lX]]
 exact aZ
end
structure y8 (K:Ha) (C S:Addr):Prop where
 ty:PySem.W.typeIn K (.ref S)=some (.type "type")
 dct:PySem.W.hasDictIn K S=true
 be:PySem.W.subIn K (.ref S) (.type "BaseException")=some true
 sub:PySem.W.subIn K (.ref C) (.ref S)=some true
theorem oz {K:Ha}:PySem.W.subIn K (.type "type") (.type "tuple")=some false:=by
 show Option.map (λx=>x.contains (Value.type "tuple")) (fastBuiltinMro "type")=some false
 decide +kernel
theorem yp {M:Model} {A:Around} {E:Value->Shared->Prop} {K:Ha} {h:Heap} {g:Array GenState} {d:Drawn} {t:Nat} {os:OsState} {e C S:Addr} {Q:Bool->Shared->Prop} (X:K.In h) (O:y8 K C S)
  (ht:PySem.W.Looks M h (typeOf (.ref e)) (.ref C)) (hq:Q true ⟨h,g,d,t,os⟩):wpAny M A (excMatches (.ref e) (.ref S)) Q E ⟨h,g,d,t,os⟩:=by
 have L1:PySem.W.Looks M h (isInstance (.ref S) (.type "tuple")) false:=(PySem.W.looks_typeIn X O.ty).andThen (PySem.W.looks_subIn X oz)
 have L2:=PySem.W.looks_subIn (M:=M) X O.be;have L3:=PySem.W.looks_subIn (M:=M) X O.sub;obtain⟨c,dd,cd,sl,lk⟩:=qq O.dct;have hS:=X _ _ lk;have LT:PySem.W.Looks M h (isType (.ref S)) true:=λA Q E s keep q=>G8 (wpAny_loadPart (keep _ _ hS) (Hd q));have LE:PySem.W.Looks M h (isExcClass (.ref S)) true:=LT.andThen L2;unfold excMatches;refine G8 (L1.at ?_);rw [if_neg (by decide)];refine G8 (Hd ?_);simp only [List.forIn_cons,List.forIn_nil]
 refine G8 (G8 (G8 (LE.at (Hd (Hd ?_)))));refine G8 (ht.at (G8 (G8 (G8 (L3.at (Hd (Hd ?_)))))));exact Hd hq
def zd (i:Nat) (cls:Str) (tx:TX) (tb:bG):bG:=λD env=>tx env D.rt λc=>c=cls/\tb { nx:=λ_=>False,rt:=D.rt } (env.set i (some (.d (.exc cls))))
section
variable {X:Cx} {e:Expr} {tx:TX} {cls sup n:Str} {C S:Addr} {np epos hpos pos:Pos} {b0:Stmt} {body:List Stmt} {tb:bG}
theorem AV (i:Nat) (hN:X.N.Nodup) (hst:X.stack=X.env :: X.outer) (hf:X.env.frame=some X.env.locals) (as:PySem.W.nsIn X.K mainGlobals sup=some (some (.ref S))) (ac:PySem.W.nsIn X.K mainGlobals cls=some (some (.ref C))) (O:y8 X.K C S)
  (h:QX X e tx) (hb:∀x,mB (Cx.hand X x) (b0 :: body) tb) (hg:Gl X sup:=by rfl) (hdb:(sup == ("__debug__" : Str))=false:=by decide) (hi:X.N[i]?=some n:=by rfl)
  (hx:X.env.scope.names.lookup n=some .local:=by rfl) :
  QS X (.Try [.Return (some e) epos] [.ExceptHandler (some (.Name sup np)) (some n) (b0 :: body) hpos] [] [] pos) (zd i cls tx tb):=by
 refine⟨λB σ F H env D rp ht pins s I=>?_⟩;have hcls:(X.env.scope.kind == .class || (X.env.scope.kind == .module && X.env.locals != X.env.globals))=false:=by rw [I.ok.kind];rfl
 have hmg:X.mg cls=some (.ref C):=Il I.ok.mod.kin I.ok.mod.glob ac;have hms:X.mg sup=some (.ref S):=Il I.ok.mod.kin I.ok.mod.glob as;have core:=h.run B σ F H env _ _ rp ht pins s I;refine wpAny_Try_except (wpAny_execs_cons (wpAny_Return_some (HE core (λv s1 ⟨x,H1,I1,r1,F1,d1,rp1,_,hd1,q1⟩=>?_) λex s1 z=>?_)))
 ·exact⟨x,σ,H1,I1,r1,F1,d1,rp1.bare,hd1,q1⟩
 ·obtain⟨a,c,C',H1,F1,rfl,th,r1,hm,hce,hq1⟩:=z;rw [hce,hmg] at hm;cases hm;refine th.note hst hf λs2 th2=>?_;have I2:=Inv.hand th2.inv a;refine wpAny_handleBy_cons (codeAny_handlers_test (fK (X:=Cx.hand X a) I2 hg hms ?_ hdb)) (by intro q;cases q)
  have flc:∃ox,PySem.W.InstAt s2.heap a ox C none:=by
   obtain⟨_,_,_,_,_,_,_,_,_,oe,vs,he,hc,hdc,hd,_⟩:=th2;refine⟨oe,he,hc,?_,?_⟩
   ·unfold PySem.W.notCls;rw [hd]
   ·rw [hdc];exact True.intro
  obtain⟨ob,hob⟩:=flc;have kin:=I2.oh;obtain⟨h2,g2,d2,t2,o2⟩:=s2;refine yp kin O hob.type (codeAny_handlers_suite_as ?_);refine c7.land th2 λs3 th3=>?_;obtain⟨na,I3⟩:=gZ.BQ th3;obtain⟨rp3,sm⟩:=r1.laid (o:=.ext (excAt a C)) na;refine ko (X:=Cx.hand X a) (i:=i) (v:=.ref a) (Inv.hand I3 a) hN hi (.inl hx) rfl (λs4 I4=>?_) (.inr hx)
  have hden:Den X.K (upd F1 a (.ext (excAt a C))) (.exc cls) (.ref a):=by
   simp only [Den];exact⟨a,C,rfl,ac,ao⟩
  have run:=(hb a).run B _ _ _ _ { nx:=λ_=>False,rt:=D.rt } (rp3.set hden (by rw [I3.len];exact (G7.mp hi).1)) hq1 pins s4 I4;refine HE run (λf s5 z=>?_) λ_ _ z=>False.elim z
  cases f with
  | next=>obtain⟨σ',H',_,F',env',_,q⟩:=z;exact q.elim
  | brk=>obtain⟨σ',H',_,F',env',_,q⟩:=z;exact q.elim
  | cont=>obtain⟨σ',H',_,F',env',_,q⟩:=z;exact q.elim
  | ret u =>
   obtain⟨v,σ',H',I5,rv,q⟩:=z;have I5':=Inv.B9 I.ok I5;obtain⟨m,hn,_⟩:=I5'.loc;refine wpAny_nameGoes (show X.env.kindOf n=some .local from hx) hn hcls λh' m' hn' hs'=>?_;exact⟨v,_,H',Inv.Gx I5' hn' hs',rv,q⟩
end
structure fH (k:Nat) (A:Around):Prop where
 dp:A.depth + 3 * k + 5 < recursionLimit
 un:A.units + 16 * k + 200 < cLine
theorem fH.deeper {k:Nat} {A:Around} (r:fH (k + 1) A) (env:Env):fH k (A.deeper env) :=
 ⟨by have:=r.dp;show A.depth + 1 + 3 * k + 5 < _;omega,by have:=r.un;show A.units + 3 + 16 * k + 200 < _;omega⟩
theorem fH.depth {k:Nat} {A:Around} (r:fH k A):A.depth < recursionLimit:=by have:=r.dp;omega
theorem fH.units {k:Nat} {A:Around} (r:fH k A):A.units + 64 < cLine:=by have:=r.un;omega
theorem _root_.L2.cI.hand {k:Nat} {A:Around} (r:cI k A) (v:Option Value):fH k (A.mark v):=⟨r.dp,r.un⟩
structure FI (P:Program) (w:World) (K:Ha) (mg:Str->Option Value) (base:Heap) (k:Nat) (f:Addr) (fd:FuncData) (ps:List Str) (sp:Sp):Prop where
 len:∀vs H Q E,sp vs H Q E->vs.length=ps.length
 run:∀(A:Around) (outer:List Env) (s:Shared) (H:Hp) (args:Args) (us:List Value) (vs:List V) (Q:VK) (E:XK),fH k A->qJ P w K mg base A outer s H->BindsTo s fd args (ps.zip us)->Vals vs us->sp vs H Q E ->
  codeAny (model P w) A (.call (.ref f) args) (CR tM outer P w H s Q E) s
def DN (P:Program) (w:World) (K:Ha) (mg:Str->Option Value) (base:Heap) (N:List Str) (qual:Str) (scope:Scope) (f:Addr) (cd:Value) (A:Around) (outer:List Env) (s:Shared) (H:Hp) (E:XK):Cx :=
 { gM tM P w K mg base N qual scope f cd A outer s H E with calm:=false,xe:=λ_ _=>False }
section
variable {P:Program} {w:World} {K:Ha} {mg:Str->Option Value} {base:Heap}
theorem u6 {N ps:List Str} {qual:Str} {scope:Scope} {f:Addr} {cd:Value} {A:Around} {outer:List Env} {s s1:Shared} {H:Hp} {E:XK} {us:List Value} {vs:List V}
  (S:aG N ps scope) (e0:qJ P w K mg base A outer s H) (hl:vs.length=ps.length) (r:Vals vs us)
  (x:InCallC s s.heap.objs.size (bindL (envOfC qual scope s.heap.objs.size f cd).kindOf (ps.zip us) λ_=>none) (cellsFrom (s.heap.objs.size + 1) scope.names []) (bindC (envOfC qual scope s.heap.objs.size f cd).kindOf (ps.zip us) λ_=>none) s1) :
  Inv (DN P w K mg base N qual scope f cd A outer s H E) [] (start N vs) H s1:=by
 have I:Inv (gM tM P w K mg base N qual scope f cd { A with handled:=none } outer s H E) [] (start N vs) H s1 :=
  o5 S rfl ⟨e0.frames,e0.mod,e0.bs,e0.bsz,e0.iT,e0.frf,e0.hok,e0.bare⟩ hl r x
 exact⟨⟨I.ok.mod,I.ok.kind,I.ok.glob,I.ok.blt,I.ok.above,I.ok.inj,I.ok.has,I.ok.cab,(λz=>by cases z),I.ok.frames,I.ok.stk,I.ok.exf,I.ok.bs,I.ok.bsz,I.ok.noex,I.ok.exfs,I.ok.iT,I.ok.frf⟩,I.os,I.bare,I.base,I.loc,I.cell,I.free,I.freeC,I.pin,I.hok,I.len⟩
theorem CV {k:Nat} {f:Addr} {name qual:Str} {params:Arguments} {body:List Stmt} {scope:Scope} {dV kV doc pm cdv ct oc:Value} {an od:Option Addr}
  {osl:Array (Option Value)} {N ps:List Str} {sp:Sp} (lk:K.lookup f=some ⟨oc,od,.func (PySem.W.fnOf name qual params body scope dV kV doc pm an cdv ct),osl⟩) (hcd:PySem.W.codeIn K cdv qual=true) (S:aG N ps scope)
  (len:∀vs H Q E,sp vs H Q E->vs.length=ps.length)
  (hbody:∀(A:Around) (outer:List Env) (s:Shared) (H:Hp) (vs:List V) (Q:VK) (E:XK),fH k (A.deeper (envOfC qual scope s.heap.objs.size f cdv))->sp vs H Q E ->
   ∃t,tN (DN P w K mg base N qual scope f cdv A outer s H E) body t/\t { nx:=λ_ H'=>Q .non H',rt:=Q } (start N vs) H) :
  FI P w K mg base (k + 1) f (PySem.W.fnOf name qual params body scope dV kV doc pm an cdv ct) ps sp:=by
 refine⟨len,λA outer s H args us vs Q E hr e0 hb r hsp=>?_⟩;have hl:=len _ _ _ _ hsp;have KX:K.In s.heap:=e0.mod.kin.keeps λb o e=>(e0.bs b o e).1;have lim:s.heap.NoLimit:=e0.mod.nolimit.keeps λb o e=>(e0.bs b o e).1
 have hkind:∀y∈ps.zip us,scope.names.lookup y.1=some .local\/(scope.names.lookup y.1=some .cell/\((cellsFrom (s.heap.objs.size + 1) scope.names []).lookup y.1).isSome=true):=fun⟨n,v⟩ hy=>by
  rcases S.par n (List.of_mem_zip hy).1 with q|q
  ·exact .inl q
  ·exact .inr ⟨q,PySem.W.cellsFrom_some _ _ _ (.inl q)⟩
 refine codeAny_call_function hr.depth (KX _ _ lk) rfl S.co S.gen rfl (PySem.W.codeRec_of KX hcd) (hb _ _ _ _ ?_);refine wpAny_newFunctionEnv_cells S.kind hkind λenv he s1 x=>?_;subst he;refine⟨lim.keeps x.toInCall.keep,codeAny_func ?_⟩;obtain⟨t,ht,hq⟩:=hbody A outer s H vs Q E (hr.deeper _) hsp;have I:Inv (DN P w K mg base N qual scope f cdv A outer s H E) [] (start N vs) H s1:=u6 S e0 hl r x;refine HE (ht [] s1 (start N vs) H _ I hq) (λfl s' hs=>?_) λe s' hs=>False.elim hs
 have fin:∀{σ':St} {H':Hp} {v:V} {u:Value},Inv (DN P w K mg base N qual scope f cdv A outer s H E) [] σ' H' s'->RelV v u->Q v H'->CE outer P w H s Q u s' :=
  λ{σ' H' v u} J rv q=>⟨v,H',J.os,J.bare,J.base,J.hok,rv,q⟩
 cases fl with
 | ret u =>
  obtain⟨v,σ',H',J,rv,q⟩:=hs
  exact fin J rv q
 | next =>
  obtain⟨σ',H',J,q⟩:=hs
  exact fin (v:=V.non) (u:=Value.none) J rfl q
 | brk =>
  obtain⟨_,_,_,q⟩:=hs
  exact False.elim q
 | cont =>
  obtain⟨_,_,_,q⟩:=hs;exact False.elim q
structure nY (P:Program) (w:World) (K:Ha) (mg:Str->Option Value) (base:Heap) (k:Nat) (x:Str) (f:Fw):Prop where
 ex:∃(fa:Addr) (fd:FuncData) (ps:List Str),FI P w K mg base k fa fd ps (BO K f)/\mg x=some (.ref fa)/\PySem.W.keepIn K (.ref fa)=true/\Binds K fd ps []
theorem oo.t7 {x qual:Str} {st:Stmt} {fa:Addr} {fd:FuncData} {N ps:List Str} {k:Nat} {f:Fw} (F:oo K x qual st fa fd) (S:aG N ps (ar st)) (hmg:mg x=some (.ref fa)) (hb:Binds K fd ps [])
  (hl:∀ds Q,f ds Q->ds.length=ps.length)
  (hbody:∀(cdv:Value) (A:Around) (outer:List Env) (s:Shared) (H:Hp) (E:XK),fH k (A.deeper (envOfC qual (ar st) s.heap.objs.size fa cdv)) ->
   ∃t,mB (DN P w K mg base N qual (ar st) fa cdv A outer s H E) (bh st) t/\∀ds (Q:D->Prop),f ds Q->t { nx:=λ_=>Q .non,rt:=Q } (aE N ds)) :
  nY P w K mg base (k + 1) x f:=by
 refine⟨fa,fd,ps,?_,hmg,F.kp,hb⟩;obtain⟨oc,od,kV,doc,pm,an,cdv,ct,osl,rfl,lk,hcd⟩:=F.ex;refine CV lk hcd S (λvs H Q E h=>?_) λA outer s H vs Q E hr h=>?_
 ·obtain⟨F0,ds,P,_,hd,hf,_⟩:=h;rw [<- hd.length];exact hl ds _ hf
 ·obtain⟨F0,ds,P,fh,hd,hf,kk⟩:=h;obtain⟨t,ht,hq⟩:=hbody cdv A outer s H E hr;refine⟨_,cR,?_⟩;have core:=ht _ (start N vs) F0 H (aE N ds) _ (fg fh hd) (hq ds P hf);refine fj core (λσ' H' ⟨F',env',r,q⟩=>?_) (λv H' ⟨F',d',r,dd,q⟩=>?_) (λ_ _ ⟨_,_,_,q⟩=>q) (λ_ _ ⟨_,_,_,q⟩=>q)
  ·exact kk .non .non F' H' r.f0 r.h0 r.fh (λp h1 h2=>r.nf p ⟨h1,h2⟩) jZ q
  ·exact kk d' v F' H' r.f0 r.h0 r.fh (λp h1 h2=>r.nf p ⟨h1,h2⟩) dd q
end
section
variable {X:Cx} {e:Expr} {es:List Expr} {t:TA} {ts:eD} {p pos:Pos} {x:Str} {k:Nat} {f:Fw} {fa:Addr} {fd:FuncData} {ps:List Str} {sp:Sp} {E:XK}
theorem xT (F:FI X.prog X.w X.K X.mg X.base k fa fd ps sp) (hr:fH k X.A) (hg:Gl X x) (hm:X.mg x=some (.ref fa)) (hk:PySem.W.keepIn X.K (.ref fa)=true) (hb:Binds X.K fd ps []) (hx:Passes tM X E)
  (ha:PA X (e :: es) t) (hdb:(x == ("__debug__" : Str))=false:=by decide) (he:starEach (e :: es) X.env=(false,eval e X.env) :: starEach es X.env:=by rfl) (hpl:(backTo pos (starEach es X.env)).any (·.1)=false:=by rfl) :
  PE X (.Call (.Name x p) (e :: es) [] pos) (Bl sp [] E t):=by
 intro pins s σ H Q I h;refine wpAny_Call_Name_kw (fK I hg hm ?_ hdb);refine PySem.W.callWith_K (h₀:=X.base) I.ok.mod.kin hk (bK (ha pos pins s σ H _ I h) λus s1 ⟨vs,H1,I1,r,q⟩=>⟨I1.oh,?_⟩) he hpl;have r2:Vals (vs ++ []) (us ++ []):=r.append .nil;have hl:(us ++ []).length=ps.length:=by rw [<- r2.length];exact F.len _ _ _ _ q
 refine wpAny_call (codeAny_mono (F.run X.A X.stack s1 H1 ⟨us,[]⟩ (us ++ []) (vs ++ []) Q E hr I1.eU (hb s1 us I1.oh hl) r2 q) λr s' hq=>?_)
 cases r with
 | error e=>exact hx pins σ H1 s1 e s' I1 hq
 | ok fl =>
  cases fl with
  | ret u=>exact I1.after hq
  | next=>exact False.elim hq
  | brk=>exact False.elim hq
  | cont=>exact False.elim hq
theorem AK (h:nY X.prog X.w X.K X.mg X.base k x f) (hr:fH k X.A) (ha:QA X (e :: es) ts) (hg:Gl X x:=by rfl) (hdb:(x == ("__debug__" : Str))=false:=by decide)
  (he:starEach (e :: es) X.env=(false,eval e X.env) :: starEach es X.env:=by exact aJ rfl) (hpl:(backTo pos (starEach es X.env)).any (·.1)=false:=by rfl):QE X (.Call (.Name x p) (e :: es) [] pos) (aB f ts):=by
 refine⟨?_⟩;intro B σ F H env Q rp hq;obtain⟨fa,fd,ps,G,hm,hk,hb⟩:=h.ex;refine bX (xT G hr hg hm hk hb Bi gR hdb he hpl) ?_;refine bV (ha B σ F H env _ rp hq) λvs H1 hq0=>?_;obtain⟨F1,ds,r1,s1,d1,hf⟩:=hq0;rw [HR];exact⟨F1,ds,Q,r1.fh,d1,hf,λd v F' H' a b c n hd q=>⟨F',d,r1.ext a c b n,s1.trans a,hd,q⟩⟩
end
theorem oi {N P:List Str} {sc:Scope} (a:sc.kind=.function:=by rfl) (b:sc.isCoroutine=false:=by rfl) (c:sc.isGenerator=false:=by rfl) (d:N.Nodup:=by decide +kernel) (e:N.take P.length=P:=by rfl) (f:∀x∈P,sc.names.lookup x=some .local\/sc.names.lookup x=some .cell:=by decide +kernel) (g:∀y∈sc.names,y.2≠.free:=by decide +kernel):aG N P sc:=⟨a,b,c,d,e,f,g⟩
theorem _root_.L2.cI.md {j k:Nat} {A:Around} (r:cI k A) (h:j<=k:=by decide):cI j A:=r.mono h
structure cw (K:Ha) (x:Str) (st:Stmt):Prop where
 ex:∃(f:Addr) (oc:Value) (od an:Option Addr) (sl:Array (Option Value)) (kV dc pm cd ct:Value),PySem.W.nsIn K mainGlobals x=some (some (.ref f)) /\
  K.lookup f=some ⟨oc,od,.func (PySem.W.fnOf x x (dD st) (bh st) (ar st) .none kV dc pm an cd ct),sl⟩/\PySem.W.codeIn K cd x=true/\PySem.W.keepIn K (.ref f)=true
section
variable {K:Ha} {h:Heap} {mg:Str->Option Value} {x:Str} {st:Stmt} {i:Int}
theorem cw.get {ps:List Str} (D:cw K x st) (X:K.In h) (G:h.Ns mainGlobals mg)
  (hb:∀(kV doc pm:Value) (an:Option Addr) (cdv ct:Value) (us:List Value),us.length=ps.length->bindArgs (PySem.W.fnOf x x (dD st) (bh st) (ar st) .none kV doc pm an cdv ct) ⟨us,[]⟩=pure (ps.zip us)) :
  ∃fa fd,oo K x x st fa fd/\mg x=some (.ref fa)/\Binds K fd ps []:=by
 obtain⟨f,oc,od,an,sl,kV,dc,pm,cd,ct,a,l,c,k⟩:=D.ex;have F:=vb l c k;exact⟨f,_,F,Il X G a,F.binds hb⟩
theorem cw.G3 {fa:Addr} {p:Str} (D:cw K x st) (X:K.In h) (G:h.Ns mainGlobals mg) (hfa:mg x=some (.ref fa))
  (hb:∀(kV doc pm:Value) (an:Option Addr) (cdv ct:Value) (v:Value),bindArgs (PySem.W.fnOf x x (dD st) (bh st) (ar st) .none kV doc pm an cdv ct) ⟨[v],[]⟩=pure [(p,v)]) :
  ∃fd,oo K x x st fa fd/\∀(s:Shared) (v:Value),BindsTo s fd ⟨[v],[]⟩ [(p,v)]:=by
 obtain⟨f,oc,od,an,sl,kV,dc,pm,cd,ct,a,l,c,k⟩:=D.ex;have e:=hfa.symm.trans (Il X G a);cases e;exact⟨_,vb l c k,λs v=>.of_eq (hb kV dc pm an cd ct v)⟩
end
theorem G0 {P:List Value->Prop} (h:P []) (us:List Value) (hu:us.length=0):P us:=by
 cases us with
 | nil=>exact h
 | cons a l=>simp at hu
theorem wq {P:List Value->Prop} (h:∀a,P [a]) (us:List Value) (hu:us.length=1):P us:=by
 cases us with
 | nil=>simp at hu
 | cons a l=>exact G0 (P:=λl=>P (a :: l)) (h a) l (by simpa using hu)
theorem Ag {P:List Value->Prop} (h:∀a b,P [a,b]) (us:List Value) (hu:us.length=2):P us:=by
 cases us with
 | nil=>simp at hu
 | cons a l=>exact wq (P:=λl=>P (a :: l)) (h a) l (by simpa using hu)
theorem GO {P:List Value->Prop} (h:∀a b c,P [a,b,c]) (us:List Value) (hu:us.length=3):P us:=by
 cases us with
 | nil=>simp at hu
 | cons a l=>exact Ag (P:=λl=>P (a :: l)) (h a) l (by simpa using hu)
structure Df (K:Ha) (mg:Str->Option Value) (x:Str) (st:Stmt) (ps:List Str):Prop where
 ex:∃fa fd,oo K x x st fa fd/\mg x=some (.ref fa)/\Binds K fd ps []
section
variable {P:Program} {w:World} {K:Ha} {mg:Str->Option Value} {base:Heap} {x:Str} {st:Stmt} {N ps:List Str} {k:Nat} {f:Fw} {fx:xu} {i:Int}
theorem Df.known (F:Df K mg x st ps) (S:aG N ps (ar st)) (hl:∀ds Q,f ds Q->ds.length=ps.length)
  (hbody:∀(fa:Addr) (cdv:Value) (A:Around) (outer:List Env) (s:Shared) (H:Hp) (E:XK),cI k (A.deeper (envOfC x (ar st) s.heap.objs.size fa cdv)) ->
   ∃t,mB (gM tM P w K mg base N x (ar st) fa cdv A outer s H E).pq (bh st) t/\∀ds (Q:D->Prop),f ds Q->t { nx:=λ_=>Q .non,rt:=Q } (aE N ds)):Known P w K mg base (k + 1) x f :=
 let ⟨fa,_,F,m,b⟩:=F.ex;oo.known F S m b hl (hbody fa)
theorem Df.t7 (F:Df K mg x st ps) (S:aG N ps (ar st)) (hl:∀ds Q,f ds Q->ds.length=ps.length)
  (hbody:∀(fa:Addr) (cdv:Value) (A:Around) (outer:List Env) (s:Shared) (H:Hp) (E:XK),fH k (A.deeper (envOfC x (ar st) s.heap.objs.size fa cdv)) ->
   ∃t,mB (DN P w K mg base N x (ar st) fa cdv A outer s H E) (bh st) t/\∀ds (Q:D->Prop),f ds Q->t { nx:=λ_=>Q .non,rt:=Q } (aE N ds)):nY P w K mg base (k + 1) x f :=
 let ⟨fa,_,F,m,b⟩:=F.ex;oo.t7 F S m b hl (hbody fa)
theorem Df.uu (F:Df K mg x st ps) (S:aG N ps (ar st)) (hl:∀ds Q R,fx ds Q R->ds.length=ps.length)
  (hbody:∀(fa:Addr) (cdv:Value) (A:Around) (outer:List Env) (s:Shared) (H:Hp) (E:XK),cI k (A.deeper (envOfC x (ar st) s.heap.objs.size fa cdv)) ->
   ∃t,DH (gM (BC P w) P w K mg base N x (ar st) fa cdv A outer s H E) (bh st) t/\∀ds (Q:D->Prop) (R:Str->Prop),fx ds Q R->t { nx:=λ_=>Q .non,rt:=Q,xc:=R } (aE N ds)):gG P w K mg base (k + 1) x fx :=
 let ⟨fa,_,F,m,b⟩:=F.ex;oo.uu F S m b hl (hbody fa)
end
open PySem PySem.Spec PyProof.Rows PySem.W
theorem rd {a b:Int} {t u:Tok} {c:Value}:∀(l:List Value),TriplesOk l->TriplesOk (l ++ [.int a t,.int b u,c]):=by
 intro l
 fun_induction TriplesOk l with
 | case1=>intro _;trivial
 | case2 i t j u c rest ih=>intro h;exact ih h
 | case3 l h1 h2=>intro h;exact h.elim
theorem t5 {pos:Pos} {a b:Int} {t u:Tok} {c cv:Value}:∀(l:List Value),TriplesOk l->codeAmong pos (l ++ [.int a t,.int b u,c])=some cv->codeAmong pos l=some cv\/cv=c:=by
 intro l
 fun_induction TriplesOk l with
 | case1 =>
  intro _ h;simp only [List.nil_append,codeAmong] at h
  split at h
  ·cases h;exact .inr rfl
  ·cases h
 | case2 i t j u c rest ih =>
  intro h z;simp only [List.cons_append,codeAmong] at z ⊢
  split at z
  ·rename_i q;rw [if_pos q];exact .inl z
  ·rename_i q;rw [if_neg q];exact ih h z
 | case3 l h1 h2=>intro h;exact h.elim
def kd (oc:Obj) (q:Str):Prop:=∃vs t,oc.data=.fields vs/\vs[1]?=some (.str q t)
theorem kd.rec {h:Heap} {c:Addr} {oc:Obj} {q:Str} (x:kd oc q) (e:h.get? c=some oc):h.CodeRec (.ref c) q:=let ⟨vs,t,d,v⟩:=x;⟨c,oc,vs,t,rfl,e,d,v⟩
section
variable {X:Cx} {pins:List (Addr×Obj)} {σ:St} {H:Hp} {s:Shared} {c P:Addr} {qual:Str}
def Made (H:Hp) (q:Str) (f c':Addr) (oc fo:Obj) (H':Hp):Prop:=H f=none/\H' f=some (.frz fo (.cdr c' q))/\H' c'=some (.frz oc (.own c'))/\kd oc q/\aq H H'
theorem _root_.L2.Inv.Ek (I:Inv X pins σ H s) (hP:H P=some (.pL qual)) {ps:Array Value} (hps:s.heap.get? P=some (tabObj ps)) (htr:TriplesOk ps.toList) (hcs:∀pos cv,codeAmong pos ps.toList=some cv->∃c oc vs t,cv=.ref c/\H c=some (.frz oc (.own c))/\oc.data=.fields vs/\vs[1]?=some (.str qual t))
  {a b:Int} {t u:Tok} {c':Addr} {h':Heap} {fo:Obj} {tk:Nat} (hx:Heap.ExtBut P s.heap h') (hge:s.heap.objs.size<=c') (hlt:c' < h'.objs.size) (hrec:h'.CodeRec (.ref c') qual) (htb:h'.get? P=some (tabObj (ps ++ #[.int a t,.int b u,.ref c'])))
  (hfo:Obj.isFreed fo=false) :
  ∃oc H',Made H qual h'.objs.size c' oc fo H'/\Inv X pins σ H' { s with heap:=h'.push fo,toks:=tk }:=by
 obtain⟨c2,oc,vs,tt,e2,hoc,hd,hv⟩:=hrec;cases e2;have sz:s.heap.objs.size<=h'.objs.size:=HX hge (Iv hlt);have nc:H c'=none:=I.hok.fresh hge;have nf:H h'.objs.size=none:=I.hok.fresh sz;have fc:h'.objs.size≠c':=Nat.ne_of_gt hlt
 let H1:Hp:=upd H c' (.frz oc (.own c'))
 have nf1:H1 h'.objs.size=none:=by show upd H c' _ _=none;rw [aj fc];exact nf
 let H2:Hp:=upd H1 h'.objs.size (.frz fo (.cdr c' qual))
 have s1:aq H H1:=aY nc;have s2:aq H1 H2:=aY nf1;have s12:=s1.trans s2;have hcP:c'≠P:=λz=>by rw [z] at nc;rw [nc] at hP;cases hP
 have hfP:h'.objs.size≠P:=λz=>by rw [z] at nf;rw [nf] at hP;cases hP
 have nP:∀x,H x=none->x≠P:=λx z w=>by rw [w,hP] at z;cases z
 have keep:∀x o,x≠P->s.heap.get? x=some o->(h'.push fo).get? x=some o:=λx o n e=>Hf _ (hx x o n e);have gP:(h'.push fo).get? P=some (tabObj (ps ++ #[.int a t,.int b u,.ref c'])):=Hf _ htb;have gc:(h'.push fo).get? c'=some oc:=Hf _ hoc;have gf:(h'.push fo).get? h'.objs.size=some fo:=Hs _ hfo;have other:∀x,x≠c'->x≠h'.objs.size->H2 x=H x:=λx n1 n2=>by show upd H1 _ _ _=_;rw [aj n2];show upd H _ _ _=_;rw [aj n1]
 refine⟨oc,H2,⟨nf,ao,s2 _ _ ao,⟨vs,tt,hd,hv⟩,s12⟩,I.un (t':=tk) ⟨λx o e n _ _=>keep x o (nP x n) e,λx o e n _ _=>⟨o.slots,keep x o (nP x n) e⟩,λx o e n _=>?_,λx o e _=>?_,λx xs q=>s12 _ _ q,λx o xs q=>s12 _ _ q,λx q e=>s12 _ _ e⟩ λx o e=>?_⟩
 ·have hl:=Ho e;rw [other x (HC (Hk hl hge)) (HC (Hk hl sz))];exact n
 ·by_cases z:x=P
  ·exact⟨_,by rw [z];exact gP⟩
  ·exact⟨o,keep x o z e⟩
 ·by_cases z1:x=h'.objs.size
  ·subst z1;have e':some (HO.frz fo (.cdr c' qual))=some o:=ao.symm.trans e;cases e';exact⟨gf,⟨fo,gf⟩,oc,vs,tt,s2 _ _ ao,hd,hv⟩
  ·by_cases z2:x=c'
   ·subst z2;have e':some (HO.frz oc (.own x))=some o:=(s2 _ _ ao).symm.trans e;cases e';exact⟨gc,oc,gc⟩
   ·rw [other x z2 z1] at e
    by_cases z:x=P
    ·subst z;rw [hP] at e;cases e;refine⟨_,gP,?_,λpos cv hc=>?_⟩
     ·have:=rd (a:=a) (b:=b) (t:=t) (u:=u) (c:=.ref c') ps.toList htr
      simpa using this
     ·have hc':codeAmong pos (ps.toList ++ [.int a t,.int b u,.ref c'])=some cv:=by simpa using hc
      rcases t5 ps.toList htr hc' with q|q
      ·obtain⟨c,oc',vs',t',e1,e3,e4⟩:=hcs pos cv q;exact⟨c,oc',vs',t',e1,s12 _ _ e3,e4⟩
      ·exact⟨c',oc,vs,tt,q,s2 _ _ ao,hd,hv⟩
    ·refine (I.hok x o e).mn (λy v hy q=>keep y v (λw=>?_) q) (λy q=>s12 _ _ q) (λy xs q=>s12 _ _ q) λy o' xs q=>s12 _ _ q;rcases hy with w'|w'
     ·exact z (w'.symm.trans w)
     ·rw [w,hP] at w';cases w'
theorem _root_.L2.Inv.Fm (I:Inv X pins σ H s) {c':Addr} {oc fo:Obj} {h':Heap} {tk:Nat} (hc:H c'=some (.frz oc (.own c'))) (hq:kd oc qual) (hk:∀b o,s.heap.get? b=some o->h'.get? b=some o) (sz:s.heap.objs.size<=h'.objs.size) (hfo:Obj.isFreed fo=false) :
  ∃H',Made H qual h'.objs.size c' oc fo H'/\Inv X pins σ H' { s with heap:=h'.push fo,toks:=tk }:=by
 have nf:H h'.objs.size=none:=I.hok.fresh sz;have gf:(h'.push fo).get? h'.objs.size=some fo:=Hs _ hfo;obtain⟨vs,tt,hd,hv⟩:=hq;exact⟨_,⟨nf,ao,aY nf _ _ hc,⟨vs,tt,hd,hv⟩,aY nf⟩,I.laid (a:=h'.objs.size) (o:=.frz fo (.cdr c' qual)) (t':=tk) (λb u e=>Hf _ (hk b u e)) sz ⟨gf,⟨fo,gf⟩,oc,vs,tt,aY nf _ _ hc,hd,hv⟩⟩
theorem yT {E:Value->Shared->Prop} {Q:Value->Shared->Prop} {M:Model} {A:Around} {name:Str} {params:Arguments} {body:Expr} {scope:Scope} {pos:Pos} {line:Nat} {bS:List (Str×Addr)} (I:Inv X pins σ H s) (hcode:X.env.code=.ref c) (C:CodeHd X.base c P) (hq:tq X.K P=some qual)
  (hcl:closureFor scope X.env=pure bS)
  (h:∀f c' pm ctv oc H' s',Made H qual f c' oc (kla_obj name qual params body scope bS pm c' ctv) H'->Inv X pins σ H' s'->Q (.ref f) s') :
  wpAny M A (makeFunction name qual params (.expr body) scope X.env [] [] [] pos line) Q E s:=by
 have hP:=I.tb P qual hq;obtain⟨ps,hps,htr,hcs⟩:=I.hok P _ hP;obtain⟨bm,ob,b1,b2,b3,b4,b5,b6⟩:=I.mod.bm;have hg:=I.mod.glob.keeps I.bk
 have hgP:mainGlobals≠P:=λz=>by
  obtain⟨o,es,ep,e,hd,_⟩:=I.mod.glob;have n:=(I.bs _ _ e).2;rw [z,hP] at n;cases n
 have hbP:bm≠P:=λz=>by
  have n:=(I.bs _ _ b3).2;rw [z,hP] at n;cases n
 have hbG:bm≠mainGlobals:=λz=>by
  obtain⟨o,es,ep,e,hd,_⟩:=I.mod.glob;rw [z,e] at b3;cases b3;rw [hd] at b6;cases b6
 have hB:s.heap.BuiltinsAt X.mg P:=⟨bm,ob,b1,b2,hbG,hbP,I.bk _ _ b3,b4,b5,b6⟩
 cases ha:codeAmong pos ps.toList with
 | none =>
  refine kla_makeFunction hcl I.ok.glob hg hcode (C.keeps I.bk) hps htr ha hgP hB λc' ctv h' tk hx hge hlt hrec htb=>?_;obtain⟨oc,H',m,I'⟩:=I.Ek (fo:=kla_obj name qual params body scope bS ((X.mg "__name__").getD .none) c' ctv) (tk:=tk) hP hps htr hcs hx hge hlt hrec htb rfl
  exact h _ c' _ ctv oc H' _ m I'
 | some cv =>
  obtain⟨c',oc,vs,t,rfl,hc,hd,hv⟩:=hcs pos cv ha;refine kla_makeFunctionHit hcl I.ok.glob hg hcode (C.keeps I.bk) hps htr ha hB λctv h' tk hk hsz=>?_;obtain⟨H',m,I'⟩:=I.Fm (fo:=kla_obj name qual params body scope bS ((X.mg "__name__").getD .none) c' ctv) (tk:=tk) hc ⟨vs,t,hd,hv⟩ hk hsz rfl
  exact h _ c' _ ctv oc H' _ m I'
end
structure kG (P:Program) (w:World) (K:Frag) (mg:Str->Option Value) (base:Heap) (k:Nat) (Pf:Frag->Hp->Addr->Prop) (φ:Fw):Prop where
 here:∀(H:Hp) (h:Heap) (a:Addr),Pf K H a->kA P w H h->FnAt a h
 run:∀(F:Hp) (a:Addr) (A:Around) (outer:List Env) (s:Shared) (H:Hp) (us:List Value) (vs:List V) (ds:List D) (Pd:D->Prop) (Q:VK) (E:XK),(∀G,aq F G->Pf K G a)->cI k A->qJ P w K mg base A outer s H->aq F H->ak K F ds vs->Vals vs us->φ ds Pd ->
  (∀(d:D) (v:V) (F' H':Hp),aq F F'->aq H H'->aq F' H'->(∀p,H p≠none->F p=none->F' p=none)->Den K F' d v->Pd d->Q v H') ->
  codeAny (model P w) A (.call (.ref a) ⟨us,[]⟩) (CR tM outer P w H s Q E) s
def tR (i:Nat) (Pf:Frag->Hp->Addr->Prop) (φ:Fw) (ts:eD):TD:=λenv Q=>env[i]?=some (some (.d (.obj Pf)))/\ts env λds=>φ ds Q
section
variable {X:Cx} {e:Expr} {es:List Expr} {ts:eD} {p pos:Pos} {x:Str} {k:Nat} {φ:Fw} {Pf:Frag->Hp->Addr->Prop}
theorem Am (i:Nat) (h:kG X.prog X.w X.K X.mg X.base k Pf φ) (hr:cI k X.A) (ha:QA X (e :: es) ts) (hN:X.N[i]?=some x:=by rfl) (hv:qF X.env.scope x:=by first | exact Or.inl rfl | exact Or.inr (Or.inl rfl) | exact Or.inr (Or.inr rfl)) (hd:(x == ("__debug__" : Str))=false:=by decide)
  (hcd:(x == ("__classdict__" : Str))=false:=by decide)
  (he:starEach (e :: es) X.env=(false,eval e X.env) :: starEach es X.env:=by exact aJ rfl) (hpl:(backTo pos (starEach es X.env)).any (·.1)=false:=by rfl):QE X (.Call (.Name x p) (e :: es) [] pos) (tR i Pf φ ts):=by
 refine⟨λB σ F H env Q rp hq pins s I=>?_⟩;obtain⟨hi,hq⟩:=hq;obtain⟨v,hv',hdn⟩:=rp.dv i _ hi;simp only [Den] at hdn;obtain⟨a,rfl,hP⟩:=hdn;refine wpAny_Call_Name_kw (bK (cF (pos:=p) hN hv hd hcd pins s σ H (λv H'=>v=.ref a/\H'=H) I ⟨.ref a,hv',rfl,rfl⟩) λu s1 hq0=>?_);obtain⟨v,H1,I1,r,ev,eH⟩:=hq0;subst ev;subst eH;obtain rfl:u=Value.ref a:=r;refine callWith_F (first:=[]) (h.here H1 _ a (hP H1 rp.fh) I1.hok) (bK (ha B σ F H1 env _ rp hq pos pins s1 I1) λus s2 hq1=>?_) he hpl
 obtain⟨vs,H2,I2,rv,F2,ds,r2,s2',d2,hf⟩:=hq1;have hP2:∀G,aq F2 G->Pf X.K G a:=λG sG=>hP G (s2'.trans sG);refine⟨h.here H2 _ a (hP2 H2 r2.fh) I2.hok,?_⟩;refine wpAny_call (codeAny_mono (h.run F2 a X.A X.stack s2 H2 us vs ds Q (RV X B σ env F Q) E0 hP2 hr I2.eU r2.fh d2 rv hf λd v F' H' a b c n hd q=>⟨F',d,r2.ext a c b n,s2'.trans a,hd,q⟩) λr s' hq=>?_)
 cases r with
 | error e=>exact False.elim hq
 | ok fl =>
  cases fl with
  | ret u=>exact I2.after hq
  | next=>exact False.elim hq
  | brk=>exact False.elim hq
  | cont=>exact False.elim hq
end
structure FN (h:Heap) (bS:List (Str×Addr)) (cn:List Str) (ws:List V):Prop where
 len:ws.length=cn.length
 inj:∀x y c,bS.lookup x=some c->bS.lookup y=some c->x=y
 cell:∀x c,bS.lookup x=some c->∃v,h.IsCell c v
 has:∀(i:Nat) x v,cn[i]?=some x->ws[i]?=some v->∃u c,RelV v u/\bS.lookup x=some c/\h.IsCell c (some u)
structure FC (scope:Scope) (ps cn:List Str):Prop where
 kind:scope.kind=.function
 co:scope.isCoroutine=false
 gen:scope.isGenerator=false
 cell:∀y∈scope.names,y.2≠.cell
 fr:∀y∈scope.names,y.2=.free->y.1∈cn
 par:∀x∈ps,scope.names.lookup x=some .local
 cap:∀x∈cn,scope.names.lookup x=some .free
 nd:(ps ++ cn).Nodup
theorem G2 {scope:Scope} {ps cn:List Str} (a:scope.kind=.function:=by rfl) (b:scope.isCoroutine=false:=by rfl) (c:scope.isGenerator=false:=by rfl) (d:∀y∈scope.names,y.2≠.cell:=by decide +kernel) (e:∀y∈scope.names,y.2=.free->y.1∈cn:=by decide +kernel)
  (f:∀x∈ps,scope.names.lookup x=some .local:=by decide +kernel) (g:∀x∈cn,scope.names.lookup x=some .free:=by decide +kernel) (h:(ps ++ cn).Nodup:=by decide +kernel):FC scope ps cn:=⟨a,b,c,d,e,f,g,h⟩
abbrev FA (P:Program) (w:World) (K:Frag) (mg:Str->Option Value) (base:Heap) (N:List Str) (qual:Str) (scope:Scope) (f c':Addr) (bS:List (Str×Addr)) (A:Around) (outer:List Env) (s:Shared) (H:Hp):Cx where
 prog:=P
 w:=w
 K:=K
 mg:=mg
 base:=base
 A:=A.deeper (envX qual scope s.heap.objs.size f (.ref c') bS)
 N:=N
 s₀:=s
 H₀:=H
 env:=envX qual scope s.heap.objs.size f (.ref c') bS
 outer:=outer
 stack:=envX qual scope s.heap.objs.size f (.ref c') bS :: outer
 ex:=[]
 calm:=true
 fn:=λ_=>false
 pn:=[]
 xe:=λ_ _=>False
theorem gN:∀{ps:List Str} {us:List Value} {x:Str} {u:Value} {i:Nat},ps.Nodup->ps[i]?=some x->us[i]?=some u->(ps.zip us).reverse.lookup x=some u
 | [],_,_,_,_,_,h,_=>by simp at h
 | _ :: _,[],_,_,_,_,_,h=>by simp at h
 | y :: ps,v :: us,x,u,i,nd,h1,h2=>by
  rw [List.zip_cons_cons,List.reverse_cons,List.lookup_append]
  cases i with
  | zero =>
   simp at h1 h2;subst h1;subst h2
   have:(ps.zip us).reverse.lookup y=none:=by
    rw [List.lookup_eq_none_iff];intro p hp;rw [List.mem_reverse] at hp;obtain⟨a,b⟩:=p;have hm:=(List.of_mem_zip hp).1;simp only [bne_iff_ne,beq_eq_false_iff_ne,ne_eq];exact λw=>(HS.mp nd).1 (by rw [w];exact hm)
   rw [this]
   simp [List.lookup]
  | succ i =>
   rw [gN (i:=i) (HS.mp nd).2 (by simpa using h1) (by simpa using h2)];rfl
section
variable {P:Program} {w:World} {K:Frag} {mg:Str->Option Value} {base:Heap} {qual:Str} {params:Arguments} {scope:Scope} {bS:List (Str×Addr)} {ps cn:List Str} {ws:List V} {caps:List D} {k:Nat} {A:Around} {outer:List Env} {s:Shared} {H:Hp}
theorem uj {f c':Addr} {us:List Value} {vs:List V} {h1:Heap} {tk:Nat} (S:FC scope ps cn) (CL:FN base bS cn ws) (hfr:∀x c,bS.lookup x=some c->x∈cn) (hd:A.handled=none) (e0:qJ P w K mg base A outer s H) (hl:vs.length=ps.length) (r:Vals vs us)
  (hns:h1.Ns s.heap.objs.size λx=>(ps.zip us).reverse.lookup x) (hk1:∀b o,s.heap.get? b=some o->h1.get? b=some o) :
  Inv (FA P w K mg base (ps ++ cn) qual scope f c' bS A outer s H) [] (start (ps ++ cn) (vs ++ ws)) H { s with heap:=h1,toks:=tk }:=by
 have noA:∀b:Addr,b∉(FA P w K mg base (ps ++ cn) qual scope f c' bS A outer s H).ex:=λb z=>absurd (show b∈([]:List Addr) from z) (by simp);have cellB:∀c v,base.IsCell c v->h1.IsCell c v/\H c=none:=λc v ⟨o,ho,hd⟩=>⟨⟨o,hk1 _ _ (e0.bs c o ho).1,hd⟩,(e0.bs c o ho).2⟩
 have stE:start (ps ++ cn) (vs ++ ws)=(vs ++ ws).map some:=by
  unfold start;rw [show (ps ++ cn).length - (vs ++ ws).length=0 by rw [HH,HH,hl,CL.len];omega];simp
 refine⟨⟨e0.mod,S.kind,rfl,rfl,Hl _,λy z c h1 h2=>CL.inj y z c h1 h2,λy hy=>?_,λy c z _=>(by cases z),λ_=>hd,Around.frames_deeper e0.frames,.inr ⟨rfl,rfl⟩,λb z=>absurd z (noA b),e0.bs,e0.bsz,λb _ _=>noA b,λb z=>absurd z (noA b),e0.iT,e0.frf⟩,
  rfl,e0.bare,Un.kept hk1,⟨_,hns,λi y v h1 h2 h3=>?_⟩,λy c h=>?_,e0.hok.fresh (Hl _),λy c h=>?_,λp hp=>absurd (show p∈([]:List (Addr×Obj)) from hp) (by simp),e0.hok.kept hk1,?_⟩
 ·have hy:scope.names.lookup y=some .cell\/scope.names.lookup y=some .free:=hy;rcases hy with hy|hy
  ·exact absurd rfl (S.cell _ (PySem.mem_of_lookup hy))
  ·have hm:=S.fr _ (PySem.mem_of_lookup hy) rfl;obtain⟨i,hi⟩:=List.mem_iff_getElem?.mp hm;have hlt:i < ws.length:=by rw [CL.len];exact (G7.mp hi).1
   obtain⟨u,c,_,e,_⟩:=CL.has i _ _ hi (Hb hlt);exact⟨c,e⟩
 ·rw [stE,Hi] at h2
  have ha:(vs ++ ws)[i]?=some v:=by
   cases e:(vs ++ ws)[i]? with
   | none=>rw [e] at h2;cases h2
   | some a=>rw [e] at h2;cases h2;rfl
  have h1':(ps ++ cn)[i]?=some y:=h1
  by_cases hi:i < ps.length
  ·rw [Hw hi] at h1';rw [Hw (by omega)] at ha;obtain⟨u,hu,rv⟩:=r.get ha;refine⟨u,rv,.inl ⟨S.par y (Hm h1'),?_⟩⟩;exact gN (S.nd.sublist (List.sublist_append_left _ _)) h1' hu
  ·rw [Hu (by omega)] at h1';rw [Hu (by omega)] at ha;rw [hl] at ha;obtain⟨u,c,rv,e,z⟩:=CL.has _ _ _ h1' ha;exact⟨u,rv,.inr ⟨.inr (S.cap y (Hm h1')),c,e,(cellB c _ z).1⟩⟩
 ·obtain⟨v,z⟩:=CL.cell y c h;exact⟨v,(cellB c v z).1⟩
 ·obtain⟨v,z⟩:=CL.cell y c h;exact (cellB c v z).2
 ·rw [stE,Hh,HH,hl,CL.len,<- HH]
def C6 (qual:Str) (params:Arguments) (body:Expr) (scope:Scope) (bS:List (Str×Addr)) (caps:List D) (ws:List V):Frag->Hp->Addr->Prop:=λK G a=>(∃c' pm ctv,G a=some (.frz (kla_obj "<lambda>" qual params body scope bS pm c' ctv) (.cdr c' qual)))/\ak K G caps ws
theorem zh {body:Expr} {t:TD} (S:FC scope ps cn) (CL:FN base bS cn ws) (hfr:∀x c,bS.lookup x=some c->x∈cn)
  (hb:∀pm c' ctv (us:List Value),us.length=ps.length->bindArgs (kla_fn "<lambda>" qual params body scope bS pm (.ref c') ctv) ⟨us,[]⟩=pure (ps.zip us))
  (hbody:∀(f c':Addr) (A:Around) (outer:List Env) (s:Shared) (H:Hp),cI k (A.deeper (envX qual scope s.heap.objs.size f (.ref c') bS))->QE (FA P w K mg base (ps ++ cn) qual scope f c' bS A outer s H) body t) :
  kG P w K mg base (k + 1) (C6 qual params body scope bS caps ws) λds Q=>ds.length=ps.length/\t (aE (ps ++ cn) (ds ++ caps)) Q:=by
 refine⟨λH h a hP hok=>?_,λF a A outer s H us vs ds Pd Q E hP hr e0 fh hd r hf kk=>?_⟩
 ·obtain⟨⟨c',pm,ctv,e1⟩,_⟩:=hP;obtain⟨e,_⟩:=hok a _ e1;exact⟨_,_,_,_,e⟩
 ·obtain⟨⟨c',pm,ctv,e1⟩,hcap⟩:=hP F (aq.refl _);obtain⟨ho,_,oc,vs',tt,e2,hd',hv'⟩:=e0.hok a _ (fh _ _ e1);obtain⟨hoc,_⟩:=e0.hok c' _ e2;have hq:kd oc qual:=⟨vs',tt,hd',hv'⟩;obtain⟨hl,hf⟩:=hf;have lu:us.length=ps.length:=by rw [<- r.length,<- hd.length];exact hl
  refine kla_callFunE hr.depth ho rfl S.co S.gen rfl (hq.rec hoc) ?_;rw [hb pm c' ctv us lu];have lim:s.heap.NoLimit:=e0.mod.nolimit.keeps λb o e=>(e0.bs b o e).1;refine Hd (wpAny_newFunctionEnv S.cell (λy hy=>S.par _ (List.of_mem_zip hy).1) (λh1 hns hsb=>?_) S.kind);have hk1:∀b o,s.heap.get? b=some o->h1.get? b=some o:=λb o e=>hsb.extBut b o (HC (Ho e)) (Hf _ e);refine⟨lim.keeps hk1,?_⟩;show codeAny _ _ (.expr body (envX qual scope s.heap.objs.size a (.ref c') bS)) _ _
  have I:=uj (qual:=qual) (f:=a) (c':=c') (tk:=s.toks + (ps.zip us).length) S CL hfr hr.hd e0 (by rw [<- hd.length];exact hl) r hns hk1;have hw:=hbody a c' A outer s H (hr.deeper _);have core:=hw _ _ F H _ Pd (fg (N:=ps ++ cn) fh (hd.append hcap)) hf [] _ I;refine kla_codeExpr (HE core (λu s' hq0=>?_) λe s' z=>False.elim z);obtain⟨v,H',J,rv,F',d,rp,sF,dd,q⟩:=hq0;exact⟨v,H',J.os,J.bare,J.base,J.hok,rv,kk d v F' H' rp.f0 rp.h0 rp.fh (λp h1 h2=>rp.nf p ⟨h1,h2⟩) dd q⟩
end
def wg (env:En):List Nat->Option (List D)
 | []=>some []
 | i :: r=>match env[i]? with
  | some (some (.d x))=>(wg env r).map (x :: ·)
  | _=>none
theorem tI {K:Frag} {B:Base} {F H:Hp} {σ:St} {env:En} (rp:Rep K B F H σ env):∀{ix:List Nat} {caps:List D},wg env ix=some caps->∃ws:List V,ws.length=ix.length/\ak K F caps ws/\∀(j i:Nat) w,ix[j]?=some i->ws[j]?=some w->σ[i]?=some (some w)
 | [],caps,h=>by cases h;exact⟨[],rfl,aI,λj i w z=>by simp at z⟩
 | i :: r,caps,h=>by
  unfold wg at h
  split at h
  ·rename_i x hx
   cases e:wg env r with
   | none=>rw [e] at h;cases h
   | some cs =>
    rw [e] at h;cases h;obtain⟨ws,l,d,f⟩:=tI rp e;obtain⟨v,hv,dv⟩:=rp.dv i x hx;refine⟨v :: ws,by simp [l],aH dv d,λj i' w z1 z2=>?_⟩
    cases j with
    | zero=>simp at z1 z2;subst z1;subst z2;exact hv
    | succ j=>exact f j i' w (by simpa using z1) (by simpa using z2)
  ·cases h
def cellAt (env:Env) (x:Str):Addr:=(env.cells.lookup x).getD 0
def cA (env:Env) (cn:List Str):List (Str×Addr):=cn.map λx=>(x,cellAt env x)
theorem eG {env:Env} {x:Str} {c:Addr}:∀{cn:List Str},(cA env cn).lookup x=some c->x∈cn/\c=cellAt env x
 | [],h=>by cases h
 | y :: cn,h=>by
  have h':((y,cellAt env y) :: cA env cn).lookup x=some c:=h;rw [List.lookup_cons] at h'
  cases e:x == y with
  | true =>
   rw [e] at h';cases h';have:=eq_of_beq e;subst this
   exact⟨Hy,rfl⟩
  | false =>
   rw [e] at h';obtain⟨a,b⟩:=eG (cn:=cn) h';exact⟨Hq _ a,b⟩
theorem pB {env:Env} {x:Str}:∀{cn:List Str},x∈cn->(cA env cn).lookup x=some (cellAt env x)
 | y :: cn,h=>by
  show ((y,cellAt env y) :: cA env cn).lookup x=_
  rw [List.lookup_cons]
  cases e:x == y with
  | true=>have:=eq_of_beq e;subst this;rfl
  | false =>
   rcases Hx.mp h with z|z
   ·subst z;simp at e
   ·exact pB z
def resT (h:Heap) (p:Addr->Bool):Heap:=hideAll h ((List.range h.objs.size).filter λb=>!p b)
theorem vC {h:Heap} {p:Addr->Bool} {b:Addr} {o:Obj} (e:h.get? b=some o) (hp:p b=true):(resT h p).get? b=some o:=hideAll_get _ e (by simp [hp])
theorem yV {h:Heap} {p:Addr->Bool} {b:Addr} {o:Obj} (e:(resT h p).get? b=some o):h.get? b=some o/\p b=true:=by
 have e1:h.get? b=some o:=of_hideAll _ e;refine⟨e1,?_⟩
 cases q:p b with
 | true=>rfl
 | false =>
  have hm:b∈(List.range h.objs.size).filter λb=>!p b:=List.mem_filter.mpr ⟨Ig.mpr (Ho e1),by simp [q]⟩;have z:(resT h p).get? b=none:=hideAll_none _ hm;rw [z] at e;cases e
def nE (base h:Heap) (bS:List (Str×Addr)):Heap:=resT h λb=>(base.get? b).isSome || (bS.map (·.2)).contains b
section
variable {X:Cx} {pins:List (Addr×Obj)} {σ:St} {H:Hp} {s:Shared} {cn:List Str}
theorem tD {env:Env} {b:Addr} (h:((cA env cn).map (·.2)).contains b=true):∃x∈cn,b=cellAt env x:=by
 rw [List.contains_iff_mem] at h;obtain⟨p,hp,rfl⟩:=HG.mp h;obtain⟨x,hx,rfl⟩:=HG.mp hp;exact⟨x,hx,rfl⟩
theorem iL (I:Inv X pins σ H s) (hck:∀x∈cn,X.env.kindOf x=some .cell) {x:Str} (hx:x∈cn):X.env.cells.lookup x=some (cellAt X.env x):=by
 obtain⟨c,e⟩:=I.ok.has x (.inl (hck x hx));unfold cellAt;rw [e];rfl
theorem _root_.L2.Inv.FP (I:Inv X pins σ H s) (hck:∀x∈cn,X.env.kindOf x=some .cell) (hfn:∀x∈cn,X.fn x=true):qJ X.prog X.w X.K X.mg (nE X.base s.heap (cA X.env cn)) X.A X.stack s H:=by
 have keep:∀b o,X.base.get? b=some o->(nE X.base s.heap (cA X.env cn)).get? b=some o:=λb o e=>vC (I.bk b o e) (by simp [e]);refine⟨I.ok.frames,⟨I.mod.kin.keeps keep,I.mod.glob.keeps keep,let ⟨mb,h1,h2⟩:=I.mod.blt;⟨mb,h1.keeps keep,h2⟩,I.mod.nolimit.keeps keep,let ⟨bm,ob,b1,b2,b3,b4⟩:=I.mod.bm;⟨bm,ob,b1,b2,keep _ _ b3,b4⟩⟩,λb o e=>?_,Nat.le_of_eq (hideAll_size _ _),?_,⟨I.mG,I.tb⟩,I.hok,I.bare⟩
 ·obtain⟨e1,hp⟩:=yV e;refine⟨e1,?_⟩;rcases Bool.or_eq_true_iff.mp hp with z|z
  ·obtain⟨o',e'⟩:=Option.isSome_iff_exists.mp z;exact (I.bs b o' e').2
  ·obtain⟨x,hx,rfl⟩:=tD z;exact I.freeC x _ (iL I hck hx)
 ·have no:∀L∈jx X.stack,X.base.get? L=none->(nE X.base s.heap (cA X.env cn)).get? L=none:=λL hL hn=>by
   cases e:(nE X.base s.heap (cA X.env cn)).get? L with
   | none=>rfl
   | some o =>
    obtain⟨e1,hp⟩:=yV e;rcases Bool.or_eq_true_iff.mp hp with z|z
    ·rw [hn] at z;cases z
    ·obtain⟨x,hx,rfl⟩:=tD z;have lk:=iL I hck hx;rcases Hx.mp (I.kU _ hL) with w|w
     ·exact absurd w (I.zZ x _ lk)
     ·obtain⟨_,o',ho',_⟩:=I.ok.iT.mem w;exact absurd (Hk (Ho ho') (I.ok.cab x _ (hfn x hx) lk)) (Nat.lt_irrefl _)
  have all:∀(l:List Env),(∀b∈jx l,b∈jx X.stack)->s.heap.FunFrames X.base l->s.heap.FunFrames (nE X.base s.heap (cA X.env cn)) l:=by
   intro l
   induction l with
   | nil=>intro _ _;trivial
   | cons env r ih =>
    intro hs hl;obtain⟨hk,⟨L,o,hf,hn,ho,hd⟩,hr⟩:=hl;have hL:L∈jx X.stack:=hs L (by unfold jx;rw [List.filterMap_cons,hf];exact Hy);exact⟨hk,⟨L,o,hf,no L hL hn,ho,hd⟩,ih (λb hb=>hs b (by unfold jx;rw [List.filterMap_cons,hf];exact Hq _ hb)) hr⟩
  exact all X.stack (λ_ h=>h) I.stack
theorem _root_.L2.Inv.Gr (I:Inv X pins σ H s) (hck:∀x∈cn,X.env.kindOf x=some .cell) {ix:List Nat} (hix:ix.map (X.N[·]?)=cn.map some) {ws:List V} (hl:ws.length=ix.length) (hσ:∀(j i:Nat) w,ix[j]?=some i->ws[j]?=some w->σ[i]?=some (some w)) :
  FN (nE X.base s.heap (cA X.env cn)) (cA X.env cn) cn ws:=by
 have put:∀x∈cn,∀v,s.heap.IsCell (cellAt X.env x) v->(nE X.base s.heap (cA X.env cn)).IsCell (cellAt X.env x) v:=λx hx v ⟨o,e,d⟩=>by
  refine⟨o,vC e ?_,d⟩
  have:((cA X.env cn).map (·.2)).contains (cellAt X.env x)=true:=by
   rw [List.contains_iff_mem];exact HG.mpr ⟨(x,cellAt X.env x),HG.mpr ⟨x,hx,rfl⟩,rfl⟩
  rw [this,Bool.or_true]
 have len:ix.length=cn.length:=by have:=congrArg List.length hix;simpa using this
 refine⟨hl.trans len,λx y c h1 h2=>?_,λx c h=>?_,λi x v h1 h2=>?_⟩
 ·obtain⟨m1,rfl⟩:=eG h1;obtain⟨m2,e⟩:=eG h2;exact I.ok.inj x y _ (iL I hck m1) (by rw [e];exact iL I hck m2)
 ·obtain⟨m,rfl⟩:=eG h;obtain⟨v,z⟩:=I.cell x _ (iL I hck m);exact⟨v,put x m v z⟩
 ·have m:=Hm h1;have hlt:i < ix.length:=by rw [len];exact (G7.mp h1).1
  have h3:(ix.map (X.N[·]?))[i]?=(cn.map some)[i]?:=by rw [hix]
  rw [Hi,Hi,h1,Hb hlt] at h3;have h3':X.N[ix[i]]?=some x:=by simpa using h3
  have h4:=hσ i _ v (Hb hlt) h2;obtain⟨mm,_,hloc⟩:=I.loc;obtain⟨u,r,l⟩:=hloc _ x v h3' h4 (.inr (.inl (hck x m)));rcases l with ⟨k,_⟩|⟨_,c,e,z⟩
  ·rw [hck x m] at k;cases k
  ·have ec:c=cellAt X.env x:=by have:=iL I hck m;rw [e] at this;exact Hn this
   subst ec;exact⟨u,_,r,pB m,put x m _ z⟩
end
def lR (K:Frag) (cdv:Value) (q:Str):Prop:=∃c P o vs file tf flags tg inF text tt,cdv=.ref c/\K.lookup c=some o/\o.cls=.type "code"/\o.data=.fields vs/\vs[11]?=some (.ref P)/\vs.getD 11 .none=.ref P/\vs.getD 18 .none=.str file tf/\vs.getD 7 .none=.int flags tg /\
 vs.getD 9 .none=.bool inF/\vs.getD 10 .none=.int text tt/\c≠P/\tq K P=some q
theorem lR.hd {K:Frag} {cdv:Value} {q:Str} {base:Heap} (x:lR K cdv q) (hb:K.In base):∃c P,cdv=.ref c/\CodeHd base c P/\tq K P=some q:=by
 obtain⟨c,P,o,vs,file,tf,flags,tg,inF,text,tt,e,l,h1,h2,h3,h4,h5,h6,h7,h8,h9,h10⟩:=x;exact⟨c,P,e,⟨o,vs,file,tf,flags,tg,inF,text,tt,hb _ _ l,h1,h2,h3,h4,h5,h6,h7,h8,h9⟩,h10⟩
def Gb (q:Str) (params:Arguments) (body:Expr) (scope:Scope) (bS:List (Str×Addr)):TE:=λ_ H Q=>∀f c' pm ctv oc H',Made H q f c' oc (kla_obj "<lambda>" q params body scope bS pm c' ctv) H'->Q (.ref f) H'
section
variable {X:Cx} {e body:Expr} {params:Arguments} {scope:Scope} {lpos p pos:Pos} {bS:List (Str×Addr)} {q x:Str} {te t:TD} {ps:List Str}
theorem Cy (hck:lR X.K X.env.code q) (hq:X.env.qual ++ "<lambda>" = q) (hcl:closureFor scope X.env=pure bS) (hdef:defaultsOf params X.env=([],[])):PE X (.Lambda params body scope lpos) (Gb q params body scope bS):=by
 intro pins s σ H Q I h;obtain⟨c,P,e,C,hP⟩:=hck.hd I.ok.mod.kin;refine kla_eval hdef ?_;rw [hq];exact yT I e C hP hcl λf c' pm ctv oc H' s' m I'=>⟨.ref f,H',I',rfl,h f c' pm ctv oc H' m⟩
theorem Made.rep {K:Frag} {B:Base} {F H H':Hp} {σ:St} {env:En} {f c':Addr} {oc fo:Obj} (m:Made H q f c' oc fo H') (r:Rep K B F H σ env):Rep K B (upd F f (.frz fo (.cdr c' q))) H' σ env/\aq F (upd F f (.frz fo (.cdr c' q))):=by
 obtain⟨nf,h1,_,_,sH⟩:=m;have nF:=r.l9 nf;refine⟨r.ext (aY nF) (λb u z=>?_) sH λb h2 h3=>?_,aY nF⟩
 ·by_cases w:b=f
  ·subst w;rw [ao] at z;cases z;exact h1
  ·rw [aj w] at z;exact sH _ _ (r.fh _ _ z)
 ·rw [aj (λw=>by subst w;exact h2 nf)];exact h3
def qy (fx:Fw->(Frag->Hp->Addr->Prop)->xu) (te:TD) (ix:List Nat) (n:Nat) (N:List Str) (t:TD):TX:=λenv Q R=>te env λd=>∃caps,wg env ix=some caps/\∀Pf,fx (λds Q=>ds.length=n/\t (aE N (ds ++ caps)) Q) Pf [d,.obj Pf] Q R
theorem xB {fx:Fw->(Frag->Hp->Addr->Prop)->xu} {kf k:Nat} (ix:List Nat) (cn:List Str)
  (h:∀base Pf φ,kG X.prog X.w X.K X.mg base (kf + 1) Pf φ->gG X.prog X.w X.K X.mg base k x (fx φ Pf)) (hfa:∃fa,X.mg x=some (.ref fa)/\keepIn X.K (.ref fa)=true) (hr:cI k X.A) (he:QE X.pq e te) (hck:lR X.K X.env.code q) (S:FC scope ps cn)
  (hb:∀bS pm c' ctv (us:List Value),us.length=ps.length->bindArgs (kla_fn "<lambda>" q params body scope bS pm (.ref c') ctv) ⟨us,[]⟩=pure (ps.zip us))
  (hbody:∀(base:Heap) (bS:List (Str×Addr)) (f c':Addr) (A:Around) (outer:List Env) (s:Shared) (H:Hp),cI kf (A.deeper (envX q scope s.heap.objs.size f (.ref c') bS))->QE (FA X.prog X.w X.K X.mg base (ps ++ cn) q scope f c' bS A outer s H) body t)
  (hq:X.env.qual ++ "<lambda>" = q:=by rfl) (hcell:∀x∈cn,X.env.kindOf x=some .cell:=by decide +kernel) (hfn:∀x∈cn,X.fn x=true:=by exact λ_ _=>rfl) (hix:ix.map (X.N[·]?)=cn.map some:=by rfl) (hcl:closureFor scope X.env=pure (cA X.env cn):=by rfl) (hdef:defaultsOf params X.env=([],[]):=by rfl)
  (hg:Gl X x:=by rfl) (hdb:(x == ("__debug__" : Str))=false:=by decide)
  (hst:starEach [e,.Lambda params body scope lpos] X.env=(false,eval e X.env) :: starEach [.Lambda params body scope lpos] X.env:=by exact aJ rfl) (hpl:(backTo pos (starEach [.Lambda params body scope lpos] X.env)).any (·.1)=false:=by rfl) :
  QX X (.Call (.Name x p) [e,.Lambda params body scope lpos] [] pos) (qy fx te ix ps.length (ps ++ cn) t):=by
 refine⟨λB σ F H env Q R rp hq0 pins s I=>?_⟩;obtain⟨fa,hm,hk⟩:=hfa;refine wpAny_Call_Name_kw (fK I hg hm ?_ hdb)
 have hw:=(cj (X:=X.bU (XX X pins σ B env R)) bF (cj (Cy hck hq hcl hdef) c9 (aJ rfl)) hst) pos pins s σ H (λvs H2=>∃v d F2 caps f c' pm ctv,vs=[v,.ref f]/\Rep X.K B F2 H2 σ env/\aq F F2/\Den X.K F2 d v/\F2 f=some (.frz (kla_obj "<lambda>" q params body scope (cA X.env cn) pm c' ctv) (.cdr c' q))/\wg env ix=some caps/\∀Pf,fx (λds Q=>ds.length=ps.length/\t (aE (ps ++ cn) (ds ++ caps)) Q) Pf [d,.obj Pf] Q R) (I.bU _)
  (Cz (aD (he B σ F H env _ rp hq0) λv H1 hq1=>by
   obtain⟨F1,d,r1,s1,dd,caps,hc,hf⟩:=hq1;intro f c' pm ctv oc H' m;obtain⟨r2,s2⟩:=m.rep r1
   exact⟨v,d,_,caps,f,c',pm,ctv,rfl,r2,s1.trans s2,Den.mono s2 _ _ dd,ao,hc,hf⟩))
 refine callWith_K (h₀:=X.base) I.ok.mod.kin hk (bK hw λus s1 hq1=>?_) hst hpl;obtain⟨vs,H2,I2w,rv,v,d,F2,caps,f,c',pm,ctv,rfl,r2,sF,dd,hf2,hc,hf⟩:=hq1;have I2:Inv X pins σ H2 s1:=I2w.a9;refine⟨I2.oh,?_⟩;obtain⟨ws,lw,dw,hσ⟩:=tI r2 hc;have CL:=I2.Gr hcell hix lw hσ;have runs:=zh (P:=X.prog) (w:=X.w) (K:=X.K) (mg:=X.mg) (caps:=caps) (k:=kf) S CL (λx c z=>(eG z).1) (hb _) (hbody _ _);have KX:=h _ _ _ runs
 obtain⟨fa',fd,psx,G,hm',hk',hbd⟩:=KX.ex;obtain rfl:fa'=fa:=by rw [hm] at hm';cases hm';rfl
 have hd2:ak X.K F2 [d,.obj (C6 q params body scope (cA X.env cn) caps ws)] [v,.ref f]:=aH dd (aH (by
  simp only [Den]
  exact⟨f,rfl,λG sG=>⟨⟨c',pm,ctv,sG _ _ hf2⟩,ak.mono sG _ _ dw⟩⟩) aI)
 have hsp:Gz X.K X.mg (fx (λds Q=>ds.length=ps.length/\t (aE (ps ++ cn) (ds ++ caps)) Q) (C6 q params body scope (cA X.env cn) caps ws)) ([v,.ref f] ++ []) H2 (RV X B σ env F Q) (λC dd H'=>dd=none/\∃(c:Str) (F':Hp),Rep X.K B F' H' σ env/\X.mg c=some C/\R c):=by
  rw [HR];exact⟨F2,_,Q,R,r2.fh,hd2,hf _,λd v F' H' a b c n hd q=>⟨F',d,r2.ext a c b n,sF.trans a,hd,q⟩,λc C F' H' a b c' n hm hx=>⟨rfl,c,F',r2.ext a c' b n,hm,hx⟩⟩
 have hl:(us ++ []).length=psx.length:=by
  have:=G.len _ _ _ _ hsp;rw [HR] at this ⊢;rw [<- rv.length];exact this
 refine wpAny_call (codeAny_mono (G.run X.A X.stack s1 H2 ⟨us,[]⟩ (us ++ []) ([v,.ref f] ++ []) _ _ hr (I2.FP hcell hfn) (hbd s1 us I2.oh hl) (by simpa using rv) hsp) λrs s' hq'=>?_)
 cases rs with
 | error ex =>
  obtain⟨a,C,dd,H',rfl,os,bare,un,hok,fl,rfl,c,F',r',hm',hx⟩:=hq'
  exact⟨a,c,C,H',F',rfl,⟨H2,s1,I2,os,bare,un,hok,fl⟩,r',hm',hx⟩
 | ok fl =>
  cases fl with
  | ret u=>exact I2.after hq'
  | next=>exact False.elim hq'
  | brk=>exact False.elim hq'
  | cont=>exact False.elim hq'
end
section
variable {X:Cx} {a b:Expr} {ta tb:TD} {p pos:Pos}
theorem yI {prog:Program} {w:World} {A:Around} {E:Value->Shared->Prop} {s:Shared} {env:Env} {k v:Expr} {Q:Value->Shared->Prop}
  (h:wpAny (model prog w) A (evalPairs (pairTrees [some k] [v] env pos)) (λvs s₁=>∃kv vv,vs=[(kv,vv)]/\wpAny (model prog w) A (dictSet s.heap.objs.size kv vv) (λ_ s₂=>Q (.ref s.heap.objs.size) s₂) E s₁) E
   { s with heap:=s.heap.push { cls:=.type "dict",data:=.dict #[] } }) :
  wpAny (model prog w) A (eval (.Dict [some k] [v] pos) env) Q E s:=by
 rw [arm_eval_Dict,zip_pairTrees [some k] [v] env pos rfl rfl,dictDisplay_pairs (pairTrees [some k] [v] env pos) (by intro z;have:=congrArg List.length z;rw [pairTrees_length [some k] [v] env pos rfl rfl] at this;cases this) (by rw [pairTrees_length [some k] [v] env pos rfl rfl];show 1 < 17;decide)];refine G8 (wpAny_standAt (G8 ?_));unfold subDict;refine G8 (wpAny_alloc ?_);refine G8 (wpAny_holding ?_)
 rw [if_pos (by rw [pairTrees_length [some k] [v] env pos rfl rfl];show 1<=15;decide)];refine G8 (HE h (λvs s₁ h₁=>?_) λ_ _ e=>e);obtain⟨kv,vv,rfl,h₁⟩:=h₁;refine wpAny_holding ?_;refine G8 ?_;rw [List.forIn_cons];refine G8 (G8 (HE h₁ (λ_ s₂ h₂=>Hd ?_) λ_ _ e=>e));show wpAny _ _ (forIn [] PUnit.unit _) _ _ _
 rw [List.forIn_nil];exact Hd (Hd (Hd (Hd h₂)))
def y0 (K:Ha) (p:Addr) (Q:VK) (k v:V) (H2:Hp):Prop:=H2 p=some (ft p 0 [])/\∃F d,aq F H2/\Den K F d k/\aO d=true/\dep d<=8/\∀ep,Q (.ref p) (upd H2 p (ft p ep [(vo d,k,v)]))
def B7 (K:Ha) (p:Addr) (Q:VK):List (V×V)->Hp->Prop
 | [(k,v)],H2=>y0 K p Q k v H2
 | _,_=>False
def C3 (ta tb:TE) (K:Ha):TE:=λσ H Q=>∀p,H p=none->ta σ (upd H p (ft p 0 [])) λk H1=>tb σ H1 λv H2=>y0 K p Q k v H2
theorem xI {ta tb:TE} (hu:X.A.units + 9 < cLine) (ha:PE X a ta) (hb:PE X b tb):PE X (.Dict [some a] [b] pos) (C3 ta tb X.K):=by
 intro pins s σ H Q I q;have hn:=I.hok.fresh (Hl s.heap.objs.size);have I1:=I.laid (a:=s.heap.objs.size) (o:=ft s.heap.objs.size 0 []) (h':=s.heap.push { cls:=.type "dict",data:=.dict #[] }) (t':=s.toks) (λ_ _ q=>Hf _ q) (Hl _) (pI s.heap I.big)
 refine yI (bK ((xv (pos:=pos) ha hb Au) pins _ σ _ (B7 X.K s.heap.objs.size Q) I1 (q _ hn)) λws s2 hq0=>?_);obtain⟨ps,H2,I2,rel,hq⟩:=hq0
 cases rel with
 | nil=>exact hq.elim
 | @cons x y xs ys r t =>
  cases t with
  | cons _ _=>exact hq.elim
  | nil =>
   obtain⟨k,v⟩:=x;obtain⟨ku,vu⟩:=y;have hq':y0 X.K s.heap.objs.size Q k v H2:=hq;obtain⟨e,F,d,fh,dd,hk,hd,q2⟩:=hq';refine⟨ku,vu,rfl,?_⟩;obtain⟨hz,hs,es,dh,pr⟩:=gp I2 e
   have es0:es=#[]:=by
    have:=Paired.length pr;apply Array.eq_empty_of_size_eq_zero
    simpa using this.symm
   subst es0;have hash:=iq fh d s2 X.A k ku I2 hk (by omega) dd r.1;have find:=mE (kvs:=[]) (us:=[]) (vs:=[]) (I2.tok (s2.toks + zM d)) fh cg.nil aI aI (es:=#[]) .nil hk hd (A:=X.A) (by omega) dd r.1;refine r9 hash find dh (by simp) (λ_ h' dh' sb=>?_) λj hj=>by simp at hj
   obtain⟨o2,g2,c2,dd2⟩:=id dh';refine⟨.ref s.heap.objs.size,_,ra (ob:=ft s.heap.objs.size (0 + 1) [(vo d,k,v)]) I2 (by rw [e];exact True.intro) sb ⟨o2,g2⟩ ⟨⟨by simp [Ht],hs,_,dh',.cons ⟨rfl,r.1,r.2⟩ .nil⟩,⟨o2,g2⟩,?_⟩,rfl,q2 _⟩
   rintro h1 h2 ⟨z,hs,es,⟨o,ho,c,dd⟩,pr⟩ k;exact⟨z,hs,es,⟨o,k _ ho,c,dd⟩,pr⟩
def n9 (i:Nat) (tk tv:TD):bG:=λZ env=>tk env λk=>aO k=true/\dep k<=8/\tv env λv=>Z.nx (env.set i (some (.dic [(k,v)])))
theorem tQ {x:Str} {pos' pd:Pos} (i:Nat) (hN:X.N.Nodup) (hu:X.A.units + 64 < cLine) (ha:QE X a ta) (hb:QE X b tb) (hi:X.N[i]?=some x:=by rfl) (hx:Loc X.env.scope x:=by first|exact Or.inl rfl|exact Or.inr rfl) (hs:swapsWith (.Dict [some a] [b] pd) (some (.Name x pos')) pos.line X.env=pure false:=by rfl)
  (hf:X.fn x=true\/X.env.scope.names.lookup x=some .local:=by first|exact .inl rfl|exact .inr rfl):QS X (.Assign [.Name x pos'] (.Dict [some a] [b] pd) pos) (n9 i ta tb):=by
 refine⟨λB σ F H env Z rp h pins s I=>?_⟩;have hl:i < σ.length:=by rw [I.len];exact (G7.mp hi).1
 refine lA (i:=i) hN hi hx (xI (by omega) bF bF) hs hf pins s σ H _ I λp hp=>?_;have hb0:B.H p=none:=rp.h0.free hp;refine aD (ha (B.guard p (ft p 0 [])) σ F (upd H p (ft p 0 [])) env _ (rp.guarded hp) h) λk H1 hq0=>?_;obtain⟨F1,d1,r1,s1,e1,hk,hd,q1⟩:=hq0;refine aD (hb _ σ F1 H1 env _ r1 q1) λv H2 hq0=>?_;obtain⟨F3,d2,r3,s2,e2,q3⟩:=hq0;obtain⟨r4,hp2,hf2⟩:=r3.gD hb0;refine⟨hp2,F3,d1,r3.fh,Den.mono s2 _ _ e1,hk,hd,λep=>?_⟩
 have h0:(λb=>if b=p then none else H2 b) p=none:=if_pos rfl
 have ee:upd H2 p (ft p ep [(vo d1,k,v)])=upd (λb=>if b=p then none else H2 b) p (ft p ep (bo [(d1,d2)] [k] [v])):=by
  funext b
  by_cases z:b=p
  ·subst z;rw [ao,ao];rfl
  ·rw [aj z,aj z,if_neg z]
 have r5:Rep X.K B F3 (λb=>if b=p then none else H2 b) σ env:=by
  refine⟨r4.f0,λb o z=>?_,λb o z=>?_,r4.nf,r4.dv,λj xs hj=>?_,r4.ne,λj xs hj=>?_,r4.nm⟩
  ·have:b≠p:=λw=>by subst w;rw [hf2] at z;cases z
   rw [if_neg this];exact r4.fh _ _ z
  ·have:b≠p:=λw=>by subst w;rw [hb0] at z;cases z
   rw [if_neg this];exact r4.h0 _ _ z
  ·obtain⟨p2,us,g1,g2,g3,g4,g5⟩:=r4.ov j xs hj;have:p2≠p:=λw=>by subst w;rw [hp2] at g2;cases g2
   exact⟨p2,us,g1,by rw [if_neg this];exact g2,g3,g4,g5⟩
  ·obtain⟨p2,ep,us,vs,g1,g2,g3,g4,g5,g6⟩:=r4.mv j xs hj;obtain⟨p3,_,_,_,k1,_,_,k4,_,_⟩:=r3.mv j xs hj;have e3:p3=p2:=by rw [k1] at g1;cases g1;rfl
   subst e3;have:p3≠p:=λw=>by subst w;rw [show (B.guard p3 (ft p3 0 [])).H p3=some (ft p3 0 []) from ao] at k4;cases k4
   exact⟨p3,ep,us,vs,g1,by rw [if_neg this];exact g2,g3,g4,g5,g6⟩
 rw [ee];exact⟨F3,_,r5.wV (i:=i) ep h0 hl (aH (Den.mono s2 _ _ e1) aI) (aH e2 aI),q3⟩
end
theorem EX {K:Ha} {cdv:Value} {q:Str} {c P:Addr} {o:Obj} {vs:Array Value} {file:Str} {tf:Tok} {flags:Int} {tg:Tok} {inF:Bool} {text:Int} {tt:Tok} (e:cdv=.ref c) (l:K.lookup c=some o) (h1:o.cls=.type "code") (h2:o.data=.fields vs) (h3:vs[11]?=some (.ref P)) (h4:vs.getD 11 .none=.ref P) (h5:vs.getD 18 .none=.str file tf)
  (h6:vs.getD 7 .none=.int flags tg) (h7:vs.getD 9 .none=.bool inF) (h8:vs.getD 10 .none=.int text tt) (h9:c≠P) (h10:tq K P=some q):lR K cdv q:=⟨c,P,o,vs,file,tf,flags,tg,inF,text,tt,e,l,h1,h2,h3,h4,h5,h6,h7,h8,h9,h10⟩
structure um (K:Ha) (x:Str) (st:Stmt) (q:Str):Prop where
 ex:∃(f:Addr) (oc:Value) (od an:Option Addr) (sl:Array (Option Value)) (kV dc pm cd ct:Value),PySem.W.nsIn K mainGlobals x=some (some (.ref f)) /\
  K.lookup f=some ⟨oc,od,.func (PySem.W.fnOf x x (dD st) (bh st) (ar st) .none kV dc pm an cd ct),sl⟩/\PySem.W.codeIn K cd x=true/\PySem.W.keepIn K (.ref f)=true/\lR K cd q
structure E3 (K:Ha) (mg:Str->Option Value) (x:Str) (st:Stmt) (ps:List Str) (q:Str):Prop where
 ex:∃(fa:Addr) (oc:Value) (od:Option Addr) (kV doc pm:Value) (an:Option Addr) (cdv ct:Value) (osl:Array (Option Value)),K.lookup fa=some ⟨oc,od,.func (PySem.W.fnOf x x (dD st) (bh st) (ar st) .none kV doc pm an cdv ct),osl⟩/\PySem.W.codeIn K cdv x=true/\PySem.W.keepIn K (.ref fa)=true /\
  lR K cdv q/\mg x=some (.ref fa)/\Binds K (PySem.W.fnOf x x (dD st) (bh st) (ar st) .none kV doc pm an cdv ct) ps []
section
variable {P:Program} {w:World} {K:Ha} {mg:Str->Option Value} {base h:Heap} {x q:Str} {st:Stmt} {N ps:List Str} {k:Nat} {fx:xu}
theorem um.get (D:um K x st q) (X:K.In h) (G:h.Ns mainGlobals mg)
  (hb:∀(kV doc pm:Value) (an:Option Addr) (cdv ct:Value) (us:List Value),us.length=ps.length->bindArgs (PySem.W.fnOf x x (dD st) (bh st) (ar st) .none kV doc pm an cdv ct) ⟨us,[]⟩=pure (ps.zip us)):E3 K mg x st ps q:=by
 obtain⟨f,oc,od,an,sl,kV,dc,pm,cd,ct,a,l,c,kp,ck⟩:=D.ex;exact⟨f,oc,od,kV,dc,pm,an,cd,ct,sl,l,c,kp,ck,Il X G a,(vb l c kp).binds hb⟩
theorem E3.Ce (F:E3 K mg x st ps q) (S:aG N ps (ar st)) (hl:∀ds Q R,fx ds Q R->ds.length=ps.length)
  (hbody:∀(fa:Addr) (cdv:Value) (A:Around) (outer:List Env) (s:Shared) (H:Hp) (E:XK),lR K cdv q->cI k (A.deeper (envOfC x (ar st) s.heap.objs.size fa cdv)) ->
   ∃t,Ea (gM (BC P w) P w K mg base N x (ar st) fa cdv A outer s H E) (bh st) t/\∀ds (Q:D->Prop) (R:Str->Prop),fx ds Q R->t { nx:=λ_=>Q .non,rt:=Q,xc:=R } (aE N ds)):gG P w K mg base (k + 1) x fx:=by
 obtain⟨fa,oc,od,kV,doc,pm,an,cdv,ct,osl,lk,hcd,kp,ck,hmg,hb⟩:=F.ex;refine⟨fa,_,ps,?_,hmg,kp,hb⟩;refine yh lk hcd S (λvs H Q E h=>?_) λA outer s H vs Q E hr h=>?_
 ·obtain⟨F0,ds,P,R,_,hd,hf,_⟩:=h;rw [<- hd.length];exact hl ds _ _ hf
 ·obtain⟨F0,ds,P',R,fh,hd,hf,kk,kx⟩:=h;obtain⟨t,ht,hq⟩:=hbody fa cdv A outer s H E ck hr;refine⟨_,cR,?_⟩;have core:=ht.run _ (start N vs) F0 H (aE N ds) _ (fg fh hd) (hq ds P' R hf);intro pins s1 I;refine HE (core pins s1 (I.bU _)) (λfl s2 z=>?_) λex s2 z=>?_
  ·refine mD (SP.a9 z) (λσ' H' ⟨F',env',r,q⟩=>?_) (λv H' ⟨F',d',r,dd,q⟩=>?_) (λ_ _ ⟨_,_,_,q⟩=>q) (λ_ _ ⟨_,_,_,q⟩=>q)
   ·exact kk .non .non F' H' r.f0 r.h0 r.fh (λp h1 h2=>r.nf p ⟨h1,h2⟩) jZ q
   ·exact kk d' v F' H' r.f0 r.h0 r.fh (λp h1 h2=>r.nf p ⟨h1,h2⟩) dd q
  ·obtain⟨pins',a,c,C,σ',H',F',env',rfl,th,r,hm,hx⟩:=z;exact th.leave (kx c C F' H' r.f0 r.h0 r.fh (λp h1 h2=>r.nf p ⟨h1,h2⟩) hm hx)
theorem Df.at_ (F:Df K mg x st ps):∃fa,mg x=some (.ref fa)/\PySem.W.keepIn K (.ref fa)=true:=let ⟨fa,_,F,m,_⟩:=F.ex;⟨fa,m,F.kp⟩
end
section
variable {prog:Program} {w:World} {A:Around} {E:Value->Shared->Prop} {s:Shared}
theorem jq {R:Result->Shared->Prop} {r:Addr} {a b c:Int} {t u v:Tok} {n:Nat} (hh:A.handled=none) (hr:IsRange s.heap r a b c t u v) (hsmall:Builtin.Range.small a b c=true) (hn:Builtin.Range.rangeSize a b c=n) (hlen:n<=2 ^ 24)
  (hR:∀h' tk acc' c',(∀b o,b≠s.heap.objs.size->s.heap.get? b=some o->h'.get? b=some o)->h'.get? s.heap.objs.size=some { cls:=.type "list",dict:=none,data:=.seq acc' c',slots:=#[] } ->
   ItemsOf (λi v=>∃t,v=.int (a + i * c) t) acc' n->R (.ok (.ret (.ref s.heap.objs.size))) { s with heap:=h',toks:=tk }):codeAny (model prog w) A (.builtin "proto.collect" ⟨[.ref r],[]⟩) R s:=by
 refine codeAny_builtin F.entry_proto_collect ?_;rw [Around.under_plainId F.plain_proto_collect _];show wpAny _ A.in1 (newList [] >>= λl=>again (.builtin "list.__iadd__" ⟨[l,.ref r],[]⟩)) _ _ s
 refine G8 (wpAny_newObj_type ?_);refine Hd ⟨plainId_quiet F.plain_list_iadd _,codeAny_builtin F.entry_list_iadd ?_⟩;rw [Around.under_plainId F.plain_list_iadd _];have hS₁:(s.heap.push { cls:=.type "list",data:=.seq ([]:List Value).toArray }).get? s.heap.objs.size=some { cls:=.type "list",data:=.seq ([]:List Value).toArray }:=Hs _ rfl
 show wpAny _ A.in1 (Builtin.List.listExtendWith (.ref s.heap.objs.size) (.ref r) (.ref s.heap.objs.size)) _ _ _
 refine wpAny_extend_range (s:={ s with heap:=s.heap.push { cls:=.type "list",data:=.seq ([]:List Value).toArray } }) hh (Hf _ hr) hsmall hn hlen s.heap.objs.size (.ref s.heap.objs.size) _ hS₁ λh' tk acc' c' hk hS' hacc=>?_
 exact hR h' tk acc' c' (λb o hb e=>hk b o hb (Hf _ e)) hS' hacc
theorem oK {Q:List Value->Shared->Prop} {r:Addr} {a b c:Int} {t u v:Tok} {n:Nat} (hh:A.handled=none) (hr:IsRange s.heap r a b c t u v) (hsmall:Builtin.Range.small a b c=true) (hn:Builtin.Range.rangeSize a b c=n) (hlen:n<=2 ^ 24)
  (hQ:∀h' tk acc,(∀b o,s.heap.get? b=some o->h'.get? b=some o)->s.heap.objs.size<=h'.objs.size->ItemsOf (λi v=>∃t,v=.int (a + i * c) t) acc n->Q acc.toList { s with heap:=h',toks:=tk }):wpAny (model prog w) A (collect (.ref r)) Q E s:=by
 unfold collect;refine G8 (wpAny_runValue (jq hh hr hsmall hn hlen λh' tk acc' c' hk hS' hacc=>?_));show wpAny _ A (load s.heap.objs.size >>= _) _ _ _
 refine G8 (wpAny_load hS' ?_);exact Hd (hQ h' tk acc' (λb o e=>hk b o (HC (Ho e)) e) (Iv (Ho hS')) hacc)
theorem j9 {r:Addr} {a b c:Int} {t u v:Tok} {n:Nat} (hsmall:Builtin.Range.small a b c=true) (hn:Builtin.Range.rangeSize a b c=n) (hlen:n<=2 ^ 24) (hsz:n<=sizeLine) :
  Meets (Builtin.«tuple.__new__» ⟨[.type "tuple",.ref r],[]⟩)
   (λA R s=>A.handled=none/\IsRange s.heap r a b c t u v/\∀(h':Heap) (tk:Nat) (acc:Array Value),(∀b o,s.heap.get? b=some o->h'.get? b=some o)->s.heap.objs.size<=h'.objs.size->ItemsOf (λi v=>∃t,v=.int (a + i * c) t) acc n ->
    R (.ok (.ret (.ref h'.objs.size))) { s with heap:=h'.push { cls:=.type "tuple",data:=.seq acc },toks:=tk }) :=
 .of_wp λprog w A R s h=>by
  obtain⟨hh,hr,h⟩:=h;have hsub:=sub_tuple_self;have hinit:=init_tuple_lookup;have hmh:=madeHere_tuple;have hT:s.TypeIs (.ref r) "range":=⟨_,hr,rfl⟩
  have hh1:A.in1.handled=none:=hh
  wp_walk using wpAny_typeOf hT,oK hh1 hr hsmall hn hlen
  intro h' tk acc hk hz hacc;show wpAny _ _ (Builtin.Tuple.tupleExact acc.toList.toArray >>= λv=>ret v) _ _ _
  unfold Builtin.Tuple.tupleExact;refine G8 (wpAny_newObj_type ?_ (show acc.toList.toArray.size<=sizeLine by simp only [Array.toArray_toList];rw [hacc.1];exact hsz));refine Hd ⟨_,rfl,?_⟩;have e:acc.toList.toArray=acc:=by simp
  rw [e];exact h h' tk acc hk hz hacc
theorem lD {Q:Value->Shared->Prop} {r:Addr} {a b c:Int} {t u v:Tok} {n:Nat} (hh:A.handled=none) (hr:IsRange s.heap r a b c t u v) (hsmall:Builtin.Range.small a b c=true) (hn:Builtin.Range.rangeSize a b c=n) (hlen:n<=2 ^ 24) (hsz:n<=sizeLine)
  (h:∀(h':Heap) (tk:Nat) (acc:Array Value),(∀b o,s.heap.get? b=some o->h'.get? b=some o)->s.heap.objs.size<=h'.objs.size->ItemsOf (λi v=>∃t,v=.int (a + i * c) t) acc n->Q (.ref h'.objs.size) { s with heap:=h'.push { cls:=.type "tuple",data:=.seq acc },toks:=tk }) :
  wpAny (model prog w) A (call (.type "tuple") [.ref r]) Q E s :=
 callType_new F.called_tuple (by decide) (F.typeCall_tuple_1 _) (F.newCall_tuple_1 _) (λobj=>F.args_object_init_2 obj _) F.entry_tuple_new
  (j9 hsmall hn hlen hsz) ⟨hh,hr,λh' tk acc hk hz hacc=>⟨⟨_,Hs _ rfl,rfl⟩,h h' tk acc hk hz hacc⟩⟩
end
section
variable {X:Cx} {ts:eD} {pos:Pos}
theorem wm (hc:X.calm=true):cV X (.type "tuple") (λxs H Q=>∃r n,xs=[.ref r]/\H r=some (.rng 0 n)/\(-(2 ^ 62)<=n/\n<=16777216)/\∀l,H l=none->Q (.ref l) (upd H l (.tup ((List.range n.toNat).map λ(i:Nat)=>V.int (i:Int))))):=by
 intro pins s σ H xs us Q I r h;obtain⟨a,n,rfl,hr,⟨n1,n2⟩,q⟩:=h;obtain⟨u,rfl,rx⟩:=vals1 r;cases rx;obtain⟨t,u,v,e⟩:=(show bL X.prog X.w H s.heap a (.rng 0 n) from I.hok a _ hr);have hsz:Builtin.Range.rangeSize 0 n 1=(n.toNat:Int):=by rw [rangeSize_one];split <;> omega
 refine lD (I.ok.hd hc) e (small_one (by decide) (by decide) n1 (by omega)) hsz (by omega) (by rw [Ht];omega) λh' tk acc kp sz it=>?_
 refine⟨.ref h'.objs.size,_,I.laid (t':=tk) (λb o e=>Hf _ (kp b o e)) sz (show bL X.prog X.w _ _ _ (.tup ((List.range n.toNat).map λ(i:Nat)=>V.int (i:Int))) from ⟨by simp [Ht];omega,acc.toList,gk it,by
  have:=oM.new h' acc
  simpa using this⟩),rfl,q _ (I.hok.fresh sz)⟩
def tm (ts:eD):TD:=λenv Q=>ts env λds=>∃n:Int,ds=[.int n]/\(-(2 ^ 62)<=n/\n<=16777216)/\Q (.tup (aM 0 n.toNat))
theorem xx {a:Expr} {p p2 pos2:Pos} (hm:X.mg "tuple" = none) (hm2:X.mg "range" = none) (ha:QA X [a] ts) (hc:X.calm=true:=by rfl) (hg:Gl X "tuple":=by rfl) (hg2:Gl X "range":=by rfl) (hs:starEach [a] X.env=[(false,eval a X.env)]:=by rfl)
  (he:starEach [.Call (.Name "range" p2) [a] [] pos2] X.env=(false,eval (.Call (.Name "range" p2) [a] [] pos2) X.env) :: starEach [] X.env:=by exact aJ rfl) (hpl:(backTo pos (starEach ([]:List Expr) X.env)).any (·.1)=false:=by rfl) :
  QE X (.Call (.Name "tuple" p) [.Call (.Name "range" p2) [a] [] pos2] [] pos) (tm ts):=by
 refine⟨λB σ F H env Q rp h=>bX (iF (wm hc) hg hm fD (cj (pz hg2 hm2 gR hs) c9 he) (by decide) (by decide) he hpl) ?_⟩;refine bV (ha B σ F H env _ rp h) λvs H1 hq0=>?_;obtain⟨F1,ds,r1,s1,d1,n,e1,hn,q1⟩:=hq0;subst e1;simp only [ak,Den] at d1;obtain⟨v,r,rfl,rfl,rfl⟩:=d1;refine⟨n,rfl,λr hr=>?_⟩;obtain⟨r2,s2⟩:=r1.laid (o:=.rng 0 n) hr;refine⟨r,n,rfl,ao,hn,λw hw=>?_⟩;obtain⟨r3,s3⟩:=r2.laid (o:=.tup ((List.range n.toNat).map λ(i:Nat)=>V.int (i:Int))) hw
 exact⟨_,_,r3,(s1.trans s2).trans s3,eV (gw.of ao) (nk _),q1⟩
end
open PySem
structure M4 where
 a:Int
 b:Int
 c:Int
 d:Int
 deriving DecidableEq
namespace M4
def GR (m:M4):Prop:=m.c < 0\/(m.c=0/\m.d < 0)
instance (m:M4):Decidable m.GR:=inferInstanceAs (Decidable (_\/_))
end M4
abbrev Z2:=Int×Int
def eL (x:Z2):D:=.tup [.int x.1,.int x.2]
def FQ (x:Z2):Prop:=x.2 < 0\/(x.2=0/\x.1 < 0)
instance (x:Z2):Decidable (FQ x):=inferInstanceAs (Decidable (_\/_))
def B2 (n:Nat) (x:Z2):Prop:=iU n x.1/\iU n x.2
theorem y2 {n m:Nat} {x:Z2} (h:B2 n x) (hm:n<=m):B2 m x:=⟨bits_le h.1 hm,bits_le h.2 hm⟩
theorem Fi:B2 1 ((1,0):Z2):=⟨vx _ _ (by decide),vx _ _ (by decide)⟩
theorem Dm (x y:Z2):aT (eL x) (eL y)=decide (x=y):=by
 simp only [eL,aT,cZ,IB];rw [Bool.eq_iff_iff];simp [Prod.ext_iff]
theorem zj (x:Z2):dep (eL x)=1:=by simp [eL,dep,bz]
theorem DF {x y:Z2} {Q:D->Prop}:rJ (eL x) (eL y) Q=Q (.bl (!decide (x=y))):=by
 unfold rJ ib;rw [zj,zj,Dm];simp
def FD (p q:Int):Prop:=(p < 0/\0 < q)\/(q < 0/\0 < p)
instance (p q:Int):Decidable (FD p q):=inferInstanceAs (Decidable (_\/_))
theorem AJ {α:Type} (l:List α) (m:α) (j i:Nat) (hj:j<=l.length):(l.take j ++ m :: l.drop j)[i]?=if i < j then l[i]? else if i=j then some m else l[i - 1]?:=by
 have hl:(l.take j).length=j:=by rw [List.length_take];omega
 by_cases h1:i < j
 ·rw [if_pos h1,Hw (by omega),List.getElem?_take_of_lt h1]
 ·rw [if_neg h1,Hu (by omega),hl]
  by_cases h2:i=j
  ·rw [if_pos h2,h2,Nat.sub_self];rfl
  ·rw [if_neg h2,show i - j=(i - j - 1) + 1 by omega,HB,IC]
   congr 1;omega
structure rZ (k:Nat) (row:List Z2):Prop where
 len:row.length=k + 3
 first:row[0]?=some (-1,0)
 last:row[k + 2]?=some (1,0)
 det:∀(i:Nat) (p r:Z2),row[i]?=some p->row[i + 1]?=some r->p.1 * r.2 - p.2 * r.1 = -1
 low:∀(i:Nat) (p:Z2),row[i]?=some p->0 < i->i < k + 2->1<=p.2
 nought:∃i,0 < i/\i < k + 2/\row[i]?=some (0,1)
 bits:∀p∈row,B2 (k + 2) p
theorem Gs:rZ 0 [(-1,0),(0,1),(1,0)] where
 len:=rfl
 first:=rfl
 last:=rfl
 det:=λi p r h1 h2=>by
  match i with
  | 0=>cases h1;cases h2;decide
  | 1=>cases h1;cases h2;decide
  | 2=>cases h2
  | i + 3=>cases h1
 low:=λi p h h0 h1=>by
  have:i=1:=by omega
  subst this;cases h;decide
 nought:=⟨1,by decide,by decide,rfl⟩
 bits:=λp hp=>by
  simp only [Hx,HN,or_false] at hp;rcases hp with rfl|rfl|rfl <;> exact⟨vx _ _ (by decide),vx _ _ (by decide)⟩
theorem B5 {k:Nat} {row:List Z2} (h:rZ k row) {at_:Nat} (ha:at_ < k + 2) {p r:Z2} (hp:row[at_]?=some p) (hr:row[at_ + 1]?=some r) :
  rZ (k + 1) (row.take (at_ + 1) ++ (p.1 + r.1,p.2 + r.2) :: row.drop (at_ + 1)):=by
 have hl:=h.len;have g:=λi=>AJ row (p.1 + r.1,p.2 + r.2) (at_ + 1) i (by omega);have hd:=h.det at_ p r hp hr
 have pl:0<=p.2:=by
  by_cases z:at_=0
  ·subst z;rw [h.first] at hp;cases hp;decide
  ·have:=h.low at_ p hp (by omega) ha;omega
 have rl:0<=r.2:=by
  by_cases z:at_ + 1=k + 2
  ·rw [z,h.last] at hr;cases hr;decide
  ·have:=h.low (at_ + 1) r hr (by omega) (by omega);omega
 have ne:¬ (p.2=0/\r.2=0):=fun⟨a,b⟩=>by rw [a,b] at hd;simp at hd
 refine⟨by simp;omega,?_,?_,λi x y h1 h2=>?_,λi x h1 h0 h2=>?_,?_,λx hx=>?_⟩
 ·rw [g,if_pos (by omega)];exact h.first
 ·rw [g,if_neg (by omega),if_neg (by omega)];exact h.last
 ·rw [g] at h1 h2
  by_cases c1:i < at_
  ·rw [if_pos (by omega)] at h1 h2;exact h.det i x y h1 h2
  ·by_cases c2:i=at_
   ·subst c2;rw [if_pos (by omega),hp] at h1;rw [if_neg (by omega),if_pos rfl] at h2;cases h1;cases h2;show p.1 * (p.2 + r.2) - p.2 * (p.1 + r.1) = -1
    grind
   ·by_cases c3:i=at_ + 1
    ·subst c3;rw [if_neg (by omega),if_pos rfl] at h1;rw [if_neg (by omega),if_neg (by omega),Nat.add_sub_cancel,hr] at h2;cases h1;cases h2;show (p.1 + r.1) * r.2 - (p.2 + r.2) * r.1 = -1
     grind
    ·rw [if_neg (by omega),if_neg c3] at h1;rw [if_neg (by omega),if_neg (by omega)] at h2;exact h.det (i - 1) x y h1 (by rw [show i - 1 + 1=i + 1 - 1 by omega];exact h2)
 ·rw [g] at h1
  by_cases c1:i < at_ + 1
  ·rw [if_pos c1] at h1;exact h.low i x h1 h0 (by omega)
  ·rw [if_neg c1] at h1
   by_cases c2:i=at_ + 1
   ·rw [if_pos c2] at h1;cases h1;show 1<=p.2 + r.2
    omega
   ·rw [if_neg c2] at h1;exact h.low (i - 1) x h1 (by omega) (by omega)
 ·obtain⟨i,h0,h1,h2⟩:=h.nought
  by_cases c1:i < at_ + 1
  ·exact⟨i,h0,by omega,by rw [g,if_pos c1];exact h2⟩
  ·exact⟨i + 1,by omega,by omega,by rw [g,if_neg (by omega),if_neg (by omega),Nat.add_sub_cancel];exact h2⟩
 ·have hm:∀y∈row,B2 (k + 1 + 2) y:=λy hy=>y2 (h.bits y hy) (by omega);rcases HJ.mp hx with hx|hx
  ·exact hm x (List.mem_of_mem_take hx)
  ·rcases Hx.mp hx with rfl|hx
   ·have b1:=h.bits p (Hm hp);have b2:=h.bits r (Hm hr)
    have e:∀{x y:Int},iU (k + 2) x->iU (k + 2) y->iU (k + 1 + 2) (x + y):=λhx hy=>by
     have:=bits_add hx hy;rw [Nat.max_self] at this;exact bits_le this (by omega)
    exact⟨e b1.1 b2.1,e b1.2 b2.2⟩
   ·exact hm x (List.mem_of_mem_drop hx)
structure bA (n:Nat) (fs:List Z2):Prop where
 len:fs.length=n
 two:2<=n
 most:n<=22
 first:fs[0]?=some (1,0)
 det0:∀p,fs[1]?=some p->p.2=1
 det:∀(i:Nat) (p r:Z2),0 < i->fs[i]?=some p->fs[i + 1]?=some r->p.1 * r.2 - p.2 * r.1 = -1
 last:∀p,fs[n - 1]?=some p->p.2=1
 low:∀(i:Nat) (p:Z2),fs[i]?=some p->0 < i->1<=p.2
 nought:(0,1)∈fs
 bits:∀p∈fs,B2 30 p
theorem zG {k:Nat} {row:List Z2} (h:rZ k row) (hk:k<=20):bA (k + 2) ((1,0) :: (row.drop 1).take (k + 1)):=by
 have hl:=h.len
 have g:∀i,0 < i->i < k + 2->((1,0) :: (row.drop 1).take (k + 1))[i]?=row[i]?:=λi h0 h1=>by
  rw [show i=(i - 1) + 1 by omega,HB,List.getElem?_take_of_lt (by omega),IC]
  congr 1;omega
 have len:((1,0) :: (row.drop 1).take (k + 1)).length=k + 2:=by simp;omega
 have lt:∀(i:Nat) (p:Z2),((1,0) :: (row.drop 1).take (k + 1))[i]?=some p->i < k + 2:=λi p hp=>by
  have:=(G7.mp hp).1;omega
 refine⟨len,by omega,by omega,rfl,λp hp=>?_,λi p r h0 h1 h2=>?_,λp hp=>?_,λi p hp h0=>?_,?_,λp hp=>?_⟩
 ·rw [g 1 (by omega) (by omega)] at hp;have:=h.det 0 _ p h.first hp;simp at this;omega
 ·rw [g i h0 (lt _ _ h1)] at h1;rw [g (i + 1) (by omega) (lt _ _ h2)] at h2;exact h.det i p r h1 h2
 ·rw [show k + 2 - 1=k + 1 by omega,g (k + 1) (by omega) (by omega)] at hp;have:=h.det (k + 1) p _ hp h.last;simp at this;omega
 ·have:=lt _ _ hp;rw [g i h0 this] at hp;exact h.low i p hp h0 this
 ·obtain⟨i,h0,h1,h2⟩:=h.nought;exact Hm (i:=i) (by rw [g i h0 h1];exact h2)
 ·rcases Hx.mp hp with rfl|hp
  ·exact y2 Fi (by decide)
  ·exact y2 (h.bits p (List.mem_of_mem_drop (List.mem_of_mem_take hp))) (by omega)
theorem eu {α:Type} (f:α->D) (l:List α) (i:Nat) (x:α) (h:l[i]?=some x):ja (l.map f) (i:Int)=some (f x):=by
 rw [qS (by omega) (by have:=(G7.mp h).1;simp;omega)];simp [h]
theorem v5 {x:Z2} {Q:D->Prop}:cK (eL x) (.int 0) Q=Q (.int x.1):=by
 apply propext;constructor
 ·rintro⟨v,e,h⟩;cases e;exact h
 ·intro h;exact⟨_,rfl,h⟩
theorem vj {x:Z2} {Q:D->Prop}:cK (eL x) (.int 1) Q=Q (.int x.2):=by
 apply propext;constructor
 ·rintro⟨v,e,h⟩;cases e;exact h
 ·intro h;exact⟨_,rfl,h⟩
inductive Mk where
 | half|aV|gap (j:Nat)
 deriving DecidableEq
def jM:Mk->D
 | .half=>.str "half"
 | .aV=>.str "third"
 | .gap j=>.int j
structure nU (n:Nat) (ms:List Mk):Prop where
 len:ms.length=n
 pair:∀(i j:Nat),ms[i]?=some (Mk.gap j)->j≠i/\ms[j]?=some (Mk.gap i)
 few:n=2->Mk.aV∈ms/\∀(i j:Nat),ms[i]?≠some (Mk.gap j)
structure fO (n:Nat) (left:List Nat) (ms:List Mk):Prop where
 len:ms.length=n
 nd:left.Nodup
 lt:∀i∈left,i < n
 free:∀i∈left,ms[i]?=some Mk.half
 pair:∀(i j:Nat),ms[i]?=some (Mk.gap j)->j≠i/\ms[j]?=some (Mk.gap i)
theorem fO.aV {n g:Nat} {left:List Nat} {ms:List Mk} (h:fO n (g :: left) ms):fO n left (ms.set g .aV):=by
 have hg:=h.free g Hy;have hnd:=HS.mp h.nd;refine⟨by rw [List.length_set];exact h.len,hnd.2,λi hi=>h.lt i (Hq _ hi),λi hi=>?_,λi j hij=>?_⟩
 ·rw [G9 (λz=>by subst z;exact hnd.1 hi)];exact h.free i (Hq _ hi)
 ·have hig:g≠i:=λz=>by
   subst z;rw [Hg (by rw [h.len];exact h.lt _ Hy)] at hij;cases hij
  rw [G9 hig] at hij;obtain⟨h1,h2⟩:=h.pair i j hij;refine⟨h1,?_⟩;have:g≠j:=λz=>by subst z;rw [hg] at h2;cases h2
  rw [G9 this];exact h2
theorem fO.skip {n g:Nat} {left:List Nat} {ms:List Mk} (h:fO n (g :: left) ms):fO n left ms :=
 ⟨h.len,(HS.mp h.nd).2,λi hi=>h.lt i (Hq _ hi),λi hi=>h.free i (Hq _ hi),h.pair⟩
theorem fO.two {n g o k:Nat} {left:List Nat} {ms:List Mk} (h:fO n (g :: left) ms) (ho:left[k]?=some o):fO n (left.eraseIdx k) ((ms.set g (.gap o)).set o (.gap g)):=by
 have hg:=h.free g Hy;have hnd:=HS.mp h.nd;have om:o∈left:=Hm ho;have hoh:=h.free o (Hq _ om);have ne:g≠o:=λz=>hnd.1 (z▸om);have gl:g < ms.length:=by rw [h.len];exact h.lt _ Hy
 have ol:o < ms.length:=by rw [h.len];exact h.lt _ (Hq _ om)
 have sub:∀i∈left.eraseIdx k,i∈left/\i≠o:=λi hi=>by
  refine⟨List.mem_of_mem_eraseIdx hi,λz=>?_⟩;subst z;obtain⟨j,hj1,hj2⟩:=List.mem_eraseIdx_iff_getElem?.mp hi;obtain⟨hk,ek⟩:=G7.mp ho;obtain⟨hj,ej⟩:=G7.mp hj2;exact hj1 ((List.getElem_inj (h₀:=hj) (h₁:=hk) hnd.2).mp (by rw [ej,ek]))
 have get:∀i,((ms.set g (.gap o)).set o (.gap g))[i]?=if i=o then some (.gap g) else if i=g then some (.gap o) else ms[i]?:=λi=>by
  by_cases c1:i=o
  ·subst c1;rw [if_pos rfl,Hg (by rw [List.length_set];exact ol)]
  ·rw [if_neg c1,G9 (Ne.symm c1)]
   by_cases c2:i=g
   ·subst c2;rw [if_pos rfl,Hg gl]
   ·rw [if_neg c2,G9 (Ne.symm c2)]
 refine⟨by rw [List.length_set,List.length_set];exact h.len,hnd.2.eraseIdx k,λi hi=>h.lt i (Hq _ (sub i hi).1),λi hi=>?_,λi j hij=>?_⟩
 ·obtain⟨h1,h2⟩:=sub i hi;rw [get,if_neg h2,if_neg (λz=>by subst z;exact hnd.1 h1)];exact h.free i (Hq _ h1)
 ·rw [get] at hij
  by_cases c1:i=o
  ·rw [if_pos c1] at hij;cases hij;subst c1;exact⟨ne,by rw [get,if_neg ne,if_pos rfl]⟩
  ·rw [if_neg c1] at hij
   by_cases c2:i=g
   ·rw [if_pos c2] at hij;cases hij;subst c2;exact⟨Ne.symm ne,by rw [get,if_pos rfl]⟩
   ·rw [if_neg c2] at hij;obtain⟨h1,h2⟩:=h.pair i j hij;refine⟨h1,?_⟩;rw [get,if_neg (λz=>by subst z;rw [hoh] at h2;cases h2),if_neg (λz=>by subst z;rw [hg] at h2;cases h2)];exact h2
theorem yx {α β:Type} (f:α->β):∀(l:List α) (k:Nat),(l.map f).eraseIdx k=(l.eraseIdx k).map f
 | [],_=>rfl
 | _ :: _,0=>rfl
 | a :: l,k + 1=>by show f a :: (l.map f).eraseIdx k=f a :: (l.eraseIdx k).map f;rw [yx f l k]
theorem A6 (ms:List Mk):bz (ms.map jM)=0:=by
 induction ms with
 | nil=>rfl
 | cons m r ih=>rw [HL];simp only [bz,ih];cases m <;> rfl
theorem oZ (l:List Nat):bz (l.map λ(i:Nat)=>D.int i)=0:=by
 induction l with
 | nil=>rfl
 | cons m r ih=>rw [HL];simp only [bz,ih,dep];rfl
theorem wI (ms:List Mk):((ms.map jM).any λe=>aT e (.str "third"))=decide (Mk.aV∈ms):=by
 induction ms with
 | nil=>rfl
 | cons m r ih =>
  rw [HL,List.any_cons,ih]
  cases m with
  | half =>
   rw [show aT (jM .half) (.str "third")=false by decide]
   simp
  | aV=>rw [show aT (jM .aV) (.str "third")=true by decide];simp
  | gap j=>rw [show aT (jM (.gap j)) (.str "third")=false from rfl];simp
def az (l:List Nat):List D:=l.map λ(i:Nat)=>D.int i
structure i9 (fs:List Z2) (ms:List Mk):Prop where
 fr:bA fs.length fs
 mar:nU fs.length ms
def oJ (fs:List Z2) (ms:List Mk):D:=.tup [.tup (fs.map eL),.tup (ms.map jM)]
theorem getD_some {α:Type} {l:List α} {i:Nat} {d:α} (h:i < l.length):l[i]?=some (l.getD i d):=by
 rw [Ip,Hb h];rfl
section
variable {fs:List Z2} {n:Nat} {g:Nat}
end
theorem xC {α:Type} {f:α->D} {l:List α} {i:Nat} {x:α} {Q:D->Prop} (h:l[i]?=some x) (q:Q (f x)):cK (.tup (l.map f)) (.int (i:Int)) Q:=⟨_,eu f l i x h,q⟩
open PySem L2
def dQ (u v:Z2):Int:=u.1 * v.2 - u.2 * v.1
theorem rY (u v w:Z2):dQ u w * v.2=dQ u v * w.2 + dQ v w * u.2:=by unfold dQ;grind
theorem rq {a b:Int} (h:a * b < 0) (hb:0 < b):a < 0:=by
 by_cases c:a < 0
 ·exact c
 ·have:=Int.mul_nonneg (show 0<=a by omega) (Int.le_of_lt hb);omega
theorem mP {a b:Int} (h:a * b = -1) (hb:0 < b):b=1 :=
 Int.eq_one_of_dvd_one (Int.le_of_lt hb) ⟨-a,by rw [Int.mul_neg,Int.mul_comm,h];rfl⟩
theorem bA.lt {n:Nat} {fs:List Z2} (h:bA n fs):∀(k i:Nat) (u w:Z2),0 < i->fs[i]?=some u->fs[i + k + 1]?=some w->dQ u w < 0
 | 0,i,u,w,h0,hu,hw=>by
  have:=h.det i u w h0 hu hw
  unfold dQ;omega
 | k + 1,i,u,w,h0,hu,hw=>by
  have hl:=(G7.mp hw).1;obtain⟨v,hv⟩:∃v,fs[i + k + 1]?=some v:=⟨fs[i + k + 1]'(by omega),Hb _⟩;have h1:=bA.lt h k i u v h0 hu hv;have h2:dQ v w = -1:=h.det (i + k + 1) v w (by omega) hv hw;have qu:=h.low i u hu h0;have qv:=h.low _ v hv (by omega);have qw:=h.low _ w hw (by omega);have e:=rY u v w;rw [h2] at e;have a1:dQ u v * w.2 < 0:=Int.mul_neg_of_neg_of_pos h1 (by omega);have a2:dQ u w * v.2 < 0:=by rw [e];omega
  exact rq a2 (by omega)
theorem bA.inj {n:Nat} {fs:List Z2} (h:bA n fs) {i j:Nat} {u:Z2} (hi:fs[i]?=some u) (hj:fs[j]?=some u):i=j:=by
 have self:dQ u u=0:=by unfold dQ;rw [Int.mul_comm];omega
 have top:∀k:Nat,0 < k->fs[k]?≠some (1,0):=λk hk e=>by have:=h.low k _ e hk;simp at this
 rcases Nat.lt_trichotomy i j with c|c|c
 ·exfalso
  by_cases z:0 < i
  ·have:=h.lt (j - i - 1) i u u z hi (by rw [show i + (j - i - 1) + 1=j by omega];exact hj);omega
  ·have z':i=0:=by omega
   subst z';rw [h.first] at hi;cases hi;exact top j (by omega) hj
 ·exact c
 ·exfalso
  by_cases z:0 < j
  ·have:=h.lt (i - j - 1) j u u z hj (by rw [show j + (i - j - 1) + 1=i by omega];exact hi);omega
  ·have z':j=0:=by omega
   subst z';rw [h.first] at hj;cases hj;exact top i (by omega) hi
structure DL (n:Nat) (fs:List Z2) (i:Nat) (u v w:Z2):Prop where
 i0:0 < i
 il:i < n
 near:fs[i - 1]?=some u
 mid:fs[i]?=some v
 far:fs[(i + 1) % n]?=some w
 ne:v≠(0,1)
 one:(dQ u w).natAbs=1
theorem vp {n:Nat} {fs:List Z2} (h:bA n fs) (m:Nat):∀k,k<=n->0 < k->(∀i,0 < i->i < k->∀p,fs[i]?=some p->p.2<=m)\/∃i p,0 < i/\i < k/\fs[i]?=some p/\(m:Int) < p.2/\∀j,0 < j->j < k->∀r,fs[j]?=some r->r.2<=p.2
 | 0,_,h0=>absurd h0 (by decide)
 | 1,_,_=>.inl λi hi h1=>by omega
 | k + 2,hk,_=>by
  have hl:=h.len;obtain⟨p,hp⟩:∃p,fs[k + 1]?=some p:=⟨fs[k + 1]'(by omega),Hb _⟩;rcases vp h m (k + 1) (by omega) (by omega) with a|⟨i,r,i0,il,hr,hm,a⟩
  ·by_cases c:p.2<=m
   ·refine .inl λi h0 h1 r hr=>?_;rcases HF.mp h1 with z|z
    ·exact a i h0 z r hr
    ·subst z;rw [hp] at hr;cases hr;exact c
   ·refine .inr ⟨k + 1,p,by omega,by omega,hp,by omega,λj h0 h1 r hr=>?_⟩;rcases HF.mp h1 with z|z
    ·have:=a j h0 z r hr;omega
    ·subst z;rw [hp] at hr;cases hr;exact Int.le_refl _
  ·by_cases c:p.2<=r.2
   ·refine .inr ⟨i,r,i0,by omega,hr,hm,λj h0 h1 q hq=>?_⟩;rcases HF.mp h1 with z|z
    ·exact a j h0 z q hq
    ·subst z;rw [hp] at hq;cases hq;exact c
   ·refine .inr ⟨k + 1,p,by omega,by omega,hp,by omega,λj h0 h1 q hq=>?_⟩;rcases HF.mp h1 with z|z
    ·have:=a j h0 z q hq;omega
    ·subst z;rw [hp] at hq;cases hq;exact Int.le_refl _
theorem CM {n:Nat} {fs:List Z2} (h:bA n fs) (hn:2 < n):∃i u v w,DL n fs i u v w:=by
 have hl:=h.len;have at_:∀i,i < n->∃p,fs[i]?=some p:=λi hi=>⟨fs[i]'(by omega),Hb _⟩;rcases vp h 1 n (Hl _) (by omega) with a|⟨i,v,i0,il,hv,hm,a⟩
 ·
  obtain⟨p1,h1⟩:=at_ 1 (by omega);obtain⟨p2,h2⟩:=at_ 2 hn;obtain⟨pl,hpl⟩:=at_ (n - 1) (by omega);obtain⟨pk,hpk⟩:=at_ (n - 2) (by omega);have q2:p2.2=1:=by have:=a 2 (by omega) hn p2 h2;have:=h.low 2 p2 h2 (by omega);omega
  have qk:pk.2=1:=by have:=a (n - 2) (by omega) (by omega) pk hpk;have:=h.low _ pk hpk (by omega);omega
  by_cases c:p1=(0,1)
  ·have cl:pl≠(0,1):=λe=>by
    have:=h.inj (i:=1) (j:=n - 1) (u:=(0,1)) (by rw [h1,c]) (by rw [hpl,e]);omega
   refine⟨n - 1,pk,pl,(1,0),by omega,by omega,by rw [show n - 1 - 1=n - 2 by omega];exact hpk,hpl,?_,cl,?_⟩
   ·rw [show n - 1 + 1=n by omega,Nat.mod_self];exact h.first
   ·unfold dQ;show (pk.1 * 0 - pk.2 * 1).natAbs=1;rw [qk];simp
  ·refine⟨1,(1,0),p1,p2,by omega,by omega,h.first,h1,?_,c,?_⟩
   ·rw [Nat.mod_eq_of_lt (by omega)];exact h2
   ·unfold dQ;show (1 * p2.2 - 0 * p2.1).natAbs=1;rw [q2];simp
 ·
  have i1:1 < i:=by
   rcases Ih 1 i with c|c
   ·exact c
   ·have:i=1:=by omega
    subst this;have:=h.det0 v hv;omega
  have i2:i + 1 < n:=by
   rcases Ih (i + 1) n with c|c
   ·exact c
   ·have:i=n - 1:=by omega
    subst this;have:=h.last v hv;omega
  obtain⟨u,hu⟩:=at_ (i - 1) (by omega);obtain⟨w,hw⟩:=at_ (i + 1) i2;have d1:dQ u v = -1:=h.det (i - 1) u v (by omega) hu (by rw [show i - 1 + 1=i by omega];exact hv);have d2:dQ v w = -1:=h.det i v w i0 hv hw;have qu:=h.low _ u hu (by omega);have qw:=h.low _ w hw (by omega);have mu:=a (i - 1) (by omega) (by omega) u hu;have mw:=a (i + 1) (by omega) i2 w hw;have e:=rY u v w;rw [d1,d2] at e;refine⟨i,u,v,w,i0,il,hu,hv,by rw [Nat.mod_eq_of_lt i2];exact hw,λz=>by rw [z] at hm;simp at hm,?_⟩
  have nu:u.2≠v.2:=λz=>by
   unfold dQ at d1;rw [z,Int.mul_comm v.2] at d1;have:(u.1 - v.1) * v.2 = -1:=by rw [Int.sub_mul];exact d1
   have:=mP this (by omega);omega
  have nw:w.2≠v.2:=λz=>by
   unfold dQ at d2;rw [z,Int.mul_comm v.2] at d2;have:(v.1 - w.1) * v.2 = -1:=by rw [Int.sub_mul];exact d2
   have:=mP this (by omega);omega
  have lo:dQ u w * v.2 < 0:=by rw [e];omega
  have hi:-(2 * v.2) < dQ u w * v.2:=by rw [e];omega
  have l1:dQ u w < 0:=rq lo (by omega)
  have l2:-2 < dQ u w:=by
   by_cases c:-2 < dQ u w
   ·exact c
   ·have:=Int.mul_le_mul_of_nonneg_right (show dQ u w<=-2 by omega) (show 0<=v.2 by omega);omega
  omega
theorem qL {α:Type} (l:List α) (i j:Nat):(l.eraseIdx i)[j]?=if j < i then l[j]? else l[j + 1]?:=List.getElem?_eraseIdx ..
theorem bA.cut {n:Nat} {fs:List Z2} (h:bA n fs) (hn:2 < n) {i:Nat} {u v w:Z2} (e:DL n fs i u v w):bA (n - 1) (fs.eraseIdx i):=by
 have hl:=h.len;have i0:=e.i0;have il:=e.il;have hu:=e.near;have hw:=e.far;have one:=e.one;have g:=λj=>qL fs i j;have sub:∀p,p∈fs.eraseIdx i->p∈fs:=λp hp=>List.mem_of_mem_eraseIdx hp;refine⟨by rw [List.length_eraseIdx,if_pos (by omega)];omega,by omega,by have:=h.most;omega,?_,λp hp=>?_,λj p r j0 hp hr=>?_,λp hp=>?_,λj p hp j0=>?_,?_,λp hp=>h.bits p (sub p hp)⟩
 ·rw [g,if_pos i0];exact h.first
 ·rw [g] at hp
  by_cases c:1 < i
  ·rw [if_pos c] at hp;exact h.det0 p hp
  ·have:i=1:=by omega
   subst this;rw [if_neg c] at hp;rw [Nat.mod_eq_of_lt (by omega)] at hw;rw [hw] at hp;cases hp;rw [h.first] at hu;cases hu;have:=h.low _ w hw (by omega);unfold dQ at one;simp at one;omega
 ·rw [g] at hp hr
  by_cases c:j + 1 < i
  ·rw [if_pos (by omega)] at hp;rw [if_pos c] at hr;exact h.det j p r j0 hp hr
  ·rw [if_neg c] at hr
   by_cases c2:j + 1=i
   ·rw [if_pos (by omega)] at hp;rw [show i - 1=j by omega,hp] at hu;cases hu;have:=(G7.mp hr).1;rw [Nat.mod_eq_of_lt (by omega),<- c2,hr] at hw;cases hw;have:=h.lt 1 j _ _ j0 hp hr;show dQ _ _ = -1
    omega
   ·rw [if_neg (by omega)] at hp;exact h.det (j + 1) p r (by omega) hp hr
 ·rw [g] at hp
  by_cases c:i=n - 1
  ·rw [if_pos (by omega),show n - 1 - 1=i - 1 by omega,hu] at hp;cases hp;rw [c,show n - 1 + 1=n by omega,Nat.mod_self,h.first] at hw;cases hw;have:=h.low _ u hu (by omega);unfold dQ at one;simp at one;omega
  ·rw [if_neg (by omega),show n - 1 - 1 + 1=n - 1 by omega] at hp;exact h.last p hp
 ·rw [g] at hp
  by_cases c:j < i
  ·rw [if_pos c] at hp;exact h.low j p hp j0
  ·rw [if_neg c] at hp;exact h.low (j + 1) p hp (by omega)
 ·obtain⟨k,hk⟩:=HM h.nought;have hk':=(G7.mp hk).1;have ne:k≠i:=λz=>by rw [z,e.mid] at hk;exact e.ne (Hn hk)
  by_cases c:k < i
  ·exact Hm (i:=k) (by rw [g,if_pos c];exact hk)
  ·exact Hm (i:=k - 1) (by rw [g,if_neg (by omega),show k - 1 + 1=k by omega];exact hk)
abbrev pP:=Z2×Z2
def nx (n i:Nat):Nat:=if i + 1=n then 0 else i + 1
def Bd (row:List Z2) (e:pP):Prop:=∃i,row[i]?=some e.1/\row[nx row.length i]?=some e.2
def Inj (row:List Z2):Prop:=∀(i j:Nat) (u:Z2),row[i]?=some u->row[j]?=some u->i=j
theorem xH {n i:Nat} (h:i < n):(i + 1) % n=nx n i:=by
 unfold nx
 by_cases c:i + 1=n
 ·rw [if_pos c,c,Nat.mod_self]
 ·rw [if_neg c,Nat.mod_eq_of_lt (by omega)]
theorem zF {row:List Z2} (hi:Inj row) {i:Nat} {u v w:Z2} (i0:0 < i) (h2:2 < row.length)
  (hu:row[i - 1]?=some u) (hv:row[i]?=some v) (hw:row[nx row.length i]?=some w) (e:pP) :
  Bd (row.eraseIdx i) e↔e=(u,w)\/(Bd row e/\e.1≠v/\e.2≠v):=by
 have il:=(G7.mp hv).1;have hl:(row.eraseIdx i).length=row.length - 1:=by rw [List.length_eraseIdx,if_pos il]
 have g:=λj=>qL row i j
 have gap:(row.eraseIdx i)[i - 1]?=some u/\(row.eraseIdx i)[nx (row.length - 1) (i - 1)]?=some w:=by
  refine⟨by rw [g,if_pos (by omega)];exact hu,?_⟩;rw [g]
  by_cases c:i + 1=row.length
  ·have e1:nx (row.length - 1) (i - 1)=0:=by unfold nx;rw [if_pos (by omega)]
   have e2:nx row.length i=0:=by unfold nx;rw [if_pos c]
   rw [e2] at hw;rw [e1,if_pos i0];exact hw
  ·have e1:nx (row.length - 1) (i - 1)=i:=by unfold nx;rw [if_neg (by omega)];omega
   have e2:nx row.length i=i + 1:=by unfold nx;rw [if_neg c]
   rw [e2] at hw;rw [e1,if_neg (by omega)];exact hw
 have nv:∀j x,row[j]?=some x->j≠i->x≠v:=λj x hj hne z=>hne (hi j i v (z▸hj) hv)
 constructor
 ·rintro⟨j,ha,hb⟩;rw [hl] at hb
  by_cases c1:j + 1=i
  ·have:j=i - 1:=by omega
   subst this
   left
   rw [gap.1] at ha;rw [gap.2] at hb;exact Ik (Hn ha).symm (Hn hb).symm
  ·right
   rw [g] at ha hb
   by_cases c2:j < i
   ·have e1:nx (row.length - 1) j=j + 1:=by unfold nx;rw [if_neg (by omega)]
    have e2:nx row.length j=j + 1:=by unfold nx;rw [if_neg (by omega)]
    rw [if_pos c2] at ha;rw [e1,if_pos (by omega)] at hb;exact⟨⟨j,ha,by rw [e2];exact hb⟩,nv j _ ha (by omega),nv (j + 1) _ hb (by omega)⟩
   ·rw [if_neg c2] at ha
    by_cases c3:j + 1=row.length - 1
    ·have e1:nx (row.length - 1) j=0:=by unfold nx;rw [if_pos c3]
     have e2:nx row.length (j + 1)=0:=by unfold nx;rw [if_pos (by omega)]
     rw [e1,if_pos i0] at hb;exact⟨⟨j + 1,ha,by rw [e2];exact hb⟩,nv _ _ ha (by omega),nv 0 _ hb (by omega)⟩
    ·have e1:nx (row.length - 1) j=j + 1:=by unfold nx;rw [if_neg c3]
     have e2:nx row.length (j + 1)=j + 2:=by unfold nx;rw [if_neg (by omega)]
     rw [e1,if_neg (by omega)] at hb;exact⟨⟨j + 1,ha,by rw [e2];exact hb⟩,nv _ _ ha (by omega),nv _ _ hb (by omega)⟩
 ·rintro (rfl|⟨⟨j,ha,hb⟩,h1,h2'⟩)
  ·exact⟨i - 1,gap.1,by rw [hl];exact gap.2⟩
  ·have j1:j≠i:=λz=>h1 (by rw [z,hv] at ha;exact (Hn ha).symm);have j2:nx row.length j≠i:=λz=>h2' (by rw [z,hv] at hb;exact (Hn hb).symm);have jl:=(G7.mp ha).1
   by_cases c:j < i
   ·have e2:nx row.length j=j + 1:=by unfold nx;rw [if_neg (by omega)]
    rw [e2] at hb j2;refine⟨j,by rw [g,if_pos c];exact ha,?_⟩;have e1:nx (row.length - 1) j=j + 1:=by unfold nx;rw [if_neg (by omega)]
    rw [hl,e1,g,if_pos (by omega)];exact hb
   ·refine⟨j - 1,by rw [g,if_neg (by omega),show j - 1 + 1=j by omega];exact ha,?_⟩;rw [hl,g]
    by_cases c3:j + 1=row.length
    ·have e1:nx (row.length - 1) (j - 1)=0:=by unfold nx;rw [if_pos (by omega)]
     have e2:nx row.length j=0:=by unfold nx;rw [if_pos c3]
     rw [e2] at hb;rw [e1,if_pos i0];exact hb
    ·have e1:nx (row.length - 1) (j - 1)=j:=by unfold nx;rw [if_neg (by omega)];omega
     have e2:nx row.length j=j + 1:=by unfold nx;rw [if_neg c3]
     rw [e2] at hb;rw [e1,if_neg (by omega)];exact hb
abbrev dW:=Z2×Z2×Z2
def te (t:dW):List pP:=[(t.1,t.2.1),(t.2.1,t.2.2),(t.2.2,t.1)]
def dO (ts:List dW):List pP:=ts.flatMap te
def rv (e:pP):pP:=(e.2,e.1)
def lN:pP:=((1,0),(0,1))
def tL:pP:=((0,1),(1,0))
inductive dN:List Z2->List dW->Prop
 | done {row:List Z2}:row.length=2->dN row []
 | cut {row:List Z2} {i:Nat} {u v w:Z2} {ts:List dW}:2 < row.length->DL row.length row i u v w->dN (row.eraseIdx i) ts->dN row ((u,v,w) :: ts)
theorem bH {t:dW} {ts:List dW} {e:pP}:e∈dO (t :: ts)↔e=(t.1,t.2.1)\/e=(t.2.1,t.2.2)\/e=(t.2.2,t.1)\/e∈dO ts:=by
 unfold dO te;simp only [List.flatMap_cons,HJ,Hx,HN,or_false,or_assoc]
theorem Bd.next {row:List Z2} (hi:Inj row) {a b c:Z2} (h1:Bd row (a,b)) (h2:Bd row (a,c)):b=c:=by
 obtain⟨i,a1,b1⟩:=h1;obtain⟨j,a2,b2⟩:=h2;have:=hi i j a a1 a2;subst this;rw [b1] at b2;exact Hn b2
theorem Bd.back {row:List Z2} (hi:Inj row) (hl:2 < row.length) {a b:Z2} (h1:Bd row (a,b)) (h2:Bd row (b,a)):False:=by
 obtain⟨i,a1,b1⟩:=h1;obtain⟨j,b2,a2⟩:=h2;have e1:=hi _ _ _ b1 b2;have e2:=hi _ _ _ a1 a2;have l1:=(G7.mp a1).1;have l2:=(G7.mp b2).1;unfold nx at e1 e2
 split at e1 <;> split at e2 <;> omega
theorem Bd.mem {row:List Z2} {e:pP} (h:Bd row e):e.1∈row/\e.2∈row:=by
 obtain⟨i,a,b⟩:=h;exact⟨Hm a,Hm b⟩
structure Cut (row row':List Z2) (u v w:Z2):Prop where
 inj:Inj row
 inj':Inj row'
 more:2 < row.length
 one:Bd row (u,v)
 two:Bd row (v,w)
 bd:∀e,Bd row' e↔e=(u,w)\/(Bd row e/\e.1≠v/\e.2≠v)
 off:v∉row'
 ne0:v≠(0,1)
 ne1:v≠(1,0)
 uv:u≠v
 vw:v≠w
 uw:u≠w
 sub:∀p∈row',p∈row
 mu:u∈row
 mv:v∈row
 mw:w∈row
theorem bA.Ei {row:List Z2} (h:bA row.length row) (hn:2 < row.length) {i:Nat} {u v w:Z2} (e:DL row.length row i u v w):Cut row (row.eraseIdx i) u v w:=by
 have i0:=e.i0;have il:=e.il;have hi:Inj row:=λ_ _ _=>h.inj;have hw:=e.far;rw [xH il] at hw;have hc:=h.cut hn e;have n1:nx row.length (i - 1)=i:=by unfold nx;rw [if_neg (by omega)];omega
 have b1:Bd row (u,v):=⟨i - 1,e.near,by rw [n1];exact e.mid⟩;have b2:Bd row (v,w):=⟨i,e.mid,hw⟩
 have uv:u≠v:=λz=>by
  have:=hi _ _ _ e.near (z▸e.mid);omega
 refine⟨hi,λ_ _ _=>hc.inj,hn,b1,b2,zF hi i0 hn e.near e.mid hw,λhm=>?_,e.ne,λz=>?_,uv,λz=>?_,λz=>?_,λp hp=>List.mem_of_mem_eraseIdx hp,b1.mem.1,b1.mem.2,b2.mem.2⟩
 ·obtain⟨j,hj⟩:=HM hm;rw [qL] at hj
  by_cases c:j < i
  ·rw [if_pos c] at hj;have:=hi _ _ _ hj e.mid;omega
  ·rw [if_neg c] at hj;have:=hi _ _ _ hj e.mid;omega
 ·have:=hi _ _ _ h.first (z▸e.mid);omega
 ·have:=hi _ _ _ (z▸e.mid) hw;unfold nx at this;split at this <;> omega
 ·have:=hi _ _ _ (z▸e.near) hw;unfold nx at this;split at this <;> omega
theorem bA.pair {row:List Z2} (h:bA row.length row) (h2:row.length=2):row=[(1,0),(0,1)]:=by
 match row,h2,h.first,h.nought with
 | [a,b],_,f,m =>
  cases (Hn f:a=(1,0));simp at m;rw [<- m]
theorem pX (e:pP):Bd [(1,0),(0,1)] e↔e=lN\/e=tL:=by
 constructor
 ·rintro⟨i,a,b⟩
  match i with
  | 0=>exact .inl (Ik (Hn a).symm (Hn b).symm)
  | 1=>exact .inr (Ik (Hn a).symm (Hn b).symm)
  | i + 2=>cases a
 ·rintro (rfl|rfl)
  ·exact⟨0,rfl,rfl⟩
  ·exact⟨1,rfl,rfl⟩
structure dF (row:List Z2) (ts:List dW):Prop where
 inn:∀e∈dO ts,e.1∈row/\e.2∈row
 ne:∀e∈dO ts,e.1≠e.2
 none:∀e,Bd row e->rv e∉dO ts
 dif:(dO ts).Nodup
 a:lN∈dO ts↔¬ Bd row tL
 b:tL∈dO ts↔¬ Bd row lN
 c:∀e,Bd row e->e≠lN->e≠tL->e∈dO ts
 d:∀e∈dO ts,¬ Bd row e->e≠lN->e≠tL->rv e∈dO ts
 e:∀S:pP->Prop,(∀t∈ts,(S (t.1,t.2.1)->S (t.2.1,t.2.2))/\(S (t.2.1,t.2.2)->S (t.2.2,t.1))/\(S (t.2.2,t.1)->S (t.1,t.2.1)))->(∀e∈dO ts,¬ Bd row e->S e->S (rv e))->(lN∈dO ts->S lN)->(tL∈dO ts->S tL)->∀e∈dO ts,S e
theorem wN:dF [(1,0),(0,1)] [] where
 inn:=λe h=>by cases h
 ne:=λe h=>by cases h
 none:=λe _ h=>by cases h
 dif:=List.nodup_nil
 a:=⟨λh=>absurd h (by simp [dO]),λh=>absurd ((pX _).mpr (.inr rfl)) h⟩
 b:=⟨λh=>absurd h (by simp [dO]),λh=>absurd ((pX _).mpr (.inl rfl)) h⟩
 c:=λe h h1 h2=>((pX e).mp h).elim (λz=>absurd z h1) (λz=>absurd z h2)
 d:=λe h=>by cases h
 e:=λS _ _ _ _ e h=>by cases h
theorem pG {row row':List Z2} {u v w:Z2} {ts:List dW} (k:Cut row row' u v w) (h:dF row' ts) {x y:pP} (hr:rv x=y) (hx:x.1≠v/\x.2≠v)
  (h':x∈dO ts↔¬ Bd row' y):x∈dO ((u,v,w) :: ts)↔¬ Bd row y:=by
 subst hr;rw [bH]
 by_cases c:x=(w,u)
 ·subst c;refine⟨λ_ hb=>?_,λ_=>.inr (.inr (.inl rfl))⟩;exact k.vw (Bd.next k.inj k.one hb)
 ·have:Bd row' (rv x)↔Bd row (rv x):=by
   rw [k.bd];refine⟨?_,λhb=>.inr ⟨hb,hx.2,hx.1⟩⟩
   rintro (z|z)
   ·exact absurd (by have:=congrArg rv z;exact this) c
   ·exact z.1
  rw [<- this,<- h'];refine⟨?_,λm=>.inr (.inr (.inr m))⟩
  rintro (z|z|z|z)
  ·exact absurd (by rw [z]) hx.2
  ·exact absurd (by rw [z]) hx.1
  ·exact absurd z c
  ·exact z
theorem zo {row row':List Z2} {u v w:Z2} {ts:List dW} (k:Cut row row' u v w) (h:dF row' ts):dF row ((u,v,w) :: ts):=by
 have novert:∀e∈dO ts,e.1≠v/\e.2≠v:=λe he=>⟨λz=>k.off (z▸(h.inn e he).1),λz=>k.off (z▸(h.inn e he).2)⟩;have buw:Bd row' (u,w):=(k.bd _).mpr (.inl rfl);have nuw:¬ Bd row (u,w):=λhb=>k.vw (Bd.next k.inj k.one hb);have nwu:(w,u)∉dO ts:=h.none (u,w) buw;refine⟨λe he=>?_,λe he=>?_,λe hb he=>?_,?_,pG k h rfl ⟨λz=>k.ne1 z.symm,λz=>k.ne0 z.symm⟩ h.a,pG k h rfl ⟨λz=>k.ne0 z.symm,λz=>k.ne1 z.symm⟩ h.b,λe hb n1 n2=>?_,λe he hb n1 n2=>?_,λS hr hv h1 h2=>?_⟩
 ·rcases bH.mp he with rfl|rfl|rfl|m
  ·exact⟨k.mu,k.mv⟩
  ·exact⟨k.mv,k.mw⟩
  ·exact⟨k.mw,k.mu⟩
  ·exact⟨k.sub _ (h.inn e m).1,k.sub _ (h.inn e m).2⟩
 ·rcases bH.mp he with rfl|rfl|rfl|m
  ·exact k.uv
  ·exact k.vw
  ·exact λz=>k.uw z.symm
  ·exact h.ne e m
 ·rcases bH.mp he with z|z|z|m
  ·have:e=(v,u):=congrArg rv z;exact Bd.back k.inj k.more k.one (this▸hb)
  ·have:e=(w,v):=congrArg rv z;exact Bd.back k.inj k.more k.two (this▸hb)
  ·have:e=(u,w):=congrArg rv z;exact nuw (this▸hb)
  ·have nv:=novert _ m;exact h.none e ((k.bd e).mpr (.inr ⟨hb,nv.2,nv.1⟩)) m
 ·show (te (u,v,w) ++ dO ts).Nodup
  refine Iu.mpr ⟨?_,h.dif,?_⟩
  ·unfold te;simp only [HS,Hx,HN,or_false,not_or,Prod.mk.injEq,not_and,not_false_eq_true,List.nodup_nil,and_true];exact⟨⟨λz=>absurd z k.uv,λz=>absurd z k.uw⟩,λz=>absurd z k.vw⟩
  ·intro a ha b hb z;subst z;have nv:=novert _ hb;unfold te at ha;simp only [Hx,HN,or_false] at ha;rcases ha with rfl|rfl|rfl
   ·exact nv.2 rfl
   ·exact nv.1 rfl
   ·exact nwu hb
 ·by_cases c:e.1=v
  ·have:e=(v,w):=Ik c (Bd.next k.inj (show Bd row (v,e.2) by rw [<- c];exact hb) k.two);exact bH.mpr (.inr (.inl this))
  ·by_cases c2:e.2=v
   ·obtain⟨i,a1,b1⟩:=hb;obtain⟨j,a2,b2⟩:=k.one;have il:=(G7.mp a1).1;have jl:=(G7.mp a2).1;have:=k.inj _ _ v (c2▸b1) b2;have ij:i=j:=by unfold nx at this;split at this <;> split at this <;> omega
    subst ij;rw [a1] at a2;exact bH.mpr (.inl (Ik (Hn a2) c2))
   ·exact bH.mpr (.inr (.inr (.inr (h.c e ((k.bd e).mpr (.inr ⟨hb,c,c2⟩)) n1 n2))))
 ·rcases bH.mp he with z|z|z|m
  ·exact absurd (z▸k.one) hb
  ·exact absurd (z▸k.two) hb
  ·have:rv e=(u,w):=congrArg rv z;rw [this];refine bH.mpr (.inr (.inr (.inr (h.c _ buw (λq=>n2 ?_) (λq=>n1 ?_)))))
   ·rw [z];exact congrArg rv q
   ·rw [z];exact congrArg rv q
  ·by_cases c:Bd row' e
   ·rcases (k.bd e).mp c with rfl|⟨q,_⟩
    ·exact bH.mpr (.inr (.inr (.inl rfl)))
    ·exact absurd q hb
   ·exact bH.mpr (.inr (.inr (.inr (h.d e m c n1 n2))))
 ·have old:∀e∈dO ts,S e:=h.e S (λt ht=>hr t (Hq _ ht)) (λe he hb=>by
    refine hv e (bH.mpr (.inr (.inr (.inr he)))) λq=>hb ?_;have nv:=novert e he
    exact (k.bd e).mpr (.inr ⟨q,nv.1,nv.2⟩)) (λm=>h1 (bH.mpr (.inr (.inr (.inr m))))) (λm=>h2 (bH.mpr (.inr (.inr (.inr m)))))
  have r:=hr (u,v,w) (Hy ..)
  have last:S (w,u):=by
   by_cases c1:(u,w)=lN
   ·have:(w,u)=tL:=congrArg rv c1;rw [this];exact h2 (bH.mpr (.inr (.inr (.inl this.symm))))
   ·by_cases c2:(u,w)=tL
    ·have:(w,u)=lN:=congrArg rv c2;rw [this];exact h1 (bH.mpr (.inr (.inr (.inl this.symm))))
    ·have m:=h.c _ buw c1 c2;exact hv (u,w) (bH.mpr (.inr (.inr (.inr m)))) nuw (old _ m)
  intro e he;rcases bH.mp he with rfl|rfl|rfl|m
  ·exact r.2.2 last
  ·exact r.1 (r.2.2 last)
  ·exact last
  ·exact old e m
theorem sJ {row:List Z2} {ts:List dW} (t:dN row ts):bA row.length row->dF row ts:=by
 induction t with
 | done h2=>intro h;rw [h.pair h2];exact wN
 | cut hn e _ ih =>
  rename_i row i u v w ts _;intro h;have hc:=h.cut hn e;have hl:(row.eraseIdx i).length=row.length - 1:=by rw [List.length_eraseIdx,if_pos e.il]
  exact zo (h.Ei hn e) (ih (by rw [hl];exact hc))
inductive br where
 | gap (i:Nat)|edge (e:pP)
 deriving DecidableEq
def a8 (fs:List Z2) (i:Nat):pP:=(fs.getD i (1,0),fs.getD (nx fs.length i) (1,0))
theorem x9 {n i:Nat} (h:i < n):nx n i < n:=by unfold nx;split <;> omega
section
variable {fs:List Z2} {ms:List Mk} {ts:List dW} {ha th:br->Option br}
theorem kr {l:List Z2} {i:Nat} (h:i < l.length):l[i]?=some (l.getD i (1,0)):=by
 rw [Ip,Hb h];rfl
theorem vy {i:Nat} (h:i < fs.length):Bd fs (a8 fs i):=⟨i,kr h,kr (x9 h)⟩
theorem qO {e:pP} (h:Bd fs e):∃i,i < fs.length/\e=a8 fs i:=by
 obtain⟨i,h1,h2⟩:=h;have hi:=(G7.mp h1).1;rw [kr hi] at h1;rw [kr (x9 hi)] at h2;exact⟨i,hi,Ik (Hn h1).symm (Hn h2).symm⟩
theorem nI (h:bA fs.length fs) {i j:Nat} (hi:i < fs.length) (hj:j < fs.length) (e:a8 fs i=a8 fs j):i=j :=
 h.inj (kr hi) (by rw [kr hj];exact congrArg some (congrArg Prod.fst e).symm)
structure Links (fs:List Z2) (ms:List Mk) (ts:List dW) (ha th:br->Option br):Prop where
 rot:∀t∈ts,th (.edge (t.1,t.2.1))=some (.edge (t.2.1,t.2.2))/\th (.edge (t.2.1,t.2.2))=some (.edge (t.2.2,t.1))/\th (.edge (t.2.2,t.1))=some (.edge (t.1,t.2.1))
 thg:∀i,ms[i]?=some Mk.aV->th (.gap i)=some (.gap i)
 hag:∀i,ms[i]?=some Mk.aV->ha (.gap i)=some (.edge (a8 fs i))/\ha (.edge (a8 fs i))=some (.gap i)
 hah:∀i,ms[i]?=some Mk.half->ha (.edge (a8 fs i))=some (.edge (a8 fs i))
 ham:∀i j,ms[i]?=some (Mk.gap j)->ha (.edge (a8 fs i))=some (.edge (a8 fs j))
 hai:∀e∈dO ts,¬ Bd fs e->ha (.edge e)=some (.edge (rv e))
def oN (ms:List Mk) (ts:List dW):br->Prop
 | .gap i=>ms[i]?=some Mk.aV
 | .edge e=>e∈dO ts
theorem jU {e:pP} (h:e∈dO ts):∃t∈ts,e∈te t:=List.mem_flatMap.mp h
theorem yl {t:dW} (h:t∈ts) {e:pP} (he:e∈te t):e∈dO ts:=List.mem_flatMap.mpr ⟨t,h,he⟩
theorem jg (h:bA fs.length fs) (hn:2 < fs.length) (k:dF fs ts) {i:Nat} (hi:i < fs.length):a8 fs i∈dO ts:=by
 have hb:=vy hi;have inj:Inj fs:=λ_ _ _=>h.inj
 by_cases c1:a8 fs i=lN
 ·rw [c1] at hb ⊢;exact k.a.mpr λh2=>Bd.back inj hn hb h2
 ·by_cases c2:a8 fs i=tL
  ·rw [c2] at hb ⊢;exact k.b.mpr λh2=>Bd.back inj hn h2 hb
  ·exact k.c _ hb c1 c2
theorem EB (k:dF fs ts) {e:pP} (he:e∈dO ts) (hb:¬ Bd fs e):rv e∈dO ts:=by
 by_cases c1:e=lN
 ·subst c1;exact k.b.mpr hb
 ·by_cases c2:e=tL
  ·subst c2;exact k.a.mpr hb
  ·exact k.d e he hb c1 c2
theorem qm (m:nU fs.length ms) {i:Nat} (hi:i < fs.length):ms[i]?=some Mk.half\/ms[i]?=some Mk.aV\/∃j,j < fs.length/\ms[i]?=some (Mk.gap j):=by
 have hl:=m.len;have:ms[i]?=some (ms[i]'(by omega)):=Hb _
 cases e:ms[i]'(by omega) with
 | half=>rw [e] at this;exact .inl this
 | aV=>rw [e] at this;exact .inr (.inl this)
 | gap j =>
  rw [e] at this;have q:=(G7.mp (m.pair i j this).2).1;exact .inr (.inr ⟨j,by omega,this⟩)
theorem cT (m:nU fs.length ms) {i:Nat} {x:Mk} (h:ms[i]?=some x):i < fs.length:=by
 have:=(G7.mp h).1;have:=m.len;omega
theorem gU (h:i9 fs ms) (hn:2 < fs.length) (k:dF fs ts) (l:Links fs ms ts ha th) {p:br} (hp:oN ms ts p):∃q,ha p=some q/\oN ms ts q/\ha q=some p:=by
 cases p with
 | gap i =>
  have hp':ms[i]?=some Mk.aV:=hp
  exact⟨_,(l.hag i hp').1,jg h.fr hn k (cT h.mar hp'),(l.hag i hp').2⟩
 | edge e =>
  have he:e∈dO ts:=hp
  by_cases hb:Bd fs e
  ·obtain⟨i,hi,rfl⟩:=qO hb;rcases qm h.mar hi with c|c|⟨j,hj,c⟩
   ·exact⟨_,l.hah i c,he,l.hah i c⟩
   ·exact⟨_,(l.hag i c).2,c,(l.hag i c).1⟩
   ·exact⟨_,l.ham i j c,jg h.fr hn k hj,l.ham j i (h.mar.pair i j c).2⟩
  ·have r:=EB k he hb;refine⟨_,l.hai e he hb,r,?_⟩;have nb:¬ Bd fs (rv e):=λq=>k.none _ q he;exact l.hai (rv e) r nb
theorem sx (l:Links fs ms ts ha th) {p:br} (hp:oN ms ts p):∃q,th p=some q/\oN ms ts q:=by
 cases p with
 | gap i=>exact⟨_,l.thg i hp,hp⟩
 | edge e =>
  obtain⟨t,ht,he⟩:=jU hp;have r:=l.rot t ht;have m:∀x∈te t,x∈dO ts:=λx hx=>yl ht hx;unfold te at he m;simp only [Hx,HN,or_false] at he;rcases he with rfl|rfl|rfl
  ·exact⟨_,r.1,m _ (by simp)⟩
  ·exact⟨_,r.2.1,m _ (by simp)⟩
  ·exact⟨_,r.2.2,m _ (by simp)⟩
theorem Co (h:i9 fs ms) (hn:2 < fs.length) (k:dF fs ts) (l:Links fs ms ts ha th) {p:br} (hp:oN ms ts p):ha p=some p↔∃i,ms[i]?=some Mk.half/\p=.edge (a8 fs i):=by
 constructor
 ·intro hf
  cases p with
  | gap i=>rw [(l.hag i hp).1] at hf;cases hf
  | edge e =>
   have he:e∈dO ts:=hp
   by_cases hb:Bd fs e
   ·obtain⟨i,hi,rfl⟩:=qO hb;rcases qm h.mar hi with c|c|⟨j,hj,c⟩
    ·exact⟨i,c,rfl⟩
    ·rw [(l.hag i c).2] at hf;cases hf
    ·rw [l.ham i j c] at hf;have:=nI h.fr hj hi (by injection hf with q;injection q);exact absurd this (h.mar.pair i j c).1
   ·rw [l.hai e he hb] at hf;have q:rv e=e:=by injection hf with q;injection q
    exact absurd (congrArg Prod.fst q).symm (k.ne e he)
 ·rintro⟨i,c,rfl⟩;exact l.hah i c
theorem Cr (k:dF fs ts) (l:Links fs ms ts ha th) {p:br} (hp:oN ms ts p):th p=some p↔∃i,ms[i]?=some Mk.aV/\p=.gap i:=by
 constructor
 ·intro hf
  cases p with
  | gap i=>exact⟨i,hp,rfl⟩
  | edge e =>
   exfalso;have hp':e∈dO ts:=hp;obtain⟨t,ht,he⟩:=jU hp';have r:=l.rot t ht;have ne:=k.ne e hp';unfold te at he;simp only [Hx,HN,or_false] at he;rcases he with rfl|rfl|rfl
   ·rw [r.1] at hf;injection hf with q;injection q with q;exact ne (congrArg Prod.fst q).symm
   ·rw [r.2.1] at hf;injection hf with q;injection q with q;exact ne (congrArg Prod.fst q).symm
   ·rw [r.2.2] at hf;injection hf with q;injection q with q;exact ne (congrArg Prod.fst q).symm
 ·rintro⟨i,c,rfl⟩;exact l.thg i c
def qK (fs:List Z2) (ts:List dW) (ha:br->Option br) (f:br):Prop:=(lN∈dO ts/\f=.edge lN)\/(lN∉dO ts/\ha (.edge (a8 fs (fs.length - 1)))=some f)
theorem zD (h:bA fs.length fs) (hb:Bd fs tL):a8 fs (fs.length - 1)=tL:=by
 obtain⟨i,hi,e⟩:=qO hb
 have h2:fs[nx fs.length i]?=some (1,0):=by
  rw [kr (x9 hi)];exact congrArg some (congrArg Prod.snd e).symm
 have:=h.inj h2 h.first;unfold nx at this
 split at this
 ·have:i=fs.length - 1:=by omega
  rw [<- this];exact e.symm
 ·omega
theorem xy (h:i9 fs ms) (hn:2 < fs.length) (k:dF fs ts) (l:Links fs ms ts ha th) {f:br} (hf:qK fs ts ha f):oN ms ts f:=by
 rcases hf with ⟨a,rfl⟩|⟨_,b⟩
 ·exact a
 ·obtain⟨q,h1,h2,_⟩:=gU (p:=.edge (a8 fs (fs.length - 1))) h hn k l (jg h.fr hn k (by omega));rw [b] at h1;cases h1;exact h2
theorem reach (h:i9 fs ms) (hn:2 < fs.length) (k:dF fs ts) (l:Links fs ms ts ha th) {f:br} (hf:qK fs ts ha f) {S:br->Prop} (s0:S f) (s1:∀p q,S p->ha p=some q->S q) (s2:∀p q,S p->th p=some q->S q):∀p,oN ms ts p->S p:=by
 have both:(lN∈dO ts->S (.edge lN))/\(tL∈dO ts->S (.edge tL)):=by
  rcases hf with ⟨a,rfl⟩|⟨na,b⟩
  ·refine⟨λ_=>s0,λm=>?_⟩;exact s1 _ _ s0 (l.hai lN a (k.b.mp m))
  ·refine⟨λm=>absurd m na,λ_=>?_⟩;have hb:Bd fs tL:=Classical.byContradiction λq=>na (k.a.mpr q);obtain⟨q,h1,h2,h3⟩:=gU (p:=.edge (a8 fs (fs.length - 1))) h hn k l (jg h.fr hn k (by omega));rw [b] at h1;cases h1;rw [zD h.fr hb] at h3;exact s1 _ _ s0 h3
 have edges:∀e∈dO ts,S (.edge e):=k.e (λe=>S (.edge e)) (λt ht=>⟨λq=>s2 _ _ q (l.rot t ht).1,λq=>s2 _ _ q (l.rot t ht).2.1,λq=>s2 _ _ q (l.rot t ht).2.2⟩) (λe he hb q=>s1 _ _ q (l.hai e he hb)) both.1 both.2;intro p hp
 cases p with
 | edge e=>exact edges e hp
 | gap i =>
  have hp':ms[i]?=some Mk.aV:=hp;exact s1 _ _ (edges _ (jg h.fr hn k (cT h.mar hp'))) (l.hag i hp').2
end
theorem wj {α β:Type} [DecidableEq α] {met:List α} {is:List β} {g:β->α} (P:α->Bool) (nd:met.Nodup) (gi:∀i∈is,∀j∈is,g i=g j->i=j) (ni:is.Nodup) (hP:∀p∈met,P p=true↔∃i∈is,p=g i) (hm:∀i∈is,g i∈met):(met.filter P).length=is.length:=by
 have n1:(met.filter P).Nodup:=nd.filter P
 have n2:(is.map g).Nodup:=by
  rw [List.nodup_iff_pairwise_ne,List.pairwise_map];exact (List.nodup_iff_pairwise_ne.mp ni).imp_of_mem λha hb ne e=>ne (gi _ ha _ hb e)
 have perm:(met.filter P).Perm (is.map g):=(List.perm_ext_iff_of_nodup n1 n2).mpr λa=>by
  rw [List.mem_filter,HG]
  constructor
  ·rintro⟨h1,h2⟩;obtain⟨i,hi,e⟩:=(hP a h1).mp h2;exact⟨i,hi,e.symm⟩
  ·rintro⟨i,hi,rfl⟩;exact⟨hm i hi,(hP _ (hm i hi)).mpr ⟨i,hi,rfl⟩⟩
 rw [perm.length_eq,Hh]
end L2.L3
namespace K55
open PySem L2 L2.L3
def Fp (t:dW):D:=.tup [eL t.1,eL t.2.1,eL t.2.2]
theorem xp {α β:Type} (f:α->β) (l:List α) (i:Nat):(l.map f).eraseIdx i=(l.eraseIdx i).map f:=by
 apply List.ext_getElem?
 intro j;simp only [qL,Hi]
 split <;> rfl
def yb (x:D) (Q:D->Prop):Prop:=∃fs,x=.tup (fs.map eL)/\bA fs.length fs/\∀ts,dN fs ts->ts.length<=fs.length->Q (.lst (ts.map Fp))
def dA:Fw:=F1 yb
def gJ:bG:=(gj A2 (af (cC (.int 1)) (af (bI 1) av)) (aW 3) (aK (bT 4 (bW 1 (aL my (ag 3) (cC (.int 1))))) (aK (bT 5 (bW 1 (aL oR (aL eT (ag 3) (cC (.int 1))) (bI 1)))) (gK (oI (aN (aL rJ (bW 1 (ag 3)) (a6 (af (cC (.int 0)) (af (cC (.int 1)) av))))) (aN (aL kb (aB xM (af (aL my (aL wR (aL cK (ag 4) (cC (.int 0))) (aL cK (ag 5) (cC (.int 1)))) (aL wR (aL cK (ag 4) (cC (.int 1))) (aL cK (ag 5) (cC (.int 0))))) av)) (cC (.int 1))))) (aK (cE 2 (a6 (af (ag 4) (af (bW 1 (ag 3)) (af (ag 5) av))))) (aK (r8 1 (ag 3)) iz)) bC))))
def ig:bG:=(aK (bJ 1 (iM (af (ag 0) av))) (aK (bJ 2 (kn av)) (aK (jr (aN (aL Eb (bI 1) (cC (.int 2)))) gJ) (cP 2 (b8 (ag 2))))))
theorem oF:∀ds Q,dA ds Q->ds.length=1:=iY
theorem pZ:∀ds (Q:D->Prop),dA ds Q->ig { nx:=λ_=>Q .non,rt:=Q } (aE ["_law_fractions_here","_law_row_here","_law_tiles_here","_law_i","_law_near","_law_far"] ds):=by
 rintro ds Q ⟨x,rfl,fs,rfl,hf,h⟩
 simp_arith only [ig,jr,r8]
 refine⟨λe=>∃(row:List Z2) (acc:List dW) (k3 k4 k5:Option Lo),e=[some (.d (.tup (fs.map eL))),some (.own (row.map eL)),some (.own (acc.map Fp)),k3,k4,k5]/\bA row.length row/\(∀rest,dN row rest->dN fs (acc ++ rest))/\acc.length + row.length=fs.length,
  yj 1,⟨fs,[],none,none,none,rfl,hf,λrest t=>t,by simp⟩,?_⟩
 rintro env ⟨row,acc,k3,k4,k5,rfl,hr,ht,hlen⟩;have two:=hr.two;have most:=hf.most;refine⟨_,rfl,?_⟩
 by_cases c:2 < row.length
 ·rw [if_pos (by rw [Hh];omega)]
  simp_arith only [gJ,r8,Hh]
  refine⟨by omega,by omega,?_⟩;refine cp (λi e=>∃k3 k4 k5:Option Lo,e=[some (.d (.tup (fs.map eL))),some (.own (row.map eL)),some (.own (acc.map Fp)),k3,k4,k5]/\∀j u v w,j < i + 1->¬ DL row.length row j u v w) ?_ ?_ ⟨k3,k4,k5,rfl,λj u v w hj e=>by have:=e.i0;omega⟩
  ·rintro i x env N hx ⟨k3,k4,k5,rfl,hno⟩ hN
   have hi:i < row.length - 1:=by
    have:=(G7.mp hx).1;simp [aM] at this;omega
   have hxe:x=.int ((i + 1:Nat):Int):=by
    unfold aM at hx;rw [Hi,Ie (by omega)] at hx;cases hx;simp
    try omega
   subst hxe;have hu:row[i]?=some row[i]:=Hb (by omega);have hv:row[i + 1]?=some row[i + 1]:=Hb (by omega);have hm:(i + 1 + 1) % row.length < row.length:=Nat.mod_lt _ (by omega);have hw:row[(i + 1 + 1) % row.length]?=some (row[(i + 1 + 1) % row.length]):=Hb hm;generalize row[i]=u at hu;generalize row[i + 1]=v at hv;generalize row[(i + 1 + 1) % row.length]=w at hw;have e1:ja (row.map eL) (((i + 1:Nat):Int) - 1)=some (eL u):=by rw [show ((i + 1:Nat):Int) - 1=(i:Int) by omega];exact eu _ _ i _ hu
   have e2:ja (row.map eL) ((i + 1:Nat):Int)=some (eL v):=eu _ _ (i + 1) _ hv
   have e3:ja (row.map eL) ((((i + 1:Nat):Int) + 1).fmod (row.length:Int))=some (eL w):=by
    have:(((i + 1:Nat):Int) + 1).fmod (row.length:Int)=(((i + 1 + 1) % row.length:Nat):Int):=by
     rw [Int.fmod_eq_emod_of_nonneg _ (by omega),Int.natCast_emod,show (((i + 1 + 1:Nat)):Int)=((i + 1:Nat):Int) + 1 by omega]
    rw [this];exact eu _ _ _ _ hw
   have bu:=hr.bits u (Hm hu);have bw:=hr.bits w (Hm hw)
   simp_arith only [r8,Hh]
   refine⟨_,_,rfl,e1,by show (row.length:Int)≠0;omega,_,_,rfl,e3,_,_,rfl,e2,?_⟩;rw [show (D.tup [D.int 0,D.int 1])=eL (0,1) from rfl,DF];refine⟨_,rfl,?_⟩
   by_cases c0:v=(0,1)
   ·rw [decide_eq_true c0];refine hN _ ⟨_,_,_,rfl,λj a b d hj e=>?_⟩;rcases HF.mp hj with z|z
    ·exact hno j a b d z e
    ·subst z;have:=e.mid;rw [hv] at this;exact e.ne ((Hn this).symm.trans c0)
   ·rw [decide_eq_false c0];show cK (eL u) (.int 0) _
    rw [v5,vj]
    simp_arith only [and_true]
    refine⟨yQ bu.1 bw.2 (by decide),?_⟩;rw [vj,v5]
    simp_arith only [and_true]
    refine⟨yQ bu.2 bw.1 (by decide),?_⟩
    by_cases c1:((u.1 * w.2 - u.2 * w.1).natAbs:Int)=1
    ·rw [if_pos c1];have ear:DL row.length row (i + 1) u v w:=⟨by omega,by omega,by rw [show i + 1 - 1=i by omega];exact hu,hv,hw,c0,by show (u.1 * w.2 - u.2 * w.1).natAbs=1;omega⟩;have cut:=hr.cut c ear;have hle:(row.eraseIdx (i + 1)).length=row.length - 1:=by rw [List.length_eraseIdx,if_pos (by omega)]
     refine⟨by omega,_,_,rfl,e2,i + 1,rfl,by omega,by omega,⟨row.eraseIdx (i + 1),acc ++ [(u,v,w)],_,_,_,xp .. ,by rw [List.map_append];rfl,rfl,rfl,rfl,by rw [hle];exact cut,λrest t=>?_,?_⟩,?_⟩
     ·have:=ht ((u,v,w) :: rest) (.cut c ear t);rw [List.append_assoc];exact this
     ·rw [hle,HH];simp;omega
     ·show ((row.map eL).eraseIdx (i + 1)).length < (row.map eL).length
      rw [List.length_eraseIdx,if_pos (by simp;omega),Hh];omega
    ·rw [if_neg c1];refine hN _ ⟨_,_,_,rfl,λj a b d hj e=>?_⟩;rcases HF.mp hj with z|z
     ·exact hno j a b d z e
     ·subst z;have q1:=e.near;have q2:=e.far;rw [show i + 1 - 1=i by omega,hu] at q1;rw [hw] at q2;cases q1;cases q2;have:=e.one;unfold dQ at this;exact c1 (by omega)
  ·rintro env ⟨k3,k4,k5,rfl,hno⟩
   exfalso;obtain⟨i,u,v,w,e⟩:=CM hr c;have el:(aM 1 ((row.length:Int) - 1).toNat).length=row.length - 1:=by simp [aM] <;> omega
   rw [el] at hno;exact hno i u v w (by have:=e.il;omega) e
 ·rw [if_neg (by rw [Hh];omega)];refine⟨_,rfl,_,rfl,?_⟩;have t:=ht [] (.done (by omega));rw [HR] at t;exact h acc t (by omega)
def cL:br->D
 | .gap i=>.int i
 | .edge e=>.tup [eL e.1,eL e.2]
theorem bt (p:br):aO (cL p)=true/\dep (cL p)<=8:=by
 cases p with
 | gap i=>exact⟨rfl,by simp [cL,dep]⟩
 | edge e=>exact⟨by simp [cL,eL,aO,fy],by simp [cL,eL,dep,bz]⟩
theorem vY {x y:Z2} (h:eL x=eL y):x=y:=by
 unfold eL at h;simp only [D.tup.injEq,List.cons.injEq,D.int.injEq,and_true] at h;exact Ik h.1 h.2
theorem vX {p q:br} (h:cL p=cL q):p=q:=by
 cases p with
 | gap i=>cases q with
  | gap j=>simp only [cL,D.int.injEq] at h;rw [show i=j by omega]
  | edge e=>simp only [cL] at h;cases h
 | edge e=>cases q with
  | gap j=>simp only [cL] at h;cases h
  | edge d =>
   simp only [cL,D.tup.injEq,List.cons.injEq,and_true] at h;rw [show e=d from Ik (vY h.1) (vY h.2)]
theorem tS (p q:br):aT (cL p) (cL q)=decide (p=q):=by
 rw [Bool.eq_iff_iff,Ac (bt p).1 (bt q).1,decide_eq_true_eq];exact⟨vX,λh=>h▸rfl⟩
structure eS (kvs:List (D×D)) (f:br->Option br):Prop where
 ok:cg kvs
 get:∀p,gn kvs (cL p)=(f p).map cL
 key:∀kv∈kvs,∃p,kv.1=cL p
def oE (f:br->Option br) (p q:br):br->Option br:=λx=>if x=p then some q else f x
theorem bE {f:br->Option br} {p q:br}:oE f p q p=some q:=if_pos rfl
theorem bg {f:br->Option br} {p q x:br} (h:x≠p):oE f p q x=f x:=if_neg h
theorem eS.nil:eS [] (λ_=>none):=⟨cg.nil,λ_=>rfl,λkv h=>absurd h HN⟩
theorem eS.put {kvs:List (D×D)} {f:br->Option br} (h:eS kvs f) (p q:br):eS (putN kvs (cL p) (cL q)) (oE f p q):=by
 refine⟨h.ok.put (bt p).1 (bt p).2,λx=>?_,λkv m=>?_⟩
 ·rw [nr h.ok (bt p).1 (bt x).1,tS,h.get];unfold oE
  by_cases c:p=x
  ·rw [if_pos (decide_eq_true c),if_pos c.symm];rfl
  ·rw [if_neg (by simpa using c),if_neg (λz=>c z.symm)]
 ·unfold putN at m
  split at m
  ·obtain⟨kw,m',rfl⟩:=HG.mp m;obtain⟨z,hz⟩:=h.key kw m';refine⟨z,?_⟩
   split <;> exact hz
  ·rcases HJ.mp m with m|m
   ·exact h.key kv m
   ·rw [HA] at m;subst m;exact⟨p,rfl⟩
theorem eS.any {kvs:List (D×D)} {f:br->Option br} (h:eS kvs f) (p:br):(kvs.any λkv=>aT kv.1 (cL p))=(f p).isSome:=by
 rw [sD,h.get,Option.isSome_map]
theorem eS.mem {kvs:List (D×D)} {f:br->Option br} (h:eS kvs f) (p:br):cL p∈kvs.map (·.1)↔(f p).isSome=true:=by
 rw [<- h.any,List.any_eq_true,HG]
 constructor
 ·rintro⟨kv,m,e⟩;exact⟨kv,m,by rw [e];exact e7 _ (bt p).1⟩
 ·rintro⟨kv,m,e⟩;obtain⟨z,hz⟩:=h.key kv m;rw [hz,tS,decide_eq_true_eq] at e;exact⟨kv,m,by rw [hz,e]⟩
def nG (fs:List Z2) (ms:List Mk) (ha th:br->Option br) (f:br):Prop :=
 (2 < fs.length/\∃ts,dF fs ts/\dN fs ts/\ts.length<=fs.length/\Links fs ms ts ha th/\qK fs ts ha f) \/
 (fs.length=2/\(∀i,ms[i]?=some Mk.aV->th (.gap i)=some (.gap i)/\ha (.gap i)=some (.gap (if ms[1 - i]?=some Mk.aV then 1 - i else i)))/\f=.gap (if ms[1]?=some Mk.aV then 1 else 0))
def x5 (x:D) (Q:D->Prop):Prop:=∃fs ms,x=oJ fs ms/\i9 fs ms/\∀hk tk ha th f,eS hk ha->eS tk th->nG fs ms ha th f->Q (.tup [.obj (qe hk),.obj (qe tk),cL f])
structure sa (ts:List dW) (th:br->Option br):Prop where
 rot:∀t∈ts,th (.edge (t.1,t.2.1))=some (.edge (t.2.1,t.2.2))/\th (.edge (t.2.1,t.2.2))=some (.edge (t.2.2,t.1))/\th (.edge (t.2.2,t.1))=some (.edge (t.1,t.2.1))
 only:∀e,(th (.edge e)).isSome=true->e∈dO ts
 gaps:∀i,th (.gap i)=none
theorem sa.nil:sa [] (λ_=>none):=⟨λt h=>absurd h HN,λe h=>(by cases h),λ_=>rfl⟩
theorem rT (ts:List dW) (t:dW):dO (ts ++ [t])=dO ts ++ te t:=by unfold dO;simp
theorem sa.snoc {ts:List dW} {th:br->Option br} (h:sa ts th) {t:dW} (nd:(dO (ts ++ [t])).Nodup) :
  sa (ts ++ [t]) (oE (oE (oE th (.edge (t.1,t.2.1)) (.edge (t.2.1,t.2.2))) (.edge (t.2.1,t.2.2)) (.edge (t.2.2,t.1))) (.edge (t.2.2,t.1)) (.edge (t.1,t.2.1))):=by
 rw [rT,Iu] at nd;obtain⟨n1,n2,n3⟩:=nd;unfold te at n2 n3;simp only [HS,Hx,HN,or_false,not_or] at n2;obtain⟨⟨a12,a13⟩,a23,_⟩:=n2;have e12:(br.edge (t.1,t.2.1))≠.edge (t.2.1,t.2.2):=λz=>a12 (by injection z);have e13:(br.edge (t.1,t.2.1))≠.edge (t.2.2,t.1):=λz=>a13 (by injection z);have e23:(br.edge (t.2.1,t.2.2))≠.edge (t.2.2,t.1):=λz=>a23 (by injection z)
 have old:∀e∈dO ts,oE (oE (oE th (.edge (t.1,t.2.1)) (.edge (t.2.1,t.2.2))) (.edge (t.2.1,t.2.2)) (.edge (t.2.2,t.1))) (.edge (t.2.2,t.1)) (.edge (t.1,t.2.1)) (.edge e)=th (.edge e):=λe he=>by
  have q:=λx hx (z:br.edge e=.edge x)=>n3 e he x hx (by injection z);rw [bg (q _ (by simp)),bg (q _ (by simp)),bg (q _ (by simp))]
 refine⟨λu hu=>?_,λe he=>?_,λi=>?_⟩
 ·rcases HJ.mp hu with hu|hu
  ·have m:∀x∈te u,x∈dO ts:=λx hx=>yl hu hx;unfold te at m;have r:=h.rot u hu;exact⟨by rw [old _ (m _ (by simp))];exact r.1,by rw [old _ (m _ (by simp))];exact r.2.1,by rw [old _ (m _ (by simp))];exact r.2.2⟩
  ·rw [HA] at hu;subst hu;exact⟨by rw [bg e13,bg e12,bE],by rw [bg e23,bE],bE⟩
 ·rw [rT]
  by_cases c:e∈te t
  ·exact HJ.mpr (.inr c)
  ·refine HJ.mpr (.inl (h.only e ?_));unfold te at c;simp only [Hx,HN,or_false,not_or] at c;have q:∀x,e≠x->br.edge e≠.edge x:=λx hx z=>hx (by injection z);rw [bg (q _ c.2.2),bg (q _ c.2.1),bg (q _ c.1)] at he;exact he
 ·rw [bg (by simp),bg (by simp),bg (by simp)];exact h.gaps i
structure yq (fs:List Z2) (ms:List Mk) (ts:List dW) (j:Nat) (ha th:br->Option br):Prop where
 rot:∀t∈ts,th (.edge (t.1,t.2.1))=some (.edge (t.2.1,t.2.2))/\th (.edge (t.2.1,t.2.2))=some (.edge (t.2.2,t.1))/\th (.edge (t.2.2,t.1))=some (.edge (t.1,t.2.1))
 only:∀e,(th (.edge e)).isSome=true->e∈dO ts
 thg:∀i,i < j->ms[i]?=some Mk.aV->th (.gap i)=some (.gap i)
 hag:∀i,i < j->ms[i]?=some Mk.aV->ha (.gap i)=some (.edge (a8 fs i))/\ha (.edge (a8 fs i))=some (.gap i)
 hah:∀i,i < j->ms[i]?=some Mk.half->ha (.edge (a8 fs i))=some (.edge (a8 fs i))
 ham:∀i k,i < j->ms[i]?=some (Mk.gap k)->ha (.edge (a8 fs i))=some (.edge (a8 fs k))
 hai:∀e∈dO ts,(∀i,i < j->e≠a8 fs i)->ha (.edge e)=some (.edge (rv e))
theorem yq.more {fs:List Z2} {ms:List Mk} {ts:List dW} {j:Nat} {ha th ha' th':br->Option br} (hf:bA fs.length fs) (hj:j < fs.length) (h:yq fs ms ts j ha th)
  (h1:∀x,x≠.gap j->x≠.edge (a8 fs j)->ha' x=ha x) (h2:∀x,x≠.gap j->th' x=th x)
  (h3:ms[j]?=some Mk.aV->th' (.gap j)=some (.gap j)/\ha' (.gap j)=some (.edge (a8 fs j))/\ha' (.edge (a8 fs j))=some (.gap j))
  (h4:ms[j]?=some Mk.half->ha' (.edge (a8 fs j))=some (.edge (a8 fs j))) (h5:∀k,ms[j]?=some (Mk.gap k)->ha' (.edge (a8 fs j))=some (.edge (a8 fs k))):yq fs ms ts (j + 1) ha' th':=by
 have ne:∀i,i < j->br.edge (a8 fs i)≠.edge (a8 fs j):=λi hi z=>by
  have:=nI (i:=i) (j:=j) hf (by omega) hj (by injection z);omega
 have ng:∀i,i < j->br.gap i≠.gap j:=λi hi z=>by injection z with z;omega
 refine⟨λt ht=>?_,λe he=>?_,λi hi hm=>?_,λi hi hm=>?_,λi hi hm=>?_,λi k hi hm=>?_,λe he hn=>?_⟩
 ·rw [h2 _ (by simp),h2 _ (by simp),h2 _ (by simp)];exact h.rot t ht
 ·rw [h2 _ (by simp)] at he;exact h.only e he
 ·rcases HF.mp hi with z|z
  ·rw [h2 _ (ng i z)];exact h.thg i z hm
  ·subst z;exact (h3 hm).1
 ·rcases HF.mp hi with z|z
  ·rw [h1 _ (ng i z) (by simp),h1 _ (by simp) (ne i z)];exact h.hag i z hm
  ·subst z;exact (h3 hm).2
 ·rcases HF.mp hi with z|z
  ·rw [h1 _ (by simp) (ne i z)];exact h.hah i z hm
  ·subst z;exact h4 hm
 ·rcases HF.mp hi with z|z
  ·rw [h1 _ (by simp) (ne i z)];exact h.ham i k z hm
  ·subst z;exact h5 k hm
 ·rw [h1 _ (by simp) (λz=>hn j (by omega) (by injection z))];exact h.hai e he λi hi=>hn i (by omega)
theorem pJ {fs:List Z2} {i:Nat} (h:i < fs.length) {Q:D->Prop} (q:Q (cL (.edge (a8 fs i)))):cK (.lst ((List.range fs.length).map λi=>cL (.edge (a8 fs i)))) (.int (i:Int)) Q :=
 ⟨_,eu (λi=>cL (.edge (a8 fs i))) (List.range fs.length) i i (by rw [Ie h]),q⟩
section
variable {a b:D} {Q:D->Prop}
theorem ua:cK (.tup [a,b]) (.int 0) Q=Q a:=propext ⟨fun⟨v,e,q⟩=>by have:some a=some v:=e;cases this;exact q,λq=>⟨a,rfl,q⟩⟩
theorem yf:cK (.tup [a,b]) (.int 1) Q=Q b:=propext ⟨fun⟨v,e,q⟩=>by have:some b=some v:=e;cases this;exact q,λq=>⟨b,rfl,q⟩⟩
theorem Af:cK (.lst [a,b]) (.int 0) Q=Q a:=propext ⟨fun⟨v,e,q⟩=>by have:some a=some v:=e;cases this;exact q,λq=>⟨a,rfl,q⟩⟩
theorem A7:cK (.lst [a,b]) (.int 1) Q=Q b:=propext ⟨fun⟨v,e,q⟩=>by have:some b=some v:=e;cases this;exact q,λq=>⟨b,rfl,q⟩⟩
end
theorem ub {z z':Str} {Q:D->Prop}:rJ (.str z) (.str z') Q=Q (.bl (!(z == z'))):=by
 unfold rJ ib;simp only [dep,aT,HU,and_self,true_and]
theorem BL {i:Int} {z:Str} {Q:D->Prop}:kb (.int i) (.str z) Q=Q (.bl false):=by
 unfold kb ib;simp [dep,aT]
def rk (fs:List Z2):List D:=(List.range fs.length).map λi=>cL (.edge (a8 fs i))
def cY:bG:=(aK (bT 11 (a6 (af (a6 (af (cC (.int 1)) (af (cC (.int 0)) av))) (af (a6 (af (cC (.int 0)) (af (cC (.int 1)) av))) av)))) (aK (dH 4 (gK (aN (aL kb (aB gF (af (ag 1) av)) (cC (.int 2)))) (aK (bT 11 (aL cK (fX (af (cC (.int 1)) (af (cC (.int 0)) av))) (aB pU (af (aL rJ (aL cK (ag 2) (cC (.int 1))) (cC (.str "third"))) av)))) (lh (fX (af (cC (.int 0)) (af (cC (.int 1)) av))) (aW 9) (gK (aN (aL kb (aL cK (ag 2) (ag 9)) (cC (.str "third")))) (aS 8 (ag 9) (aL cK (fX (af (ag 9) (af (aL my (cC (.int 1)) (ag 9)) av))) (aB pU (af (aL kb (aL cK (ag 2) (aL my (cC (.int 1)) (ag 9))) (cC (.str "third"))) av)))) bC))) (gK (aN (aL (E2 true) (ag 11) (ag 4))) (bT 11 (fJ 8 (aL cK (ag 3) (ye wU (cC (.int 1)))))) bC))) (dH 8 (b8 (a6 (af (ag 8) (af (ag 4) (af (ag 11) av))))))))
def cX:bG:=(aK (oV (af (ag 2) av) (gT 2 (cy (aW 9) (cy (aW 10) ie))) (gK (aN (aL kb (ag 10) (cC (.str "third")))) (aK (aS 4 (ag 9) (ag 9)) (aK (aS 8 (ag 9) (aL cK (ag 3) (ag 9))) (aS 8 (aL cK (ag 3) (ag 9)) (ag 9)))) (gK (aN (aL kb (ag 10) (cC (.str "half")))) (aS 8 (aL cK (ag 3) (ag 9)) (aL cK (ag 3) (ag 9))) (aS 8 (aL cK (ag 3) (ag 9)) (aL cK (ag 3) (ag 10)))))) cY)
def eh:bG:=(aK (iJ 8) (aK (mO 4 (gT 2 (cy (aW 5) (cy (aW 7) ie))) (aS 8 (a6 (af (ag 5) (af (ag 7) av))) (a6 (af (ag 7) (af (ag 5) av))))) cX))
theorem uW {fs:List Z2} {ms:List Mk} {Q:D->Prop} (hf:i9 fs ms) (h:∀hk tk ha th f,eS hk ha->eS tk th->nG fs ms ha th f->Q (.tup [.obj (qe hk),.obj (qe tk),cL f])) :
  ∀(ts:List dW) (tk:List (D×D)) (th:br->Option br) (k5 k6 k7:Option Lo),dN fs ts->ts.length<=fs.length->eS tk th->sa ts th->tk.length<=3 * ts.length ->
  eh { nx:=λ_=>Q .non,rt:=Q } [some (.d (oJ fs ms)),some (.d (.tup (fs.map eL))),some (.d (.tup (ms.map jM))),some (.d (.lst (rk fs))),some (.dic tk),k5,k6,k7,none,none,none,none]:=by
 have two:=hf.fr.two;have most:=hf.fr.most;intro ts tk th k5 k6 k7 htl hlen hd ht hl;have ok:=sJ htl hf.fr
 have rest6:∀(hk:List (D×D)) (ha:br->Option br) (k5 k7:Option Lo),eS hk ha->(∀e∈dO ts,ha (.edge e)=some (.edge (rv e)))->(∀i,ha (.gap i)=none)->hk.length<=tk.length ->
   cX { nx:=λ_=>Q .non,rt:=Q } [some (.d (oJ fs ms)),some (.d (.tup (fs.map eL))),some (.d (.tup (ms.map jM))),some (.d (.lst (rk fs))),some (.dic tk),k5,k6,k7,some (.dic hk),none,none,none]:=by
  intro hk ha k5 k7 hd2 hrv hg hl2
  have rest7:∀(hk tk:List (D×D)) (ha th:br->Option br) (k9 k10:Option Lo),eS hk ha->eS tk th->yq fs ms ts fs.length ha th->hk.length<=1000 ->
    cY { nx:=λ_=>Q .non,rt:=Q } [some (.d (oJ fs ms)),some (.d (.tup (fs.map eL))),some (.d (.tup (ms.map jM))),some (.d (.lst (rk fs))),some (.dic tk),k5,k6,k7,some (.dic hk),k9,k10,none]:=by
   intro hk tk ha th k9 k10 e1 e2 hh hl;have ed:(D.tup [D.tup [D.int 1,D.int 0],D.tup [D.int 0,D.int 1]])=cL (.edge lN):=rfl
   simp_arith only [cY,dH,Lo.dic.injEq,Hh]
   rw [ed]
   by_cases c:fs.length=2
   ·rw [if_pos (by omega)];obtain⟨t3,ngap⟩:=hf.mar.few c;have ml:=hf.mar.len
    have at_:∀i,i < 2->ms[i]?=some Mk.aV\/ms[i]?=some Mk.half:=λi hi=>by
     rcases qm hf.mar (i:=i) (by omega) with z|z|⟨j,_,z⟩
     ·exact .inr z
     ·exact .inl z
     ·exact absurd z (ngap i j)
    have sz2:=Ht;have kg0:=bt (.gap 0);have kg1:=bt (.gap 1)
    obtain⟨m0,m1,rfl⟩:∃m0 m1,ms=[m0,m1]:=by
     match ms,(show ms.length=2 by omega) with
     | [a,b],_=>exact⟨a,b,rfl⟩
    have b0:=at_ 0 (by omega);have b1:=at_ 1 (by omega);simp only [HD,HB,Option.some.injEq] at b0 b1;have q1:(Str.ofString "half" == Str.ofString "third")=false:=by decide
    have q2:(Str.ofString "third" == Str.ofString "third")=true:=by decide
    rcases b0 with rfl|rfl <;> rcases b1 with rfl|rfl
    ·have a1:=e1.put (.gap 0) (.gap 1);have a2:=a1.put (.gap 1) (.gap 0);have n1:=cW (kvs:=hk) (k:=cL (.gap 0)) (v:=cL (.gap 1))
     simp_arith only [turns,jM,ub,q1,q2,aS,dH,Lo.dic.injEq,ua,yf,Af,A7]
     refine⟨kg0.1,kg0.2,e1.ok,by omega,kg1.1,kg1.2,a1.ok,Iy n1 (by omega),h _ _ _ _ (.gap 1) a2 e2 (.inr ⟨c,λi hi=>⟨hh.thg i (cT hf.mar hi) hi,?_⟩,rfl⟩)⟩
     match i,hi with
     | 0,_=>rw [bg (by simp),bE];rfl
     | 1,_=>rw [bE];rfl
    ·have a1:=e1.put (.gap 0) (.gap 0)
     simp_arith only [turns,jM,ub,q1,q2,aS,dH,Lo.dic.injEq,ua,yf,Af,A7]
     refine⟨kg0.1,kg0.2,e1.ok,by omega,h _ _ _ _ (.gap 0) a1 e2 (.inr ⟨c,λi hi=>⟨hh.thg i (cT hf.mar hi) hi,?_⟩,rfl⟩)⟩
     match i,hi with
     | 0,_=>rw [bE];rfl
     | 1,hi=>simp at hi
    ·have a1:=e1.put (.gap 1) (.gap 1)
     simp_arith only [turns,jM,ub,q1,q2,aS,dH,Lo.dic.injEq,ua,yf,Af,A7]
     refine⟨kg1.1,kg1.2,e1.ok,by omega,h _ _ _ _ (.gap 1) a1 e2 (.inr ⟨c,λi hi=>⟨hh.thg i (cT hf.mar hi) hi,?_⟩,rfl⟩)⟩
     match i,hi with
     | 0,hi=>simp at hi
     | 1,_=>rw [bE];rfl
    ·simp at t3
   ·rw [if_neg (by omega)];have hn:2 < fs.length:=by omega
    have lk:Links fs ms ts ha th:=⟨hh.rot,λi hi=>hh.thg i (cT hf.mar hi) hi,λi hi=>hh.hag i (cT hf.mar hi) hi,λi hi=>hh.hah i (cT hf.mar hi) hi,λi k hi=>hh.ham i k (cT hf.mar hi) hi,λe he hb=>hh.hai e he λi hi z=>hb (z▸vy hi)⟩
    have in1:(th (.edge lN)).isSome=true↔lN∈dO ts:=⟨hh.only lN,λm=>by
     obtain⟨q,hq,_⟩:=sx (p:=.edge lN) lk m
     rw [hq];rfl⟩
    simp only [E2];have ke:=bt (.edge lN);refine⟨tk,rfl,ke.1,ke.2,e2.ok,_,rfl,?_⟩;rw [if_pos trivial,e2.any]
    by_cases m:lN∈dO ts
    ·rw [in1.mpr m];exact h hk tk ha th _ e1 e2 (.inl ⟨hn,ts,ok,htl,hlen,lk,.inl ⟨m,rfl⟩⟩)
    ·have nm:(th (.edge lN)).isSome=false:=by
      cases z:(th (.edge lN)).isSome with
      | false=>rfl
      | true=>exact absurd (in1.mp z) m
     rw [nm];obtain⟨f,hf1,hf2,hf3⟩:=gU (p:=.edge (a8 fs (fs.length - 1))) hf hn ok lk (jg hf.fr hn ok (by omega));have kl:=bt (.edge (a8 fs (fs.length - 1)))
     have al:ja (rk fs) (-1)=some (cL (.edge (a8 fs (fs.length - 1)))):=by
      have lg:(rk fs).length=fs.length:=by simp [rk]
      have ix:rj (rk fs).length (-1)=some (fs.length - 1):=by
       unfold rj;rw [lg,if_neg (by decide),if_pos (by omega)]
       congr 1;omega
      unfold ja;rw [ix];show (rk fs)[fs.length - 1]?=_
      unfold rk;rw [Hi,Ie (by omega)];rfl
     show fJ 8 _ _ _
     simp_arith only [fJ,Lo.dic.injEq]
     refine⟨_,al,cL f,kl.1,kl.2,e1.ok,by rw [e1.get,hf1];rfl,?_⟩;exact h hk tk ha th f e1 e2 (.inl ⟨hn,ts,ok,htl,hlen,lk,.inr ⟨m,hf1⟩⟩)
  simp_arith only [cX,oV,Lo.dic.injEq]
  refine⟨_,_,rfl,rfl,?_⟩;have ml:=hf.mar.len;have sz:=Ht;refine cp (λj e=>∃(hk tk:List (D×D)) (ha th:br->Option br) (k9 k10:Option Lo),e=[some (.d (oJ fs ms)),some (.d (.tup (fs.map eL))),some (.d (.tup (ms.map jM))),some (.d (.lst (rk fs))),some (.dic tk),k5,k6,k7,some (.dic hk),k9,k10,none]/\eS hk ha/\eS tk th/\yq fs ms ts j ha th/\hk.length<=100 + 2 * j/\tk.length<=100 + j) ?_ ?_ ⟨hk,tk,ha,th,none,none,rfl,hd2,hd,⟨ht.rot,ht.only,λi hi=>absurd hi (Ia _),λi hi=>absurd hi (Ia _),λi hi=>absurd hi (Ia _),λi k hi=>absurd hi (Ia _),λe he _=>hrv e he⟩,by omega,by omega⟩
  ·rintro j x env N hx ⟨hk,tk,ha,th,k9,k10,rfl,e1,e2,hh,l1,l2⟩ hN
   obtain⟨m,hm,rfl⟩:∃m,ms[j]?=some m/\x=.tup [.int (j:Int),jM m]:=by
    obtain⟨y,hy,rfl⟩:=sA hx;rw [Hi] at hy;obtain⟨m,hm,rfl⟩:=HV.mp hy;exact⟨m,hm,rfl⟩
   have hj:=cT hf.mar hm;have kg:=bt (.gap j);have ke:=bt (.edge (a8 fs j))
   cases m with
   | aV =>
    have a1:=e2.put (.gap j) (.gap j);have a2:=e1.put (.gap j) (.edge (a8 fs j));have a3:=a2.put (.edge (a8 fs j)) (.gap j);have n1:=cW (kvs:=tk) (k:=cL (.gap j)) (v:=cL (.gap j));have n2:=cW (kvs:=hk) (k:=cL (.gap j)) (v:=cL (.edge (a8 fs j)));have n3:=cW (kvs:=putN hk (cL (.gap j)) (cL (.edge (a8 fs j)))) (k:=cL (.edge (a8 fs j))) (v:=cL (.gap j))
    simp_arith only [jM,aS,Lo.dic.injEq,rk]
    rw [if_pos (beq_self_eq_true _)];refine⟨kg.1,kg.2,e2.ok,by omega,pJ hj ⟨kg.1,kg.2,e1.ok,by omega,pJ hj ⟨ke.1,ke.2,a2.ok,Iy n2 (by omega),hN _ ⟨_,_,_,_,_,_,rfl,a3,a1,?_,HX n3 (by omega),HX n1 (by omega)⟩⟩⟩⟩
    refine hh.more hf.fr hj (λx x1 x2=>by rw [bg x2,bg x1]) (λx x1=>bg x1) (λ_=>⟨bE,by rw [bg (by simp),bE],bE⟩) (λz=>by rw [hm] at z;cases z) (λk z=>by rw [hm] at z;cases z)
   | half =>
    have a1:=e1.put (.edge (a8 fs j)) (.edge (a8 fs j));have n1:=cW (kvs:=hk) (k:=cL (.edge (a8 fs j))) (v:=cL (.edge (a8 fs j)))
    simp_arith only [jM,aS,Lo.dic.injEq,rk]
    rw [if_neg (by decide),if_pos (beq_self_eq_true _)];refine pJ hj (pJ hj ⟨ke.1,ke.2,e1.ok,by omega,hN _ ⟨_,_,_,_,_,_,rfl,a1,e2,?_,HX n1 (by omega),by omega⟩⟩)
    exact hh.more hf.fr hj (λx x1 x2=>bg x2) (λx x1=>rfl) (λz=>by rw [hm] at z;cases z) (λ_=>bE) (λk z=>by rw [hm] at z;cases z)
   | gap k =>
    have hk':k < fs.length:=cT hf.mar (hf.mar.pair j k hm).2;have a1:=e1.put (.edge (a8 fs j)) (.edge (a8 fs k));have n1:=cW (kvs:=hk) (k:=cL (.edge (a8 fs j))) (v:=cL (.edge (a8 fs k)))
    simp_arith only [jM,aS,Lo.dic.injEq,rk,BL]
    refine pJ hk' (pJ hj ⟨ke.1,ke.2,e1.ok,by omega,hN _ ⟨_,_,_,_,_,_,rfl,a1,e2,?_,HX n1 (by omega),by omega⟩⟩);exact hh.more hf.fr hj (λx x1 x2=>bg x2) (λx x1=>rfl) (λz=>by rw [hm] at z;cases z) (λz=>by rw [hm] at z;cases z) (λk' z=>by rw [hm] at z;cases z;exact bE)
  ·rintro env ⟨hk,tk,ha,th,k9,k10,rfl,e1,e2,hh,l1,l2⟩;have el:(lU (ms.map jM)).length=fs.length:=by rw [lJ,Hh,ml]
   rw [el] at hh l1;exact rest7 hk tk ha th k9 k10 e1 e2 hh (by omega)
 simp_arith only [eh,iJ,mO,Lo.dic.injEq]
 intro p;have sz:=Ht;refine cp (λi e=>∃(hk:List (D×D)) (ha:br->Option br) (k5 k7:Option Lo),e=[some (.d (oJ fs ms)),some (.d (.tup (fs.map eL))),some (.d (.tup (ms.map jM))),some (.d (.lst (rk fs))),some (.d (.obj (tP p))),k5,k6,k7,some (.dic hk),none,none,none]/\eS hk ha/\(∀e,cL (.edge e)∈(tk.map (·.1)).take i->ha (.edge e)=some (.edge (rv e)))/\(∀i,ha (.gap i)=none)/\hk.length<=i) ?_ ?_ ⟨[],_,k5,k7,rfl,eS.nil,λe he=>by simp at he,λ_=>rfl,by simp⟩
 ·rintro i x env N hx ⟨hk,ha,k5,k7,rfl,hd2,hr,hg,hl2⟩ hN;have hi:i < tk.length:=by have:=(G7.mp hx).1;simpa using this
  have hm:=Hm hx;obtain⟨kv,hkv,rfl⟩:=HG.mp hm;obtain⟨q,hq⟩:=hd.key kv hkv;rw [hq] at hm hx ⊢;have hs:=(hd.mem q).mp hm
  cases q with
  | gap g=>rw [ht.gaps g] at hs;cases hs
  | edge e =>
   have k1:=bt (.edge e);have d1:=hd2.put (.edge e) (.edge (rv e));have l1:=cW (kvs:=hk) (k:=cL (.edge e)) (v:=cL (.edge (rv e)));have tke:(tk.map (·.1)).take (i + 1)=(tk.map (·.1)).take i ++ [cL (.edge e)]:=by rw [Iw,hx];rfl
   simp only [cL,rv] at l1
   simp_arith only [cL,aS,Lo.dic.injEq]
   refine⟨k1.1,k1.2,hd2.ok,by omega,hN _ ⟨_,_,_,_,rfl,d1,λd hdm=>?_,λg=>?_,by omega⟩⟩
   ·by_cases c:d=e
    ·subst c;exact bE
    ·rw [bg (λz=>c (by injection z))];rw [tke] at hdm;rcases HJ.mp hdm with z|z
     ·exact hr d z
     ·rw [HA] at z;exact absurd (by have:=vX z;injection this) c
   ·rw [bg (by simp)];exact hg g
 ·rintro env ⟨hk,ha,k5,k7,rfl,hd2,hr,hg,hl2⟩;refine⟨rfl,?_⟩;rw [Hh] at hr hl2;refine rest6 hk ha k5 k7 hd2 (λe he=>hr e ?_) hg hl2;rw [Io (by simp),hd.mem];obtain⟨t,htt,het⟩:=jU he;have r:=ht.rot t htt;unfold te at het;simp only [Hx,HN,or_false] at het;rcases het with rfl|rfl|rfl
  ·rw [r.1];rfl
  ·rw [r.2.1];rfl
  ·rw [r.2.2];rfl
theorem gX {α:Type} [DecidableEq α]:∀(l m:List α),l.Nodup->(∀x∈l,x∈m)->l.length<=m.length
 | [],m,_,_=>HU _
 | x :: l,m,nd,h=>by
  rw [HS] at nd;have hx:=h x Hy;have ih:=gX l (m.erase x) nd.2 λy hy=>(List.mem_erase_of_ne (a:=y) (b:=x) (λe=>nd.1 (by rw [<- e];exact hy))).mpr (h y (Hq _ hy));rw [List.length_erase_of_mem hx] at ih;have:0 < m.length:=List.length_pos_of_mem hx;simp only [HY];omega
structure Sys (ha th:br->Option br) (f:br) (isP:br->Prop) (all:List br):Prop where
 f0:isP f
 h1:∀p,isP p->∃q,ha p=some q/\isP q
 t1:∀p,isP p->∃q,th p=some q/\isP q
 hh:∀p q,isP p->ha p=some q->ha q=some p
 t3:∀p,isP p->∃q r,th p=some q/\th q=some r/\th r=some p
 al:∀p,isP p->p∈all
 few:all.length<=500
 re:∀S:br->Prop,S f->(∀p q,S p->ha p=some q->S q)->(∀p q,S p->th p=some q->S q)->∀p,isP p->S p
section
variable {ha th:br->Option br} {f:br} {isP:br->Prop} {all met:List br} {at_:Nat}
end
structure Bc (a b:List Nat):Prop where
 len:b.length=a.length
 al:∀(i x:Nat),a[i]?=some x->x < a.length
 bl:∀(i x:Nat),b[i]?=some x->x < a.length
 aa:∀(i x:Nat),a[i]?=some x->a[x]?=some i
 bbb:∀(i x y:Nat),b[i]?=some x->b[x]?=some y->b[y]?=some i
def yF (fs:List Z2) (ms:List Mk) (ha th:br->Option br) (isP:br->Prop):Prop :=
 (2 < fs.length/\∃ts,dF fs ts/\dN fs ts/\Links fs ms ts ha th/\∀p,isP p↔oN ms ts p) \/
 (fs.length=2/\(∀i,ms[i]?=some Mk.aV->th (.gap i)=some (.gap i)/\ha (.gap i)=some (.gap (if ms[1 - i]?=some Mk.aV then 1 - i else i)))/\∀p,isP p↔∃i,ms[i]?=some Mk.aV/\p=.gap i)
theorem oW [DecidableEq Mk] (x:Mk):∀ms:List Mk,((List.range ms.length).filter λi=>decide (ms[i]?=some x)).length=ms.count x
 | []=>rfl
 | m :: ms=>by
  have ih:=oW x ms;rw [HY,List.range_succ_eq_map,List.filter_cons,List.count_cons,<- ih,List.filter_map,HD];have e:((λi=>decide ((m :: ms)[i]?=some x))∘Nat.succ)=λi=>decide (ms[i]?=some x):=by funext i;rfl
  rw [e]
  by_cases c:m=x
  ·subst c;simp
  ·have c':¬ (m == x)=true:=by simpa using c
   simp [c]
theorem iC {met:List br} {ms:List Mk} (x:Mk) (g:Nat->br) (P:br->Bool) (nd:met.Nodup) (gi:∀i j,ms[i]?=some x->ms[j]?=some x->g i=g j->i=j) (hP:∀p∈met,P p=true↔∃i,ms[i]?=some x/\p=g i) (hm:∀i,ms[i]?=some x->g i∈met):(met.filter P).length=ms.count x:=by
 rw [<- oW]
 have mem:∀i,i∈((List.range ms.length).filter λi=>decide (ms[i]?=some x))↔ms[i]?=some x:=λi=>by
  rw [List.mem_filter,Ig,decide_eq_true_eq];exact⟨λz=>z.2,λz=>⟨(G7.mp z).1,z⟩⟩
 refine wj (g:=g) P nd (λi hi j hj e=>gi i j ((mem i).mp hi) ((mem j).mp hj) e) (List.nodup_range.filter _) (λp hp=>?_) (λi hi=>hm i ((mem i).mp hi));rw [hP p hp];exact⟨fun⟨i,a,b⟩=>⟨i,(mem i).mpr a,b⟩,fun⟨i,a,b⟩=>⟨i,(mem i).mp a,b⟩⟩
theorem p4:∀ts:List dW,(dO ts).length=3 * ts.length
 | []=>rfl
 | t :: ts=>by
  have:=p4 ts;show (te t ++ dO ts).length=_
  rw [HH,this];unfold te;simp;omega
theorem CC {fs:List Z2} {ms:List Mk} {ha th:br->Option br} {f:br} (hf:i9 fs ms) (h:nG fs ms ha th f):∃isP all,Sys ha th f isP all/\yF fs ms ha th isP /\
  ∀met:List br,met.Nodup->(∀p,isP p↔p∈met)->(met.filter λp=>decide (ha p=some p)).length=ms.count .half/\(met.filter λp=>decide (th p=some p)).length=ms.count .aV:=by
 have most:=hf.fr.most;have ml:=hf.mar.len;rcases h with ⟨hn,ts,ok,htl,hlen,lk,fo⟩|⟨c,hl,rfl⟩
 ·refine⟨oN ms ts,(dO ts).map .edge ++ (List.range fs.length).map .gap,⟨xy hf hn ok lk fo,λp hp=>?_,λp hp=>sx lk hp,λp q hp hq=>?_,λp hp=>?_,λp hp=>?_,?_,λS s0 s1 s2=>reach hf hn ok lk fo s0 s1 s2⟩,.inl ⟨hn,ts,ok,htl,lk,λ_=>Iff.rfl⟩,λmet nd hm=>⟨?_,?_⟩⟩
  ·obtain⟨q,a,b,_⟩:=gU hf hn ok lk hp;exact⟨q,a,b⟩
  ·obtain⟨q',a,_,c⟩:=gU hf hn ok lk hp;rw [hq] at a;cases a;exact c
  ·cases p with
   | gap i=>exact⟨_,_,lk.thg i hp,lk.thg i hp,lk.thg i hp⟩
   | edge e =>
    obtain⟨t,ht,he⟩:=jU hp;have r:=lk.rot t ht;unfold te at he;simp only [Hx,HN,or_false] at he;rcases he with rfl|rfl|rfl
    ·exact⟨_,_,r.1,r.2.1,r.2.2⟩
    ·exact⟨_,_,r.2.1,r.2.2,r.1⟩
    ·exact⟨_,_,r.2.2,r.1,r.2.1⟩
  ·cases p with
   | edge e=>exact HJ.mpr (.inl (HG.mpr ⟨e,hp,rfl⟩))
   | gap i=>exact HJ.mpr (.inr (HG.mpr ⟨i,Ig.mpr (cT hf.mar hp),rfl⟩))
  ·rw [HH,Hh,Hh,p4,List.length_range];omega
  ·refine iC .half (λi=>.edge (a8 fs i)) _ nd (λi j hi hj e=>nI hf.fr (cT hf.mar hi) (cT hf.mar hj) (by injection e)) (λp hp=>?_) (λi hi=>?_)
   ·rw [decide_eq_true_eq];exact Co hf hn ok lk ((hm p).mpr hp)
   ·exact (hm _).mp (jg hf.fr hn ok (cT hf.mar hi))
  ·refine iC .aV (λi=>.gap i) _ nd (λi j hi hj e=>by injection e) (λp hp=>?_) (λi hi=>(hm _).mp hi);rw [decide_eq_true_eq];exact Cr ok lk ((hm p).mpr hp)
 ·obtain⟨t3,ngap⟩:=hf.mar.few c;have lt2:∀i x,ms[i]?=some x->i < 2:=λi x hi=>by have:=(G7.mp hi).1;omega
  have two:∀i,i < 2->ms[i]?=some Mk.aV\/ms[i]?=some Mk.half:=λi hi=>by
   rcases qm hf.mar (i:=i) (by omega) with z|z|⟨j,_,z⟩
   ·exact .inr z
   ·exact .inl z
   ·exact absurd z (ngap i j)
  have one3:ms[1]?≠some Mk.aV->ms[0]?=some Mk.aV:=λz=>by
   obtain⟨i,hi⟩:=HM t3;have:=lt2 i _ hi;have:i≠1:=λw=>z (w▸hi);have:i=0:=by omega
   exact this▸hi
  refine⟨λp=>∃i,ms[i]?=some Mk.aV/\p=.gap i,[.gap 0,.gap 1],⟨?_,?_,?_,?_,?_,?_,by simp,λS s0 s1 s2=>?_⟩,.inr ⟨c,hl,λ_=>Iff.rfl⟩,λmet nd hm=>⟨?_,?_⟩⟩
  ·by_cases z:ms[1]?=some Mk.aV
   ·rw [if_pos z];exact⟨1,z,rfl⟩
   ·rw [if_neg z];exact⟨0,one3 z,rfl⟩
  ·rintro p ⟨i,hi,rfl⟩;refine⟨_,(hl i hi).2,?_⟩
   by_cases z:ms[1 - i]?=some Mk.aV
   ·rw [if_pos z];exact⟨1 - i,z,rfl⟩
   ·rw [if_neg z];exact⟨i,hi,rfl⟩
  ·rintro p ⟨i,hi,rfl⟩;exact⟨_,(hl i hi).1,i,hi,rfl⟩
  ·rintro p q ⟨i,hi,rfl⟩ hq;have l2:=lt2 i _ hi;rw [(hl i hi).2] at hq
   by_cases z:ms[1 - i]?=some Mk.aV
   ·rw [if_pos z] at hq;cases hq;rw [(hl _ z).2,show 1 - (1 - i)=i by omega,if_pos hi]
   ·rw [if_neg z] at hq;cases hq;rw [(hl i hi).2,if_neg z]
  ·rintro p ⟨i,hi,rfl⟩;exact⟨_,_,(hl i hi).1,(hl i hi).1,(hl i hi).1⟩
  ·rintro p ⟨i,hi,rfl⟩;have:=lt2 i _ hi
   match i,this with
   | 0,_=>simp
   | 1,_=>simp
  ·rintro p ⟨i,hi,rfl⟩
   by_cases z:ms[1]?=some Mk.aV
   ·rw [if_pos z] at s0;have:=lt2 i _ hi
    match i,this with
    | 1,_=>exact s0
    | 0,_ =>
     have q:=(hl 1 z).2;rw [if_pos (show ms[1 - 1]?=some Mk.aV from hi)] at q;exact s1 _ _ s0 q
   ·rw [if_neg z] at s0;have:=lt2 i _ hi;have:i≠1:=λw=>z (w▸hi);have:i=0:=by omega
    subst this;exact s0
  ·refine iC .half (λi=>.gap (1 - i)) _ nd (λi j hi hj e=>by
    have:=lt2 i _ hi;have:=lt2 j _ hj;injection e with e
    omega) (λp hp=>?_) (λi hi=>?_)
   ·obtain⟨i,hi,rfl⟩:=(hm p).mpr hp;have l2:=lt2 i _ hi;rw [decide_eq_true_eq,(hl i hi).2]
    by_cases z:ms[1 - i]?=some Mk.aV
    ·rw [if_pos z];refine⟨λw=>?_,fun⟨k,hk,w⟩=>?_⟩
     ·injection w with w;injection w with w;omega
     ·injection w with w
      have:=lt2 k _ hk;have:k=1 - i:=by omega
      rw [this,z] at hk;cases hk
    ·rw [if_neg z];refine⟨λ_=>⟨1 - i,?_,by rw [show 1 - (1 - i)=i by omega]⟩,λ_=>rfl⟩;rcases two (1 - i) (by omega) with w|w
     ·exact absurd w z
     ·exact w
   ·have l2:=lt2 i _ hi;refine (hm _).mp ⟨1 - i,?_,rfl⟩;rcases two (1 - i) (by omega) with w|w
    ·exact w
    ·exfalso;obtain⟨k,hk⟩:=HM t3;have:=lt2 k _ hk;have:k=i\/k=1 - i:=by omega
     rcases this with v|v
     ·rw [v,hi] at hk;cases hk
     ·rw [v,w] at hk;cases hk
  ·refine iC .aV (λi=>.gap i) _ nd (λi j hi hj e=>by injection e) (λp hp=>?_) (λi hi=>(hm _).mp ⟨i,hi,rfl⟩);obtain⟨i,hi,rfl⟩:=(hm p).mpr hp;rw [decide_eq_true_eq];exact⟨λ_=>⟨i,hi,rfl⟩,λ_=>(hl i hi).1⟩
end K55
namespace KR
open PySem L2 L2.L3 K55
def bB:Fw:=F2 vH
def iX:bG:=(aK (gK (aN (aL DI (ag 1) (aB gF (af (ag 0) av)))) (b8 (aL cK (ag 0) (ag 1))) bC) (b8 (cC (.int 0))))
theorem mz:∀ds Q,bB ds Q->ds.length=2:=m5
theorem nR:∀ds (Q:D->Prop),bB ds Q->iX { nx:=λ_=>Q .non,rt:=Q } (aE ["_law_script","_law_k"] ds):=by
 exact rB
def qZ (x y:D) (Q:D->Prop):Prop:=∃m:Int,x=.obj f6/\y=.int m/\0 < m/\m<=1000000000000/\∀d:Int,0<=d->d < m->Q (.int d)
def aC:Fw:=F2 qZ
def gW:bG:=(aK (bT 2 (aL oR (vR (ag 0)) (ag 1))) (aK (mY (ag 0) (aL BE (vR (ag 0)) (ag 1))) (b8 (ag 2))))
theorem oO:∀ds Q,aC ds Q->ds.length=2:=m5
theorem qj:∀ds (Q:D->Prop),aC ds Q->gW { nx:=λ_=>Q .non,rt:=Q } (aE ["_law_rest","_law_many","_law_digit_here"] ds):=by
 rintro ds Q ⟨x,y,rfl,m,rfl,rfl,h0,h1,h⟩
 simp_arith only [gW,vR,mY]
 intro r;have f:=jj (a:=r) (b:=m) h0;have hm:m.natAbs < 2 ^ 256:=Iy (show m.natAbs<=1000000000000 by omega) (by decide);refine⟨tZ _ (by omega),λr2=>⟨Gg _ ⟨by omega,hm⟩,?_⟩⟩;exact h _ f.1 f.2
def Eo (x y:D) (Q:D->Prop):Prop:=∃n:Nat,x=.obj f6/\y=.int (n:Int)/\2<=n/\n<=22/\∀fs,bA n fs->Q (.tup (fs.map eL))
def bN:Fw:=F2 Eo
def eR:bG:=(aK (bJ 2 (kn (af (a6 (af (ye wU (cC (.int 1))) (af (cC (.int 0)) av))) (af (a6 (af (cC (.int 0)) (af (cC (.int 1)) av))) (af (a6 (af (cC (.int 1)) (af (cC (.int 0)) av))) av))))) (aK (gj iV (af (aL my (ag 1) (cC (.int 2))) av) (aW 3) (aK (bT 4 (aB aC (af (ag 0) (af (aL my (bI 2) (cC (.int 1))) av)))) (mH 2 (aL eT (ag 4) (cC (.int 1))) (a6 (af (aL eT (aL cK (bW 2 (ag 4)) (cC (.int 0))) (aL cK (bW 2 (aL eT (ag 4) (cC (.int 1)))) (cC (.int 0)))) (af (aL eT (aL cK (bW 2 (ag 4)) (cC (.int 1))) (aL cK (bW 2 (aL eT (ag 4) (cC (.int 1)))) (cC (.int 1)))) av)))))) (cP 2 (b8 (aB cH (af (aL eT (fX (af (a6 (af (cC (.int 1)) (af (cC (.int 0)) av))) av)) (Bw (ag 2) (j4 (cC (.int 1))) (j4 (aL my (aB gF (af (ag 2) av)) (cC (.int 1)))))) av))))))
theorem jC:∀ds Q,bN ds Q->ds.length=2:=m5
theorem kK:∀ds (Q:D->Prop),bN ds Q->eR { nx:=λ_=>Q .non,rt:=Q } (aE ["_law_rest","_law_many","_law_row","_law_k","_law_at"] ds):=by
 rintro ds Q ⟨x,y,rfl,n,rfl,rfl,h2,h22,h⟩
 simp_arith only [eR]
 refine⟨by omega,by omega,?_⟩;refine cp (λi e=>∃(row:List Z2) (k1 k2:Option Lo),e=[some (.d (.obj f6)),some (.d (.int n)),some (.own (row.map eL)),k1,k2]/\rZ i row) ?_ ?_ ⟨[(-1,0),(0,1),(1,0)],_,_,rfl,Gs⟩
 ·rintro i x env N hx ⟨row,k1,k2,rfl,hr⟩ hN
  have hi:i < n - 2:=by
   have:=(G7.mp hx).1;simp [aM] at this;omega
  have hxe:x=.int (i:Int):=by
   unfold aM at hx;rw [Hi,Ie (by omega)] at hx;cases hx;simp
  subst hxe;have hl:=hr.len
  simp_arith only [Hh,aC,gL,qZ]
  have hk:((row.length:Int) - 1)=((i + 2:Nat):Int):=by omega
  rw [hk];refine⟨by omega,by omega,λv v0 v1=>?_⟩;obtain⟨a,ea⟩:∃a:Nat,v=(a:Int):=⟨_,(Iq v0).symm⟩;subst ea;have ha:a < i + 2:=by omega
  have hp:row[a]?=some row[a]:=Hb (by omega);have hq:row[a + 1]?=some row[a + 1]:=Hb (by omega);have e1:ja (row.map eL) (a:Int)=some (eL row[a]):=eu _ _ _ _ hp;have e2:ja (row.map eL) ((a:Int) + 1)=some (eL row[a + 1]):=eu _ _ (a + 1) _ hq;refine⟨_,_,rfl,e1,?_⟩;rw [v5];refine⟨_,_,rfl,e2,?_⟩;rw [v5];refine⟨_,_,rfl,e1,?_⟩;rw [vj];refine⟨_,_,rfl,e2,?_⟩;rw [vj];refine⟨by omega,by omega,by omega,hN _ ⟨row.take (a + 1) ++ (row[a].1 + row[a + 1].1,row[a].2 + row[a + 1].2) :: row.drop (a + 1),some (.d (.int i)),some (.d (.int a)),?_,B5 hr ha hp hq⟩⟩
  rw [show ((a:Int) + 1).toNat=a + 1 by omega,List.map_append,HL,List.map_take,List.map_drop];rfl
 ·rintro env ⟨row,k1,k2,rfl,hr⟩
  simp_arith only [and_true]
  have el:(aM 0 ((n:Int) - 2).toNat).length=n - 2:=by simp [aM];omega
  rw [el] at hr;have hl:=hr.len
  have ec:cutD (row.map eL) (some 1) (some (((row.map eL).length:Int) - 1))=((row.drop 1).take (n - 2 + 1)).map eL:=by
   unfold cutD;rw [Hh,show ((row.length:Int) - 1)=((row.length - 1:Nat):Int) by omega,show (1:Int)=((1:Nat):Int) from rfl,HT.vU,HT.vU];rw [List.map_take,List.map_drop]
   congr 1
   ·omega
   ·congr 1;omega
  rw [ec];refine⟨by simp;omega,?_⟩;have:=h _ (by have:=zG hr (by omega);rw [show n - 2 + 2=n by omega] at this;exact this);exact this
def Fj (x y:D) (Q:D->Prop):Prop:=∃n:Nat,x=.obj f6/\y=.int (n:Int)/\2<=n/\n<=22/\∀ms,nU n ms->Q (.tup (ms.map jM))
def dB:Fw:=F2 Fj
def eQ:bG:=(gK (oI (aN (aL Eb (ag 5) (cC (.int 1)))) (ny 3)) (aK (jD 6 3 (aB aC (af (ag 0) (af (bI 3) av)))) (aK (oG 2 (ag 4) (ag 6)) (oG 2 (ag 6) (ag 4)))) bC)
def iZ:bG:=(aK (cP 2 (gK (oI (aN (aL kb (ag 1) (cC (.int 2)))) (aN (aL (Dc true) (cC (.str "third")) (ag 2)))) (bT 2 (fX (af (cC (.str "third")) (af (cC (.str "half")) av)))) bC)) (b8 (aB cH (af (ag 2) av))))
def gI:bG:=(aK (gK (aN (aL kb (ag 5) (cC (.int 1)))) (oG 2 (ag 4) (cC (.str "third"))) bC) eQ)
def ia:bG:=(aK (bJ 2 (fQ iV [] (af (ag 1) av) cD (cC (.str "half")))) (aK (bJ 3 (rf (af (ag 1) av))) (aK (jr (ny 3) (aK (jD 4 3 (cC (.int 0))) (aK (bT 5 (aB aC (af (ag 0) (af (cC (.int 4)) av)))) gI))) iZ)))
theorem ow:∀ds Q,dB ds Q->ds.length=2:=m5
theorem qR:∀ds (Q:D->Prop),dB ds Q->ia { nx:=λ_=>Q .non,rt:=Q } (aE ["_law_rest","_law_many","_law_marks_here","_law_left","_law_gap","_law_way","_law_other"] ds):=by
 rintro ds Q ⟨x,y,rfl,n,rfl,rfl,h2,h22,h⟩
 simp_arith only [ia,jr]
 refine⟨by omega,by omega,?_⟩;refine iD (λ_=>.str "half") _ _ (λx hx N hN=>by simp_arith only [dR];exact hN) (by simp [aM,Ht];omega) ?_
 refine⟨by omega,by omega,?_⟩
 have ints_nats:aM 0 (n:Int).toNat=az (List.range n):=by
  unfold aM az;rw [show (n:Int).toNat=n by omega];refine List.map_congr_left λi _=>?_;rw [Int.zero_add]
 refine⟨λe=>∃(left:List Nat) (ms:List Mk) (k5 k6 k7:Option Lo),e=[some (.d (.obj f6)),some (.d (.int n)),some (.own (ms.map jM)),some (.own (az left)),k5,k6,k7]/\fO n left ms,
  yj 3,⟨List.range n,List.replicate n .half,none,none,none,?_,?_⟩,?_⟩
 ·rw [ints_nats]
  have e:[] ++ (az (List.range n)).map (λ_=>D.str (Str.ofString "half"))=(List.replicate n Mk.half).map jM:=by
   unfold az;rw [List.nil_append,List.map_map,List.map_replicate];apply List.ext_getElem?
   intro i
   by_cases hi:i < n
   ·rw [Hi,Ie hi,HI,if_pos hi];rfl
   ·rw [Hv (by simp;omega),Hv (by simp;omega)]
  rw [e]
 ·refine⟨by simp,List.nodup_range,λi hi=>Ig.mp hi,λi hi=>?_,λi j hij=>?_⟩
  ·rw [HI,if_pos (Ig.mp hi)]
  ·rw [HI] at hij;split at hij <;> cases hij
 rintro env ⟨left,ms,k5,k6,k7,rfl,hm⟩;refine⟨az left,rfl,by rw [az,oZ];decide,?_⟩
 cases left with
 | nil =>
  rw [if_neg (by simp [az])]
  simp_arith only [iZ]
  have fin:∀ms:List Mk,nU n ms->Q (.tup (ms.map jM)):=h
  by_cases e2:(n:Int)=2
  ·rw [if_pos e2];have en:n=2:=by omega
   refine⟨ms.map jM,rfl,by rw [L2.L3.A6];decide,by decide,_,rfl,?_⟩;rw [if_pos rfl,wI]
   by_cases ht:Mk.aV∈ms
   ·rw [decide_eq_true ht]
    simp_arith only [and_true]
    refine fin ms ⟨hm.len,hm.pair,λ_=>⟨ht,λi j hij=>?_⟩⟩;obtain⟨h1,h2⟩:=hm.pair i j hij;have l1:=(G7.mp hij).1;have l2:=(G7.mp h2).1;rw [hm.len] at l1 l2;obtain⟨q,hq,eq⟩:=List.getElem_of_mem ht;rw [hm.len] at hq;have hqi:q=i\/q=j:=by omega
    rcases hqi with z|z
    ·subst z;rw [Hb (by rw [hm.len];exact hq),eq] at hij;cases hij
    ·subst z;rw [Hb (by rw [hm.len];exact hq),eq] at h2;cases h2
   ·rw [decide_eq_false ht]
    simp_arith only [and_true]
    refine fin [.aV,.half] ⟨by rw [en];rfl,λi j hij=>?_,λ_=>⟨by simp,λi j hij=>?_⟩⟩
    ·match i with
     | 0=>cases hij
     | 1=>cases hij
     | i + 2=>cases hij
    ·match i with
     | 0=>cases hij
     | 1=>cases hij
     | i + 2=>cases hij
  ·rw [if_neg e2]
   exact fin ms ⟨hm.len,hm.pair,λz=>absurd (by omega) e2⟩
 | cons g left =>
  rw [if_pos (by simp [az])];have hg:=hm.lt g Hy;refine⟨_,rfl,0,.int g,rfl,rfl,by decide,?_⟩;have eE:(az (g :: left)).eraseIdx 0=az left:=rfl;rw [eE]
  simp_arith only [aC,gL,qZ]
  intro w w0 w1
  simp_arith only [gI]
  have hml:(ms.map jM).length=n:=by rw [Hh,hm.len]
  have ixg:∀(l:List D) (j:Nat),l.length=n->j < n->rj l.length (j:Int)=some j:=λl j hl hj=>by
   unfold rj;rw [if_pos (by omega),if_pos (by omega)];rfl
  have mset:∀(j:Nat) (m:Mk),(ms.map jM).set j (jM m)=(ms.set j m).map jM:=λj m=>by rw [List.map_set]
  have less:(az left).length < (az (g :: left)).length:=by simp [az]
  by_cases c1:w=1
  ·rw [if_pos c1];subst c1;refine⟨_,g,rfl,ixg _ _ hml hg,?_⟩
   simp_arith only [eQ]
   exact⟨⟨left,ms.set g .aV,_,_,_,mset g .aV,rfl,rfl,rfl,rfl,hm.aV⟩,less⟩
  ·rw [if_neg c1]
   simp_arith only [eQ]
   by_cases c2:1 < w
   ·rw [if_pos c2];refine⟨by rw [az,oZ];decide,?_⟩
    by_cases c3:(az left).isEmpty=false
    ·rw [if_pos c3]
     have hl0:0 < left.length:=by
      cases left with
      | nil=>cases c3
      | cons _ _=>simp
     have ll:=hm.nd
     have lln:left.length<=n:=by
      have:=gX _ (List.range n) (HS.mp ll).2 (λy hy=>Ig.mpr (hm.lt y (Hq _ hy)))
      rwa [List.length_range] at this
     have hll:(az left).length=left.length:=by simp [az]
     rw [hll];refine⟨_,_,rfl,_,rfl,rfl,by omega,by omega,λu u0 u1=>?_⟩;obtain⟨a,ea⟩:∃a:Nat,u=(a:Int):=⟨_,(Iq u0).symm⟩;subst ea;have ha:a < left.length:=by omega
     have ho:left[a]?=some left[a]:=Hb ha;have hol:left[a] < n:=hm.lt _ (Hq _ (Im ha));refine⟨a,.int left[a],rfl,by unfold az;rw [Hi,ho];rfl,by omega,_,g,rfl,ixg _ _ hml hg,_,left[a],rfl,ixg _ _ (by rw [List.length_set];exact hml) hol,?_⟩;refine⟨⟨left.eraseIdx a,(ms.set g (.gap left[a])).set left[a] (.gap g),_,_,_,?_,?_,rfl,rfl,rfl,hm.two ho⟩,?_⟩
     ·rw [List.map_set,List.map_set];rfl
     ·unfold az;rw [yx]
     ·unfold az;simp only [yj,HD,HB];rw [List.length_eraseIdx,Hh,if_pos ha];simp;omega
    ·rw [if_neg c3];exact⟨⟨left,ms,_,_,_,rfl,rfl,rfl,rfl,rfl,hm.skip⟩,less⟩
   ·rw [if_neg c2];exact⟨⟨left,ms,_,_,_,rfl,rfl,rfl,rfl,rfl,hm.skip⟩,less⟩
def Br (x y z:D) (Q:D->Prop):Prop:=∃m g:Int,x=.obj f6/\y=.int m/\z=.int g/\2<=m/\m<=22/\2<=g/\g<=22/\∀fs ms,i9 fs ms->(fs.length:Int)<=max m g->Q (oJ fs ms)
def e8:Fw:=F3 Br
def gV:bG:=(b8 (a6 (af (aB bN (af (ag 0) (af (ag 3) av))) (af (aB dB (af (ag 0) (af (ag 3) av))) av))))
def kW:bG:=(aK (bT 3 (aL eT (cC (.int 2)) (aB aC (af (ag 0) (af (aL my (ag 1) (cC (.int 1))) av))))) (aK (gK (aN (aL kb (aB aC (af (ag 0) (af (cC (.int 8)) av))) (cC (.int 1)))) (bT 3 (aL eT (cC (.int 2)) (aB aC (af (ag 0) (af (aL my (ag 2) (cC (.int 1))) av))))) bC) gV))
theorem sZ:∀ds Q,e8 ds Q->ds.length=3:=Bb
theorem uR:∀ds (Q:D->Prop),e8 ds Q->kW { nx:=λ_=>Q .non,rt:=Q } (aE ["_law_rest","_law_most","_law_great","_law_many"] ds):=by
 rintro ds Q ⟨x,y,z,rfl,m,g,rfl,rfl,rfl,m2,m22,g2,g22,h⟩
 have fin:∀n:Int,2<=n->n<=max m g->gV { nx:=λ_=>Q .non,rt:=Q } [some (.d (.obj f6)),some (.d (.int m)),some (.d (.int g)),some (.d (.int n))]:=λn h1 h2=>by
  obtain⟨k,rfl⟩:∃k:Nat,n=(k:Int):=⟨_,(Iq (by omega)).symm⟩
  simp_arith only [gV,bN,dB,gL,Eo,Fj]
  refine⟨k,rfl,by omega,by omega,λfs hfs=>⟨k,rfl,by omega,by omega,λms hms=>?_⟩⟩;have e:=hfs.len;exact h fs ms ⟨by rw [e];exact hfs,by rw [e];exact hms⟩ (by omega)
 simp_arith only [kW,aC,gL,qZ]
 refine⟨by omega,by omega,λd d0 d1 e e0 e1=>?_⟩
 by_cases c:e=1
 ·rw [if_pos c];exact⟨by omega,by omega,λd d0 d1=>fin _ (by omega) (by omega)⟩
 ·rw [if_neg c];exact fin _ (by omega) (by omega)
def ET (x y:D) (Q:D->Prop):Prop:=∃(ns:List Int) (k:Int),x=.lst (ns.map D.int)/\y=.int k/\0<=k/\k<=1000/\∀r:Int,Q (.int r)
def fe:Fw:=F2 ET
theorem GJ {l:List Int} (hl:l.length=8) (P:Int->Prop) (hP:∀x∈l,P x) {i:Int} (h0:0<=i) (h8:i < 8) {Q:D->Prop} (q:∀x,P x->Q (.int x)):cK (.tup (l.map D.int)) (.int i) Q:=by
 obtain⟨k,rfl⟩:∃k:Nat,i=(k:Int):=⟨_,(Iq h0).symm⟩;have hk:k < l.length:=by omega
 refine⟨.int l[k],?_,q _ (hP _ (Im hk))⟩;have e1:rj (l.map D.int).length (k:Int)=some k:=by unfold rj;rw [Hh,if_pos (by omega),if_pos (by omega)];simp
 unfold ja;rw [e1];simp [hk]
def i8:bG:=(bT 5 (aL eT (aL wR (ag 5) (cC (.int 7919))) (aL oR (aL oR (aL wR (ag 7) (aL cK (ag 2) (aL oR (ag 6) (cC (.int 8))))) (aL cK (ag 3) (aL oR (ag 6) (cC (.int 8))))) (cC (.int 7919)))))
def lO:bG:=(aK (bT 5 (cC (.int 0))) (aK (gj iV (af (cC (.int 60)) av) (aW 6) (aK (bT 7 (aL eT (aL eT (aL oR (aB bB (af (ag 0) (af (aL eT (ag 1) (aL oR (ag 6) (cC (.int 9)))) av))) (aL BK (cC (.int 10)) (cC (.int 18)))) (cC (.int 1))) (aL wR (ag 6) (ag 6)))) i8)) (b8 (ag 5))))
def lH:bG:=(aK (bT 2 (a6 (af (cC (.int 48271)) (af (cC (.int 69621)) (af (cC (.int 16807)) (af (cC (.int 39373)) (af (cC (.int 21401)) (af (cC (.int 60493)) (af (cC (.int 87721)) (af (cC (.int 31337)) av)))))))))) (aK (bT 3 (a6 (af (cC (.int 99991)) (af (cC (.int 99989)) (af (cC (.int 99971)) (af (cC (.int 99961)) (af (cC (.int 99929)) (af (cC (.int 99923)) (af (cC (.int 99907)) (af (cC (.int 99901)) av)))))))))) (aK (bT 4 (aB bB (af (ag 0) (af (ag 1) av)))) (aK (gK (aN (aL GH (ag 4) (aL BK (cC (.int 10)) (cC (.int 18))))) (b8 (ag 4)) bC) lO))))
theorem su:∀ds Q,fe ds Q->ds.length=2:=m5
theorem uQ:∀ds (Q:D->Prop),fe ds Q->lH { nx:=λ_=>Q .non,rt:=Q } (aE ["_law_script","_law_at","_law_by","_law_prime","_law_cell","_law_big_here","_law_k","_law_one"] ds):=by
 rintro ds Q ⟨x,y,rfl,ns,k,rfl,rfl,k0,k1,h⟩
 simp_arith only [lH,bB,gL,vH]
 refine⟨ns,k,rfl,rfl,k0,EN _ _ (by decide),?_⟩
 by_cases c:1000000000000000000<=vq ns k
 ·rw [if_pos c];exact h _
 ·rw [if_neg c]
  simp_arith only [lO]
  refine cp (λ_ e=>∃(b:Int) (k6 k7:Option Lo),e=[some (.d (.lst (ns.map D.int))),some (.d (.int k)),some (.d (.tup ([48271,69621,16807,39373,21401,60493,87721,31337].map D.int))),some (.d (.tup ([99991,99989,99971,99961,99929,99923,99907,99901].map D.int))),some (.d (.int (vq ns k))),some (.d (.int b)),k6,k7]) ?_ ?_ ⟨0,none,none,rfl⟩
  ·rintro i x env N hx ⟨b,k6,k7,rfl⟩ hN
   have hi:i < 60:=by
    have:=(G7.mp hx).1
    simpa [aM] using this
   have hxe:x=.int (i:Int):=by
    unfold aM at hx;rw [Hi,Ie (by omega)] at hx;cases hx;simp
   subst hxe;have f9:=jj (a:=(i:Int)) (b:=9) (by decide);have f8:=jj (a:=(i:Int)) (b:=8) (by decide);simp only [ag,aL,cC,aB,af,av,aK,bT,aW,List.set_cons_zero,List.set_cons_succ,HD,HB,Option.some.injEq,Lo.d.injEq,exists_eq_left',nD,gz,gL,vH,bB,i8];refine⟨tZ _ (by decide),ns,_,rfl,rfl,by omega,EN _ _ (by decide),tZ _ (by decide),x4 (by omega) (by omega),tG (by decide) (by decide),tZ _ (by decide),?_⟩;refine GJ rfl (λx=>-(2 ^ 64) < x/\x < 2 ^ 64) (by decide) f8.1 f8.2 λy hy=>?_
   refine⟨tG hy.1 hy.2,tZ _ (by decide),?_⟩;refine GJ rfl (λx=>x≠0) (by decide) f8.1 f8.2 λz hz=>?_;exact⟨tZ _ hz,tZ _ (by decide),hN _ ⟨_,_,_,rfl⟩⟩
  ·rintro env ⟨b,k6,k7,rfl⟩
   simp_arith only [and_true]
   exact h b
def d5:Fw:=F1 λx Q=>∃fs:List Z2,x=.tup (fs.map eL)/\0 < fs.length/\fs.length<=22/\Q (.lst (rk fs))
def ju:bG:=(b8 (de (fQ iV [0] (af (aB gF (af (ag 0) av)) av) cD (a6 (af (aL cK (ag 1) (ag 0)) (af (aL cK (ag 1) (aL oR (aL eT (ag 0) (cC (.int 1))) (aB gF (af (ag 1) av)))) av))))))
theorem qA:∀ds Q,d5 ds Q->ds.length=1:=iY
theorem sT:∀ds (Q:D->Prop),d5 ds Q->ju { nx:=λ_=>Q .non,rt:=Q } (aE ["_law_fractions_here"] ds):=by
 rintro ds Q ⟨x,rfl,fs,rfl,h0,h22,h⟩
 simp_arith only [ju,Hh]
 refine⟨by omega,by omega,?_⟩;refine iD (λx=>match x with|.int i=>cL (.edge (a8 fs i.toNat))|_=>.non) _ _ (λx hx N hN=>?_) (by simp [aM,Ht];omega) ?_
 ·obtain⟨i,hi,rfl⟩:∃i:Nat,i < fs.length/\x=.int (i:Int):=by
   unfold aM at hx;obtain⟨i,hi,rfl⟩:=HG.mp hx;exact⟨i,by simpa using hi,by simp⟩
  simp_arith only [dR,Hh]
  have hm:(i + 1) % fs.length < fs.length:=Nat.mod_lt _ (by omega)
  have e2:((i:Int) + 1).fmod (fs.length:Int)=(((i + 1) % fs.length:Nat):Int):=by
   rw [Int.fmod_eq_emod_of_nonneg _ (by omega),Int.natCast_emod,show (((i + 1:Nat)):Int)=(i:Int) + 1 by omega]
  refine xC (kr hi) ⟨by show (fs.length:Int)≠0;omega,?_⟩;rw [e2];refine xC (kr hm) ?_;rw [xH hi];exact hN
 ·have eg:[] ++ (aM 0 (fs.length:Int).toNat).map (λx=>match x with|.int i=>cL (.edge (a8 fs i.toNat))|_=>.non)=rk fs:=by
   unfold rk aM;simp
  rw [eg];exact h
def dj:Fw:=F1 x5
def cY:bG:=(aK (bT 11 (a6 (af (a6 (af (cC (.int 1)) (af (cC (.int 0)) av))) (af (a6 (af (cC (.int 0)) (af (cC (.int 1)) av))) av)))) (aK (dH 4 (gK (aN (aL kb (aB gF (af (ag 1) av)) (cC (.int 2)))) (aK (bT 11 (aL cK (fX (af (cC (.int 1)) (af (cC (.int 0)) av))) (aB pU (af (aL rJ (aL cK (ag 2) (cC (.int 1))) (cC (.str "third"))) av)))) (lh (fX (af (cC (.int 0)) (af (cC (.int 1)) av))) (aW 9) (gK (aN (aL kb (aL cK (ag 2) (ag 9)) (cC (.str "third")))) (aS 8 (ag 9) (aL cK (fX (af (ag 9) (af (aL my (cC (.int 1)) (ag 9)) av))) (aB pU (af (aL kb (aL cK (ag 2) (aL my (cC (.int 1)) (ag 9))) (cC (.str "third"))) av)))) bC))) (gK (aN (aL (E2 true) (ag 11) (ag 4))) (bT 11 (fJ 8 (aL cK (ag 3) (ye wU (cC (.int 1)))))) bC))) (dH 8 (b8 (a6 (af (ag 8) (af (ag 4) (af (ag 11) av))))))))
def cX:bG:=(aK (oV (af (ag 2) av) (gT 2 (cy (aW 9) (cy (aW 10) ie))) (gK (aN (aL kb (ag 10) (cC (.str "third")))) (aK (aS 4 (ag 9) (ag 9)) (aK (aS 8 (ag 9) (aL cK (ag 3) (ag 9))) (aS 8 (aL cK (ag 3) (ag 9)) (ag 9)))) (gK (aN (aL kb (ag 10) (cC (.str "half")))) (aS 8 (aL cK (ag 3) (ag 9)) (aL cK (ag 3) (ag 9))) (aS 8 (aL cK (ag 3) (ag 9)) (aL cK (ag 3) (ag 10)))))) cY)
def eh:bG:=(aK (iJ 8) (aK (mO 4 (gT 2 (cy (aW 5) (cy (aW 7) ie))) (aS 8 (a6 (af (ag 5) (af (ag 7) av))) (a6 (af (ag 7) (af (ag 5) av))))) cX))
def ic:bG:=(aK (mf (ag 0) (gT 2 (cy (aW 1) (cy (aW 2) ie)))) (aK (bT 3 (aB d5 (af (ag 1) av))) (aK (iJ 4) (aK (lh (aB dA (af (ag 1) av)) (gT 3 (cy (aW 5) (cy (aW 6) (cy (aW 7) ie)))) (aK (aS 4 (a6 (af (ag 5) (af (ag 6) av))) (a6 (af (ag 6) (af (ag 7) av)))) (aK (aS 4 (a6 (af (ag 6) (af (ag 7) av))) (a6 (af (ag 7) (af (ag 5) av)))) (aS 4 (a6 (af (ag 7) (af (ag 5) av))) (a6 (af (ag 5) (af (ag 6) av))))))) eh))))
theorem oQ:∀ds Q,dj ds Q->ds.length=1:=iY
theorem qY:∀ds (Q:D->Prop),dj ds Q->ic { nx:=λ_=>Q .non,rt:=Q } (aE ["_law_fan_here","_law_fractions_here","_law_marks_here","_law_gaps_here","_law_thirds","_law_one","_law_mid","_law_other","_law_halves","_law_i","_law_mark","_law_first"] ds):=by
 rintro ds Q ⟨x,rfl,fs,ms,rfl,hf,h⟩;have two:=hf.fr.two;have most:=hf.fr.most;have rest4:=uW hf h
 simp_arith only [ic,oJ,d5,dA,jX,yb,iJ]
 refine⟨fs,rfl,by omega,by omega,fs,rfl,hf.fr,λts htl hlen=>?_⟩;have ok:=sJ htl hf.fr;refine cp (λi e=>∃(tk:List (D×D)) (th:br->Option br) (k5 k6 k7:Option Lo),e=[some (.d (oJ fs ms)),some (.d (.tup (fs.map eL))),some (.d (.tup (ms.map jM))),some (.d (.lst (rk fs))),some (.dic tk),k5,k6,k7,none,none,none,none]/\eS tk th/\sa (ts.take i) th/\tk.length<=3 * i) ?_ ?_ ⟨[],_,none,none,none,rfl,eS.nil,by simpa using sa.nil,by simp⟩
 ·rintro i x env N hx ⟨tk,th,k5,k6,k7,rfl,hd,ht,hl⟩ hN;have hi:i < ts.length:=by have:=(G7.mp hx).1;simpa using this
  obtain⟨t,hti⟩:∃t,ts[i]?=some t:=⟨ts[i],Hb hi⟩;rw [Hi,hti] at hx;cases hx;have tke:ts.take (i + 1)=ts.take i ++ [t]:=by rw [Iw,hti];rfl
  have nd:(dO (ts.take i ++ [t])).Nodup:=by
   rw [<- tke];have q:=ok.dif;rw [<- List.take_append_drop (i + 1) ts] at q;unfold dO at q ⊢;rw [List.flatMap_append,Iu] at q;exact q.1
  have d1:=hd.put (.edge (t.1,t.2.1)) (.edge (t.2.1,t.2.2));have d2:=d1.put (.edge (t.2.1,t.2.2)) (.edge (t.2.2,t.1));have d3:=d2.put (.edge (t.2.2,t.1)) (.edge (t.1,t.2.1));have l1:=cW (kvs:=tk) (k:=cL (.edge (t.1,t.2.1))) (v:=cL (.edge (t.2.1,t.2.2)));have l2:=cW (kvs:=putN tk (cL (.edge (t.1,t.2.1))) (cL (.edge (t.2.1,t.2.2)))) (k:=cL (.edge (t.2.1,t.2.2))) (v:=cL (.edge (t.2.2,t.1)));have l3:=cW (kvs:=putN (putN tk (cL (.edge (t.1,t.2.1))) (cL (.edge (t.2.1,t.2.2)))) (cL (.edge (t.2.1,t.2.2))) (cL (.edge (t.2.2,t.1)))) (k:=cL (.edge (t.2.2,t.1))) (v:=cL (.edge (t.1,t.2.1)))
  have sz:=Ht;have k1:=bt (.edge (t.1,t.2.1));have k2:=bt (.edge (t.2.1,t.2.2));have k3:=bt (.edge (t.2.2,t.1));simp only [cL] at l1 l2 l3
  simp_arith only [Fp,aS,Lo.dic.injEq]
  refine⟨k1.1,k1.2,hd.ok,by omega,k2.1,k2.2,d1.ok,by omega,k3.1,k3.2,d2.ok,by omega,?_⟩;exact hN _ ⟨_,_,_,_,_,rfl,d3,by rw [tke];exact ht.snoc nd,by omega⟩
 ·rintro env ⟨tk,th,k5,k6,k7,rfl,hd,ht,hl⟩;rw [Hh,List.take_length] at ht;rw [Hh] at hl;exact rest4 ts tk th k5 k6 k7 htl hlen hd ht hl
section
variable {β:Type} [DecidableEq β]
def aU (met:List β) (q:β):List β:=if q∈met then met else met ++ [q]
def mM (ha th:β->β):Nat->Nat->List β->List β
 | 0,_,met=>met
 | n + 1,at_,met=>match met[at_]? with
  | none=>met
  | some p=>mM ha th n (at_ + 1) (aU (aU met (ha p)) (th p))
def bq (met:List β) (g:β->β):List Nat:=met.map λp=>met.idxOf (g p)
structure Code (c:β->D):Prop where
 eq:∀p q,aT (c p) (c q)=decide (p=q)
 dp:∀p,dep (c p)<=8
def Look (x:D) (g:β->β) (c:β->D) (P:β->Prop):Prop:=∀p,P p->∀Q:D->Prop,Q (c (g p))->Bq x (c p) Q
structure Sy (ha th:β->β) (f:β) (P:β->Prop) (all:List β):Prop where
 f0:P f
 cl:∀p,P p->P (ha p)/\P (th p)
 al:∀p,P p->p∈all
 few:all.length<=500
structure Me (P:β->Prop) (met:List β):Prop where
 nd:met.Nodup
 inn:∀p∈met,P p
theorem Me.add {P:β->Prop} {met:List β} (m:Me P met) {q:β} (hq:P q):Me P (aU met q):=by
 unfold aU
 by_cases c:q∈met
 ·rw [if_pos c];exact m
 ·rw [if_neg c];refine⟨Iu.mpr ⟨m.nd,by simp,λa ha b hb e=>c (by rw [HA] at hb;rw [<- hb,<- e];exact ha)⟩,λp hp=>?_⟩;rcases HJ.mp hp with z|z
  ·exact m.inn p z
  ·rw [HA] at z;rw [z];exact hq
def zH (met l:List β) (i:Nat):List β:=(l.take i).foldl aU met
theorem xh {l met:List β} {i:Nat} {q:β} (h:l[i]?=some q):zH met l (i + 1)=aU (zH met l i) q:=by
 unfold zH;rw [Iw,h,List.foldl_append];rfl
theorem ba {met:List β} {q p:β} {i:Nat} (h:met[i]?=some p):(aU met q)[i]?=some p:=by
 unfold aU
 by_cases c:q∈met
 ·rw [if_pos c];exact h
 ·rw [if_neg c,Hw (G7.mp h).1];exact h
theorem c4 {met:List β} {q:β}:q∈aU met q:=by
 unfold aU
 by_cases c:q∈met
 ·rw [if_pos c];exact c
 ·rw [if_neg c];simp
theorem cG {met:List β} {q p:β} (h:p∈met):p∈aU met q:=by
 unfold aU
 by_cases c:q∈met
 ·rw [if_pos c];exact h
 ·rw [if_neg c];exact HJ.mpr (.inl h)
theorem Me.len {ha th:β->β} {f:β} {P:β->Prop} {all met:List β} (s:Sy ha th f P all) (m:Me P met):met.length<=all.length:=gX met all m.nd λp hp=>s.al p (m.inn p hp)
theorem Bj {c:β->D} (k:Code c) (met:List β) (q:β):((met.map c).any λe=>aT e (c q))=decide (q∈met):=by
 rw [Bool.eq_iff_iff,List.any_eq_true,decide_eq_true_eq]
 constructor
 ·rintro⟨e,h1,h2⟩;obtain⟨z,hz,rfl⟩:=HG.mp h1;rw [k.eq,decide_eq_true_eq] at h2;exact h2▸hz
 ·exact λh=>⟨_,HG.mpr ⟨q,h,rfl⟩,by rw [k.eq];simp⟩
theorem nh {c:β->D} (k:Code c):∀met:List β,bz (met.map c)<=8
 | []=>by simp [bz]
 | a :: l=>by
  have:=nh k l;have:=k.dp a;simp only [HL,bz];omega
theorem dG {met:List β} {q:β} (h:q∈met):met[met.idxOf q]?=some q:=by
 rw [Hb (List.idxOf_lt_length_iff.mpr h),List.getElem_idxOf]
theorem vK {met:List β} {x:D} {g:β->β} {c:β->D} {P:β->Prop} (k:Code c) (lk:Look x g c P) (m:Me P met) (cl:∀p∈met,g p∈met) (hl:met.length<=500) {Q:List D->Prop} (h:Q (az (bq met g))) :
  comps cD (jm (ag 2) (aL Bq (ag 1) (ag 0))) [none,some (.d x),some (.d (.lst (met.map c)))] Q (met.map c) []:=by
 refine pg (λx y=>∀p,x=c p->p∈met->y=.int ((met.idxOf (g p):Nat):Int)) _ _ (λx' hx N hN=>?_) (by simp [Ht];omega) (λys hy hR=>?_)
 ·obtain⟨p,hp,rfl⟩:=HG.mp hx;have mq:=cl p hp;have dl:=nh k met;have kq:=k.dp (g p)
  have at_:∀j,(((met.map c)[j]?).map λd=>aT d (c (g p)))=(met[j]?).map λz=>decide (z=g p):=λj=>by
   rw [Hi,Option.map_map]
   congr 1
   funext z;exact k.eq z (g p)
  simp_arith only [jm]
  refine⟨by omega,lk p (m.inn p hp) _ ⟨by omega,met.idxOf (g p),?_,λj hj=>?_,hN _ λp' ep mp=>?_⟩⟩
  ·rw [at_,dG mq];simp
  ·have hkl:j < met.length:=Nat.lt_trans hj (List.idxOf_lt_length_iff.mpr mq);rw [at_,Hb hkl];simp only [Option.map_some,Option.some.injEq,decide_eq_false_iff_not];intro z;have:=(List.getElem?_inj hkl m.nd).mp (show met[j]?=met[met.idxOf (g p)]? by rw [dG mq,Hb hkl,z]);omega
  ·have e:=k.eq p p';rw [<- ep,k.eq] at e;have:p=p':=by simpa using e
   subst this;rfl
 ·have:[] ++ ys=az (bq met g):=by
   rw [List.nil_append];unfold az bq;rw [List.map_map];apply List.ext_getElem?
   intro i;rw [Hh] at hy;rw [Hi]
   by_cases cc:i < met.length
   ·have h1:ys[i]?=some (ys[i]'(by omega)):=Hb _;have h2:met[i]?=some met[i]:=Hb cc;rw [h1,h2];have:=hR i (c met[i]) _ (by rw [Hi,h2];rfl) h1 met[i] rfl (Im cc);rw [this];rfl
   ·rw [Hv (by omega),Hv (by omega)];rfl
  rw [this];exact h
end
def lG {β:Type} [DecidableEq β] (ha th:β->β) (f:β) (n:Nat):List β:=mM ha th (n + 1) 0 [f]
def yK (x y z:D) (Q:D->Prop):Prop:=∃(β:Type) (_:DecidableEq β) (c:β->D) (ha th:β->β) (f:β) (P:β->Prop) (all:List β),Code c/\Look x ha c P/\Look y th c P/\z=c f/\Sy ha th f P all /\
 Q (.tup [.tup (az (bq (lG ha th f all.length) ha)),.tup (az (bq (lG ha th f all.length) th))])
def bp:Fw:=F3 yK
def iu:bG:=(bT 4 (aL eT (ag 4) (cC (.int 1))))
def km:bG:=(cP 3 (b8 (a6 (af (aB cH (af (de (fM [0,3] (ag 3) cD (jm (ag 2) (aL Bq (ag 1) (ag 0))))) av)) (af (aB cH (af (de (fM [1,3] (ag 3) cD (jm (ag 2) (aL Bq (ag 1) (ag 0))))) av)) av)))))
def ji:bG:=(aK (bJ 3 (kn (af (ag 2) av))) (aK (bT 4 (cC (.int 0))) (aK (jr (aN (aL DI (ag 4) (bI 3))) (aK (lh (fX (af (aL Bq (ag 0) (bW 3 (ag 4))) (af (aL Bq (ag 1) (bW 3 (ag 4))) av))) (aW 5) (gK (lK true 3 (ag 5)) (cE 3 (ag 5)) bC)) iu)) km)))
theorem p6:∀ds Q,bp ds Q->ds.length=3:=Bb
theorem rS:∀ds (Q:D->Prop),bp ds Q->ji { nx:=λ_=>Q .non,rt:=Q } (aE ["_law_halves","_law_thirds","_law_first","_law_met","_law_at","_law_behind"] ds):=by
 rintro ds Q ⟨x,y,z,rfl,β,inst,c,ha,th,f,P,all,k,lx,ly,rfl,sy,h⟩;have sz:=Ht;have few:=sy.few
 simp_arith only [ji,jr]
 refine⟨λe=>∃(met:List β) (at_:Nat) (k5:Option Lo),e=[some (.d x),some (.d y),some (.d (c f)),some (.own (met.map c)),some (.d (.int at_)),k5]/\Me P met/\at_<=met.length/\(∀i p,i < at_->met[i]?=some p->ha p∈met/\th p∈met)/\mM ha th (all.length + 1 - at_) at_ met=lG ha th f all.length,
  λe=>all.length - zW 4 e,⟨[f],0,none,rfl,⟨by simp,λp hp=>by rw [HA] at hp;rw [hp];exact sy.f0⟩,HU _,λi p hi=>absurd hi (Ia _),rfl⟩,?_⟩
 rintro env ⟨met,at_,k5,rfl,m,mle,cl,hb⟩;have ml:=m.len sy
 simp_arith only [Hh]
 by_cases cc:at_ < met.length
 ·rw [if_pos (by omega)];obtain⟨p,hp⟩:∃p,met[at_]?=some p:=⟨met[at_],Hb cc⟩;have ip:=m.inn p (Hm hp);obtain⟨i1,i2⟩:=sy.cl p ip;have ai:ja (met.map c) (at_:Int)=some (c p):=eu _ _ _ _ hp;refine⟨_,_,rfl,ai,lx p ip _ ⟨_,_,rfl,ai,ly p ip _ ?_⟩⟩;show turns _ _ _ [c (ha p),c (th p)] _
  have m1:=m.add i1;have m2:=m1.add i2
  let mm:Nat->List β:=λi=>match i with
   | 0=>met
   | 1=>aU met (ha p)
   | _=>aU (aU met (ha p)) (th p)
  have hmm:∀i,Me P (mm i):=λi=>match i with
   | 0=>m
   | 1=>m1
   | _ + 2=>m2
  refine cp (λi e=>i<=2/\∃k5,e=[some (.d x),some (.d y),some (.d (c f)),some (.own ((mm i).map c)),some (.d (.int at_)),k5]) ?_ ?_ ⟨by omega,k5,rfl⟩
  ·rintro i x' env N hx ⟨hi2,k5,rfl⟩ hN
   obtain⟨q,rfl,eq⟩:∃q,x'=c q/\mm (i + 1)=aU (mm i) q:=by
    match i,hx with
    | 0,hx=>cases hx;exact⟨_,rfl,rfl⟩
    | 1,hx=>cases hx;exact⟨_,rfl,rfl⟩
   have hi:i < 2:=by have:=(G7.mp hx).1;simpa using this
   have ml':=(hmm i).len sy;have kq:=k.dp q;have dl:=nh k (mm i)
   simp_arith only [lK,Hh]
   refine⟨by omega,by omega,?_⟩;rw [Bj k];unfold aU at eq
   by_cases c2:q∈mm i
   ·rw [if_pos c2] at eq;rw [decide_eq_true c2];refine hN _ ⟨by omega,some (.d (c q)),?_⟩;rw [eq]
   ·rw [if_neg c2] at eq;rw [decide_eq_false c2];refine⟨by omega,hN _ ⟨by omega,some (.d (c q)),?_⟩⟩;rw [eq,List.map_append];rfl
  ·rintro env ⟨_,k5,rfl⟩
   simp_arith only [iu]
   refine⟨⟨aU (aU met (ha p)) (th p),at_ + 1,k5,rfl,by omega,rfl,m2,?_,λi q hi hq=>?_,?_⟩,by simp only [zW,HD,HB];omega⟩
   ·have:=(G7.mp (ba (q:=th p) (ba (q:=ha p) hp))).1;omega
   ·by_cases e:i=at_
    ·subst e;rw [ba (ba hp)] at hq;cases hq;exact⟨cG c4,c4⟩
    ·have hi':i < met.length:=by omega
     have o:met[i]?=some met[i]:=Hb hi';rw [ba (ba o)] at hq;cases hq;obtain⟨a1,a2⟩:=cl i _ (by omega) o;exact⟨cG (cG a1),cG (cG a2)⟩
   ·rw [<- hb,show all.length + 1 - at_=(all.length - at_) + 1 by omega,mM,hp];rw [show all.length + 1 - (at_ + 1)=all.length - at_ by omega]
 ·rw [if_neg (by omega)];have ea:at_=met.length:=by omega
  subst ea
  have eM:lG ha th f all.length=met:=by
   rw [<- hb,show all.length + 1 - met.length=(all.length - met.length) + 1 by omega,mM,Hv (Hl _)]
  rw [eM] at h
  simp_arith only [km,dR]
  refine vK k lx m (λp hp=>?_) (by omega) (vK k ly m (λp hp=>?_) (by omega) h)
  ·obtain⟨i,hi⟩:=HM hp;exact (cl i p (G7.mp hi).1 hi).1
  ·obtain⟨i,hi⟩:=HM hp;exact (cl i p (G7.mp hi).1 hi).2
section
variable {β:Type} [DecidableEq β] {ha th:β->β} {f:β} {P:β->Prop} {all:List β}
structure Full (ha th:β->β) (f:β) (P:β->Prop) (met:List β):Prop where
 me:Me P met
 cl:∀p∈met,ha p∈met/\th p∈met
 head:met[0]?=some f
 num:∀j q,0 < j->met[j]?=some q->∃i p,i < j/\met[i]?=some p/\(ha p=q\/th p=q)
structure Part (ha th:β->β) (f:β) (P:β->Prop) (met:List β) (at_:Nat):Prop where
 me:Me P met
 le:at_<=met.length
 cl:∀i p,i < at_->met[i]?=some p->ha p∈met/\th p∈met
 head:met[0]?=some f
 num:∀j q,0 < j->met[j]?=some q->∃i p,i < j/\i<=at_/\met[i]?=some p/\(ha p=q\/th p=q)
theorem Part.add {met:List β} {at_:Nat} (m:Part ha th f P met at_) {p q:β} (hp:met[at_]?=some p) (hq:P q) (e:ha p=q\/th p=q):Part ha th f P (aU met q) at_:=by
 have hl:=(G7.mp hp).1;refine⟨m.me.add hq,?_,λi x hi hx=>?_,ba m.head,λj x hj hx=>?_⟩
 ·have:=(G7.mp (ba (q:=q) hp)).1;omega
 ·have o:met[i]?=some (met[i]'(by omega)):=Hb _;rw [ba o] at hx;cases hx;obtain⟨a,b⟩:=m.cl i _ hi o;exact⟨cG a,cG b⟩
 ·by_cases c:j < met.length
  ·have o:met[j]?=some met[j]:=Hb c;rw [ba o] at hx;cases hx;obtain⟨i,y,h1,h2,h3,h4⟩:=m.num j _ hj o;exact⟨i,y,h1,h2,ba h3,h4⟩
  ·have hx':=hx;unfold aU at hx
   by_cases cq:q∈met
   ·rw [if_pos cq,Hv (by omega)] at hx;cases hx
   ·rw [if_neg cq,Hu (by omega)] at hx
    have hj0:j - met.length=0:=by
     have:=(G7.mp hx).1
     simpa using this
    rw [hj0] at hx;have:q=x:=by simpa using hx
    subst this;exact⟨at_,p,by omega,Hl _,ba hp,e⟩
theorem rC (sy:Sy ha th f P all):∀n at_ met,Part ha th f P met at_->n + at_=all.length + 1->Full ha th f P (mM ha th n at_ met)
 | 0,at_,met,m,e=>by
  have:=m.me.len sy;have:=m.le
  omega
 | n + 1,at_,met,m,e=>by
  rw [mM]
  cases hp:met[at_]? with
  | none =>
   have:=m.le
   have ea:at_=met.length:=by
    have:=List.getElem?_eq_none_iff.mp hp;omega
   refine⟨m.me,λp hp=>?_,m.head,λj q hj hq=>?_⟩
   ·obtain⟨i,hi⟩:=HM hp;exact m.cl i p (by rw [ea];exact (G7.mp hi).1) hi
   ·obtain⟨i,p,h1,_,h3,h4⟩:=m.num j q hj hq
    exact⟨i,p,h1,h3,h4⟩
  | some p =>
   have ip:=m.me.inn p (Hm hp);obtain⟨c1,c2⟩:=sy.cl p ip;have m1:=m.add hp c1 (.inl rfl);have hp1:=ba (q:=ha p) hp;have m2:=m1.add hp1 c2 (.inr rfl);have hp2:=ba (q:=th p) hp1;refine rC sy n (at_ + 1) _ ⟨m2.me,?_,λi x hi hx=>?_,m2.head,λj q hj hq=>?_⟩ (by omega)
   ·have:=(G7.mp hp2).1;omega
   ·by_cases e:i=at_
    ·subst e;rw [hp2] at hx;cases hx;exact⟨cG c4,c4⟩
    ·exact m2.cl i x (by omega) hx
   ·obtain⟨i,y,h1,h2,h3,h4⟩:=m2.num j q hj hq;exact⟨i,y,h1,by omega,h3,h4⟩
theorem g8 (sy:Sy ha th f P all):Full ha th f P (lG ha th f all.length):=by
 refine rC sy (all.length + 1) 0 [f] ⟨⟨by simp,λp hp=>by rw [HA] at hp;rw [hp];exact sy.f0⟩,HU _,λi p hi=>absurd hi (Ia _),rfl,λj q hj hq=>?_⟩ rfl;have:=(G7.mp hq).1;simp at this;omega
end
structure o9 (a b:List Nat):Prop where
 ok:Bc a b
 pos:0 < a.length
 num:∀j,0 < j->j < a.length->∃i,i < j/\(a[i]?=some j\/b[i]?=some j)
theorem iG {β:Type} [DecidableEq β] {met:List β} {g:β->β} {i:Nat} {p:β} (h:met[i]?=some p):(bq met g)[i]?=some (met.idxOf (g p)):=by
 unfold bq;rw [Hi,h];rfl
theorem gd {β:Type} [DecidableEq β] {met:List β} (nd:met.Nodup) {i:Nat} {p:β} (h:met[i]?=some p):met.idxOf p=i:=by
 have h2:=dG (Hm h);exact (List.getElem?_inj (G7.mp h2).1 nd).mp (h2.trans h.symm)
theorem Full.pL {β:Type} [DecidableEq β] {ha th:β->β} {f:β} {P:β->Prop} {met:List β} (m:Full ha th f P met) (hh:∀p,P p->ha (ha p)=p) (t3:∀p,P p->th (th (th p))=p):o9 (bq met ha) (bq met th):=by
 have l1:∀g:β->β,(bq met g).length=met.length:=λg=>by unfold bq;rw [Hh]
 have inv:∀(g:β->β) (i x:Nat),(bq met g)[i]?=some x->∃p,met[i]?=some p/\x=met.idxOf (g p):=λg i x h=>by
  unfold bq at h;rw [Hi] at h;obtain⟨p,hp,e⟩:=HV.mp h;exact⟨p,hp,e.symm⟩
 have nd:=m.me.nd;refine⟨⟨by rw [l1,l1],λi x h=>?_,λi x h=>?_,λi x h=>?_,λi x y h1 h2=>?_⟩,?_,λj hj hl=>?_⟩
 ·obtain⟨p,hp,rfl⟩:=inv _ _ _ h;rw [l1];exact List.idxOf_lt_length_iff.mpr (m.cl p (Hm hp)).1
 ·obtain⟨p,hp,rfl⟩:=inv _ _ _ h;rw [l1];exact List.idxOf_lt_length_iff.mpr (m.cl p (Hm hp)).2
 ·obtain⟨p,hp,rfl⟩:=inv _ _ _ h;have pm:=Hm hp;rw [iG (dG (m.cl p pm).1),hh p (m.me.inn p pm),gd nd hp]
 ·obtain⟨p,hp,rfl⟩:=inv _ _ _ h1;have pm:=Hm hp;have q1:=(m.cl p pm).2;rw [iG (dG q1)] at h2;cases h2;rw [iG (dG (m.cl _ q1).2),t3 p (m.me.inn p pm),gd nd hp]
 ·rw [l1];exact List.length_pos_of_mem (Hm m.head)
 ·rw [l1] at hl;obtain⟨i,p,h1,h2,h3⟩:=m.num j met[j] hj (Hb hl);refine⟨i,h1,?_⟩;have ij:met.idxOf met[j]=j:=gd nd (Hb hl);rcases h3 with e|e
  ·left;rw [iG h2,e,ij]
  ·right;rw [iG h2,e,ij]
theorem tH {kvs:List (D×D)} {g:br->Option br} (e:eS kvs g) {P:br->Prop} (t:∀p,P p->∃q,g p=some q):Look (.obj (qe kvs)) (λp=>(g p).getD p) cL P:=λp hp Q q=>by
 obtain⟨r,hr⟩:=t p hp;have k:=bt p;have q:Q (cL ((g p).getD p)):=q;rw [hr] at q;exact .inl ⟨kvs,cL r,rfl,k.1,k.2,e.ok,by rw [e.get,hr];rfl,q⟩
theorem Aj:Code cL:=⟨tS,λp=>(bt p).2⟩
theorem Ft {l:List Nat} {i x:Nat} (h:l[i]?=some x) {Q:D->Prop}:cK (.tup (az l)) (.int (i:Int)) Q=Q (.int (x:Int)):=by
 have hi:i < l.length:=(G7.mp h).1
 have e:ja (az l) (i:Int)=some (.int (x:Int)):=by
  have e1:rj l.length (i:Int)=some i:=by unfold rj;rw [if_pos (by omega),if_pos (by omega)];simp
  unfold ja az;rw [Hh,e1];simp [h]
 exact propext ⟨fun⟨v,ev,q⟩=>by rw [e] at ev;cases ev;exact q,λq=>⟨_,e,q⟩⟩
def eF (a:List Nat) (i:Nat):Nat:=a.getD i 0
theorem dI {a:List Nat} {i:Nat} (h:i < a.length):a[i]?=some (eF a i):=by unfold eF;rw [Ip,Hb h];rfl
theorem kh {a:List Nat} {n:Nat} (h:a.length=n):Look (.tup (az a)) (eF a) (λi:Nat=>.int (i:Int)) (λi=>i < n):=λp hp Q q=>by
 refine .inr ?_;rw [Ft (dI (by rw [h];exact hp))];exact q
theorem m8:Code (λi:Nat=>D.int (i:Int)):=⟨λp q=>by
 show aT (.int (p:Int)) (.int (q:Int))=_
 rw [Bool.eq_iff_iff,decide_eq_true_eq];simp [aT]
 omega,λp=>by simp [dep]⟩
theorem o9.sy {a b:List Nat} (t:o9 a b) (hl:a.length<=500) {k:Nat} (hk:k < a.length):Sy (eF a) (eF b) k (λi=>i < a.length) (List.range a.length):=by
 have e:=t.ok.len;refine⟨hk,λp hp=>⟨t.ok.al _ _ (dI hp),t.ok.bl _ _ (dI (by omega))⟩,λp hp=>Ig.mpr hp,by simpa using hl⟩
theorem o9.hh {a b:List Nat} (t:o9 a b) (p:Nat) (hp:p < a.length):eF a (eF a p)=p:=by
 have h1:=dI hp;have h2:=t.ok.aa _ _ h1;rw [dI (t.ok.al _ _ h1)] at h2;exact Hn h2
theorem o9.t3 {a b:List Nat} (t:o9 a b) (p:Nat) (hp:p < a.length):eF b (eF b (eF b p))=p:=by
 have e:=t.ok.len;have h1:=dI (a:=b) (i:=p) (by omega);have l1:=t.ok.bl _ _ h1;have h2:=dI (a:=b) (i:=eF b p) (by omega);have l2:=t.ok.bl _ _ h2;have h3:=t.ok.bbb _ _ _ h1 h2;rw [dI (a:=b) (by omega)] at h3;exact Hn h3
def vN (a b:List Nat) (k:Nat):List Nat:=bq (lG (eF a) (eF b) k a.length) (eF a)
def Bn (a b:List Nat) (k:Nat):List Nat:=bq (lG (eF a) (eF b) k a.length) (eF b)
theorem o9.anew {a b:List Nat} (t:o9 a b) (hl:a.length<=500) {k:Nat} (hk:k < a.length):o9 (vN a b k) (Bn a b k)/\(vN a b k).length<=a.length:=by
 have f:=g8 (t.sy hl hk);rw [List.length_range] at f;refine⟨f.pL (λp hp=>t.hh p hp) (λp hp=>t.t3 p hp),?_⟩;unfold vN bq;rw [Hh];have:=f.me.len (t.sy hl hk)
 rwa [List.length_range] at this
theorem y1 {a b:List Nat} (t:o9 a b) (hl:a.length<=500) {k:Nat} (hk:k < a.length) {Q:D->Prop} (h:Q (.tup [.tup (az (vN a b k)),.tup (az (Bn a b k))])):yK (.tup (az a)) (.tup (az b)) (.int (k:Int)) Q:=by
 refine⟨Nat,inferInstance,λi=>.int (i:Int),eF a,eF b,k,λi=>i < a.length,List.range a.length,m8,kh rfl,kh t.ok.len,rfl,t.sy hl hk,?_⟩;rw [List.length_range];exact h
theorem rm {β γ:Type} [DecidableEq β] [DecidableEq γ] {φ:β->γ} {P:β->Prop} (inj:∀p q,P p->P q->φ p=φ q->p=q) {met:List β} {q:β} (hm:∀p∈met,P p) (hq:P q):aU (met.map φ) (φ q)=(aU met q).map φ:=by
 unfold aU
 by_cases c:q∈met
 ·rw [if_pos c,if_pos (HG.mpr ⟨q,c,rfl⟩)]
 ·rw [if_neg c,if_neg,List.map_append];rfl;intro z;obtain⟨p,hp,e⟩:=HG.mp z;exact c (inj p q (hm p hp) hq e▸hp)
theorem vt {β:Type} [DecidableEq β] {P:β->Prop} {met:List β} {q:β} (hm:∀p∈met,P p) (hq:P q):∀p∈aU met q,P p:=by
 intro p hp;unfold aU at hp
 by_cases c:q∈met
 ·rw [if_pos c] at hp;exact hm p hp
 ·rw [if_neg c] at hp;rcases HJ.mp hp with z|z
  ·exact hm p z
  ·rw [HA] at z;rw [z];exact hq
theorem v7 {β γ:Type} [DecidableEq β] [DecidableEq γ] {ha th:β->β} {ha' th':γ->γ} {φ:β->γ} {P:β->Prop} (cl:∀p,P p->P (ha p)/\P (th p)) (e1:∀p,P p->ha' (φ p)=φ (ha p)) (e2:∀p,P p->th' (φ p)=φ (th p))
  (inj:∀p q,P p->P q->φ p=φ q->p=q):∀n at_ met,(∀p∈met,P p)->mM ha' th' n at_ (met.map φ)=(mM ha th n at_ met).map φ
 | 0,_,_,_=>rfl
 | n + 1,at_,met,hm=>by
  rw [mM,mM,Hi]
  cases hp:met[at_]? with
  | none=>rfl
  | some p =>
   have ip:=hm p (Hm hp);have i1:=vt hm (cl p ip).1;show mM ha' th' n (at_ + 1) (aU (aU (met.map φ) (ha' (φ p))) (th' (φ p)))=_
   rw [e1 p ip,e2 p ip,rm inj hm (cl p ip).1,rm inj i1 (cl p ip).2];exact v7 cl e1 e2 inj n (at_ + 1) _ (vt i1 (cl p ip).2)
theorem rA {β:Type} [DecidableEq β] {ha th:β->β}:∀n k at_ met,(mM ha th n at_ met).length < n + at_->mM ha th (n + k) at_ met=mM ha th n at_ met
 | 0,k,at_,met,h=>by
  have h':met.length < 0 + at_:=h
  cases k with
  | zero=>rfl
  | succ k =>
   show mM ha th (0 + (k + 1)) at_ met=met
   rw [Nat.zero_add,mM,Hv (by omega)]
 | n + 1,k,at_,met,h=>by
  rw [show n + 1 + k=(n + k) + 1 by omega,mM,mM];rw [mM] at h
  cases hp:met[at_]? with
  | none=>rfl
  | some p =>
   rw [hp] at h;exact rA n k (at_ + 1) _ (by have:(mM ha th n (at_ + 1) (aU (aU met (ha p)) (th p))).length < n + 1 + at_:=h;omega)
def yR (a b:List Nat):Prop:=lG (eF a) (eF b) 0 a.length=List.range a.length
theorem xJ {β:Type} [DecidableEq β] {ha th:β->β} {f:β} {P:β->Prop} {all:List β} (sy:Sy ha th f P all) (tb:o9 (bq (lG ha th f all.length) ha) (bq (lG ha th f all.length) th)):yR (bq (lG ha th f all.length) ha) (bq (lG ha th f all.length) th):=by
 have F:=g8 sy;have l1:=F.me.len sy;have few:=sy.few;unfold yR;generalize hm:lG ha th f all.length=met at *;have la:(bq met ha).length=met.length:=by unfold bq;rw [Hh]
 have i0:met.idxOf f=0:=gd F.me.nd F.head
 have nat:∀(g:β->β) (p:β),p∈met->eF (bq met g) (met.idxOf p)=met.idxOf (g p):=λg p hp=>by
  have h1:=iG (g:=g) (dG hp);rw [dI (G7.mp h1).1] at h1;exact Hn h1
 have e:=v7 (ha:=ha) (th:=th) (ha':=eF (bq met ha)) (th':=eF (bq met th)) (φ:=met.idxOf) (P:=λp=>p∈met) (λp hp=>F.cl p hp) (nat ha) (nat th) (λp q hp hq z=>by
  have h1:=dG hp;rw [z,dG hq] at h1
  exact (Hn h1).symm) (all.length + 1) 0 [f] (λp hp=>by rw [HA] at hp;rw [hp];exact Hm F.head)
 have hm':mM ha th (all.length + 1) 0 [f]=met:=hm;rw [hm',HL,List.map_nil,i0] at e
 have hr:met.map (λp=>met.idxOf p)=List.range met.length:=by
  apply List.ext_getElem?
  intro i;rw [Hi]
  by_cases c:i < met.length
  ·rw [Ie c,Hb c];show some (met.idxOf met[i])=_
   rw [gd F.me.nd (Hb c)]
  ·rw [Hv (by omega),Hv (by simp;omega)];rfl
 have e':mM (eF (bq met ha)) (eF (bq met th)) (all.length + 1) 0 [0]=List.range met.length:=by rw [e];exact hr
 have sy':=tb.sy (by rw [la];omega) tb.pos;have F':=g8 sy';have l2:=F'.me.len sy';rw [List.length_range,la] at l2
 have m:=rA (ha:=eF (bq met ha)) (th:=eF (bq met th)) (met.length + 1) (all.length - met.length) 0 [0] (by
  have l3:(mM (eF (bq met ha)) (eF (bq met th)) (met.length + 1) 0 [0]).length<=met.length:=l2
  omega)
 rw [show met.length + 1 + (all.length - met.length)=all.length + 1 by omega,e'] at m;rw [la];exact m.symm
theorem u2 {row:List Z2} {ts:List dW} (t:dN row ts):ts.length + 2=row.length:=by
 induction t with
 | done h=>simpa using h.symm
 | cut h e _ ih =>
  have:=e.il;rw [List.length_eraseIdx_of_lt (by omega)] at ih;simp;omega
theorem AF {fs:List Z2} {ms:List Mk} {ha th:br->Option br} {isP:br->Prop} (hf:i9 fs ms) (src:yF fs ms ha th isP) {met:List br} (nd:met.Nodup) (inn:∀p∈met,isP p):met.length + 6<=4 * fs.length:=by
 rcases src with ⟨hn,ts,_,tl,_,hp⟩|⟨c,_,hp⟩
 ·have:=gX met ((dO ts).map .edge ++ (List.range fs.length).map .gap) nd λp h=>by
   have q:=(hp p).mp (inn p h)
   cases p with
   | edge e=>exact HJ.mpr (.inl (HG.mpr ⟨e,q,rfl⟩))
   | gap i=>exact HJ.mpr (.inr (HG.mpr ⟨i,Ig.mpr (cT hf.mar q),rfl⟩))
  rw [HH,Hh,Hh,p4,List.length_range] at this;have:=u2 tl;omega
 ·have ml:=hf.mar.len
  have:=gX met [.gap 0,.gap 1] nd λp h=>by
   obtain⟨i,hi,rfl⟩:=(hp p).mp (inn p h);have:=(G7.mp hi).1;have:i=0\/i=1:=by omega
   rcases this with rfl|rfl <;> simp
  simp at this;omega
def BB (x:D) (Q:D->Prop):Prop:=∃fs ms,x=oJ fs ms/\i9 fs ms/\∀a b:List Nat,o9 a b->yR a b->a.length<=500->a.length + 6<=4 * fs.length->Q (.tup [.tup (az a),.tup (az b)])
def dg:Fw:=F1 BB
def iw:bG:=(aK (mf (aB dj (af (ag 0) av)) (gT 3 (cy (aW 1) (cy (aW 2) (cy (aW 3) ie))))) (b8 (aB bp (af (ag 1) (af (ag 2) (af (ag 3) av))))))
theorem oy:∀ds Q,dg ds Q->ds.length=1:=iY
theorem qd:∀ds (Q:D->Prop),dg ds Q->iw { nx:=λ_=>Q .non,rt:=Q } (aE ["_law_fan_here","_law_halves","_law_thirds","_law_first"] ds):=by
 rintro ds Q ⟨x,rfl,fs,ms,rfl,hf,h⟩
 simp_arith only [iw,dj,bp,jX,vO,x5]
 refine⟨fs,ms,rfl,hf,λhk tk ha th f e1 e2 hr=>?_⟩;obtain⟨isP,all,sys,src,cnt⟩:=CC hf hr
 have sy:Sy (λp=>(ha p).getD p) (λp=>(th p).getD p) f isP all:=⟨sys.f0,λp hp=>by
  obtain⟨q,a1,i1⟩:=sys.h1 p hp;obtain⟨r,a2,i2⟩:=sys.t1 p hp;rw [a1,a2]
  exact⟨i1,i2⟩,sys.al,sys.few⟩
 have fm:=g8 sy
 have tb:=fm.pL (λp hp=>by
  obtain⟨q,a1,i1⟩:=sys.h1 p hp
  rw [a1,Option.getD_some,sys.hh p q hp a1,Option.getD_some]) (λp hp=>by
  obtain⟨q,r,a1,a2,a3⟩:=sys.t3 p hp
  rw [a1,Option.getD_some,a2,Option.getD_some,a3,Option.getD_some])
 refine⟨br,inferInstance,cL,_,_,f,isP,all,Aj,tH e1 (λp hp=>let ⟨q,a,_⟩:=sys.h1 p hp;⟨q,a⟩),tH e2 (λp hp=>let ⟨q,a,_⟩:=sys.t1 p hp;⟨q,a⟩),rfl,sy,h _ _ tb (xJ sy tb) ?_ ?_⟩
 ·unfold bq;rw [Hh];exact HX (fm.me.len sy) sys.few
 ·unfold bq;rw [Hh];exact AF hf src fm.me.nd fm.me.inn
abbrev cN:Nat->D:=λi=>.int (i:Int)
abbrev cU (a b:List Nat):D:=.tup [.tup (az a),.tup (az b)]
theorem kC:∀a b:List Nat,cZ (az a) (az b)=decide (a=b)
 | [],[]=>by simp [az,cZ]
 | [],_ :: _=>by simp [az,cZ]
 | _ :: _,[]=>by simp [az,cZ]
 | x :: a,y :: b=>by
  have e:cZ (az (x :: a)) (az (y :: b))=(aT (cN x) (cN y) && cZ (az a) (az b)):=by simp only [az,HL,cZ]
  rw [e,kC a b,show aT (cN x) (cN y)=decide (x=y) from m8.eq x y,Bool.eq_iff_iff];simp
theorem hU:∀a:List Nat,bz (az a)<=8
 | []=>by simp [az,bz]
 | x :: a=>by
  have:=hU a;simp only [az,HL,bz,dep] at this ⊢;omega
theorem AY {a b c d:List Nat} {Q:D->Prop}:kb (cU a b) (cU c d) Q=Q (.bl (decide (a=c/\b=d))):=by
 have d1:=hU a;have d2:=hU b;have d3:=hU c;have d4:=hU d
 have e:aT (cU a b) (cU c d)=decide (a=c/\b=d):=by
  simp only [cU,aT,cZ,kC,IB];rw [Bool.eq_iff_iff];simp
 unfold kb;rw [e];refine propext ⟨λh=>h.2,λh=>⟨?_,h⟩⟩;simp only [ib,cU,dep,bz];omega
end KR
namespace K55
open PySem L2 L2.L3
section
variable {a b:List Nat} (t:Bc a b)
include t
end
end K55
namespace KR
open PySem L2 L2.L3 K55
section
variable {α β:Type} [DecidableEq α] [DecidableEq β] {φ:α->β}
end
def y9 (x:D) (Q:D->Prop):Prop:=x=.obj f6/\∀a b:List Nat,o9 a b->a.length<=500->Q (cU a b)
theorem Fd {S:wu} {x:D}:S.push 0 x=(S.1 ++ [x],S.2):=rfl
theorem Ez {S:wu} {x:D}:S.push 1 x=(S.1,S.2 ++ [x]):=rfl
end KR
namespace L2.L3
open PySem
def G1 (P:D->(D->Prop)->(Str->Prop)->Prop):xu:=λds Q R=>∃x,ds=[x]/\P x Q R
theorem Ef {P}:∀ds (Q:D->Prop) (R:Str->Prop),G1 P ds Q R->ds.length=1:=by rintro ds Q R ⟨x,rfl,_⟩;rfl
theorem Fh {P} {x:D} {Q R}:G1 P [x] Q R=P x Q R:=by
 unfold G1;apply propext;constructor
 ·rintro⟨x',e,h⟩;cases e;exact h
 ·intro h;exact⟨_,rfl,h⟩
end L2.L3
namespace KR
open PySem L2 L2.L3 K55
section
variable {β:Type} [DecidableEq β] {ha th:β->β} {f:β} {P:β->Prop}
def a7 (ha th:β->β) (f:β):Nat->List β
 | 0=>[f]
 | n + 1=>match (a7 ha th f n)[n]? with
  | some p=>aU (aU (a7 ha th f n) (ha p)) (th p)
  | none=>a7 ha th f n
theorem lB {n:Nat} {p:β} (h:(a7 ha th f n)[n]?=some p):a7 ha th f (n + 1)=aU (aU (a7 ha th f n) (ha p)) (th p):=by
 rw [a7,h]
structure Done (ha th:β->β) (f:β) (n:Nat):Prop where
 le:∀i,i<=n->(a7 ha th f i).length<=60
 lt:∀i,i < n->i < (a7 ha th f i).length
 fin:(a7 ha th f n).length<=n
structure Over (ha th:β->β) (f:β) (n:Nat):Prop where
 le:∀i,i<=n->(a7 ha th f i).length<=60
 lt:∀i,i<=n->i < (a7 ha th f i).length
 gt:60 < (a7 ha th f (n + 1)).length
theorem Done.uniq {n m:Nat} (a:Done ha th f n) (b:Done ha th f m):n=m:=by
 rcases Nat.lt_trichotomy n m with h|h|h
 ·have:=b.lt n h;have:=a.fin;omega
 ·exact h
 ·have:=a.lt m h;have:=b.fin;omega
theorem Done.over {n m:Nat} (a:Done ha th f n) (b:Over ha th f m):False:=by
 rcases Ih m n with h|h
 ·have:=a.le (m + 1) (by omega);have:=b.gt;omega
 ·have:=b.lt n h;have:=a.fin;omega
theorem Part.step {met:List β} {at_:Nat} (m:Part ha th f P met at_) {p:β} (hp:met[at_]?=some p) (c:P (ha p)/\P (th p)):Part ha th f P (aU (aU met (ha p)) (th p)) (at_ + 1):=by
 have m1:=m.add hp c.1 (.inl rfl);have hp1:=ba (q:=ha p) hp;have m2:=m1.add hp1 c.2 (.inr rfl);have hp2:=ba (q:=th p) hp1;refine⟨m2.me,?_,λi x hi hx=>?_,m2.head,λj q hj hq=>?_⟩
 ·have:=(G7.mp hp2).1;omega
 ·by_cases e:i=at_
  ·subst e;rw [hp2] at hx;cases hx;exact⟨cG c4,c4⟩
  ·exact m2.cl i x (by omega) hx
 ·obtain⟨i,y,h1,h2,h3,h4⟩:=m2.num j q hj hq;exact⟨i,y,h1,by omega,h3,h4⟩
theorem kQ (hf:P f) (cl:∀p,P p->P (ha p)/\P (th p)):∀n,(∀i,i < n->i < (a7 ha th f i).length)->Part ha th f P (a7 ha th f n) n
 | 0,_=>⟨⟨by simp [a7],λq hq=>by simp [a7] at hq;rw [hq];exact hf⟩,by simp [a7],λi q hi=>absurd hi (Ia _),rfl,λj q hj hq=>by
  have:=(G7.mp hq).1;simp [a7] at this
  omega⟩
 | n + 1,h=>by
  have m:=kQ hf cl n λi hi=>h i (by omega);have hl:=h n (by omega);have hp:(a7 ha th f n)[n]?=some ((a7 ha th f n)[n]):=Hb hl;rw [lB hp];exact m.step hp (cl _ (m.me.inn _ (Hm hp)))
def ez (met:List β) (g:β->β) (n:Nat):List Nat:=(met.take n).map λp=>met.idxOf (g p)
theorem sO {met:List β} {p q:β} (h:p∈met):(aU met q).idxOf p=met.idxOf p:=by
 unfold aU
 by_cases c:q∈met
 ·rw [if_pos c]
 ·rw [if_neg c,List.idxOf_append,if_pos h]
theorem rW {met:List β} {q:β} {g:β->β} {n:Nat} (hn:n<=met.length) (h:∀i p,i < n->met[i]?=some p->g p∈met):ez (aU met q) g n=ez met g n:=by
 unfold ez
 have e:(aU met q).take n=met.take n:=by
  unfold aU
  split
  ·rfl
  ·rw [List.take_append_of_le_length hn]
 rw [e];refine List.map_congr_left λp hp=>?_;obtain⟨i,hi⟩:=HM hp;have hin:i < n:=by have:=(G7.mp hi).1;simp at this;omega
 rw [List.getElem?_take_of_lt hin] at hi;exact sO (h i p hin hi)
theorem wY {met:List β} {g:β->β} {n:Nat} {p:β} (h:met[n]?=some p):ez met g (n + 1)=ez met g n ++ [met.idxOf (g p)]:=by
 unfold ez;rw [Iw,h];simp
theorem lC {met:List β} {at_:Nat} (m:Part ha th f P met at_) {p:β} (hp:met[at_]?=some p):∀g:β->β,(g=ha\/g=th)->ez (aU (aU met (ha p)) (th p)) g (at_ + 1)=ez met g at_ ++ [(aU (aU met (ha p)) (th p)).idxOf (g p)]:=λg hg=>by
 have hp1:=ba (q:=ha p) hp;have hp2:=ba (q:=th p) hp1
 have hm:∀i q,i < at_->met[i]?=some q->g q∈met:=λi q hi hq=>by
  obtain⟨a,b⟩:=m.cl i q hi hq;rcases hg with rfl|rfl
  ·exact a
  ·exact b
 have le:=(G7.mp hp).1;rw [wY hp2,rW (by have:=(G7.mp hp1).1;omega) (λi x hi hx=>?_),rW (by omega) hm];have o:met[i]?=some (met[i]'(by omega)):=Hb _;rw [ba o] at hx;cases hx;exact cG (hm i _ hi o)
structure zI (cd:β->D) (kvs:List (D×D)) (l:List β):Prop where
 ok:cg kvs
 le:kvs.length<=l.length
 get:∀q:β,gn kvs (cd q)=if q∈l then some (cN (l.idxOf q)) else none
theorem zI.one {cd:β->D} (code:Code cd) (key:∀p,aO (cd p)=true) (f:β):zI cd [(cd f,.int 0)] [f]:=by
 have e:[(cd f,D.int 0)]=putN [] (cd f) (.int 0):=by simp [putN]
 refine⟨?_,by simp,λq=>?_⟩
 ·rw [e];exact cg.nil.put (key f) (code.dp f)
 ·rw [e,nr cg.nil (key f) (key q),code.eq]
  by_cases c:f=q
  ·subst c;simp [cN]
  ·rw [decide_eq_false c,if_neg (by simp),if_neg (by simp;exact λz=>c z.symm)];simp [gn]
theorem zI.put {cd:β->D} {kvs:List (D×D)} {l:List β} (code:Code cd) (key:∀p,aO (cd p)=true) (n:zI cd kvs l) {q:β} (h:q∉l):zI cd (putN kvs (cd q) (cN l.length)) (l ++ [q]):=by
 refine⟨n.ok.put (key q) (code.dp q),?_,λr=>?_⟩
 ·have:(putN kvs (cd q) (cN l.length)).length<=kvs.length + 1:=by
   unfold putN
   split <;> simp
  have:=n.le;simp;omega
 ·rw [nr n.ok (key q) (key r),n.get,code.eq]
  by_cases c:q=r
  ·subst c;rw [decide_eq_true rfl,if_pos rfl,if_pos (by simp),List.idxOf_append,if_neg h];simp
  ·rw [decide_eq_false c,if_neg (by simp)]
   by_cases m:r∈l
   ·rw [if_pos m,if_pos (by simp [m]),List.idxOf_append,if_pos m]
   ·rw [if_neg m,if_neg (by simp [m];exact λe=>c e.symm)]
theorem zI.any {cd:β->D} {kvs:List (D×D)} {l:List β} (n:zI cd kvs l) (q:β):(kvs.any λkv=>aT kv.1 (cd q))=decide (q∈l):=by
 rw [sD,n.get]
 by_cases c:q∈l
 ·rw [if_pos c,decide_eq_true c];rfl
 ·rw [if_neg c,decide_eq_false c];rfl
end
def dM (φ:Fw) (Pf:Ha->Hp->Addr->Prop):xu:=λds Q R=>∃(β:Type) (_:DecidableEq β) (cd:β->D) (ha th:β->β) (f:β) (P:β->Prop),ds=[cd f,.obj Pf]/\Code cd/\(∀p,aO (cd p)=true)/\P f/\(∀p,P p->P (ha p)/\P (th p)) /\
 (∀p,P p->∀Q':D->Prop,Q' (.tup [cd (ha p),cd (th p)])->φ [cd p] Q')/\(∀n,Over ha th f n->R "TooMany")/\∀n,Done ha th f n->Q (cU (bq (a7 ha th f n) ha) (bq (a7 ha th f n) th))
theorem nV {φ:Fw} {Pf:Ha->Hp->Addr->Prop}:∀ds (Q:D->Prop) (R:Str->Prop),dM φ Pf ds Q R->ds.length=2:=by
 rintro ds Q R ⟨_,_,_,_,_,_,_,rfl,_⟩;rfl
def gr (φ:Fw) (Pf:Ha->Hp->Addr->Prop):sr:=(jz (tO (bJ 2 (kn (af (ag 0) av)))) (jz (tO (n9 3 (ag 0) (cC (.int 0)))) (jz (tO (bJ 4 (kn av))) (jz (tO (bJ 5 (kn av))) (jz (uc (aN (aL DI (bI 4) (bI 2))) (jz (tO (mf (tR 1 Pf φ (af (bW 2 (bI 4)) av)) (gT 2 (cy (aW 6) (cy (aW 7) ie))))) (jz (tO (lh (a6 (af (ag 6) (af (ag 7) av))) (aW 8) (gK (uE true 3 (ag 8)) (aK (aS 3 (ag 8) (bI 2)) (cE 2 (ag 8))) bC))) (jz (DK (aN (aL Eb (bI 2) (cC (.int 60)))) (jd "TooMany" (af (cC (.str "there are more than sixty places")) av)) (tO bC)) (jz (tO (cE 4 (fJ 3 (ag 6)))) (tO (cE 5 (fJ 3 (ag 7))))))))) (tO (cP 4 (cP 5 (b8 (a6 (af (aB cH (af (ag 4) av)) (af (aB cH (af (ag 5) av)) av))))))))))))
theorem oC {φ:Fw} {Pf:Ha->Hp->Addr->Prop}:∀ds (Q:D->Prop) (R:Str->Prop),dM φ Pf ds Q R->gr φ Pf { nx:=λ_=>Q .non,rt:=Q,xc:=R } (aE ["first","behind","met","numbers","halves","thirds","half","third","thing"] ds):=by
 rintro ds Q R ⟨β,dec,cd,ha,th,f,P,rfl,code,key,pf,cl,run,hov,hdn⟩;have sz:=Ht
 simp_arith! only [gr,uc,n9]
 have pl:∀n,(∀i,i < n->i < (a7 ha th f i).length)->Part ha th f P (a7 ha th f n) n:=kQ pf cl
 have rl:∀n g,(∀i,i < n->i < (a7 ha th f i).length)->(az (ez (a7 ha th f n) g n)).length=n:=λn g h=>by
  have:=(pl n h).le;unfold az ez;simp;omega
 refine⟨key f,code.dp f,λe=>∃n kvs k6 k7 k8,(∀i,i<=n->(a7 ha th f i).length<=60)/\(∀i,i < n->i < (a7 ha th f i).length)/\zI cd kvs (a7 ha th f n)/\e=[some (.d (cd f)),some (.d (.obj Pf)),some (.own ((a7 ha th f n).map cd)),some (.dic kvs),some (.own (az (ez (a7 ha th f n) ha n))),some (.own (az (ez (a7 ha th f n) th n))),k6,k7,k8],
  λe=>61 - yj 4 e,⟨0,_,none,none,none,λi hi=>by rw [Nat.le_zero.mp hi];simp [a7],λi hi=>absurd hi (Ia _),zI.one code key f,rfl⟩,?_⟩
 rintro env ⟨n,kvs,k6,k7,k8,hle,hlt,nm,rfl⟩;have m:=pl n hlt;have ln:=hle n (Hl _);refine⟨_,rfl,_,rfl,?_⟩;simp only [rl n _ hlt,Hh]
 by_cases cc:n < (a7 ha th f n).length
 ·rw [if_pos (by omega)];obtain⟨p,hp⟩:∃p,(a7 ha th f n)[n]?=some p:=⟨_,Hb cc⟩;have ip:=m.me.inn p (Hm hp);have c:=cl p ip;have ai:ja ((a7 ha th f n).map cd) (n:Int)=some (cd p):=eu _ _ _ _ hp;have ms:=lB hp;have m2:=m.step hp c
  simp_arith! only [tR,rl n _ hlt]
  refine⟨_,_,rfl,ai,run p ip _ ⟨_,rfl,rfl,?_⟩⟩
  simp_arith! only [vJ]
  refine cp (λi e=>i<=2/\∃kvs k8,e=[some (.d (cd f)),some (.d (.obj Pf)),some (.own ((zH (a7 ha th f n) [ha p,th p] i).map cd)),some (.dic kvs),some (.own (az (ez (a7 ha th f n) ha n))),some (.own (az (ez (a7 ha th f n) th n))),some (.d (cd (ha p))),some (.d (cd (th p))),k8]/\zI cd kvs (zH (a7 ha th f n) [ha p,th p] i)/\(zH (a7 ha th f n) [ha p,th p] i).length<=60 + i) ?_ ?_ ⟨by omega,kvs,k8,rfl,nm,ln⟩
  ·rintro i x' env N hx ⟨hi2,kvs,k8,rfl,nm,ml⟩ hN;obtain⟨q,hq,rfl⟩:∃q,[ha p,th p][i]?=some q/\cd q=x':=HV.mp ((Hi (f:=cd) (l:=[ha p,th p]) (i:=i)).symm.trans hx);have eq:zH (a7 ha th f n) [ha p,th p] (i + 1)=aU (zH (a7 ha th f n) [ha p,th p] i) q:=xh hq;have hi:i < 2:=by have:=(G7.mp hx).1;simpa using this
   have kl:=nm.le
   simp_arith! only [uE,aS,Lo.dic.injEq]
   refine⟨key q,code.dp q,nm.ok,?_⟩;rw [nm.any];unfold aU at eq
   by_cases c2:q∈zH (a7 ha th f n) [ha p,th p] i
   ·rw [if_pos c2] at eq;rw [decide_eq_true c2];refine hN _ ⟨by omega,kvs,some (.d (cd q)),?_,by rw [eq];exact nm,by rw [eq];omega⟩;rw [eq]
   ·rw [if_neg c2] at eq;rw [decide_eq_false c2];refine⟨key q,code.dp q,nm.ok,by omega,?_⟩;refine⟨by simp;omega,hN _ ⟨by omega,_,some (.d (cd q)),?_,by rw [eq];exact nm.put code key c2,by rw [eq];simp;omega⟩⟩;rw [eq,List.map_append];simp only [Hh];rfl
  ·rintro env ⟨_,kvs,k8,rfl,nm,_⟩;have e2:zH (a7 ha th f n) [ha p,th p] [cd (ha p),cd (th p)].length=a7 ha th f (n + 1):=by rw [ms];rfl
   rw [e2] at nm ⊢;have hp2:=ba (q:=th p) (ba (q:=ha p) hp);rw [<- ms] at hp2;have lt2:=(G7.mp hp2).1
   simp_arith! only [Hh,fJ,Lo.dic.injEq]
   by_cases c6:(a7 ha th f (n + 1)).length<=60
   ·rw [if_neg (by omega)];have ih:ha p∈a7 ha th f (n + 1):=by rw [ms];exact cG c4
    have it:th p∈a7 ha th f (n + 1):=by rw [ms];exact c4
    refine⟨by rw [rl n _ hlt];omega,_,key _,code.dp _,nm.ok,by rw [nm.get,if_pos ih],by rw [rl n _ hlt];omega,_,key _,code.dp _,nm.ok,by rw [nm.get,if_pos it],?_⟩
    have lt':∀i,i < n + 1->i < (a7 ha th f i).length:=λi hi=>by
     rcases HF.mp hi with z|z
     ·exact hlt i z
     ·rw [z];exact cc
    have er:∀g,(g=ha\/g=th)->az (ez (a7 ha th f n) g n) ++ [cN (List.idxOf (g p) (a7 ha th f (n + 1)))]=az (ez (a7 ha th f (n + 1)) g (n + 1)):=λg hg=>by
     rw [ms,lC m hp g hg];unfold az;rw [List.map_append];rfl
    refine⟨⟨n + 1,kvs,_,_,_,λi hi=>?_,lt',nm,rfl,rfl,er ha (.inl rfl),er th (.inr rfl),rfl,rfl,rfl⟩,?_⟩
    ·rcases Ih i (n + 1) with z|z
     ·exact hle i (by omega)
     ·rw [show i=n + 1 by omega];exact c6
    ·simp only [yj,HD,HB,HH,List.length_singleton,rl n _ hlt];omega
   ·rw [if_pos (by omega)]
    exact hov n ⟨hle,λi hi=>by
     rcases Ih i n with z|z
     ·exact hlt i z
     ·rw [show i=n by omega];exact cc,by omega⟩
 ·rw [if_neg (by omega)];have ea:n=(a7 ha th f n).length:=by have:=m.le;omega
  have rn:∀g,ez (a7 ha th f n) g n=bq (a7 ha th f n) g:=λg=>by
   unfold ez bq;rw [Io (by omega)]
  simp_arith! only [rn,cJ]
  exact hdn n ⟨hle,hlt,by omega⟩
def FU (x y:D) (Q:D->Prop):Prop:=∃a b c d:List Nat,x=cU a b/\y=cU c d/\a.length<=500/\b.length<=500/\Q (.bl (decide (a=c/\b=d)))
def bD:Fw:=F2 FU
def dS:bG:=(aK (gK (zJ (mx (aN (kX "tuple" (ag 0)))) (aN (aL rJ (aB gF (af (ag 0) av)) (cC (.int 2))))) (b8 (cC (.bl false))) bC) (aK (lh (ag 0) (aW 2) (gK (zJ (mx (aN (kX "tuple" (ag 2)))) (mx (aN (aB Az (af (de (fM [] (ag 2) cD (aB df (af (ag 0) av)))) av))))) (b8 (cC (.bl false))) bC)) (b8 (aL kb (ag 0) (ag 1)))))
theorem jn:∀ds Q,bD ds Q->ds.length=2:=m5
theorem jJ:∀ds (Q:D->Prop),bD ds Q->dS { nx:=λ_=>Q .non,rt:=Q } (aE ["_law_found","_law_due","_law_row"] ds):=by
 rintro ds Q ⟨x,y,rfl,a,b,c,d,rfl,rfl,la,lb,h⟩;have sz:=Ht
 simp_arith only [dS]
 refine v8 (by simp [Pl,cU,DP]) ⟨_,rfl,?_⟩;rw [if_neg (by simp [isTup,cU])]
 simp_arith only [cU]
 refine cp (λi e=>∃k,e=[some (.d (cU a b)),some (.d (cU c d)),k]) ?_ ?_ ⟨_,rfl⟩
 ·rintro i x env N hx ⟨k,rfl⟩ hN
  have hx':∃l:List Nat,l.length<=500/\x=.tup (az l):=by
   match i,hx with
   | 0,hx=>cases hx;exact⟨a,la,rfl⟩
   | 1,hx=>cases hx;exact⟨b,lb,rfl⟩
   | _ + 2,hx=>simp at hx
  obtain⟨l,ll,rfl⟩:=hx'
  simp_arith only [and_true]
  refine v8 (by simp [Pl,DP]) ⟨_,rfl,?_⟩;rw [if_neg (by simp [isTup])];refine iD (λ_=>.bl true) _ _ (λx hx N2 hN2=>?_) (by simp [az];omega) ?_
  ·obtain⟨j,_,rfl⟩:=HG.mp hx
   simp_arith only [dR,df,jX,tU]
   exact⟨by simp [Pl,DP],hN2⟩
  ·have e:([] ++ List.map (λx=>D.bl true) (az l))=((az l).map λ_=>true).map D.bl:=by simp
   rw [e];refine⟨_,wF _,_,rfl,?_⟩;rw [if_neg (by simp)];exact hN _ ⟨_,rfl⟩
 ·rintro env ⟨k,rfl⟩
  simp_arith only [and_true]
  rw [AY];exact h
structure SP where
 l:List Nat
 deriving DecidableEq
def cS (p:SP):D:=.tup (az p.l)
theorem Ed:∀a:List Nat,bz (az a)=0
 | []=>by simp [az,bz]
 | x :: a=>by
  have:=Ed a;simp only [az,HL,bz,dep] at this ⊢;omega
theorem kT:Code cS:=⟨λp q=>by
 obtain⟨p⟩:=p;obtain⟨q⟩:=q;show aT (.tup (az p)) (.tup (az q))=_
 rw [aT,kC,Bool.eq_iff_iff,decide_eq_true_eq,decide_eq_true_eq]
 exact⟨λh=>by rw [h],λh=>SP.mk.inj h⟩,λp=>by
 have:=Ed p.l;simp only [cS,dep]
 omega⟩
theorem Fe (p:SP):aO (cS p)=true:=by
 obtain⟨l⟩:=p;show fy (az l)=true
 induction l with
 | nil=>rfl
 | cons x l ih=>show (true && fy (az l))=true;rw [ih];rfl
theorem gA {te:TD} {eU:En} {Q:List D->Prop} (g:Nat->Nat):∀(l:List Nat) (acc:List D),(∀i∈l,∀N:D->Prop,N (.int ((g i:Nat):Int))->te (eU.set 0 (some (.d (.int (i:Int))))) N)->acc.length + l.length<=sizeLine->Q (acc ++ az (l.map g))->comps cD te eU Q (az l) acc
 | [],acc,_,_,q=>by simpa [comps,az] using q
 | x :: l,acc,h,hl,q=>by
  show comps cD te eU Q (.int (x:Int) :: az l) acc
  simp only [comps,cD,if_true];refine h x Hy _ ⟨by simp at hl;omega,gA g l _ (λy hy=>h y (Hq _ hy)) (by simp at hl ⊢;omega) ?_⟩;rw [List.append_assoc];exact q
def fP (a:List Nat) (p:SP):SP:=⟨p.l.map (eF a)⟩
def CF (a:List Nat) (p:SP):Prop:=(∀x∈p.l,x < a.length)/\p.l.length=a.length
theorem tX {a b:List Nat} (t:o9 a b):∀l,CF a l->CF a (fP a l)/\CF a (fP b l):=λl h=>by
 have lb:=t.ok.len;refine⟨⟨λx hx=>?_,by simp only [fP,Hh];exact h.2⟩,⟨λx hx=>?_,by simp only [fP,Hh];exact h.2⟩⟩
 ·obtain⟨y,hy,rfl⟩:=HG.mp hx;exact t.ok.al _ _ (dI (h.1 y hy))
 ·obtain⟨y,hy,rfl⟩:=HG.mp hx;exact t.ok.bl _ _ (dI (by have:=h.1 y hy;omega))
theorem BJ (a:List Nat):CF a ⟨List.range a.length⟩:=⟨λx hx=>Ig.mp hx,List.length_range⟩
theorem mX (n:Nat):aM 0 n=az (List.range n):=by
 unfold aM az
 congr 1
 funext i;simp
def Av (x y:D) (Q:D->Prop):Prop:=∃(a b:List Nat) (l:SP),x=cU a b/\y=cS l/\CF a l/\a.length=b.length/\a.length<=500/\Q (.tup [cS (fP a l),cS (fP b l)])
def bO:Fw:=F2 Av
def eO:bG:=(aK (mf (ag 0) (gT 2 (cy (aW 2) (cy (aW 3) ie)))) (b8 (a6 (af (aB cH (af (de (fM [2] (ag 1) cD (aL cK (ag 1) (ag 0)))) av)) (af (aB cH (af (de (fM [3] (ag 1) cD (aL cK (ag 1) (ag 0)))) av)) av)))))
theorem j6:∀ds Q,bO ds Q->ds.length=2:=m5
theorem lz:∀ds (Q:D->Prop),bO ds Q->eO { nx:=λ_=>Q .non,rt:=Q } (aE ["table","spread","halves","thirds"] ds):=by
 rintro ds Q ⟨x,y,rfl,a,b,l,rfl,rfl,h0,lb,la,h⟩;have sz:=Ht;have ll:=h0.2
 simp_arith only [eO,cU,cS]
 refine gA (eF a) _ _ (λi hi N hN=>?_) (by simp;omega) ?_
 ·simp_arith only [dR]
  rw [Ft (dI (h0.1 i hi))];exact hN
 simp only [List.nil_append,cJ];refine gA (eF b) _ _ (λi hi N hN=>?_) (by simp;omega) ?_
 ·simp_arith only [dR]
  rw [Ft (dI (by have:=h0.1 i hi;omega))];exact hN
 simp only [List.nil_append,cJ];exact h
abbrev FG (a b:List Nat) (n:Nat):Prop:=Over (fP a) (fP b) ⟨List.range a.length⟩ n
abbrev FJ (a b:List Nat) (n:Nat):Prop:=Done (fP a) (fP b) ⟨List.range a.length⟩ n
abbrev kB (a b:List Nat) (n:Nat):List SP:=a7 (fP a) (fP b) ⟨List.range a.length⟩ n
def Ci (x:D) (Q:D->Prop) (R:Str->Prop):Prop:=∃a b:List Nat,x=cU a b/\o9 a b/\a.length<=500/\(∀n,FG a b n->R "TooMany")/\∀n,FJ a b n->Q (cU (bq (kB a b n) (fP a)) (bq (kB a b n) (fP b)))
def iE:xu:=G1 Ci
def rb:sr:=(xg (qy dM (tm (af (aB gF (af (aL cK (ag 0) (cC (.int 0))) av)) av)) [0] 1 ["spread","table"] (aB bO (af (ag 1) (af (ag 0) av)))))
theorem wZ:∀ds (Q:D->Prop) (R:Str->Prop),iE ds Q R->ds.length=1:=Ef
theorem yt:∀ds (Q:D->Prop) (R:Str->Prop),iE ds Q R->rb { nx:=λ_=>Q .non,rt:=Q,xc:=R } (aE ["table"] ds):=by
 rintro ds Q R ⟨x,rfl,a,b,rfl,ta,la,ho,hd⟩;have sz:=Ht;have na:(az a).length=a.length:=by simp [az]
 simp_arith! only [rb,qy,tm,cU,ua,fU,na]
 refine⟨by omega,by omega,_,rfl,λPf=>⟨SP,inferInstance,cS,fP a,fP b,⟨List.range a.length⟩,CF a,?_,kT,Fe,BJ a,tX ta,λp ip Q' hq=>⟨rfl,?_⟩,ho,hd⟩⟩
 ·simp only [Int.toNat_natCast,mX,cS]
 simp_arith! only [bO,gL]
 exact⟨a,b,p,rfl,rfl,ip,ta.ok.len.symm,la,hq⟩
def zl (z:Addr):uP wu:=(qM (xK (bT 5 (aB cH (af (de (fM [0,4] (bW 1 (ag 3)) cD (aL cK (aL cK (ag 1) (ag 2)) (ag 0)))) av)))) (qM (xK (gK (lK true 1 (ag 5)) (cE 1 (ag 5)) bC)) (vZ 2 z (ag 4) (f7 1 (ag 5)))))
theorem pK {x:D} {l:List Nat} {k:Int} {met:List SP} {at_:Nat} {pr:SP} {S:wu} {z:Addr} {W:gH wu} {k5:Option Lo}
  (hk:k=0\/k=1) (hx:∀Q,cK x (.int k) Q=Q (.tup (az l))) (hp:met[at_]?=some pr) (nd:(aU met (fP l pr)).Nodup) (h1:∀i∈pr.l,i < l.length) (hpl:pr.l.length<=500) (hl:met.length<=100) (s1:S.1.length<=100) (s2:S.2.length<=100)
  (nx:W.nx (S.push k (.int ((aU met (fP l pr)).idxOf (fP l pr):Nat))) [some (.d x),some (.own ((aU met (fP l pr)).map cS)),some (.d (.obj (tP z))),some (.d (.int (at_:Int))),some (.d (.int k)),some (.d (cS (fP l pr)))]) :
  zl z W S [some (.d x),some (.own (met.map cS)),some (.d (.obj (tP z))),some (.d (.int (at_:Int))),some (.d (.int k)),k5]:=by
 have sz:=Ht;have ai:ja (met.map cS) (at_:Int)=some (cS pr):=eu _ _ _ _ hp
 simp_arith only [zl,qM,xK,gH.at]
 refine⟨_,_,rfl,ai,?_⟩
 simp_arith only [cS]
 refine gA (eF l) _ _ (λi hi N hN=>?_) (by simp;omega) ?_
 ·simp_arith only [dR,hx]
  rw [Ft (dI (h1 i hi))];exact hN
 simp only [List.nil_append,cJ];have eq:D.tup (az (pr.l.map (eF l)))=cS (fP l pr):=rfl;have em:met.map (λp:SP=>D.tup (az p.l))=met.map cS:=rfl;simp only [em,eq];generalize hq:fP l pr=q at *;have kq:=kT.dp q;have dl:=nh kT met
 have push:∀e:En,e=[some (.d x),some (.own ((aU met q).map cS)),some (.d (.obj (tP z))),some (.d (.int (at_:Int))),some (.d (.int k)),some (.d (cS q))]->vZ 2 z (ag 4) (f7 1 (ag 5)) W S e:=λe he=>by
  subst he;have dl2:=nh kT (aU met q);have mq:q∈aU met q:=c4
  have at2:∀j,((((aU met q).map cS)[j]?).map λd=>aT d (cS q))=((aU met q)[j]?).map λz=>decide (z=q):=λj=>by
   rw [Hi,Option.map_map]
   congr 1
   funext z;exact kT.eq z q
  refine⟨rfl,?_⟩
  simp_arith only [f7]
  refine⟨hk,by omega,by omega,(aU met q).idxOf q,?_,λj hj=>?_,by omega,by omega,nx⟩
  ·rw [at2,dG mq];simp
  ·have hkl:j < (aU met q).length:=Nat.lt_trans hj (List.idxOf_lt_length_iff.mpr mq);rw [at2,Hb hkl];simp only [Option.map_some,Option.some.injEq,decide_eq_false_iff_not];intro z;have:=(List.getElem?_inj hkl nd).mp (show (aU met q)[j]?=(aU met q)[(aU met q).idxOf q]? by rw [dG mq,Hb hkl,z]);omega
 simp_arith only [lK,Hh]
 refine⟨by omega,by omega,?_⟩;rw [Bj kT]
 by_cases c2:q∈met
 ·rw [decide_eq_true c2];have e2:aU met q=met:=by unfold aU;rw [if_pos c2]
  simp_arith only [Bool.not_true,if_true,He,if_false]
  exact push _ (by rw [e2])
 ·rw [decide_eq_false c2];have e2:aU met q=met ++ [q]:=by unfold aU;rw [if_neg c2]
  simp_arith only [Bool.not_false,if_true,Hh]
  exact⟨by omega,push _ (by rw [e2,List.map_append];rfl)⟩
def Dg (x:D) (Q:D->Prop):Prop:=∃a b:List Nat,x=cU a b/\o9 a b/\a.length<=500/\(∀n,FG a b n->Q .non)/\∀n,FJ a b n->Q (cU (bq (kB a b n) (fP a)) (bq (kB a b n) (fP b)))
def dZ:Fw:=F1 Dg
def jv:bG:=(aK (bJ 1 (kn (af (tm (af (aB gF (af (aL cK (ag 0) (cC (.int 0))) av)) av)) av))) (u3 2 λp=>(qQ (xK (bT 3 (cC (.int 0)))) (qQ (uG (aN (aL DI (ag 3) (bI 1))) (qM (xU iV (af (cC (.int 2)) av) (aW 4) (qM (xK (bT 5 (aB cH (af (de (fM [0,4] (bW 1 (ag 3)) cD (aL cK (aL cK (ag 1) (ag 2)) (ag 0)))) av)))) (qM (xK (gK (lK true 1 (ag 5)) (cE 1 (ag 5)) bC)) (vZ 2 p.z (ag 4) (f7 1 (ag 5)))))) (qM (xK (gK (aN (aL Eb (bI 1) (cC (.int 60)))) (b8 (cC .non)) bC)) (xK (bT 3 (aL eT (ag 3) (cC (.int 1)))))))) (ur (m2 2 p.z) (b8 (a6 (af (aB cH (af (aL cK (ag 2) (cC (.int 0))) av)) (af (aB cH (af (aL cK (ag 2) (cC (.int 1))) av)) av)))))))))
theorem p5:∀ds Q,dZ ds Q->ds.length=1:=iY
theorem tE:∀ds (Q:D->Prop),dZ ds Q->jv { nx:=λ_=>Q .non,rt:=Q } (aE ["_law_table_here","_law_met","_law_rows","_law_at","_law_k","_law_there"] ds):=by
 rintro ds Q ⟨x,rfl,a,b,rfl,ta,la,h0,h⟩;have sz:=Ht;have lb:=ta.ok.len;have na:(az a).length=a.length:=by simp [az]
 have pl:∀n,(∀i,i < n->i < (kB a b i).length)->Part (fP a) (fP b) ⟨List.range a.length⟩ (CF a) (kB a b n) n:=kQ (BJ a) (tX ta)
 simp_arith only [jv,u3,tm,cU,ua,fU,na]
 refine⟨by omega,by omega,?_⟩;intro p
 simp_arith only [qQ,xK,gH.at,uG]
 refine⟨λS env=>∃n k5 k6,(∀i,i<=n->(kB a b i).length<=60)/\(∀i,i < n->i < (kB a b i).length)/\S=(az (ez (kB a b n) (fP a) n),az (ez (kB a b n) (fP b) n))/\env=[some (.d (cU a b)),some (.own ((kB a b n).map cS)),some (.d (.obj (tP p.z))),some (.d (.int (n:Nat))),k5,k6],
  λS env=>61 - zW 3 env,⟨0,none,none,λi hi=>by rw [Nat.le_zero.mp hi];simp [a7],λi hi=>absurd hi (Ia _),rfl,by simp only [Int.toNat_natCast,mX];rfl⟩,?_⟩
 rintro S env ⟨n,k5,k6,hle,hlt,rfl,rfl⟩;have m:=pl n hlt;have ml:=hle n (Hl _)
 simp_arith only [Hh]
 by_cases cc:n < (kB a b n).length
 ·rw [if_pos (by omega)];obtain⟨pr,hp⟩:∃p,(kB a b n)[n]?=some p:=⟨_,Hb cc⟩;have ip:=m.me.inn pr (Hm hp);obtain⟨i1,i2⟩:=tX ta pr ip;have ll:∀g,(az (ez (kB a b n) g n)).length=n:=λg=>by unfold az ez;simp;omega
  have al:∀(l:List SP) (q:SP),(aU l q).length<=l.length + 1:=λl q=>by unfold aU;split <;> simp
  have hp1:=ba (q:=fP a pr) hp;have m1:=m.add hp i1 (.inl rfl);have m2:=m1.add hp1 i2 (.inr rfl);have l1:=al (kB a b n) (fP a pr);have ms:kB a b (n + 1)=aU (aU (kB a b n) (fP a pr)) (fP b pr):=lB hp
  simp_arith only [qM,xU]
  show fR (aW 4) (zl p.z) _ [.int 0,.int 1] _ _
  simp_arith only [fR]
  refine pK (l:=a) (.inl rfl) (λQ=>ua) hp m1.me.nd ip.1 (by rw [ip.2];exact la) (by omega) (by rw [ll];omega) (by rw [ll];omega) ?_
  simp_arith only [and_true]
  refine pK (l:=b) (.inr rfl) (λQ=>yf) hp1 m2.me.nd (λi hi=>by have:=ip.1 i hi;omega) (by rw [ip.2];exact la) (by show (aU (kB a b n) (fP a pr)).length<=100;omega) (by show (az (ez (kB a b n) (fP a) n) ++ [_]).length<=100;rw [HH,ll];simp;omega) (by show (az (ez (kB a b n) (fP b) n)).length<=100;rw [ll];omega) ?_;rw [Fd,Ez]
  simp_arith only [xK,gH.at,Hh]
  rw [<- ms]
  by_cases c6:(kB a b (n + 1)).length<=60
  ·rw [if_neg (by omega)];refine⟨⟨n + 1,_,_,λi hi=>?_,λi hi=>?_,?_,rfl,by omega,rfl,rfl⟩,by simp only [zW,HD,HB];omega⟩
   ·rcases Ih i (n + 1) with z|z
    ·exact hle i (by omega)
    ·rw [show i=n + 1 by omega];exact c6
   ·rcases HF.mp hi with z|z
    ·exact hlt i z
    ·rw [z];exact cc
   ·rw [ms,lC m hp (fP a) (.inl rfl),lC m hp (fP b) (.inr rfl),sO (p:=fP a pr) c4];unfold az;rw [List.map_append,List.map_append];rfl
  ·rw [if_pos (by omega)]
   exact h0 n ⟨hle,λi hi=>by
    rcases Ih i n with z|z
    ·exact hlt i z
    ·rw [show i=n by omega];exact cc,Nat.lt_of_not_le c6⟩
 ·rw [if_neg (by omega)]
  have rn:∀g,ez (kB a b n) g n=bq (kB a b n) g:=λg=>by
   unfold ez bq;rw [Io (by omega)]
  simp_arith only [ur,m2,Af,A7,cJ,rn]
  exact h n ⟨hle,hlt,Nat.le_of_not_lt cc⟩
def dq:Fw:=F1 y9
def gO:bG:=(aK (bT 1 (aB dg (af (aB e8 (af (ag 0) (af (cC (.int 5)) (af (cC (.int 16)) av)))) av))) (b8 (aB bp (af (aL cK (ag 1) (cC (.int 0))) (af (aL cK (ag 1) (cC (.int 1))) (af (aB aC (af (ag 0) (af (aB gF (af (aL cK (ag 1) (cC (.int 0))) av)) av))) av))))))
theorem oA:∀ds Q,dq ds Q->ds.length=1:=iY
theorem pV:∀ds (Q:D->Prop),dq ds Q->gO { nx:=λ_=>Q .non,rt:=Q } (aE ["_law_rest","_law_table_here"] ds):=by
 rintro ds Q ⟨x,rfl,rfl,h⟩
 simp_arith only [gO,e8,dg,jX,vO,Br,BB]
 refine⟨5,16,rfl,rfl,by omega,by omega,by omega,by omega,λfs ms hf _=>⟨fs,ms,rfl,hf,λa b t sm la _=>?_⟩⟩;have na:(az a).length=a.length:=by simp [az]
 simp_arith only [ua,yf,fU,aC,bp,gL,vO,na]
 refine⟨_,rfl,rfl,by have:=t.pos;omega,by omega,λd d0 dm=>?_⟩;obtain⟨k,rfl⟩:∃k:Nat,d=(k:Int):=⟨d.toNat,by omega⟩;have hk:k < a.length:=by omega
 refine y1 t la hk ?_;exact h _ _ (t.anew la hk).1 (HX (t.anew la hk).2 la)
theorem yL {a b:List Nat} (n:Nat) (ea:a.length=n) (eb:b.length=n) (hn:n<=500) (c1:∀i,i < n->eF a i < n/\eF b i < n) (hh:∀i,i < n->eF a (eF a i)=i) (t3:∀i,i < n->eF b (eF b (eF b i))=i) {k:Nat} (hk:k < n) {Q:D->Prop} (h:∀e f,o9 e f->e.length<=500->Q (cU e f)) :
  yK (.tup (az a)) (.tup (az b)) (.int (k:Int)) Q:=by
 have sy:Sy (eF a) (eF b) k (λi=>i < n) (List.range n):=⟨hk,c1,λp hp=>Ig.mpr hp,by rw [List.length_range];exact hn⟩;refine⟨Nat,inferInstance,λi=>.int (i:Int),eF a,eF b,k,λi=>i < n,List.range n,m8,kh ea,kh eb,rfl,sy,?_⟩;have f:=g8 sy;refine h _ _ (f.pL hh t3) ?_;have:=f.me.len sy;unfold bq;rw [Hh];rw [List.length_range] at this ⊢;omega
structure G5 (a b:List Nat) (n:Nat):Prop where
 ea:a.length=n
 eb:b.length=n
 n0:0 < n
 n6:n<=6
 cl:∀i,i < n->eF a i < n/\eF b i < n
 hh:∀i,i < n->eF a (eF a i)=i
 t3:∀i,i < n->eF b (eF b (eF b i))=i
def di:Fw:=F1 y9
def ik:bG:=(aK (bT 1 (fX (af (a6 (af (a6 (af (cC (.int 0)) av)) (af (a6 (af (cC (.int 0)) av)) av))) (af (a6 (af (a6 (af (cC (.int 1)) (af (cC (.int 0)) av))) (af (a6 (af (cC (.int 0)) (af (cC (.int 1)) av))) av))) (af (a6 (af (a6 (af (cC (.int 0)) (af (cC (.int 1)) (af (cC (.int 2)) av)))) (af (a6 (af (cC (.int 1)) (af (cC (.int 2)) (af (cC (.int 0)) av)))) av))) (af (a6 (af (a6 (af (cC (.int 1)) (af (cC (.int 0)) (af (cC (.int 2)) av)))) (af (a6 (af (cC (.int 1)) (af (cC (.int 2)) (af (cC (.int 0)) av)))) av))) av)))))) (aK (bT 1 (aL eT (ag 1) (fX (af (a6 (af (a6 (af (cC (.int 1)) (af (cC (.int 0)) (af (cC (.int 3)) (af (cC (.int 2)) av))))) (af (a6 (af (cC (.int 0)) (af (cC (.int 2)) (af (cC (.int 3)) (af (cC (.int 1)) av))))) av))) (af (a6 (af (a6 (af (cC (.int 3)) (af (cC (.int 4)) (af (cC (.int 5)) (af (cC (.int 0)) (af (cC (.int 1)) (af (cC (.int 2)) av))))))) (af (a6 (af (cC (.int 2)) (af (cC (.int 3)) (af (cC (.int 4)) (af (cC (.int 5)) (af (cC (.int 0)) (af (cC (.int 1)) av))))))) av))) av))))) (aK (mf (aL cK (ag 1) (aB aC (af (ag 0) (af (cC (.int 6)) av)))) (gT 2 (cy (aW 2) (cy (aW 3) ie)))) (b8 (aB bp (af (ag 2) (af (ag 3) (af (aB aC (af (ag 0) (af (aB gF (af (ag 2) av)) av))) av))))))))
theorem oU:∀ds Q,di ds Q->ds.length=1:=iY
theorem qH:∀ds (Q:D->Prop),di ds Q->ik { nx:=λ_=>Q .non,rt:=Q } (aE ["_law_rest","_law_some","_law_halves","_law_thirds"] ds):=by
 rintro ds Q ⟨x,rfl,rfl,h⟩;have sz:=Ht
 simp_arith only [ik,aC,gL]
 refine⟨6,rfl,rfl,by decide,by decide,λd d0 dm=>?_⟩;refine CB d0 (by simpa using dm) λv hv=>?_
 have six:∃a b n,v=cU a b/\G5 a b n:=by
  simp only [List.cons_append,List.nil_append,Hx,HN,or_false] at hv;rcases hv with rfl|rfl|rfl|rfl|rfl|rfl
  ·exact⟨[0],[0],1,rfl,⟨rfl,rfl,by decide,by decide,by decide,by decide,by decide⟩⟩
  ·exact⟨[1,0],[0,1],2,rfl,⟨rfl,rfl,by decide,by decide,by decide,by decide,by decide⟩⟩
  ·exact⟨[0,1,2],[1,2,0],3,rfl,⟨rfl,rfl,by decide,by decide,by decide,by decide,by decide⟩⟩
  ·exact⟨[1,0,2],[1,2,0],3,rfl,⟨rfl,rfl,by decide,by decide,by decide,by decide,by decide⟩⟩
  ·exact⟨[1,0,3,2],[0,2,3,1],4,rfl,⟨rfl,rfl,by decide,by decide,by decide,by decide,by decide⟩⟩
  ·exact⟨[3,4,5,0,1,2],[2,3,4,5,0,1],6,rfl,⟨rfl,rfl,by decide,by decide,by decide,by decide,by decide⟩⟩
 obtain⟨a,b,n,rfl,s⟩:=six;have na:(az a).length=a.length:=by simp [az]
 simp_arith only [cU,fU,na,bp,vO,s.ea]
 have s0:=s.n0;have s6:=s.n6;refine⟨_,rfl,rfl,by omega,by omega,λe e0 em=>?_⟩;obtain⟨k,rfl⟩:∃k:Nat,e=(k:Int):=⟨e.toNat,by omega⟩;exact yL n s.ea s.eb (by omega) s.cl s.hh s.t3 (by omega) h
def DX (x:D) (Q:D->Prop):Prop:=x=.exc "TooMany"/\Q (.str "TooMany")
def dX:Fw:=F1 DX
def js:bG:=(aK (gK (zJ (mx (aN (aB (qf "TooMany" (.ty "ValueError") true) (af (ag 0) (af (cC (.ty "ValueError")) av))))) (aN (aB (qf "TooMany" (.tup [.cls "Full",.cls "NoFan",.cls "NoText",.cls "NotIn",.cls "NoTurning",.cls "Open"]) false) (af (ag 0) (af (a6 (af (cC (.cls "Full")) (af (cC (.cls "NoFan")) (af (cC (.cls "NoText")) (af (cC (.cls "NotIn")) (af (cC (.cls "NoTurning")) (af (cC (.cls "Open")) av))))))) av))))) (b8 (cC (.str "other"))) bC) (aK (bT 1 (fX (af (aB (qf "TooMany" (.cls "NoTable") false) (af (ag 0) (af (cC (.cls "NoTable")) av))) (af (aB (qf "TooMany" (.cls "TooLong") false) (af (ag 0) (af (cC (.cls "TooLong")) av))) (af (aB (qf "TooMany" (.cls "TooMany") true) (af (ag 0) (af (cC (.cls "TooMany")) av))) av))))) (aK (gK (aN (aL rJ (qa (ag 1) (cC (.bl true))) (cC (.int 1)))) (b8 (cC (.str "other"))) bC) (b8 (aL cK (fX (af (cC (.str "NoTable")) (af (cC (.str "TooLong")) (af (cC (.str "TooMany")) av)))) (jm (ag 1) (cC (.bl true))))))))
theorem qU:∀ds Q,dX ds Q->ds.length=1:=iY
theorem rX:∀ds (Q:D->Prop),dX ds Q->js { nx:=λ_=>Q .non,rt:=Q } (aE ["_law_e","_law_kinds"] ds):=by
 rintro ds Q ⟨x,rfl,rfl,h⟩
 simp_arith only [js,qa,jm]
 have d0:bz [D.bl false,D.bl false,D.bl true]<=60:=by simp [bz,dep]
 have d1:dep (D.bl true)<=60:=by simp [dep]
 refine⟨d0,d1,?_⟩;rw [if_neg (by simp [List.countP_cons,aT])];refine⟨d0,d1,2,by simp [aT],λm hm=>?_,_,rfl,h⟩;rcases (show m=0\/m=1 by omega) with rfl|rfl <;> simp [aT]
def Cn (x:D) (Q:D->Prop):Prop:=∃a b:List Nat,x=cU a b/\o9 a b/\a.length<=500/\(∀n,FG a b n->Q (.str "TooMany"))/\∀n,FJ a b n->Q (cU (bq (kB a b n) (fP a)) (bq (kB a b n) (fP b)))
def d9:Fw:=F1 Cn
def jk:bG:=(zd 1 "TooMany" (kD iE (af (ag 0) av)) (b8 (aB dX (af (ag 1) av))))
theorem pS:∀ds Q,d9 ds Q->ds.length=1:=iY
theorem sU:∀ds (Q:D->Prop),d9 ds Q->jk { nx:=λ_=>Q .non,rt:=Q } (aE ["_law_table_here","_law_e"] ds):=by
 rintro ds Q ⟨x,rfl,a,b,rfl,ta,la,ho,hd⟩
 simp_arith only [jk,zd,iE,dX,jX,Fh]
 exact⟨a,b,rfl,ta,la,λn hn=>⟨rfl,rfl,ho n hn⟩,hd⟩
theorem A3 {x:Str} {y:Str} {Q:D->Prop} (h:x=y) (q:Q (.bl false)):rJ (.str x) (.str y) Q:=by
 subst h;unfold rJ ib;have e:aT (.str x) (.str x)=true:=by simp [aT]
 simp only [dep,e,Bool.not_true]
 first|exact⟨by decide,q⟩|simpa using q
theorem A1:∀ds Q,wL 63 ds Q->ds.length=1:=by rintro ds Q ⟨ns,rfl,_⟩;rfl
def lL:bG:=(aK (bT 4 (aB dZ (af (ag 3) av))) (gj iV (af (cC (.int 2)) av) (aW 5) (aK (bT 6 (aB d9 (af (ag 3) av))) (gK (aN (aL (qz false) (ag 4) (cC .non))) (gK (aN (aL rJ (ag 6) (cC (.str "TooMany")))) (b8 (cC (.bl false))) bC) (gK (mx (aN (aB bD (af (ag 6) (af (ag 4) av))))) (b8 (cC (.bl false))) bC)))))
def xw:bG:=(aK (gj iV (af (aB zz (af (cC (.int 1)) (af (aB yM (af (cC (.int 5)) (af (aB gF (af (ag 0) av)) av))) av))) av) (aW 1) (aK (nM 2 (aB fe (af (ag 0) (af (ag 1) av)))) (aK (bT 3 (aB dq (af (ag 2) av))) (aK (gK (aN (aL kb (aB aC (af (ag 2) (af (cC (.int 4)) av))) (cC (.int 1)))) (bT 3 (aB di (af (ag 2) av))) bC) lL)))) (b8 (cC (.bl true))))
theorem BR:∀ds (Q:D->Prop),wL 63 ds Q->xw { nx:=λ_=>Q .non,rt:=Q } (aE ["_law_script","_law_k","_law_rest","_law_table_here","_law_due","_law_turn","_law_found"] ds):=by
 rintro ds Q ⟨ns,rfl,hl,h⟩;have sz:=Ht
 simp_arith only [xw,Hh]
 refine⟨by omega,by omega,?_⟩;refine cp (λ_ e=>∃k1 k2 k3 k4 k5 k6,e=[some (.d (.lst (ns.map D.int))),k1,k2,k3,k4,k5,k6]) ?_ ?_ ⟨_,_,_,_,_,_,rfl⟩
 ·rintro i x env N hx ⟨k1,k2,k3,k4,k5,k6,rfl⟩ hN;have hi:=(G7.mp hx).1
  have hxe:x=.int (0 + (i:Int)):=by
   unfold aM at hx;rw [Hi] at hx;simp [aM] at hi;rw [Ie (by omega)] at hx;cases hx;rfl
  subst hxe;have hi2:i < 5:=by simp [aM] at hi;omega
  have tail:∀(Z:Ends3) (k1 k2 k4 k5 k6:Option Lo) (a b:List Nat),Z.nx=N->o9 a b->a.length<=500->lL Z [some (.d (.lst (ns.map D.int))),k1,k2,some (.d (cU a b)),k4,k5,k6]:=by
   intro Z k1 k2 k4 k5 k6 a b hZ ta la
   simp_arith only [lL,dZ,d9,bD,jX,gL]
   refine⟨a,b,rfl,ta,la,λn hn=>?_,λn hn=>?_⟩
   ·refine cp (λ_ e=>∃k5 k6,e=[some (.d (.lst (ns.map D.int))),k1,k2,some (.d (cU a b)),some (.d .non),k5,k6]) ?_ ?_ ⟨_,_,rfl⟩
    ·rintro j x env N1 hx ⟨k5,k6,rfl⟩ hN1
     simp_arith only [jX]
     refine⟨a,b,rfl,ta,la,λm hm=>?_,λm hm=>(hm.over hn).elim⟩;refine⟨rfl,true,rfl,?_⟩;rw [if_pos rfl];refine A3 (by rfl) ⟨false,rfl,?_⟩;rw [if_neg (by simp)];exact hN1 _ ⟨_,_,rfl⟩
    ·rintro env ⟨k5,k6,rfl⟩;rw [hZ];exact hN _ ⟨_,_,_,_,_,_,rfl⟩
   ·refine cp (λ_ e=>∃k5 k6,e=[some (.d (.lst (ns.map D.int))),k1,k2,some (.d (cU a b)),some (.d (cU (bq (kB a b n) (fP a)) (bq (kB a b n) (fP b)))),k5,k6]) ?_ ?_ ⟨_,_,rfl⟩
    ·rintro j x env N1 hx ⟨k5,k6,rfl⟩ hN1
     simp_arith only [jX,gL]
     refine⟨a,b,rfl,ta,la,λm hm=>(hn.over hm).elim,λm hm=>?_⟩;obtain rfl:=hn.uniq hm;refine⟨rfl,false,rfl,?_⟩;rw [if_neg (by simp)];have l6:=hn.le n (Hl _);have ln:∀g,(bq (kB a b n) g).length<=500:=λg=>by unfold bq;rw [Hh];exact HX l6 (by decide)
     refine⟨_,_,_,_,rfl,rfl,ln _,ln _,_,rfl,?_⟩;rw [if_neg (by simp)];exact hN1 _ ⟨_,_,rfl⟩
    ·rintro env ⟨k5,k6,rfl⟩;rw [hZ];exact hN _ ⟨_,_,_,_,_,_,rfl⟩
  simp_arith only [nM,fe,dq,di,aC,jX,gL,ET,y9]
  refine⟨ns,_,rfl,rfl,by omega,by omega,λr a b t1 l1=>?_⟩;refine⟨4,rfl,rfl,by decide,by decide,λe e0 e1=>?_⟩
  simp_arith only [and_true]
  split
  ·exact λc d t2 l2=>tail _ _ _ _ _ _ _ _ rfl t2 l2
  ·exact tail _ _ _ _ _ _ _ _ rfl t1 l1
 ·rintro env ⟨k1,k2,k3,k4,k5,k6,rfl⟩
  simp_arith only [and_true]
  exact h
open PySem L2 L2.L3
open K55
def top (i:Nat):Stmt:=PySem.Challenge.pw_fanglue_k46_cores.main.body.getD i (.Pass ⟨0,0,0,0⟩)
structure DO where
 c_Open:Addr
 c_NoTurning:Addr
 c_NotIn:Addr
 c_NoText:Addr
 c_NoFan:Addr
 c_Full:Addr
 c_TooMany:Addr
 c_TooLong:Addr
 c_NoTable:Addr
 c_FanError:Addr
 t_MOST_PLACES:Tok
structure Tc (K:Ha) (w:World) (n:DO):Prop where
 g_MOST_PLACES:PySem.W.nsIn K mainGlobals "MOST_PLACES" = some (some (.int 60 n.t_MOST_PLACES))
 n_Open:PySem.W.nsIn K mainGlobals "Open" = some (some (.ref n.c_Open))
 n_NoTurning:PySem.W.nsIn K mainGlobals "NoTurning" = some (some (.ref n.c_NoTurning))
 n_NotIn:PySem.W.nsIn K mainGlobals "NotIn" = some (some (.ref n.c_NotIn))
 n_NoText:PySem.W.nsIn K mainGlobals "NoText" = some (some (.ref n.c_NoText))
 n_NoFan:PySem.W.nsIn K mainGlobals "NoFan" = some (some (.ref n.c_NoFan))
 n_Full:PySem.W.nsIn K mainGlobals "Full" = some (some (.ref n.c_Full))
 n_TooMany:PySem.W.nsIn K mainGlobals "TooMany" = some (some (.ref n.c_TooMany))
 n_TooLong:PySem.W.nsIn K mainGlobals "TooLong" = some (some (.ref n.c_TooLong))
 n_NoTable:PySem.W.nsIn K mainGlobals "NoTable" = some (some (.ref n.c_NoTable))
 n_FanError:PySem.W.nsIn K mainGlobals "FanError" = some (some (.ref n.c_FanError))
 e_TooMany:PySem.W.excIn K n.c_TooMany [.type "ValueError",.type "Exception",.type "BaseException",.type "object"] "ValueError.__new__" = true
 o1_TooMany:PySem.W.findIn K (.ref n.c_TooMany) "__getattribute__" = some (some (.builtin "BaseException.__getattribute__"))
 o2_TooMany:PySem.W.findIn K (.ref n.c_TooMany) "__getattr__" = some none
 o3_TooMany:PySem.W.hasDictIn K n.c_TooMany=true
 o4_TooMany:PySem.W.findIn K (.ref n.c_TooMany) "__class__" = some (some (.builtin "object.__class__"))
 o5_TooMany:PySem.W.specialIn K (.builtin "object.__class__") "__get__" = some (some (.builtin "getset_descriptor.__get__"))
 o6_TooMany:PySem.W.takesIn K (.builtin "object.__class__")=some true
 o7_TooMany:PySem.W.mroIn K n.c_TooMany (.type "object")=some true
 o8_TooMany:PySem.W.subIn K (.ref n.c_TooMany) (.type "BaseException")=some true
 u1_TooMany_FanError:PySem.W.typeIn K (.ref n.c_FanError)=some (.type "type")
 u2_TooMany_FanError:PySem.W.hasDictIn K n.c_FanError=true
 u3_TooMany_FanError:PySem.W.subIn K (.ref n.c_FanError) (.type "BaseException")=some true
 u4_TooMany_FanError:PySem.W.subIn K (.ref n.c_TooMany) (.ref n.c_FanError)=some true
 kt0:PySem.W.kitAny K (.ref n.c_TooMany) [.ref n.c_Full,.ref n.c_NoFan,.ref n.c_NoText,.ref n.c_NotIn,.ref n.c_NoTurning,.ref n.c_Open]=some false
 kt1:PySem.W.kitOne K (.ref n.c_TooMany) (.type "ValueError")=some true
 kt2:PySem.W.kitOne K (.ref n.c_TooMany) (.ref n.c_TooMany)=some true
 kt3:PySem.W.kitOne K (.ref n.c_TooMany) (.ref n.c_TooLong)=some false
 kt4:PySem.W.kitOne K (.ref n.c_TooMany) (.ref n.c_NoTable)=some false
theorem Tc.jh {K:Ha} {w:World} {n:DO} (TC:Tc K w n):y8 K n.c_TooMany n.c_FanError:=⟨TC.u1_TooMany_FanError,TC.u2_TooMany_FanError,TC.u3_TooMany_FanError,TC.u4_TooMany_FanError⟩
theorem Tc.fW {K:Ha} {w:World} {n:DO} (TC:Tc K w n):sE K n.c_TooMany:=⟨TC.o1_TooMany,TC.o2_TooMany,TC.o3_TooMany,TC.o4_TooMany,TC.o5_TooMany,TC.o6_TooMany,TC.o7_TooMany,TC.o8_TooMany⟩
abbrev fw:Stmt:=top 13
abbrev bP:Stmt:=top 15
abbrev nB:Stmt:=top 16
abbrev et:Stmt:=top 18
abbrev iO:Stmt:=top 19
abbrev fE:Stmt:=top 20
abbrev c8:Stmt:=top 21
abbrev eJ:Stmt:=top 22
abbrev iH:Stmt:=top 23
abbrev fG:Stmt:=top 24
abbrev fq:Stmt:=top 25
abbrev fL:Stmt:=top 26
abbrev dU:Stmt:=top 27
abbrev fC:Stmt:=top 28
abbrev fA:Stmt:=top 29
abbrev cf:Stmt:=top 30
abbrev gE:Stmt:=top 31
abbrev fu:Stmt:=top 32
abbrev fi:Stmt:=top 33
abbrev fB:Stmt:=top 34
abbrev gv:Stmt:=top 35
abbrev yX:Stmt:=top 36
structure Txt (mg:Str->Option Value):Prop where
 ValueError:mg "ValueError" = none
 abs:mg "abs" = none
 all:mg "all" = none
 bool:mg "bool" = none
 enumerate:mg "enumerate" = none
 int:mg "int" = none
 isinstance:mg "isinstance" = none
 len:mg "len" = none
 list:mg "list" = none
 max:mg "max" = none
 min:mg "min" = none
 range:mg "range" = none
 tuple:mg "tuple" = none
theorem jN:aG ["first","behind","met","numbers","halves","thirds","half","third","thing"] ["first","behind"] (ar fw):=oi
theorem fZ:aG ["table","spread","halves","thirds"] ["table","spread"] (ar bP):=oi
theorem vD:aG ["table"] ["table"] (ar nB):=oi
theorem g9:aG ["_law_script","_law_k"] ["_law_script","_law_k"] (ar et):=oi
theorem mR:aG ["_law_script","_law_at","_law_by","_law_prime","_law_cell","_law_big_here","_law_k","_law_one"] ["_law_script","_law_at"] (ar iO):=oi
theorem jL:aG ["_law_rest","_law_many","_law_digit_here"] ["_law_rest","_law_many"] (ar fE):=oi
theorem fY:aG ["_law_rest","_law_many","_law_row","_law_k","_law_at"] ["_law_rest","_law_many"] (ar c8):=oi
theorem ky:aG ["_law_rest","_law_many","_law_marks_here","_law_left","_law_gap","_law_way","_law_other"] ["_law_rest","_law_many"] (ar eJ):=oi
theorem nQ:aG ["_law_rest","_law_most","_law_great","_law_many"] ["_law_rest","_law_most","_law_great"] (ar iH):=oi
theorem jy:aG ["_law_fractions_here","_law_row","_law_tiles_here","_law_i","_law_near","_law_far"] ["_law_fractions_here"] (ar fG):=oi
theorem lP:aG ["_law_fractions_here"] ["_law_fractions_here"] (ar fq):=oi
theorem kz:aG ["_law_fan_here","_law_fractions_here","_law_marks_here","_law_gaps_here","_law_thirds","_law_one","_law_mid","_law_other","_law_halves","_law_i","_law_mark","_law_first"] ["_law_fan_here"] (ar fL):=oi
theorem lQ:aG ["_law_halves","_law_thirds","_law_first","_law_met","_law_at","_law_behind"] ["_law_halves","_law_thirds","_law_first"] (ar dU):=oi
theorem jR:aG ["_law_fan_here","_law_halves","_law_thirds","_law_first"] ["_law_fan_here"] (ar fC):=oi
theorem jF:aG ["_law_thing"] ["_law_thing"] (ar fA):=oi
theorem fF:aG ["_law_found","_law_due","_law_row"] ["_law_found","_law_due"] (ar cf):=oi
theorem lZ:aG ["_law_e","_law_kinds"] ["_law_e"] (ar gE):=oi
theorem jY:aG ["_law_rest","_law_table_here"] ["_law_rest"] (ar fu):=oi
theorem lS:aG ["_law_table_here","_law_met","_law_rows","_law_at","_law_k","_law_there"] ["_law_table_here"] (ar fi):=oi
theorem jP:aG ["_law_rest","_law_some","_law_halves","_law_thirds"] ["_law_rest"] (ar fB):=oi
theorem l4:aG ["_law_table_here","_law_e"] ["_law_table_here"] (ar gv):=oi
theorem yw:aG ["_law_script","_law_k","_law_rest","_law_table_here","_law_due","_law_turn","_law_found"] ["_law_script"] (ar yX):=oi
section
variable {P:Program} {w:World} {K:Ha} {mg:Str->Option Value} {base:Heap}
theorem ou (F:Df K mg "table_led" fw ["first","behind"]) (T:Txt mg) {n:DO} (TC:Tc K w n) {Pf:Ha->Hp->Addr->Prop} {φ:Fw} (hF:kG P w K mg base 2 Pf φ):gG P w K mg base 3 "table_led" (dM φ Pf) :=
 have nd:=jN.nd;F.uu jN nV λfa cdv A outer s H E hr=>⟨gr φ Pf,(dJ (jc (j8 (cM 2 nd (jo (ae (qv 0) ah))))) (dJ (jc (j8 (tQ 3 nd hr.units (qv 0) aA))) (dJ (jc (j8 (cM 4 nd (jo ah)))) (dJ (jc (j8 (cM 5 nd (jo ah)))) (dJ (xP (zY (bY 4 T.len) (bY 2 T.len)) (dJ (jc (j8 (m6 (Am 1 hF hr.md (ae (c5 2 (bY 4 T.len) (λ_ _=>rfl)) ah)) (iy rfl (bb (aR 6 nd) (bb (aR 7 nd) fI)))))) (dJ (jc (j8 (nz HK rfl (aF (ae (qv 6) (ae (qv 7) ah))) (aR 8 nd) (aw (cB (yo 3 hr.units (qv 8)) (au (bZ 3 hr.units (qv 8) (bY 2 T.len)) (aw (eY 2 (qv 8)))) bf))))) (dJ (jc (Fc (zV (bY 2 T.len) (G6 TC.g_MOST_PLACES)) (v3 (wB TC.n_TooMany TC.e_TooMany (ae gY ah))) (B6 bf))) (dJ (jc (j8 (eY 4 (nT 3 hr.units (qv 6) (λ_ _=>rfl))))) (vh (jc (j8 (eY 5 (nT 3 hr.units (qv 7) (λ_ _=>rfl))))))))))) (vh (jc (j8 (eZ 4 (eZ 5 (a5 (aF (ae (b9 T.tuple (ae (qv 4) ah)) (ae (b9 T.tuple (ae (qv 5) ah)) ah)))))))))))))),oC⟩
theorem gh (F:Df K mg "spread_behind" bP ["table","spread"]) (T:Txt mg):Known P w K mg base 1 "spread_behind" bO :=
 have nd:=fZ.nd;F.known fZ j6 λfa cdv A outer s H E hr=>⟨eO,(au (m6 (qv 0) (iy rfl (bb (aR 2 nd) (bb (aR 3 nd) fI)))) (aw (a5 (aF (ae (b9 T.tuple (ae (QF.e (iB (N':=["place","halves"]) (ix:=[2]) rfl (cm.of (ar bP) rfl rfl (by decide +kernel) (by decide +kernel) (by decide +kernel) (λj i h=>match j,h with | 0,h=>by cases h;exact⟨_,rfl,rfl,by decide,rfl⟩ | _ + 1,h=>by simp at h) rfl) (by decide) rfl rfl (qv 1) (λC s H fp pins=>ey) (λC s H fp pins=>(cu (qv 1) (qv 0) (λ_ _=>rfl))))) ah)) (ae (b9 T.tuple (ae (QF.e (iB (N':=["place","thirds"]) (ix:=[3]) rfl (cm.of (ar bP) rfl rfl (by decide +kernel) (by decide +kernel) (by decide +kernel) (λj i h=>match j,h with | 0,h=>by cases h;exact⟨_,rfl,rfl,by decide,rfl⟩ | _ + 1,h=>by simp at h) rfl) (by decide) rfl rfl (qv 1) (λC s H fp pins=>ey) (λC s H fp pins=>(cu (qv 1) (qv 0) (λ_ _=>rfl))))) ah)) ah)))))),lz⟩
theorem zr (F:E3 K mg "core" nB ["table"] "core.<locals>.<lambda>") (T:Txt mg) (kxA_table_led:∀(base:Heap) (Pf:Ha->Hp->Addr->Prop) (φ:Fw),kG P w K mg base 2 Pf φ->gG P w K mg base 3 "table_led" (dM φ Pf)) (at_table_led:∃fa,mg "table_led" = some (.ref fa)/\PySem.W.keepIn K (.ref fa)=true) (kA_spread_behind:∀base:Heap,Known P w K mg base 1 "spread_behind" bO):gG P w K mg base 4 "core" iE :=
 have nd:=vD.nd;F.Ce vD wZ λfa cdv A outer s H E ck hr=>⟨rb,(v3 (B8 (xB (ps:=["spread"]) [0] ["table"] kxA_table_led at_table_led hr.md (xx T.tuple T.range (ae (hV T.len (ae (cu (qv 0) aA (λ_ _=>rfl)) ah)) ah)) ck G2 (λ_ _ _ _=>wq λ_=>rfl) (λbase bS f c A outer s H hr=>(a0 (kA_spread_behind base) hr.md (ae (qv 1) (ae (qv 0) ah)))) (hcell:=(show ∀x∈(["table"]:List Str),((ar nB)).names.lookup x=some .cell by decide +kernel))))),yt⟩
theorem m4 (F:Df K mg "_law_cell_at" et ["_law_script","_law_k"]) (T:Txt mg):Known P w K mg base 1 "_law_cell_at" bB :=
 have nd:=g9.nd;F.known g9 mz λfa cdv A outer s H E hr=>⟨iX,(au (cB (zY (qv 1) (hV T.len (ae (qv 0) ah))) (aw (a5 (cu (qv 0) (qv 1) (λ_ _=>rfl)))) bf) (aw (a5 aA))),nR⟩
theorem ux (F:Df K mg "_law_big" iO ["_law_script","_law_at"]) (T:Txt mg) (k_law_cell_at:Known P w K mg base 1 "_law_cell_at" bB):Known P w K mg base 2 "_law_big" fe :=
 have nd:=mR.nd;F.known mR su λfa cdv A outer s H E hr=>⟨lH,(au (aX 2 nd (aF (ae aA (ae aA (ae aA (ae aA (ae aA (ae aA (ae aA (ae aA ah)))))))))) (au (aX 3 nd (aF (ae aA (ae aA (ae aA (ae aA (ae aA (ae aA (ae aA (ae aA ah)))))))))) (au (aX 4 nd (a0 k_law_cell_at hr.md (ae (qv 0) (ae (qv 1) ah)))) (au (cB (GF (qv 4) (BG aA aA)) (aw (a5 (qv 4))) bf) (au (aX 5 nd aA) (au (jE HK rfl rfl T.range (ae aA ah) (aR 6 nd) (au (aX 7 nd (eI (eI (jB (a0 k_law_cell_at hr.md (ae (qv 0) (ae (eI (qv 1) (jB (qv 6) aA)) ah))) (BG aA aA)) aA) (sV (qv 6) (qv 6)))) (aw (aX 5 nd (eI (sV (qv 5) aA) (jB (jB (sV (qv 7) (cu (qv 2) (jB (qv 6) aA) (λ_ _=>rfl))) (cu (qv 3) (jB (qv 6) aA) (λ_ _=>rfl))) aA)))))) (aw (a5 (qv 5))))))))),uQ⟩
theorem rg (F:Df K mg "_law_digit" fE ["_law_rest","_law_many"]):Known P w K mg base 1 "_law_digit" aC :=
 have nd:=jL.nd;F.known jL oO λfa cdv A outer s H E hr=>⟨gW,(au (aX 2 nd (jB (zf (qv 0)) (qv 1))) (au (uX (qv 0) (CG (zf (qv 0)) (qv 1))) (aw (a5 (qv 2))))),qj⟩
theorem lF (F:Df K mg "_law_fractions" c8 ["_law_rest","_law_many"]) (T:Txt mg) (k_law_digit:Known P w K mg base 1 "_law_digit" aC):Known P w K mg base 2 "_law_fractions" bN :=
 have nd:=fY.nd;F.known fY jC λfa cdv A outer s H E hr=>⟨eR,(au (cM 2 nd (jo (ae (aF (ae (Bf aA) (ae aA ah))) (ae (aF (ae aA (ae aA ah))) (ae (aF (ae aA (ae aA ah))) ah))))) (au (jE HK rfl rfl T.range (ae (kj (qv 1) aA) ah) (aR 3 nd) (au (aX 4 nd (a0 k_law_digit hr.md (ae (qv 0) (ae (kj (bY 2 T.len) aA) ah)))) (aw (wC 2 (eI (qv 4) aA) (aF (ae (eI (cu (c5 2 (qv 4) (λ_ _=>rfl)) aA (λ_ _=>rfl)) (cu (c5 2 (eI (qv 4) aA) (λ_ _=>rfl)) aA (λ_ _=>rfl))) (ae (eI (cu (c5 2 (qv 4) (λ_ _=>rfl)) aA (λ_ _=>rfl)) (cu (c5 2 (eI (qv 4) aA) (λ_ _=>rfl)) aA (λ_ _=>rfl))) ah))))))) (aw (eZ 2 (a5 (b9 T.tuple (ae (eI (fS (ae (aF (ae aA (ae aA ah))) ah)) (Gu (qv 2) (vm aA) (vm (kj (hV T.len (ae (qv 2) ah)) aA)))) ah))))))),kK⟩
theorem qB (F:Df K mg "_law_marks" eJ ["_law_rest","_law_many"]) (T:Txt mg) (k_law_digit:Known P w K mg base 1 "_law_digit" aC):Known P w K mg base 2 "_law_marks" dB :=
 have nd:=ky.nd;F.known ky ow λfa cdv A outer s H E hr=>⟨ia,(au (mi 2 nd (N':=["_law_gap"]) (ix:=[]) rfl (cm.of (ar eJ) rfl rfl (by decide +kernel) (by decide +kernel) (by decide +kernel) (λj i h=>by simp at h) rfl) (by decide) rfl rfl rfl T.range (ae (qv 1) ah) (λC s H fp pins=>ey) (λC s H fp pins=>gY)) (au (cM 3 nd (xX T.list T.range (ae (qv 1) ah))) (au (m9 HK (vf 3 hr.units) (au (pM 4 3 nd aA) (au (aX 5 nd (a0 k_law_digit hr.md (ae (qv 0) (ae aA ah)))) (au (cB (qP hr.units (qv 5) aA) (aw (uf 2 (qv 4) gY)) bf) (aw (cB (QW.t (uS (zV (qv 5) aA) (p8 (vf 3 hr.units)))) (au (pM 6 3 nd (a0 k_law_digit hr.md (ae (qv 0) (ae (bY 3 T.len) ah)))) (au (uf 2 (qv 4) (qv 6)) (aw (uf 2 (qv 6) (qv 4))))) bf)))))) (au (eZ 2 (cB (QW.t (uS (qP hr.units (qv 1) aA) (p8 (CU hr.units gY (qv 2))))) (aw (aX 2 nd (fS (ae gY (ae gY ah))))) bf)) (aw (a5 (b9 T.tuple (ae (qv 2) ah)))))))),qR⟩
theorem uI (F:Df K mg "_law_fan" iH ["_law_rest","_law_most","_law_great"]) (k_law_digit:Known P w K mg base 1 "_law_digit" aC) (k_law_fractions:Known P w K mg base 2 "_law_fractions" bN) (k_law_marks:Known P w K mg base 2 "_law_marks" dB):Known P w K mg base 3 "_law_fan" e8 :=
 have nd:=nQ.nd;F.known nQ sZ λfa cdv A outer s H E hr=>⟨kW,(au (aX 3 nd (eI aA (a0 k_law_digit hr.md (ae (qv 0) (ae (kj (qv 1) aA) ah))))) (au (cB (qP hr.units (a0 k_law_digit hr.md (ae (qv 0) (ae aA ah))) aA) (aw (aX 3 nd (eI aA (a0 k_law_digit hr.md (ae (qv 0) (ae (kj (qv 2) aA) ah)))))) bf) (aw (a5 (aF (ae (a0 k_law_fractions hr.md (ae (qv 0) (ae (qv 3) ah))) (ae (a0 k_law_marks hr.md (ae (qv 0) (ae (qv 3) ah))) ah))))))),uR⟩
theorem qx (F:Df K mg "_law_tiles" fG ["_law_fractions_here"]) (T:Txt mg):Known P w K mg base 1 "_law_tiles" dA :=
 have nd:=jy.nd;F.known jy oF λfa cdv A outer s H E hr=>⟨ig,(au (cM 1 nd (xm T.list (ae (qv 0) ah))) (au (cM 2 nd (jo ah)) (au (m9 HK (zV (bY 1 T.len) aA) (aw (yH HK rfl rfl T.range (ae aA (ae (bY 1 T.len) ah)) (aR 3 nd) (au (aX 4 nd (c5 1 (kj (qv 3) aA) (λ_ _=>rfl))) (au (aX 5 nd (c5 1 (jB (eI (qv 3) aA) (bY 1 T.len)) (λ_ _=>rfl))) (aw (cB (QW.t (uS (AZ hr.units (c5 1 (qv 3) (λ_ _=>rfl)) (aF (ae aA (ae aA ah)))) (p8 (qP hr.units (EJ T.abs (ae (kj (sV (cu (qv 4) aA (λ_ _=>rfl)) (cu (qv 5) aA (λ_ _=>rfl))) (sV (cu (qv 4) aA (λ_ _=>rfl)) (cu (qv 5) aA (λ_ _=>rfl)))) ah)) aA)))) (au (eY 2 (aF (ae (qv 4) (ae (c5 1 (qv 3) (λ_ _=>rfl)) (ae (qv 5) ah))))) (au (zO 1 (qv 3)) (aw zt))) bf))))))) (aw (eZ 2 (a5 (qv 2))))))),pZ⟩
theorem rD (F:Df K mg "_law_gaps" fq ["_law_fractions_here"]) (T:Txt mg):Known P w K mg base 1 "_law_gaps" d5 :=
 have nd:=lP.nd;F.known lP qA λfa cdv A outer s H E hr=>⟨ju,(aw (a5 (QF.e (xk (N':=["_law_i","_law_fractions_here"]) (ix:=[0]) rfl (cm.of (ar fq) rfl rfl (by decide +kernel) (by decide +kernel) (by decide +kernel) (λj i h=>match j,h with | 0,h=>by cases h;exact⟨_,rfl,rfl,by decide,rfl⟩ | _ + 1,h=>by simp at h) rfl) (by decide) rfl rfl rfl T.range (ae (hV T.len (ae (qv 0) ah)) ah) (λC s H fp pins=>ey) (λC s H fp pins=>(aF (ae (cu (qv 1) (qv 0) (λ_ _=>rfl)) (ae (cu (qv 1) (jB (eI (qv 0) aA) (hV T.len (ae (qv 1) ah))) (λ_ _=>rfl)) ah)))))))),sT⟩
theorem rh (F:Df K mg "_law_links" fL ["_law_fan_here"]) (T:Txt mg) (k_law_gaps:Known P w K mg base 1 "_law_gaps" d5) (k_law_tiles:Known P w K mg base 1 "_law_tiles" dA):Known P w K mg base 2 "_law_links" dj :=
 have nd:=kz.nd;F.known kz oQ λfa cdv A outer s H E hr=>⟨ic,(au (m6 (qv 0) (iy rfl (bb (aR 1 nd) (bb (aR 2 nd) fI)))) (au (aX 3 nd (a0 k_law_gaps hr.md (ae (qv 1) ah))) (au (pF 4 nd) (au (nz HK rfl (a0 k_law_tiles hr.md (ae (qv 1) ah)) (iy rfl (bb (aR 5 nd) (bb (aR 6 nd) (bb (aR 7 nd) fI)))) (au (bZ 4 hr.units (aF (ae (qv 5) (ae (qv 6) ah))) (aF (ae (qv 6) (ae (qv 7) ah)))) (au (bZ 4 hr.units (aF (ae (qv 6) (ae (qv 7) ah))) (aF (ae (qv 7) (ae (qv 5) ah)))) (aw (bZ 4 hr.units (aF (ae (qv 7) (ae (qv 5) ah))) (aF (ae (qv 5) (ae (qv 6) ah)))))))) (au (pF 8 nd) (au (wJ 4 HK rfl (iy rfl (bb (aR 5 nd) (bb (aR 7 nd) fI))) (aw (bZ 8 hr.units (aF (ae (qv 5) (ae (qv 7) ah))) (aF (ae (qv 7) (ae (qv 5) ah)))))) (au (AL HK rfl rfl T.enumerate (ae (qv 2) ah) (iy rfl (bb (aR 9 nd) (bb (aR 10 nd) fI))) (aw (cB (qP hr.units (qv 10) gY) (au (bZ 4 hr.units (qv 9) (qv 9)) (au (bZ 8 hr.units (qv 9) (cu (qv 3) (qv 9) (λ_ _=>rfl))) (aw (bZ 8 hr.units (cu (qv 3) (qv 9) (λ_ _=>rfl)) (qv 9))))) (aw (cB (qP hr.units (qv 10) gY) (aw (bZ 8 hr.units (cu (qv 3) (qv 9) (λ_ _=>rfl)) (cu (qv 3) (qv 9) (λ_ _=>rfl)))) (aw (bZ 8 hr.units (cu (qv 3) (qv 9) (λ_ _=>rfl)) (cu (qv 3) (qv 10) (λ_ _=>rfl))))))))) (au (aX 11 nd (aF (ae (aF (ae aA (ae aA ah))) (ae (aF (ae aA (ae aA ah))) ah)))) (au (m3 4 (cB (qP hr.units (hV T.len (ae (qv 1) ah)) aA) (au (aX 11 nd (cu (fS (ae aA (ae aA ah))) (vL T.int (ae (Gn hr.units (cu (qv 2) aA (λ_ _=>rfl)) gY) ah)) (λ_ _=>rfl))) (aw (nz HK rfl (fS (ae aA (ae aA ah))) (aR 9 nd) (aw (cB (qP hr.units (cu (qv 2) (qv 9) (λ_ _=>rfl)) gY) (aw (bZ 8 hr.units (qv 9) (cu (fS (ae (qv 9) (ae (kj aA (qv 9)) ah))) (vL T.int (ae (EF hr.units (cu (qv 2) (kj aA (qv 9)) (λ_ _=>rfl)) gY) ah)) (λ_ _=>rfl)))) bf))))) (aw (cB (C2 hr.units (qv 11) (qv 4)) (aw (aX 11 nd (nT 8 hr.units (cu (qv 3) (Bf aA) (λ_ _=>rfl)) (λ_ _=>rfl)))) bf)))) (aw (m3 8 (a5 (aF (ae (qv 8) (ae (qv 4) (ae (qv 11) ah)))))))))))))))),qY⟩
theorem sM (F:Df K mg "_law_anew" dU ["_law_halves","_law_thirds","_law_first"]) (T:Txt mg):Known P w K mg base 1 "_law_anew" bp :=
 have nd:=lQ.nd;F.known lQ p6 λfa cdv A outer s H E hr=>⟨ji,(au (cM 3 nd (jo (ae (qv 2) ah))) (au (aX 4 nd aA) (au (m9 HK (zY (qv 4) (bY 3 T.len)) (au (nz HK rfl (fS (ae (p7 hr.units (qv 0) (c5 3 (qv 4) (λ_ _=>rfl)) (λ_ _=>rfl)) (ae (p7 hr.units (qv 1) (c5 3 (qv 4) (λ_ _=>rfl)) (λ_ _=>rfl)) ah))) (aR 5 nd) (aw (cB (tw 3 hr.units (qv 5)) (aw (eY 3 (qv 5))) bf))) (aw (aX 4 nd (eI (qv 4) aA))))) (aw (eZ 3 (a5 (aF (ae (b9 T.tuple (ae (QF.e (iB (N':=["_law_one","_law_halves","_law_met"]) (ix:=[0,3]) rfl (cm.of (ar dU) rfl rfl (by decide +kernel) (by decide +kernel) (by decide +kernel) (λj i h=>match j,h with | 0,h=>by cases h;exact⟨_,rfl,rfl,by decide,rfl⟩ | 1,h=>by cases h;exact⟨_,rfl,rfl,by decide,rfl⟩ | _ + 2,h=>by simp at h) rfl) (by decide) rfl rfl (qv 3) (λC s H fp pins=>ey) (λC s H fp pins=>(qi hr.units (qv 2) (p7 hr.units (qv 1) (qv 0) (λ_ _=>rfl)))))) ah)) (ae (b9 T.tuple (ae (QF.e (iB (N':=["_law_one","_law_thirds","_law_met"]) (ix:=[1,3]) rfl (cm.of (ar dU) rfl rfl (by decide +kernel) (by decide +kernel) (by decide +kernel) (λj i h=>match j,h with | 0,h=>by cases h;exact⟨_,rfl,rfl,by decide,rfl⟩ | 1,h=>by cases h;exact⟨_,rfl,rfl,by decide,rfl⟩ | _ + 2,h=>by simp at h) rfl) (by decide) rfl rfl (qv 3) (λC s H fp pins=>ey) (λC s H fp pins=>(qi hr.units (qv 2) (p7 hr.units (qv 1) (qv 0) (λ_ _=>rfl)))))) ah)) ah))))))))),rS⟩
theorem pT (F:Df K mg "_law_table" fC ["_law_fan_here"]) (k_law_anew:Known P w K mg base 1 "_law_anew" bp) (k_law_links:Known P w K mg base 2 "_law_links" dj):Known P w K mg base 3 "_law_table" dg :=
 have nd:=jR.nd;F.known jR oy λfa cdv A outer s H E hr=>⟨iw,(au (m6 (a0 k_law_links hr.md (ae (qv 0) ah)) (iy rfl (bb (aR 1 nd) (bb (aR 2 nd) (bb (aR 3 nd) fI))))) (aw (a5 (a0 k_law_anew hr.md (ae (qv 1) (ae (qv 2) (ae (qv 3) ah))))))),qd⟩
theorem pW (F:Df K mg "_law_whole" fA ["_law_thing"]) (T:Txt mg):Known P w K mg base 1 "_law_whole" df :=
 have nd:=jF.nd;F.known jF oq λfa cdv A outer s H E hr=>⟨l7,(aw (a5 (Dx (vd T.isinstance T.int oY (qv 0)) (Dh (Dn (vd T.isinstance T.bool ug (qv 0))))))),qg⟩
theorem jK (F:Df K mg "_law_are_places" cf ["_law_found","_law_due"]) (T:Txt mg) (k_law_whole:Known P w K mg base 1 "_law_whole" df):Known P w K mg base 2 "_law_are_places" bD :=
 have nd:=fF.nd;F.known fF jn λfa cdv A outer s H E hr=>⟨dS,(au (cB (QW.t (yc (nK (kE (vd T.isinstance T.tuple fD (qv 0)))) (uB (AZ hr.units (hV T.len (ae (qv 0) ah)) aA)))) (aw (a5 CY)) bf) (au (nz HK rfl (qv 0) (aR 2 nd) (aw (cB (QW.t (yc (nK (kE (vd T.isinstance T.tuple fD (qv 2)))) (uB (nK (kE (EY T.all (ae (QF.e (iB (N':=["_law_place"]) (ix:=[]) rfl (cm.of (ar cf) rfl rfl (by decide +kernel) (by decide +kernel) (by decide +kernel) (λj i h=>by simp at h) rfl) (by decide) rfl rfl (qv 2) (λC s H fp pins=>ey) (λC s H fp pins=>(a0 k_law_whole hr.md (ae (qv 0) ah))))) ah))))))) (aw (a5 CY)) bf))) (aw (a5 (EF hr.units (qv 0) (qv 1)))))),jJ⟩
theorem qr (F:Df K mg "_law_refusal" gE ["_law_e"]) (T:Txt mg) {n:DO} (TC:Tc K w n):nY P w K mg base 1 "_law_refusal" dX :=
 have nd:=lZ.nd;F.t7 lZ qU λfa cdv A outer s H E hr=>⟨js,(au (cB (QW.t (yc (nK (kE (sQ "TooMany" (.ty "ValueError") true T.isinstance TC.n_TooMany TC.fW (.ty TC.kt1) (ae (qv 0) (ae (GN rfl T.ValueError Al) ah))))) (uB (kE (sQ "TooMany" (.tup [.cls "Full",.cls "NoFan",.cls "NoText",.cls "NotIn",.cls "NoTurning",.cls "Open"]) false T.isinstance TC.n_TooMany TC.fW (.tup (.cons TC.n_Full (.cons TC.n_NoFan (.cons TC.n_NoText (.cons TC.n_NotIn (.cons TC.n_NoTurning (.cons TC.n_Open .nil)))))) TC.kt0) (ae (qv 0) (ae (aF (ae (pY TC.n_Full) (ae (pY TC.n_NoFan) (ae (pY TC.n_NoText) (ae (pY TC.n_NotIn) (ae (pY TC.n_NoTurning) (ae (pY TC.n_Open) ah))))))) ah))))))) (aw (a5 gY)) bf) (au (aX 1 nd (fS (ae (sQ "TooMany" (.cls "NoTable") false T.isinstance TC.n_TooMany TC.fW (.cls TC.n_NoTable TC.kt4) (ae (qv 0) (ae (pY TC.n_NoTable) ah))) (ae (sQ "TooMany" (.cls "TooLong") false T.isinstance TC.n_TooMany TC.fW (.cls TC.n_TooLong TC.kt3) (ae (qv 0) (ae (pY TC.n_TooLong) ah))) (ae (sQ "TooMany" (.cls "TooMany") true T.isinstance TC.n_TooMany TC.fW (.cls TC.n_TooMany TC.kt2) (ae (qv 0) (ae (pY TC.n_TooMany) ah))) ah))))) (au (cB (AZ hr.units (xF hr.units (qv 1) CY) aA) (aw (a5 gY)) bf) (aw (a5 (cu (fS (ae gY (ae gY (ae gY ah)))) (qi hr.units (qv 1) CY) (λ_ _=>rfl))))))),rX⟩
theorem qN (F:Df K mg "_law_drawn" fu ["_law_rest"]) (T:Txt mg) (k_law_anew:Known P w K mg base 1 "_law_anew" bp) (k_law_digit:Known P w K mg base 1 "_law_digit" aC) (k_law_fan:Known P w K mg base 3 "_law_fan" e8) (k_law_table:Known P w K mg base 3 "_law_table" dg):Known P w K mg base 4 "_law_drawn" dq :=
 have nd:=jY.nd;F.known jY oA λfa cdv A outer s H E hr=>⟨gO,(au (aX 1 nd (a0 k_law_table hr.md (ae (a0 k_law_fan hr.md (ae (qv 0) (ae aA (ae aA ah)))) ah))) (aw (a5 (a0 k_law_anew hr.md (ae (cu (qv 1) aA (λ_ _=>rfl)) (ae (cu (qv 1) aA (λ_ _=>rfl)) (ae (a0 k_law_digit hr.md (ae (qv 0) (ae (hV T.len (ae (cu (qv 1) aA (λ_ _=>rfl)) ah)) ah))) ah))))))),pV⟩
theorem rK (F:Df K mg "_law_core" fi ["_law_table_here"]) (T:Txt mg):Known P w K mg base 1 "_law_core" dZ :=
 have nd:=lS.nd;F.known lS p5 λfa cdv A outer s H E hr=>⟨jv,(au (cM 1 nd (jo (ae (xx T.tuple T.range (ae (hV T.len (ae (cu (qv 0) aA (λ_ _=>rfl)) ah)) ah)) ah))) (xn 2 nd λp=>(vS l5 (yY (aX 3 nd aA)) (vS l5 (Ab HK (zY (qv 3) (bY 1 T.len)) (mL (zR HK rfl rfl T.range (ae aA ah) (aR 4 nd) (mL (yY (aX 5 nd (b9 T.tuple (ae (QF.e (iB (N':=["_law_place","_law_table_here","_law_k"]) (ix:=[0,4]) rfl (cm.of (ar fi) rfl rfl (by decide +kernel) (by decide +kernel) (by decide +kernel) (λj i h=>match j,h with | 0,h=>by cases h;exact⟨_,rfl,rfl,by decide,rfl⟩ | 1,h=>by cases h;exact⟨_,rfl,rfl,by decide,rfl⟩ | _ + 2,h=>by simp at h) rfl) (by decide) rfl rfl (c5 1 (qv 3) (λ_ _=>rfl)) (λC s H fp pins=>ey) (λC s H fp pins=>(cu (cu (qv 1) (qv 2) (λ_ _=>rfl)) (qv 0) (λ_ _=>rfl))))) ah)))) (mL (yY (cB (tw 1 hr.units (qv 5)) (aw (eY 1 (qv 5))) bf)) (yi (CO 2 (qv 4) (ue 1 hr.units (qv 5))))))) (mL (yY (cB (zV (bY 1 T.len) aA) (aw (a5 ED)) bf)) (yi (yY (aX 3 nd (eI (qv 3) aA))))))) (AU (sj 2) (aw (a5 (aF (ae (b9 T.tuple (ae (cu (qv 2) aA (λ_ _=>rfl)) ah)) (ae (b9 T.tuple (ae (cu (qv 2) aA (λ_ _=>rfl)) ah)) ah)))))))))),tE⟩
theorem qD (F:Df K mg "_law_small" fB ["_law_rest"]) (T:Txt mg) (k_law_anew:Known P w K mg base 1 "_law_anew" bp) (k_law_digit:Known P w K mg base 1 "_law_digit" aC):Known P w K mg base 2 "_law_small" di :=
 have nd:=jP.nd;F.known jP oU λfa cdv A outer s H E hr=>⟨ik,(au (aX 1 nd (fS (ae (aF (ae (aF (ae aA ah)) (ae (aF (ae aA ah)) ah))) (ae (aF (ae (aF (ae aA (ae aA ah))) (ae (aF (ae aA (ae aA ah))) ah))) (ae (aF (ae (aF (ae aA (ae aA (ae aA ah)))) (ae (aF (ae aA (ae aA (ae aA ah)))) ah))) (ae (aF (ae (aF (ae aA (ae aA (ae aA ah)))) (ae (aF (ae aA (ae aA (ae aA ah)))) ah))) ah)))))) (au (aX 1 nd (eI (qv 1) (fS (ae (aF (ae (aF (ae aA (ae aA (ae aA (ae aA ah))))) (ae (aF (ae aA (ae aA (ae aA (ae aA ah))))) ah))) (ae (aF (ae (aF (ae aA (ae aA (ae aA (ae aA (ae aA (ae aA ah))))))) (ae (aF (ae aA (ae aA (ae aA (ae aA (ae aA (ae aA ah))))))) ah))) ah))))) (au (m6 (cu (qv 1) (a0 k_law_digit hr.md (ae (qv 0) (ae aA ah))) (λ_ _=>rfl)) (iy rfl (bb (aR 2 nd) (bb (aR 3 nd) fI)))) (aw (a5 (a0 k_law_anew hr.md (ae (qv 2) (ae (qv 3) (ae (a0 k_law_digit hr.md (ae (qv 0) (ae (hV T.len (ae (qv 2) ah)) ah))) ah))))))))),qH⟩
theorem rQ (F:Df K mg "_law_told" gv ["_law_table_here"]) {n:DO} (TC:Tc K w n) (kx_core:gG P w K mg base 4 "core" iE) (kh_law_refM:nY P w K mg base 1 "_law_refusal" dX):Known P w K mg base 5 "_law_told" d9 :=
 have nd:=l4.nd;F.known l4 pS λfa cdv A outer s H E hr=>⟨jk,(aw (AV 1 nd rfl rfl TC.n_FanError TC.n_TooMany TC.jh (zQ kx_core hr.md (ae (qv 0) ah)) (λ_=>(aw (a5 (AK kh_law_refM (hr.md.hand _) (ae (qv 1) ah))))))),sU⟩
theorem Ck {fa:Addr} {fd:FuncData} (F:oo K "law" "law" yX fa fd) (T:Txt mg) (k_law_are_places:Known P w K mg base 2 "_law_are_places" bD) (k_law_big:Known P w K mg base 2 "_law_big" fe) (k_law_core:Known P w K mg base 1 "_law_core" dZ) (k_law_digit:Known P w K mg base 1 "_law_digit" aC) (k_law_drawC:Known P w K mg base 4 "_law_drawn" dq) (k_law_small:Known P w K mg base 2 "_law_small" di) (k_law_told:Known P w K mg base 5 "_law_told" d9):nN P w K mg base tM 6 fa fd ["_law_script"] (BO K (wL 63)) :=
 have nd:=yw.nd;oo.Er F yw A1 λcdv A outer s H E hr=>⟨xw,(au (jE HK rfl rfl T.range (ae (ER T.max (ae aA (ae (Ee T.min (ae aA (ae (hV T.len (ae (qv 0) ah)) ah))) ah))) ah) (aR 1 nd) (au (uC 2 nd (a0 k_law_big hr.md (ae (qv 0) (ae (qv 1) ah)))) (au (aX 3 nd (a0 k_law_drawC hr.md (ae (qv 2) ah))) (au (cB (qP hr.units (a0 k_law_digit hr.md (ae (qv 2) (ae aA ah))) aA) (aw (aX 3 nd (a0 k_law_small hr.md (ae (qv 2) ah)))) bf) (au (aX 4 nd (a0 k_law_core hr.md (ae (qv 3) ah))) (aw (jE HK rfl rfl T.range (ae aA ah) (aR 5 nd) (au (aX 6 nd (a0 k_law_told hr.md (ae (qv 3) ah))) (aw (cB (EG (qv 4) ED) (aw (cB (AZ hr.units (qv 6) gY) (aw (a5 CY)) bf)) (aw (cB (nK (kE (a0 k_law_are_places hr.md (ae (qv 6) (ae (qv 4) ah))))) (aw (a5 CY)) bf)))))))))))) (aw (a5 CY))),BR⟩
end
theorem all_mk {l:PySem.W.OpenLaw} {w:World} {K:Ha} {h:Heap} {mg:Str->Option Value} {fa:Addr} {c_Open:Addr} {c_NoTurning:Addr} {c_NotIn:Addr} {c_NoText:Addr} {c_NoFan:Addr} {c_Full:Addr} {c_TooMany:Addr} {c_TooLong:Addr} {c_NoTable:Addr} {c_FanError:Addr} {t_MOST_PLACES:Tok} (X:K.In h) (G:h.Ns mainGlobals mg) (hfa:mg "law" = some (.ref fa))
  (D1:cw K "table_led" fw)
  (D2:cw K "spread_behind" bP)
  (D4:cw K "_law_cell_at" et)
  (D5:cw K "_law_big" iO)
  (D6:cw K "_law_digit" fE)
  (D7:cw K "_law_fractions" c8)
  (D8:cw K "_law_marks" eJ)
  (D9:cw K "_law_fan" iH)
  (D10:cw K "_law_tiles" fG)
  (D11:cw K "_law_gaps" fq)
  (D12:cw K "_law_links" fL)
  (D13:cw K "_law_anew" dU)
  (D14:cw K "_law_table" fC)
  (D15:cw K "_law_whole" fA)
  (D16:cw K "_law_are_places" cf)
  (D17:cw K "_law_refusal" gE)
  (D18:cw K "_law_drawn" fu)
  (D19:cw K "_law_core" fi)
  (D20:cw K "_law_small" fB)
  (D21:cw K "_law_told" gv)
  (D22:cw K "law" yX)
  (D3:um K "core" nB "core.<locals>.<lambda>")
  (z0:PySem.W.nsIn K mainGlobals "ValueError" = some none)
  (z1:PySem.W.nsIn K mainGlobals "abs" = some none)
  (z2:PySem.W.nsIn K mainGlobals "all" = some none)
  (z3:PySem.W.nsIn K mainGlobals "bool" = some none)
  (z4:PySem.W.nsIn K mainGlobals "enumerate" = some none)
  (z5:PySem.W.nsIn K mainGlobals "int" = some none)
  (z6:PySem.W.nsIn K mainGlobals "isinstance" = some none)
  (z7:PySem.W.nsIn K mainGlobals "len" = some none)
  (z8:PySem.W.nsIn K mainGlobals "list" = some none)
  (z9:PySem.W.nsIn K mainGlobals "max" = some none)
  (z10:PySem.W.nsIn K mainGlobals "min" = some none)
  (z11:PySem.W.nsIn K mainGlobals "range" = some none)
  (z12:PySem.W.nsIn K mainGlobals "tuple" = some none)
  (g_MOST_PLACES:PySem.W.nsIn K mainGlobals "MOST_PLACES" = some (some (.int 60 t_MOST_PLACES)))
  (n_Open:PySem.W.nsIn K mainGlobals "Open" = some (some (.ref c_Open)))
  (n_NoTurning:PySem.W.nsIn K mainGlobals "NoTurning" = some (some (.ref c_NoTurning)))
  (n_NotIn:PySem.W.nsIn K mainGlobals "NotIn" = some (some (.ref c_NotIn)))
  (n_NoText:PySem.W.nsIn K mainGlobals "NoText" = some (some (.ref c_NoText)))
  (n_NoFan:PySem.W.nsIn K mainGlobals "NoFan" = some (some (.ref c_NoFan)))
  (n_Full:PySem.W.nsIn K mainGlobals "Full" = some (some (.ref c_Full)))
  (n_TooMany:PySem.W.nsIn K mainGlobals "TooMany" = some (some (.ref c_TooMany)))
  (n_TooLong:PySem.W.nsIn K mainGlobals "TooLong" = some (some (.ref c_TooLong)))
  (n_NoTable:PySem.W.nsIn K mainGlobals "NoTable" = some (some (.ref c_NoTable)))
  (n_FanError:PySem.W.nsIn K mainGlobals "FanError" = some (some (.ref c_FanError)))
  (e_TooMany:PySem.W.excIn K c_TooMany [.type "ValueError",.type "Exception",.type "BaseException",.type "object"] "ValueError.__new__" = true)
  (o1_TooMany:PySem.W.findIn K (.ref c_TooMany) "__getattribute__" = some (some (.builtin "BaseException.__getattribute__")))
  (o2_TooMany:PySem.W.findIn K (.ref c_TooMany) "__getattr__" = some none)
  (o3_TooMany:PySem.W.hasDictIn K c_TooMany=true)
  (o4_TooMany:PySem.W.findIn K (.ref c_TooMany) "__class__" = some (some (.builtin "object.__class__")))
  (o5_TooMany:PySem.W.specialIn K (.builtin "object.__class__") "__get__" = some (some (.builtin "getset_descriptor.__get__")))
  (o6_TooMany:PySem.W.takesIn K (.builtin "object.__class__")=some true)
  (o7_TooMany:PySem.W.mroIn K c_TooMany (.type "object")=some true)
  (o8_TooMany:PySem.W.subIn K (.ref c_TooMany) (.type "BaseException")=some true)
  (u1_TooMany_FanError:PySem.W.typeIn K (.ref c_FanError)=some (.type "type"))
  (u2_TooMany_FanError:PySem.W.hasDictIn K c_FanError=true)
  (u3_TooMany_FanError:PySem.W.subIn K (.ref c_FanError) (.type "BaseException")=some true)
  (u4_TooMany_FanError:PySem.W.subIn K (.ref c_TooMany) (.ref c_FanError)=some true)
  (kt0:PySem.W.kitAny K (.ref c_TooMany) [.ref c_Full,.ref c_NoFan,.ref c_NoText,.ref c_NotIn,.ref c_NoTurning,.ref c_Open]=some false)
  (kt1:PySem.W.kitOne K (.ref c_TooMany) (.type "ValueError")=some true)
  (kt2:PySem.W.kitOne K (.ref c_TooMany) (.ref c_TooMany)=some true)
  (kt3:PySem.W.kitOne K (.ref c_TooMany) (.ref c_TooLong)=some false)
  (kt4:PySem.W.kitOne K (.ref c_TooMany) (.ref c_NoTable)=some false)
  : ∃fd:FuncData,(∀(s:Shared) (v:Value),BindsTo s fd ⟨[v],[]⟩ [("_law_script",v)])/\∀base:Heap,K.In base->base.Ns mainGlobals mg->nN l.prog w K mg base tM 6 fa fd ["_law_script"] (BO K (wL 63)):=by
 have T:Txt mg:=⟨PySem.W.mg_none_of X G z0,PySem.W.mg_none_of X G z1,PySem.W.mg_none_of X G z2,PySem.W.mg_none_of X G z3,PySem.W.mg_none_of X G z4,PySem.W.mg_none_of X G z5,PySem.W.mg_none_of X G z6,PySem.W.mg_none_of X G z7,PySem.W.mg_none_of X G z8,PySem.W.mg_none_of X G z9,PySem.W.mg_none_of X G z10,PySem.W.mg_none_of X G z11,PySem.W.mg_none_of X G z12⟩;have TC:Tc K w ⟨c_Open,c_NoTurning,c_NotIn,c_NoText,c_NoFan,c_Full,c_TooMany,c_TooLong,c_NoTable,c_FanError,t_MOST_PLACES⟩:=⟨g_MOST_PLACES,n_Open,n_NoTurning,n_NotIn,n_NoText,n_NoFan,n_Full,n_TooMany,n_TooLong,n_NoTable,n_FanError,e_TooMany,o1_TooMany,o2_TooMany,o3_TooMany,o4_TooMany,o5_TooMany,o6_TooMany,o7_TooMany,o8_TooMany,u1_TooMany_FanError,u2_TooMany_FanError,u3_TooMany_FanError,u4_TooMany_FanError,kt0,kt1,kt2,kt3,kt4⟩
 obtain⟨dl,FL,bl⟩:=D22.G3 X G hfa λ_ _ _ _ _ _ _=>rfl;refine⟨dl,bl,λbase _ _=>?_⟩;have F2:Df K mg _ bP ["table","spread"]:=⟨D2.get X G λ_ _ _ _ _ _=>Ag λ_ _=>rfl⟩
 have kA_spread_behind:=λbase:Heap=>gh (P:=l.prog) (w:=w) (mg:=mg) (base:=base) F2 T;have k_spread_behind:=gh (P:=l.prog) (w:=w) (mg:=mg) (base:=base) F2 T;have F4:Df K mg _ et ["_law_script","_law_k"]:=⟨D4.get X G λ_ _ _ _ _ _=>Ag λ_ _=>rfl⟩
 have k_law_cell_at:=m4 (P:=l.prog) (w:=w) (mg:=mg) (base:=base) F4 T;have F6:Df K mg _ fE ["_law_rest","_law_many"]:=⟨D6.get X G λ_ _ _ _ _ _=>Ag λ_ _=>rfl⟩
 have k_law_digit:=rg (P:=l.prog) (w:=w) (mg:=mg) (base:=base) F6;have F10:Df K mg _ fG ["_law_fractions_here"]:=⟨D10.get X G λ_ _ _ _ _ _=>wq λ_=>rfl⟩
 have k_law_tiles:=qx (P:=l.prog) (w:=w) (mg:=mg) (base:=base) F10 T;have F11:Df K mg _ fq ["_law_fractions_here"]:=⟨D11.get X G λ_ _ _ _ _ _=>wq λ_=>rfl⟩
 have k_law_gaps:=rD (P:=l.prog) (w:=w) (mg:=mg) (base:=base) F11 T;have F13:Df K mg _ dU ["_law_halves","_law_thirds","_law_first"]:=⟨D13.get X G λ_ _ _ _ _ _=>GO λ_ _ _=>rfl⟩
 have k_law_anew:=sM (P:=l.prog) (w:=w) (mg:=mg) (base:=base) F13 T;have F15:Df K mg _ fA ["_law_thing"]:=⟨D15.get X G λ_ _ _ _ _ _=>wq λ_=>rfl⟩
 have k_law_whole:=pW (P:=l.prog) (w:=w) (mg:=mg) (base:=base) F15 T;have F17:Df K mg _ gE ["_law_e"]:=⟨D17.get X G λ_ _ _ _ _ _=>wq λ_=>rfl⟩
 have kh_law_refM:=qr (P:=l.prog) (w:=w) (mg:=mg) (base:=base) F17 T TC;have F19:Df K mg _ fi ["_law_table_here"]:=⟨D19.get X G λ_ _ _ _ _ _=>wq λ_=>rfl⟩
 have k_law_core:=rK (P:=l.prog) (w:=w) (mg:=mg) (base:=base) F19 T;have F5:Df K mg _ iO ["_law_script","_law_at"]:=⟨D5.get X G λ_ _ _ _ _ _=>Ag λ_ _=>rfl⟩
 have k_law_big:=ux (P:=l.prog) (w:=w) (mg:=mg) (base:=base) F5 T k_law_cell_at;have F7:Df K mg _ c8 ["_law_rest","_law_many"]:=⟨D7.get X G λ_ _ _ _ _ _=>Ag λ_ _=>rfl⟩
 have k_law_fractions:=lF (P:=l.prog) (w:=w) (mg:=mg) (base:=base) F7 T k_law_digit;have F8:Df K mg _ eJ ["_law_rest","_law_many"]:=⟨D8.get X G λ_ _ _ _ _ _=>Ag λ_ _=>rfl⟩
 have k_law_marks:=qB (P:=l.prog) (w:=w) (mg:=mg) (base:=base) F8 T k_law_digit;have F12:Df K mg _ fL ["_law_fan_here"]:=⟨D12.get X G λ_ _ _ _ _ _=>wq λ_=>rfl⟩
 have k_law_links:=rh (P:=l.prog) (w:=w) (mg:=mg) (base:=base) F12 T k_law_gaps k_law_tiles;have F16:Df K mg _ cf ["_law_found","_law_due"]:=⟨D16.get X G λ_ _ _ _ _ _=>Ag λ_ _=>rfl⟩
 have k_law_are_places:=jK (P:=l.prog) (w:=w) (mg:=mg) (base:=base) F16 T k_law_whole;have F20:Df K mg _ fB ["_law_rest"]:=⟨D20.get X G λ_ _ _ _ _ _=>wq λ_=>rfl⟩
 have k_law_small:=qD (P:=l.prog) (w:=w) (mg:=mg) (base:=base) F20 T k_law_anew k_law_digit;have F1:Df K mg _ fw ["first","behind"]:=⟨D1.get X G λ_ _ _ _ _ _=>Ag λ_ _=>rfl⟩
 have at_table_led:=F1.at_;have kxA_table_led:=λ(base:Heap) (Pf:Ha->Hp->Addr->Prop) (φ:Fw) (hF:kG l.prog w K mg base 2 Pf φ)=>ou (P:=l.prog) (w:=w) (mg:=mg) (base:=base) F1 T TC hF;have F9:Df K mg _ iH ["_law_rest","_law_most","_law_great"]:=⟨D9.get X G λ_ _ _ _ _ _=>GO λ_ _ _=>rfl⟩
 have k_law_fan:=uI (P:=l.prog) (w:=w) (mg:=mg) (base:=base) F9 k_law_digit k_law_fractions k_law_marks;have F14:Df K mg _ fC ["_law_fan_here"]:=⟨D14.get X G λ_ _ _ _ _ _=>wq λ_=>rfl⟩
 have k_law_table:=pT (P:=l.prog) (w:=w) (mg:=mg) (base:=base) F14 k_law_anew k_law_links;have F3:E3 K mg _ nB ["table"] _:=D3.get X G λ_ _ _ _ _ _=>wq λ_=>rfl
 have kx_core:=zr (P:=l.prog) (w:=w) (mg:=mg) (base:=base) F3 T kxA_table_led at_table_led kA_spread_behind;have F18:Df K mg _ fu ["_law_rest"]:=⟨D18.get X G λ_ _ _ _ _ _=>wq λ_=>rfl⟩
 have k_law_drawC:=qN (P:=l.prog) (w:=w) (mg:=mg) (base:=base) F18 T k_law_anew k_law_digit k_law_fan k_law_table;have F21:Df K mg _ gv ["_law_table_here"]:=⟨D21.get X G λ_ _ _ _ _ _=>wq λ_=>rfl⟩
 have k_law_told:=rQ (P:=l.prog) (w:=w) (mg:=mg) (base:=base) F21 TC kx_core kh_law_refM;exact Ck FL T k_law_are_places k_law_big k_law_core k_law_digit k_law_drawC k_law_small k_law_told
end KR
namespace PySem.W.Fast
theorem tw11605155704721468181:True:=trivial
theorem tw7044656605651338167:True:=trivial
theorem tw15432860284506347694:True:=trivial
theorem tw8571883246667044259:True:=trivial
theorem tw15931001479220630642:True:=trivial
theorem tw1665177483217774064:True:=trivial
theorem tw65946385364043749:True:=trivial
theorem tw1766236130217134386:True:=trivial
theorem tw14898584223399345091:True:=trivial
theorem tw16346905224928704800:True:=trivial
theorem tw5694676700239435710:True:=trivial
theorem tw3954550435251235275:True:=trivial
theorem tw3024149307011640296:True:=trivial
theorem tw10303111703876641846:True:=trivial
theorem tw16268946220495870013:True:=trivial
theorem tw18350231074490506216:True:=trivial
theorem tw15337874268059330842:True:=trivial
theorem tw15484726984788196456:True:=trivial
theorem tw16733352017163199490:True:=trivial
theorem tw10815912382292080976:True:=trivial
theorem tw6760877361949693179:True:=trivial
theorem tw17193054596703008601:True:=trivial
theorem tw14439810451059880823:True:=trivial
theorem tw5311026261268955451:True:=trivial
theorem tw11762343585937569313:True:=trivial
theorem tw17760913116541443106:True:=trivial
theorem tw14070450445233120830:True:=trivial
theorem tw14770772012699710960:True:=trivial
theorem tw9855207808266195543:True:=trivial
theorem tw11386536929770316961:True:=trivial
theorem tw14726530177200723638:True:=trivial
theorem tw12574167808034662434:True:=trivial
theorem tw6421776781700177513:True:=trivial
theorem tw13462258394958321075:True:=trivial
theorem tw1917445687830551063:True:=trivial
theorem tw10621012129906997696:True:=trivial
theorem tw1214647286559058125:True:=trivial
theorem tw8867912910919713718:True:=trivial
theorem tw7673620148377749351:True:=trivial
theorem tw17243767165521258887:True:=trivial
theorem tw8265300729795885506:True:=trivial
theorem tw1528952954431158579:True:=trivial
theorem tw16299826222535528013:True:=trivial
theorem tw10508566057190963436:True:=trivial
theorem tw13395947773831649794:True:=trivial
theorem tw14620719348182527930:True:=trivial
theorem tw8981716830288156354:True:=trivial
theorem tw6264394464074296481:True:=trivial
theorem tw16858464526485673183:True:=trivial
theorem tw15860818918365966747:True:=trivial
theorem tw11831133892058391090:True:=trivial
theorem tw2142222256410652569:True:=trivial
theorem tw15365050652009011843:True:=trivial
theorem tw8616037160731990240:True:=trivial
theorem tw4624494479978462012:True:=trivial
theorem tw16959357335602908322:True:=trivial
theorem tw6632455924930811383:True:=trivial
theorem tw3469212341894787501:True:=trivial
theorem tw13783907234232874684:True:=trivial
theorem tw17372002978042719920:True:=trivial
theorem tw17873294283453138140:True:=trivial
theorem tw3550050350240595261:True:=trivial
theorem tw1202327241417697404:True:=trivial
theorem tw791659159748239931:True:=trivial
theorem tw17308830167034148536:True:=trivial
theorem tw14599982969678320589:True:=trivial
theorem tw15963029873854466358:True:=trivial
theorem tw6353337620709867620:True:=trivial
theorem tw6555822997802578175:True:=trivial
theorem tw8553375333773832054:True:=trivial
theorem tw13927175549081367001:True:=trivial
theorem tw15554598740224733763:True:=trivial
theorem tw1353855055640907501:True:=trivial
theorem tw9390253835161295815:True:=trivial
theorem tw11614201505338450072:True:=trivial
theorem tw11879287238465778097:True:=trivial
theorem tw1777732472830469654:True:=trivial
theorem tw17753963900186480216:True:=trivial
theorem tw14599848561934089645:True:=trivial
end PySem.W.Fast
open PySem PySem.W PyProof.Rows
set_option maxRecDepth 100000 in
set_option maxHeartbeats 0 in
theorem PySem.Challenge.cw_fanglue_k46_cores_holds : PySem.Challenge.rw_fanglue_k46_cores.Holds := by
 w_on;o_law;k_head;(case hw=>w_witness2)
 k_fill
 refine L2.AD (l:=PySem.Challenge.rw_fanglue_k46_cores) (n:=63) (k:=6) (x:="_law_script") (CX:=λ_=>L2.tM) (sp:=λw=>L2.L3.BO _ (L2.L3.wL 63)) rfl (by decide) rfl ⟨rfl,by decide,by decide⟩ (λw=>by kernel_rfl) (λw=>by kernel_rfl) (λw h Y=>PySem.W.km_in_of Y) ?F (λ_ _ a ns hl hS=>L2.L3.Dv hl hS) (λ_ _ _ _ _ z=>z)
 case F =>
  intro w mg fa h KX G hmg
  refine' KR.all_mk KX G hmg ?_ ?_ ?_ ?_ ?_ ?_ ?_ ?_ ?_ ?_ ?_ ?_ ?_ ?_ ?_ ?_ ?_ ?_ ?_ ?_ ?_ ?_ ?_ ?_ ?_ ?_ ?_ ?_ ?_ ?_ ?_ ?_ ?_ ?_ ?_ ?_ ?_ ?_ ?_ ?_ ?_ ?_ ?_ ?_ ?_ ?_ ?_ ?_ ?_ ?_ ?_ ?_ ?_ ?_ ?_ ?_ ?_ ?_ ?_ ?_ ?_ ?_ ?_ ?_
  rotate_left 11
  iterate 21 exact⟨⟨_,_,_,_,_,_,_,_,_,_,by k_is,by k_is,by k_is,by k_is⟩⟩
  exact⟨⟨_,_,_,_,_,_,_,_,_,_,by k_is,by k_is,by k_is,by k_is,L2.L3.EX (by rfl) (by k_is) (by rfl) (by rfl) (by rfl) (by rfl) (by rfl) (by rfl) (by rfl) (by rfl) (by decide) (by kernel_rfl)⟩⟩
  iterate 13 k_is
  iterate 11 (k_is)
  k_exc
  iterate 12 (k_is)
  iterate 5 (kit_is)
