import PyProof.Rows.All
import Wide.All
import OpenK.AllK
import Wide.FinOn
import Lean
import PyProof.EqAt
import PyProof.EqKinds
import PyProof.TupleCall
import PyProof.NeKinds
import PyProof.CompFree
import KE.KIsAll
import OpenK.KOwn
import PyProof.RulesAs
import KE.RegKIsAll
import PyProof.ExcAttrAll.ValueError
import KE.KUnpack
import PyProof.Rows.StrWeight2
import PyProof.StrBlockI
import OpenK.KTop
import PyProof.ListStr
import PyProof.EnumMake
import PyProof.TupleIter
import PyProof.ListRange
import PyProof.PassesOwn
import PyProof.ExcInit
import PyProof.InstStoreFacts
import PyProof.DictFindH
import PyProof.DictIter
import PyProof.DictWalks
import PyProof.DictCompW
import PyProof.DictUpdate
import PyProof.SumWalk
import PyProof.ZipIter
import PyProof.TupleOfStr
import PyProof.FactsAll.range_1
import PySem.Challenge.RW_fanglue_k69_by_rests
set_option Elab.async false
set_option linter.all false
set_option maxRecDepth 100000
open List renaming getElem?_eq_some_iff->EO,getElem?_eq_getElem->ET,getElem?_set_ne->EU,getElem?_set_self->E1,getElem?_map->E2,mem_cons_of_mem->E4,getElem?_append_left->E5,mem_of_getElem?->E6,getElem?_append_right->E8,mem_cons_self->Fc,size_toArray->Fd,mem_cons->Fe,length_map->Ff,getElem?_eq_none->Fg,mem_singleton->Fi,mem_map->Fj,map_cons->Fm,getD_eq_getElem?_getD->Fn,getElem?_cons_succ->Fq,getElem?_cons_zero->Fs,length_append->Ft,mem_append_right->Fx,mem_append->Fy,append_nil->Fz,length_cons->FA,getElem?_replicate->FE,mem_range->FG,not_mem_nil->FH,getElem?_of_mem->FI,length_nil->FN,mem_append_left->FO,drop_eq_nil_of_le->FP,drop_eq_getElem_cons->FR,nodup_cons->FT,getElem_mem->FZ,getElem?_range->Ga,take_succ->Gd,take_of_length_le->Ge,nodup_append->Gf
open PySem renaming wpAny_bind->ER,wpAny_pure->EW,sizeLine_eq->Fb,wpAny_mono->Fo,foldedSetIterable->FD,wpAny_callSpecial?_slot->Gg
open PySem.W renaming Frag->ES,mg_of->FW
open Bool renaming false_eq_true->EV,and_true->Gi
open Nat renaming lt_of_lt_of_le->EY,le_refl->E3,ne_of_lt->Fp,zero_le->FC,lt_succ_iff_lt_or_eq->FK,lt_or_ge->FQ,not_lt_zero->FU,le_trans->FV,le_of_lt->Gb
open PySem.Heap renaming get?_push_of_some->EZ,lt_size->E7,get?_push_size->Fh
open Option.some renaming inj->E9
open PySem.PassesOwn renaming never->Fu
open Option renaming map_eq_some_iff->Fv
open Array renaming getElem?_eq_some_iff->FJ,getElem?_toList->FY
open PySem.Calls renaming spliced_cons->FX
open Prod renaming ext->Gh
namespace L2
open PySem PySem.Spec PyProof.Rows
abbrev Key:=Sum Int Str
def oZ:Key->Value->Bool
 | .inl k,v=>Value.isInt k v
 | .inr x,v=>Value.isStrOf x v
def DL (w:World):Key->Int
 | .inl k=>hashInt k
 | .inr x=>hashStr w x
theorem bF:∀{k:Key} {v:Value},oZ k v=true->(∃i t,k=Sum.inl i/\v=Value.int i t)\/(∃x t,k=Sum.inr x/\v=Value.str x t)
 | .inl i,v,h=>by
  obtain⟨t,e⟩:=Value.isInt_shape (k:=i) (v:=v) h
  exact .inl ⟨i,t,rfl,e⟩
 | .inr x,v,h=>by
  obtain⟨t,e⟩:=Value.isStrOf_shape (x:=x) (v:=v) h;exact .inr ⟨x,t,rfl,e⟩
theorem oC (i:Int) (t:Tok):oZ (.inl i) (.int i t)=true:=by simp [oZ,Value.isInt]
theorem uV (x:Str) (t:Tok):oZ (.inr x) (.str x t)=true:=by simp [oZ,Value.isStrOf]
theorem AW (a b:Int):decide ((Sum.inl a:Key)=Sum.inl b)=(a == b):=by
 by_cases e:a=b
 ·subst e;simp
 ·have h:¬ (Sum.inl a:Key)=Sum.inl b:=λq=>e (Sum.inl.inj q);rw [decide_eq_false h];exact (beq_eq_false_iff_ne.mpr e).symm
theorem AG (a b:Str):decide ((Sum.inr a:Key)=Sum.inr b)=decide (a=b):=by
 by_cases e:a=b
 ·subst e;simp
 ·have h:¬ (Sum.inr a:Key)=Sum.inr b:=λq=>e (Sum.inr.inj q);rw [decide_eq_false h,decide_eq_false e]
theorem Bb (a:Int) (b:Str):decide ((Sum.inl a:Key)=Sum.inr b)=false:=decide_eq_false (λq=>nomatch q)
theorem Bq (a:Str) (b:Int):decide ((Sum.inr a:Key)=Sum.inl b)=false:=decide_eq_false (λq=>nomatch q)
def bD (prog:Program) (w:World):PySem.KeyKind prog w Key where
 is:=oZ
 hash:=DL w
 inj:=λv a b ha hb=>by
  rcases bF ha with ⟨i,t,rfl,rfl⟩|⟨x,t,rfl,rfl⟩
  ·rcases bF hb with ⟨j,u,rfl,e⟩|⟨y,u,rfl,e⟩
   ·injection e with e1 _;rw [e1]
   ·exact nomatch e
  ·rcases bF hb with ⟨j,u,rfl,e⟩|⟨y,u,rfl,e⟩
   ·exact nomatch e
   ·injection e with e1 _;rw [e1]
 byValue:=λk v h=>by
  rcases bF h with ⟨i,t,rfl,rfl⟩|⟨x,t,rfl,rfl⟩ <;> rfl
 pyHash:=λhv h=>by
  rcases bF hv with ⟨i,t,rfl,rfl⟩|⟨x,t,rfl,rfl⟩
  ·exact wpAny_pyHash_int h
  ·exact wpAny_pyHash_str h
 eqBool:=λhu hv h=>by
  rcases bF hu with ⟨i,t,rfl,rfl⟩|⟨x,t,rfl,rfl⟩
  ·rcases bF hv with ⟨j,u,rfl,rfl⟩|⟨y,u,rfl,rfl⟩
   ·rw [AW] at h;exact wpAny_eqBool_int h
   ·rw [Bb] at h;exact SeqAt.EqAt.int_str i t y u _ _ _ _ h
  ·rcases bF hv with ⟨j,u,rfl,rfl⟩|⟨y,u,rfl,rfl⟩
   ·rw [Bq] at h;exact SeqAt.EqAt.str_int x t j u _ _ _ _ h
   ·rw [AG] at h;exact wpAny_eqBool_str h
 «strs»:=λk x t v h=>by
  rcases bF h with ⟨i,u,rfl,e⟩|⟨y,u,rfl,e⟩
  ·exact nomatch e
  ·injection e with e1 _
   subst e1;cases v <;> rfl
theorem qQ (prog:Program) (w:World) (i:Int) (t:Tok):(bD prog w).is (.inl i) (.int i t)=true:=oC i t
theorem rL (prog:Program) (w:World) (x:Str) (t:Tok):(bD prog w).is (.inr x) (.str x t)=true:=uV x t
inductive V where
 | non|bl (b:Bool)|int (i:Int)|str (x:Str)|byt (b:Array UInt8)|flt (b:UInt64)|ref (a:Addr)|ty (n:String)
 deriving DecidableEq
def RelV:V->Value->Prop
 | .non,u=>u=Value.none
 | .bl b,u=>u=Value.bool b
 | .int i,u=>∃t,u=Value.int i t
 | .str x,u=>∃t,u=Value.str x t
 | .byt b,u=>∃t,u=Value.bytes b t
 | .flt b,u=>∃t,u=Value.float b t
 | .ref a,u=>u=Value.ref a
 | .ty n,u=>u=Value.type n
abbrev Vals:List V->List Value->Prop:=Paired RelV
theorem Vals.length {xs:List V} {us:List Value} (r:Vals xs us):xs.length=us.length:=Paired.length r
theorem Vals.get:∀{xs:List V} {us:List Value} {i:Nat} {x:V},Vals xs us->xs[i]?=some x->∃u,us[i]?=some u/\RelV x u
 | _,_,_,_,.nil,e=>by simp at e
 | _,_,0,_,.cons r _,e=>by simp at e;subst e;exact⟨_,rfl,r⟩
 | _,_,i + 1,x,.cons _ t,e=>by
  obtain⟨u,h1,h2⟩:=Vals.get (i:=i) (x:=x) t (by simpa using e);exact⟨u,by simpa using h1,h2⟩
theorem Vals.append:∀{xs ys:List V} {us ws:List Value},Vals xs us->Vals ys ws->Vals (xs ++ ys) (us ++ ws)
 | _,_,_,_,.nil,s=>s
 | _,_,_,_,.cons r t,s=>.cons r (Vals.append t s)
def r8:Option V->Option Value->Prop
 | some v,some u=>RelV v u
 | none,none=>True
 | _,_=>False
def KV {κ:Type}:List (κ×V)->List (κ×Value)->Prop:=Paired λ(p:κ×V) (q:κ×Value)=>p.1=q.1/\RelV p.2 q.2
def kV:Key->V
 | .inl i=>.int i
 | .inr x=>.str x
inductive HO where
 | lst (xs:List V)
 | tup (xs:List V)
 | dK (kvs:List (Key×V))|dT (kvs:List (List Key×V))
 | set (S:Int->Bool) (n:Nat)
 | ins (C dx:Addr) (fs:List (Str×V))
 | own (x:Addr)
 | xd (fs:List (Str×V))
 | met (f x:Addr)
 | rng (lo hi:Int)
 | frz (o:Obj) (u:HO)
 | oG (q:Str)
 | cdr (c:Addr) (q:Str)
 | ext (φ:Heap->Prop)
abbrev Hp:=Addr->Option HO
def upd (H:Hp) (a:Addr) (o:HO):Hp:=λb=>if b=a then some o else H b
theorem av {H:Hp} {a:Addr} {o:HO}:upd H a o a=some o:=by unfold upd;rw [if_pos rfl]
theorem au {H:Hp} {a b:Addr} {o:HO} (h:b≠a):upd H a o b=H b:=by unfold upd;rw [if_neg h]
theorem a0 {H:Hp} {a b:Addr} {o:HO} (h:H a=some o) (h':H b=none):a≠b:=by
 intro e;subst e;rw [h] at h';cases h'
def tL (h:Heap) (a:Addr) (its:Array Value):Prop:=∃o,h.get? a=some o/\o.cls=.type "tuple"/\(∃n,o.data=.seq its n)/\o.dict=none
theorem tL.tup {h:Heap} {a:Addr} {its:Array Value} (x:tL h a its):IsTup h a its:=let ⟨o,e,c,d,_⟩:=x;⟨o,e,c,d⟩
theorem tL.new (h:Heap) (its:Array Value):tL (h.push { cls:=.type "tuple",data:=.seq its }) h.objs.size its:=⟨_,Fh _ rfl,rfl,⟨_,rfl⟩,rfl⟩
section
variable (P:Program) (w:World)
def bo (H:Hp) (h:Heap) (a:Addr):HO->Prop
 | .lst xs=>xs.length<=sizeLine/\∃(its:List Value) (n:Nat),Vals xs its/\h.get? a=some { cls:=.type "list",data:=.seq its.toArray n }
 | .tup xs=>xs.length<=sizeLine/\∃its:List Value,Vals xs its/\tL h a its.toArray
 | .dK kvs=>kvs.length<=sizeLine/\(a == sysModules)=false/\∃vs,KV kvs vs/\h.DictOf (bD P w) a vs
 | .dT kvs=>kvs.length<=sizeLine/\(a == sysModules)=false/\∃xs:List (List Key×Addr×Value),
   Paired (λ(p:List Key×V) (q:List Key×Addr×Value)=>p.1=q.1/\H q.2.1=some (.tup (p.1.map kV))/\RelV p.2 q.2.2) kvs xs /\
   ∃o es ep,h.get? a=some o/\o.ExactDict/\o.data=.dict es ep/\es.toList=xs.map (entryOfKey (tupleKind (bD P w)))/\(xs.map (·.1)).Nodup
 | .set S n=>h.SetOf (intKind P w) a S n
 | .ins C dx fs=>H dx=some (.own a)/\fs.length<=1000/\dx≠a/\h.get? a=some (PySem.W.instObj C dx) /\
   ∃mA,h.Ns1 dx mA/\(∀f,r8 (fs.lookup f) (mA f))/\PySem.Within mA (fs.map (·.1))
 | .own _=>∃o,h.get? a=some o
 | .xd fs=>∃mA,h.Ns1 a mA/\∀f,r8 (fs.lookup f) (mA f)
 | .rng lo hi=>∃t u v,h.get? a=some { cls:=.type "range",data:=.fields #[.int lo t,.int hi u,.int 1 v] }
 | .frz o u=>h.get? a=some o/\bo H h a u
 | .oG q=>∃ps:Array Value,h.get? a=some { cls:=.none,data:=.fields ps }/\TriplesOk ps.toList/\∀pos cv,codeAmong pos ps.toList=some cv->∃c oc vs t,cv=.ref c/\H c=some (.frz oc (.own c))/\oc.data=.fields vs/\vs[1]?=some (.str q t)
 | .cdr c q=>(∃o,h.get? a=some o)/\∃oc vs t,H c=some (.frz oc (.own c))/\oc.data=.fields vs/\vs[1]?=some (.str q t)
 | .met f x=>h.get? a=some (PySem.W.methodObj (.ref f) (.ref x))
 | .ext φ=>φ h/\(∃o,h.get? a=some o)/\∀h1 h2:Heap,φ h1->(∀o,h1.get? a=some o->h2.get? a=some o)->φ h2
def iC (H:Hp) (h:Heap):Prop:=∀a o,H a=some o->bo P w H h a o
end
section
variable {P:Program} {w:World} {H H':Hp} {h h':Heap} {a:Addr} {o:HO}
theorem bo.lt (x:bo P w H h a o):a < h.objs.size:=by
 cases o with
 | lst xs=>obtain⟨_,_,_,_,e⟩:=x;exact E7 e
 | tup xs=>obtain⟨_,_,_,p⟩:=x;exact p.tup.lt
 | dK kvs=>obtain⟨_,_,_,_,o,_,_,e,_⟩:=x;exact E7 e
 | dT kvs=>obtain⟨_,_,_,_,o,_,_,e,_⟩:=x;exact E7 e
 | set S n=>obtain⟨o,_,_,_,e,_⟩:=x;exact E7 e
 | ins C dx fs=>obtain⟨_,_,_,e,_⟩:=x;exact E7 e
 | own y=>obtain⟨_,e⟩:=x;exact E7 e
 | xd fs=>obtain⟨_,⟨_,_,_,e,_⟩,_⟩:=x;exact E7 e
 | rng lo hi=>obtain⟨_,_,_,e⟩:=x;exact E7 e
 | frz ob u=>obtain⟨e,_⟩:=x;exact E7 e
 | oG q=>obtain⟨_,e,_⟩:=x;exact E7 e
 | cdr c q=>obtain⟨⟨_,e⟩,_⟩:=x;exact E7 e
 | met f y=>exact E7 (show h.get? a=some _ from x)
 | ext φ=>obtain⟨_,⟨_,e⟩,_⟩:=x;exact E7 e
theorem Paired.B0 {α β:Type} {F G:α->β->Prop}:∀{l₁:List α} {l₂:List β},Paired F l₁ l₂->(∀a b,F a b->G a b)->Paired G l₁ l₂
 | _,_,.nil,_=>.nil
 | _,_,.cons r t,f=>.cons (f _ _ r) (Paired.B0 t f)
theorem bo.mJ (x:bo P w H h a o) (k:∀b u,(b=a\/H b=some (.own a))->h.get? b=some u->h'.get? b=some u)
  (ho:∀b,H b=some (.own a)->H' b=some (.own a)) (ht:∀b xs,H b=some (.tup xs)->H' b=some (.tup xs)) (hz:∀b o u,H b=some (.frz o u)->H' b=some (.frz o u)):bo P w H' h' a o:=by
 induction o with
 | lst xs=>obtain⟨z,its,n,r,e⟩:=x;exact⟨z,its,n,r,k _ _ (.inl rfl) e⟩
 | tup xs=>obtain⟨z,its,r,ob,e,c⟩:=x;exact⟨z,its,r,ob,k _ _ (.inl rfl) e,c⟩
 | dK kvs=>obtain⟨z,y,vs,r,ob,es,ep,e,c⟩:=x;exact⟨z,y,vs,r,ob,es,ep,k _ _ (.inl rfl) e,c⟩
 | dT kvs =>
  obtain⟨z,y,xs,r,ob,es,ep,e,c⟩:=x
  exact⟨z,y,xs,Paired.B0 r λp q z=>⟨z.1,ht _ _ z.2.1,z.2.2⟩,ob,es,ep,k _ _ (.inl rfl) e,c⟩
 | set S n=>obtain⟨ob,es,ep,t,e,c⟩:=x;exact⟨ob,es,ep,t,k _ _ (.inl rfl) e,c⟩
 | ins C dx fs =>
  obtain⟨d,z,ne,e,mA,⟨od,es,ep,e2,c⟩,r⟩:=x
  exact⟨ho _ d,z,ne,k _ _ (.inl rfl) e,mA,⟨od,es,ep,k _ _ (.inr d) e2,c⟩,r⟩
 | own y=>obtain⟨ob,e⟩:=x;exact⟨ob,k _ _ (.inl rfl) e⟩
 | xd fs=>obtain⟨mA,⟨od,es,ep,e,c⟩,r⟩:=x;exact⟨mA,⟨od,es,ep,k _ _ (.inl rfl) e,c⟩,r⟩
 | rng lo hi=>obtain⟨t,u,v,e⟩:=x;exact⟨t,u,v,k _ _ (.inl rfl) e⟩
 | frz ob u ih=>obtain⟨e,q⟩:=x;exact⟨k _ _ (.inl rfl) e,ih q⟩
 | oG q =>
  obtain⟨ps,e,t,r⟩:=x;refine⟨ps,k _ _ (.inl rfl) e,t,λpos cv hc=>?_⟩;obtain⟨c,oc,vs,tt,e1,e2,e3⟩:=r pos cv hc
  exact⟨c,oc,vs,tt,e1,hz _ _ _ e2,e3⟩
 | cdr c q =>
  obtain⟨⟨o,e⟩,oc,vs,t,r1,r2⟩:=x
  exact⟨⟨o,k _ _ (.inl rfl) e⟩,oc,vs,t,hz _ _ _ r1,r2⟩
 | met f y =>
  have e:h.get? a=some (PySem.W.methodObj (.ref f) (.ref y)):=x;show h'.get? a=some (PySem.W.methodObj (.ref f) (.ref y))
  exact k a _ (.inl rfl) e
 | ext φ=>obtain⟨p,⟨o,e⟩,st⟩:=x;exact⟨st _ _ p λo q=>k _ _ (.inl rfl) q,⟨o,k _ _ (.inl rfl) e⟩,st⟩
theorem iC.lt (x:iC P w H h) (e:H a=some o):a < h.objs.size:=(x a o e).lt
theorem iC.fresh (x:iC P w H h) (e:h.objs.size<=a):H a=none:=by
 cases q:H a with
 | none=>rfl
 | some u=>exact absurd (EY (x.lt q) e) (Nat.lt_irrefl _)
theorem iC.kept (x:iC P w H h) (k:∀b u,h.get? b=some u->h'.get? b=some u):iC P w H h':=λa o e =>
 (x a o e).mJ (λb u _ q=>k b u q) (λ_ q=>q) (λ_ _ q=>q) λ_ _ _ q=>q
theorem iC.laid (x:iC P w H h) (k:∀b u,h.get? b=some u->h'.get? b=some u) (hp:h.objs.size<=a) (new:bo P w (upd H a o) h' a o):iC P w (upd H a o) h':=λb u e=>by
 have hn:=x.fresh hp
 by_cases hb:b=a
 ·subst hb;rw [av] at e;cases e;exact new
 ·rw [au hb] at e;exact (x b u e).mJ (λc v _ q=>k c v q) (λc q=>by rw [au (a0 q hn)];exact q) (λc xs q=>by rw [au (a0 q hn)];exact q) λc o xs q=>by rw [au (a0 q hn)];exact q
end
def Rd (H:Hp) (a:Addr) (u:HO):Prop:=H a=some u\/∃o,H a=some (.frz o u)
theorem Rd.ok {P:Program} {w:World} {H:Hp} {h:Heap} {a:Addr} {u:HO} (r:Rd H a u) (x:iC P w H h):bo P w H h a u:=by
 rcases r with r|⟨o,r⟩
 ·exact x a u r
 ·obtain⟨_,q⟩:=x a _ r;exact q
def C8:Option HO->Prop
 | some (.lst _)=>True
 | some (.dK _)=>True
 | some (.dT _)=>True
 | some (.set _ _)=>True
 | some (.ins _ _ _)=>True
 | some (.ext _)=>True
 | _=>False
section
variable {P:Program} {w:World} {H:Hp} {h h':Heap} {x e:Addr} {o':HO}
theorem iC.write (ok:iC P w H h) (mu:C8 (H x)) (he:e=x\/H e=some (.own x)) (k:∀b u,b≠e->h.get? b=some u->h'.get? b=some u) (heo:∃u,h'.get? e=some u)
  (new:bo P w (upd H x o') h' x o'):iC P w (upd H x o') h':=λb u q=>by
 have nown:∀c y,H c=some (.own y)->c≠x:=λc y r z=>by subst z;rw [r] at mu;exact mu
 have ntup:∀c xs,H c=some (.tup xs)->c≠x:=λc xs r z=>by subst z;rw [r] at mu;exact mu
 have nfrz:∀c o xs,H c=some (.frz o xs)->c≠x:=λc o xs r z=>by subst z;rw [r] at mu;exact mu
 by_cases hb:b=x
 ·subst hb;rw [av] at q;cases q;exact new
 ·rw [au hb] at q
  by_cases hbe:b=e
  ·have q':H b=some (.own x):=by
    rcases he with z|z
    ·exact absurd (hbe.trans z) hb
    ·rw [hbe];exact z
   rw [q] at q';cases q';obtain⟨v,hv⟩:=heo;exact⟨v,by rw [hbe];exact hv⟩
  ·refine (ok b u q).mJ (λc v hc r=>k c v ?_ r) (λc r=>by rw [au (nown c b r)];exact r) (λc xs r=>by rw [au (ntup c xs r)];exact r) λc o xs r=>by rw [au (nfrz c o xs r)];exact r
   rcases hc with rfl|hc
   ·exact hbe
   ·rintro rfl;rcases he with z|z
    ·exact nown c b hc z
    ·rw [hc] at z;cases z;exact hb rfl
end
structure Un (fs ex:List Addr) (H H':Hp) (h h':Heap):Prop where
 keep:∀b o,h.get? b=some o->H b=none->b∉fs->b∉ex->h'.get? b=some o
 slot:∀b o,h.get? b=some o->H b=none->b∈fs->b∉ex->∃sl,h'.get? b=some { o with slots:=sl }
 free:∀b o,h.get? b=some o->H b=none->b∉ex->H' b=none
 there:∀b o,h.get? b=some o->b∉ex->∃o',h'.get? b=some o'
 i4:∀b xs,H b=some (.tup xs)->H' b=some (.tup xs)
 frzs:∀b o u,H b=some (.frz o u)->H' b=some (.frz o u)
 tbls:∀b q,H b=some (.oG q)->H' b=some (.oG q)
section
variable {fs fs' ex ex':List Addr} {H H1 H2:Hp} {h h1 h2 h':Heap} {a x e:Addr} {o:HO}
theorem Un.any (u:Un fs ex H H1 h h1) {b:Addr} {ob:Obj} (q:h.get? b=some ob) (n:H b=none) (hx:b∉ex):∃sl,h1.get? b=some { ob with slots:=sl }:=by
 by_cases hb:b∈fs
 ·exact u.slot b ob q n hb hx
 ·exact⟨ob.slots,u.keep b ob q n hb hx⟩
theorem Un.kept (k:∀b u,h.get? b=some u->h'.get? b=some u):Un fs ex H H h h' :=
 ⟨λb ob q _ _ _=>k b ob q,λb ob q _ _ _=>⟨ob.slots,k b ob q⟩,λ_ _ _ n _=>n,λb ob q _=>⟨ob,k b ob q⟩,λ_ _ q=>q,λ_ _ _ q=>q,λ_ _ q=>q⟩
theorem Un.refl:Un fs ex H H h h:=Un.kept λ_ _ q=>q
theorem Un.laid (k:∀b u,h.get? b=some u->h'.get? b=some u) (hp:h.objs.size<=a) (hn:H a=none):Un fs ex H (upd H a o) h h' where
 keep:=λb u q _ _ _=>k b u q
 slot:=λb u q _ _ _=>⟨u.slots,k b u q⟩
 free:=λb u q n _=>by rw [au (Fp (EY (E7 q) hp))];exact n
 there:=λb u q _=>⟨u,k b u q⟩
 i4:=λb xs q=>by rw [au (a0 q hn)];exact q
 frzs:=λb u xs q=>by rw [au (a0 q hn)];exact q
 tbls:=λb ps q=>by rw [au (a0 q hn)];exact q
theorem Un.write (mu:C8 (H x)) (he:e=x\/H e=some (.own x)) (k:∀b u,b≠e->h.get? b=some u->h'.get? b=some u) (heo:∃u,h'.get? e=some u):Un fs ex H (upd H x o) h h':=by
 have hx:∀b,H b=none->b≠x:=λb n z=>by subst z;rw [n] at mu;exact mu
 have hb:∀b,H b=none->b≠e:=λb n z=>by
  subst z;rcases he with r|r
  ·exact hx b n r
  ·rw [n] at r;cases r
 have hm:∀b u,H b=some u->¬ C8 (some u)->b≠x:=λb u q nm z=>by subst z;rw [q] at mu;exact nm mu
 refine⟨λb u q n _ _=>k b u (hb b n) q,λb u q n _ _=>⟨u.slots,k b u (hb b n) q⟩,λb u q n _=>by rw [au (hx b n)];exact n,λb u q _=>?_,
  λb xs q=>by rw [au (hm b _ q λz=>z)];exact q,λb u xs q=>by rw [au (hm b _ q λz=>z)];exact q,λb ps q=>by rw [au (hm b _ q λz=>z)];exact q⟩
 by_cases hbe:b=e
 ·subst hbe;exact heo
 ·exact⟨u,k b u hbe q⟩
end
def zV (h:Heap) (H:Hp):List Addr:=(List.range h.objs.size).filter λa=>(H a).isSome
def qf (h:Heap) (H:Hp):Heap:=PySem.W.hideAll h (zV h H)
theorem uO (h:Heap) (H:Hp):(qf h H).objs.size=h.objs.size:=PySem.W.hideAll_size _ _
theorem wu {h:Heap} {H:Hp} {b:Addr} {o:Obj} (e:h.get? b=some o) (n:H b=none):(qf h H).get? b=some o :=
 PySem.W.hideAll_get _ e λhm=>by
  have q:(H b).isSome=true:=(List.mem_filter.mp hm).2;rw [n] at q;simp at q
theorem zb {h:Heap} {H:Hp} {b:Addr} {o:Obj} (e:(qf h H).get? b=some o):h.get? b=some o/\H b=none:=by
 have e':h.get? b=some o:=PySem.W.of_hideAll (zV h H) e;refine⟨e',?_⟩
 cases q:H b with
 | none=>rfl
 | some x =>
  have hm:b∈zV h H:=List.mem_filter.mpr ⟨FG.mpr (E7 e'),by simp [q]⟩;have z:(qf h H).get? b=none:=PySem.W.hideAll_none (zV h H) hm;rw [z] at e;cases e
structure Mod (K:ES) (mg:Str->Option Value) (base:Heap):Prop where
 kin:K.In base
 glob:base.Ns mainGlobals mg
 blt:∃mb,base.Ns builtinsNs mb/\∀x:Str,x≠"__name__"->mb x=bootBuiltins x
 nolimit:base.NoLimit
 bm:∃bm ob,mg "__builtins__" = some (.ref bm)/\bm≠builtinsNs/\base.get? bm=some ob/\ob.cls=.type "module"/\ob.dict=some builtinsNs/\ob.data=.plain
structure Cx where
 prog:Program
 w:World
 K:ES
 mg:Str->Option Value
 base:Heap
 A:Around
 N:List Str
 s₀:Shared
 H₀:Hp
 env:Env
 outer:List Env
 stack:List Env
 ex:List Addr
 fn:Str->Bool
 calm:Bool
 pn:List (Addr×Obj)
 xe:Value->Shared->Prop
def ji (l:List Env):List Addr:=l.filterMap (·.frame)
abbrev Cx.fs (X:Cx):List Addr:=ji X.outer
def jq:List (Str×Str):=[("meet","meet.<locals>.<lambda>"),("core","core.<locals>.<lambda>"),("by_rests","by_rests.<locals>.behind")]
def tq (K:ES) (b:Addr):Option Str:=(jq.find? λp=>match PySem.W.tabIn K p.1 with|some (_,P)=>P == b|none=>false).map (·.2)
def ya (K:ES) (H:Hp):Prop:=∀b q,tq K b=some q->H b=some (.oG q)
def u9 (sc:Scope) (x:Str):Prop:=sc.names.lookup x=some .local\/sc.names.lookup x=some .cell\/sc.names.lookup x=some .free
def Loc (sc:Scope) (x:Str):Prop:=sc.names.lookup x=some .local\/sc.names.lookup x=some .cell
def Look (env:Env) (h:Heap) (m:Str->Option Value) (x:Str) (u:Value):Prop :=
 (env.kindOf x=some .local/\m x=some u)\/((env.kindOf x=some .cell\/env.kindOf x=some .free)/\∃c,env.cells.lookup x=some c/\h.IsCell c (some u))
structure Cx.Ok (X:Cx):Prop where
 mod:Mod X.K X.mg X.base
 kind:X.env.scope.kind=.function
 glob:X.env.globals=mainGlobals
 blt:X.env.builtins=builtinsNs
 above:X.s₀.heap.objs.size<=X.env.locals
 inj:∀x y c,X.env.cells.lookup x=some c->X.env.cells.lookup y=some c->x=y
 has:∀x,(X.env.kindOf x=some .cell\/X.env.kindOf x=some .free)->∃c,X.env.cells.lookup x=some c
 cab:∀x c,X.fn x=true->X.env.cells.lookup x=some c->X.s₀.heap.objs.size<=c
 hd:X.calm=true->X.A.handled=none
 frames:X.A.frames=some X.stack
 stk:X.stack=X.outer\/(X.stack=X.env :: X.outer/\X.env.frame=some X.env.locals)
 exf:∀b∈X.ex,b≠X.env.locals/\∀x c,X.env.cells.lookup x=some c->c≠b
 bs:∀b o,X.base.get? b=some o->X.s₀.heap.get? b=some o/\X.H₀ b=none
 bsz:X.base.objs.size<=X.s₀.heap.objs.size
 noex:∀b o,X.base.get? b=some o->b∉X.ex
 exfs:∀b∈X.ex,b∉X.fs
 iI:X.s₀.heap.FunFrames X.base X.outer
 frf:(∀b∈X.fs,X.H₀ b=none)/\ya X.K X.H₀
structure Inv (X:Cx) (pins:List (Addr×Obj)) (σ:List (Option V)) (H:Hp) (s:Shared):Prop where
 ok:X.Ok
 os:s.os=X.s₀.os
 bare:AllBare s.gens
 base:Un X.fs X.ex X.H₀ H X.s₀.heap s.heap
 loc:∃m,s.heap.Ns X.env.locals m/\∀(i:Nat) (x:Str) (v:V),X.N[i]?=some x->σ[i]?=some (some v)->u9 X.env.scope x->∃u,RelV v u/\Look X.env s.heap m x u
 cell:∀x c,X.env.cells.lookup x=some c->∃v,s.heap.IsCell c v
 free:H X.env.locals=none
 freeC:∀x c,X.env.cells.lookup x=some c->H c=none
 pin:∀p∈X.pn ++ pins,s.heap.get? p.1=some p.2/\H p.1=none/\p.1≠X.env.locals/\p.1∉X.fs/\∀v,p.2.data≠.cell v
 hok:iC X.prog X.w H s.heap
 len:σ.length=X.N.length
section
variable {X:Cx} {pins:List (Addr×Obj)} {σ:List (Option V)} {H H':Hp} {s:Shared} {h':Heap}
theorem Cx.Ok.Dx (ok:X.Ok) {b:Addr} {o:Obj} (e:X.base.get? b=some o):b∉X.fs:=λhb=>by
 have:=(ok.iI.mem hb).1;rw [e] at this;cases this
theorem Inv.bs (I:Inv X pins σ H s):∀b o,X.base.get? b=some o->s.heap.get? b=some o/\H b=none:=λb o e =>
 ⟨I.base.keep b o (I.ok.bs b o e).1 (I.ok.bs b o e).2 (I.ok.Dx e) (I.ok.noex b o e),I.base.free b o (I.ok.bs b o e).1 (I.ok.bs b o e).2 (I.ok.noex b o e)⟩
theorem Inv.bk (I:Inv X pins σ H s):∀b o,X.base.get? b=some o->s.heap.get? b=some o:=λb o e=>(I.bs b o e).1
theorem Inv.mod (I:Inv X pins σ H s):Mod X.K X.mg X.base:=I.ok.mod
theorem Inv.nI (I:Inv X pins σ H s):X.K.In s.heap:=I.ok.mod.kin.keeps I.bk
theorem Inv.lt (I:Inv X pins σ H s):X.env.locals < s.heap.objs.size:=let ⟨_,hn,_⟩:=I.loc;hn.lt
theorem Inv.sz (I:Inv X pins σ H s):X.s₀.heap.objs.size<=s.heap.objs.size:=FV I.ok.above (Gb I.lt)
theorem Inv.Dp (I:Inv X pins σ H s) {a:Addr} (h:s.heap.objs.size<=a):a∉X.fs:=λhb=>by
 obtain⟨_,o,ho,_⟩:=I.ok.iI.mem hb;exact absurd (EY (E7 ho) (FV I.sz h)) (Nat.lt_irrefl _)
theorem Inv.y3 (I:Inv X pins σ H s):∀x c,X.env.cells.lookup x=some c->c≠X.env.locals:=λx c e z=>by
 obtain⟨v,o,ho,hd⟩:=I.cell x c e;obtain⟨m,⟨o',es,ep,ho',hd',_⟩,_⟩:=I.loc;rw [z,ho'] at ho;cases ho;rw [hd'] at hd;cases hd
theorem Inv.iI (I:Inv X pins σ H s):s.heap.FunFrames X.base X.outer:=by
 have all:∀(l:List Env),(∀b∈ji l,b∈X.fs)->X.s₀.heap.FunFrames X.base l->s.heap.FunFrames X.base l:=by
  intro l
  induction l with
  | nil=>intro _ _;trivial
  | cons env r ih =>
   intro hs hl;obtain⟨hk,⟨L,o,hf,hn,ho,hd⟩,hr⟩:=hl;have hL:L∈X.fs:=hs L (by unfold ji;rw [List.filterMap_cons,hf];exact Fc);obtain⟨sl,e⟩:=I.base.slot L o ho (I.ok.frf.1 L hL) hL λz=>I.ok.exfs L z hL;exact⟨hk,⟨L,_,hf,hn,e,hd⟩,ih (λb hb=>hs b (by unfold ji;rw [List.filterMap_cons,hf];exact E4 _ hb)) hr⟩
 exact all X.outer (λ_ hb=>hb) I.ok.iI
theorem Inv.stack (I:Inv X pins σ H s):s.heap.FunFrames X.base X.stack:=by
 rcases I.ok.stk with e|⟨e,hf⟩
 ·rw [e];exact I.iI
 ·rw [e];obtain⟨m,hn,_⟩:=I.loc;refine .cons (by rw [I.ok.kind];decide) hf hn ?_ I.iI;exact Heap.get?_none_of_le (FV I.ok.bsz I.ok.above)
theorem Inv.kE (I:Inv X pins σ H s):∀b∈ji X.stack,b∈X.env.locals :: X.fs:=λb hb=>by
 rcases I.ok.stk with e|⟨e,hf⟩
 ·rw [e] at hb;exact E4 _ hb
 ·rw [e] at hb;unfold ji at hb;rw [List.filterMap_cons,hf] at hb;exact hb
theorem Inv.lQ (I:Inv X pins σ H s):∀b∈ji X.stack,H b=none:=λb hb=>by
 rcases Fe.mp (I.kE b hb) with e|hb
 ·rw [e];exact I.free
 ·obtain⟨_,o,ho,_⟩:=I.ok.iI.mem hb;exact I.base.free b o ho (I.ok.frf.1 b hb) λz=>I.ok.exfs b z hb
theorem Inv.tb (I:Inv X pins σ H s):ya X.K H:=λb q e=>I.base.tbls b q (I.ok.frf.2 b q e)
theorem Inv.step {g':Array GenState} {t':Nat} {d':Drawn} {ch:List Addr} (I:Inv X pins σ H s)
  (hch:∀b∈ch,(b∈X.ex\/X.s₀.heap.objs.size<=b)/\b≠X.env.locals/\(∀x c,X.env.cells.lookup x=some c->c≠b)/\∀p∈X.pn ++ pins,p.1≠b)
  (keep:∀b o,b≠X.env.locals->b∉X.fs->b∉ch->s.heap.get? b=some o->H b=none->h'.get? b=some o)
  (slot:∀b o,b≠X.env.locals->b∈X.fs->b∉ch->s.heap.get? b=some o->H b=none->∃sl,h'.get? b=some { o with slots:=sl }) (free:∀b o,b∉ch->s.heap.get? b=some o->H b=none->H' b=none)
  (there:∀b o,b∉ch->s.heap.get? b=some o->∃o',h'.get? b=some o')
  (i4:∀b xs,H b=some (.tup xs)->H' b=some (.tup xs)) (frzs:∀b o u,H b=some (.frz o u)->H' b=some (.frz o u)) (tbls:∀b q,H b=some (.oG q)->H' b=some (.oG q))
  (ns:∀m,s.heap.Ns X.env.locals m->h'.Ns X.env.locals m) (hok:iC X.prog X.w H' h') (hg:AllBare g') :
  Inv X pins σ H' { s with heap:=h',gens:=g',drawn:=d',toks:=t' }:=by
 have neL:∀b o,X.s₀.heap.get? b=some o->b≠X.env.locals:=λb o e=>Fp (EY (E7 e) I.ok.above)
 have neC:∀b o,X.s₀.heap.get? b=some o->b∉X.ex->b∉ch:=λb o e hx hb=>by
  rcases (hch b hb).1 with z|z
  ·exact hx z
  ·exact absurd (EY (E7 e) z) (Nat.lt_irrefl _)
 have cellK:∀x c,X.env.cells.lookup x=some c->∀v,s.heap.IsCell c v->h'.IsCell c v:=λx c e v ⟨o,ho,hd⟩=>by
  have nch:c∉ch:=λz=>(hch c z).2.2.1 x c e rfl
  by_cases hc:c∈X.fs
  ·obtain⟨sl,q⟩:=slot c o (I.y3 x c e) hc nch ho (I.freeC x c e);exact⟨_,q,hd⟩
  ·exact⟨o,keep c o (I.y3 x c e) hc nch ho (I.freeC x c e),hd⟩
 refine⟨I.ok,I.os,hg,⟨λb o e n hb hx=>?_,λb o e n hb hx=>?_,λb o e n hx=>?_,λb o e hx=>?_,λb xs e=>i4 b xs (I.base.i4 b xs e),λb o xs e=>frzs b o xs (I.base.frzs b o xs e),λb q e=>tbls b q (I.base.tbls b q e)⟩,?_,λx c e=>?_,?_,λx c e=>?_,λp hp=>?_,hok,I.len⟩
 ·exact keep b o (neL b o e) hb (neC b o e hx) (I.base.keep b o e n hb hx) (I.base.free b o e n hx)
 ·obtain⟨sl,e1⟩:=I.base.slot b o e n hb hx;obtain⟨sl',e2⟩:=slot b _ (neL b o e) hb (neC b o e hx) e1 (I.base.free b o e n hx);exact⟨sl',e2⟩
 ·obtain⟨o',e1⟩:=I.base.there b o e hx;exact free b o' (neC b o e hx) e1 (I.base.free b o e n hx)
 ·obtain⟨o',e1⟩:=I.base.there b o e hx;exact there b o' (neC b o e hx) e1
 ·obtain⟨m,hn,hl⟩:=I.loc;refine⟨m,ns m hn,λi x v e1 e2 e3=>?_⟩;obtain⟨u,r,l⟩:=hl i x v e1 e2 e3;refine⟨u,r,?_⟩;rcases l with l|⟨k,c,e,z⟩
  ·exact .inl l
  ·exact .inr ⟨k,c,e,cellK x c e _ z⟩
 ·obtain⟨v,z⟩:=I.cell x c e;exact⟨v,cellK x c e v z⟩
 ·obtain⟨m,⟨o,_,_,ho,_⟩,_⟩:=I.loc;exact free _ o (λz=>(hch _ z).2.1 rfl) ho I.free
 ·obtain⟨v,o,ho,hd⟩:=I.cell x c e;exact free c o (λz=>(hch c z).2.2.1 x c e rfl) ho (I.freeC x c e)
 ·obtain⟨e,n,ne,nf,d⟩:=I.pin p hp;have nch:p.1∉ch:=λz=>(hch p.1 z).2.2.2 p hp rfl;exact⟨keep p.1 p.2 ne nf nch e n,free p.1 p.2 nch e n,ne,nf,d⟩
theorem Inv.un {t':Nat} (I:Inv X pins σ H s) (u:Un X.fs [] H H' s.heap h') (hok:iC X.prog X.w H' h'):Inv X pins σ H' { s with heap:=h',toks:=t' }:=by
 obtain⟨m,⟨o,es,ep,ho,r⟩,_⟩:=id I.loc;obtain⟨sl,hL⟩:=u.any ho I.free (by simp)
 exact I.step (g':=s.gens) (d':=s.drawn) (ch:=[]) (λ_ z=>nomatch z) (λb o _ hb _ e n=>u.keep b o e n hb (by simp)) (λb o _ hb _ e n=>u.slot b o e n hb (by simp)) (λb o _ e n=>u.free b o e n (by simp)) (λb o _ e=>u.there b o e (by simp)) u.i4 u.frzs u.tbls (λm' hm=>by
  obtain⟨o',es',ep',ho',r'⟩:=hm;rw [ho] at ho';cases ho'
  exact⟨_,es',ep',hL,r'⟩) hok I.bare
theorem Inv.call {g':Array GenState} {t':Nat} {d':Drawn} {ch:List Addr} (I:Inv X pins σ H s) (u:Un (ji X.stack) ch H H' s.heap h') (hok:iC X.prog X.w H' h') (hg:AllBare g')
  (hch:∀b∈ch,(b∈X.ex\/X.s₀.heap.objs.size<=b)/\b≠X.env.locals/\(∀x c,X.env.cells.lookup x=some c->c≠b)/\∀p∈X.pn ++ pins,p.1≠b) :
  Inv X pins σ H' { s with heap:=h',gens:=g',drawn:=d',toks:=t' }:=by
 obtain⟨m,⟨o,es,ep,ho,r⟩,_⟩:=id I.loc;obtain⟨sl,hL⟩:=u.any ho I.free λz=>(hch _ z).2.1 rfl
 exact I.step (ch:=ch) hch (λb o hL hb hc e n=>u.keep b o e n (λz=>(Fe.mp (I.kE b z)).elim hL hb) hc) (λb o _ _ hc e n=>u.any e n hc) (λb o hc e n=>u.free b o e n hc) (λb o hc e=>u.there b o e hc) u.i4 u.frzs u.tbls (λm' hm=>by
  obtain⟨o',es',ep',ho',r'⟩:=hm;rw [ho] at ho';cases ho'
  exact⟨_,es',ep',hL,r'⟩) hok hg
theorem Inv.turned {t':Nat} {it:Addr} (I:Inv X pins σ H s) (k:∀b o,b≠it->s.heap.get? b=some o->h'.get? b=some o) (hn:H it=none) (hL:it≠X.env.locals)
  (h1:it∈X.ex\/X.s₀.heap.objs.size<=it) (h2:∀x c,X.env.cells.lookup x=some c->c≠it) (h3:∀p∈X.pn ++ pins,p.1≠it):Inv X pins σ H { s with heap:=h',toks:=t' }:=by
 have nit:∀b u,H b=some u->b≠it:=λb u e z=>by rw [z,hn] at e;cases e
 refine I.step (g':=s.gens) (d':=s.drawn) (ch:=[it]) (λb hb=>?_) (λb o _ _ hc e _=>k b o (λz=>hc (by simp [z])) e) (λb o _ _ hc e _=>⟨o.slots,k b o (λz=>hc (by simp [z])) e⟩) (λ_ _ _ _ n=>n)
  (λb o hc e=>⟨o,k b o (λz=>hc (by simp [z])) e⟩) (λ_ _ e=>e) (λ_ _ _ e=>e) (λ_ _ e=>e) (λm hm=>?_) (λb u e=>?_) I.bare
 ·have e:b=it:=by simpa using hb
  subst e;exact⟨h1,hL,h2,h3⟩
 ·obtain⟨o,es,ep,ho,r⟩:=hm;exact⟨o,es,ep,k _ o (Ne.symm hL) ho,r⟩
 ·refine (I.hok b u e).mJ (λc v hc q=>k c v ?_ q) (λ_ q=>q) (λ_ _ q=>q) λ_ _ _ q=>q;rcases hc with z|z
  ·rw [z];exact nit b u e
  ·exact nit c _ z
theorem Inv.tok (I:Inv X pins σ H s) (t:Nat):Inv X pins σ H { s with toks:=t }:=I.un (h':=s.heap) (t':=t) Un.refl I.hok
theorem Inv.kept {t':Nat} (I:Inv X pins σ H s) (k:∀b u,s.heap.get? b=some u->h'.get? b=some u):Inv X pins σ H { s with heap:=h',toks:=t' }:=I.un (Un.kept k) (I.hok.kept k)
theorem Inv.laid {a:Addr} {o:HO} {t':Nat} (I:Inv X pins σ H s) (k:∀b u,s.heap.get? b=some u->h'.get? b=some u) (hp:s.heap.objs.size<=a) (new:bo X.prog X.w (upd H a o) h' a o) :
  Inv X pins σ (upd H a o) { s with heap:=h',toks:=t' }:=I.un (Un.laid k hp (I.hok.fresh hp)) (I.hok.laid k hp new)
theorem Inv.write {x e:Addr} {o:HO} {t':Nat} (I:Inv X pins σ H s) (mu:C8 (H x)) (he:e=x\/H e=some (.own x)) (k:∀b u,b≠e->s.heap.get? b=some u->h'.get? b=some u) (heo:∃u,h'.get? e=some u)
  (new:bo X.prog X.w (upd H x o) h' x o):Inv X pins σ (upd H x o) { s with heap:=h',toks:=t' }:=I.un (Un.write mu he k heo) (I.hok.write mu he k heo new)
theorem Inv.uK {pins':List (Addr×Obj)} (I:Inv X pins σ H s) (h:∀p∈pins',s.heap.get? p.1=some p.2/\H p.1=none/\p.1≠X.env.locals/\p.1∉X.fs/\∀v,p.2.data≠.cell v):Inv X pins' σ H s :=
 ⟨I.ok,I.os,I.bare,I.base,I.loc,I.cell,I.free,I.freeC,λp hp=>(Fy.mp hp).elim (λz=>I.pin p (FO _ z)) (h p),I.hok,I.len⟩
theorem qR {N:List Str} (hN:N.Nodup) {i j:Nat} {x:Str} (a:N[i]?=some x) (b:N[j]?=some x):i=j:=by
 obtain⟨h1,e1⟩:=EO.mp a;obtain⟨h2,e2⟩:=EO.mp b;exact (List.getElem_inj hN).mp (e1.trans e2.symm)
theorem oF {M:Model} {A:Around} {E:Value->Shared->Prop} {i:Nat} {x:Str} {v:V} {u:Value} {Q:Unit->Shared->Prop} (I:Inv X pins σ H s) (hN:X.N.Nodup) (hi:X.N[i]?=some x) (hx:Loc X.env.scope x) (r:RelV v u)
  (h:∀s',Inv X pins (σ.set i (some v)) H s'->(∃a,Heap.SameBut a s.heap s'.heap/\(a=X.env.locals\/X.env.cells.lookup x=some a))->Q () s') (hf:X.fn x=true\/X.env.scope.names.lookup x=some .local:=by first|exact .inl rfl|exact .inr rfl|assumption):wpAny M A (storeName X.env x u) Q E s:=by
 obtain⟨m,hn,hl⟩:=id I.loc;have hcls:(X.env.scope.kind == .class || (X.env.scope.kind == .module && X.env.locals != X.env.globals))=false:=by rw [I.ok.kind];rfl
 have hiσ:i < σ.length:=by rw [I.len];exact (EO.mp hi).1
 have y3:=I.y3
 have tracked:∀{a:Addr} {h':Heap},(∃o,s.heap.get? a=some o/\H a=none)->Heap.SameBut a s.heap h'->iC X.prog X.w H h':=λ{a h'} ha hs b ob e=>by
  obtain⟨_,_,hfree⟩:=ha;refine (I.hok b ob e).mJ (λc w' hc q=>(hs.2 c ?_).trans q) (λ_ q=>q) (λ_ _ q=>q) λ_ _ _ q=>q
  rintro rfl;rcases hc with rfl|hc
  ·rw [hfree] at e;cases e
  ·rw [hfree] at hc;cases hc
 rcases hx with hk|hk
 ·refine wpAny_storeName_local hk hn (λh' hn' hs=>?_) hcls;obtain⟨oL,_,_,hoL,_⟩:=id hn;refine h _ ⟨I.ok,I.os,I.bare,⟨λb o e n hb hx=>?_,λb o e n hb hx=>?_,I.base.free,λb o e hx=>?_,I.base.i4,I.base.frzs,I.base.tbls⟩,⟨_,hn',λj y v' e1 e2 e3=>?_⟩,λy c e=>?_,I.free,I.freeC,λp hp=>?_,tracked ⟨oL,hoL,I.free⟩ hs,by simpa using I.len⟩ ⟨_,hs,.inl rfl⟩
  ·exact (hs.2 b (Fp (EY (E7 e) I.ok.above))).trans (I.base.keep b o e n hb hx)
  ·obtain⟨sl,e1⟩:=I.base.slot b o e n hb hx;exact⟨sl,(hs.2 b (Fp (EY (E7 e) I.ok.above))).trans e1⟩
  ·obtain⟨o',e1⟩:=I.base.there b o e hx;exact⟨o',(hs.2 b (Fp (EY (E7 e) I.ok.above))).trans e1⟩
  ·by_cases hj:j=i
   ·subst hj;rw [hi] at e1;cases e1;rw [E1 hiσ] at e2;cases e2;exact⟨u,r,.inl ⟨hk,by simp⟩⟩
   ·rw [EU (Ne.symm hj)] at e2;obtain⟨u',r',q⟩:=hl j y v' e1 e2 e3;refine⟨u',r',?_⟩;rcases q with ⟨k,e⟩|⟨k,c,e,z⟩
    ·refine .inl ⟨k,?_⟩;have:y≠x:=λe=>hj (qR hN e1 (e▸hi));simp [this,e]
    ·exact .inr ⟨k,c,e,z.sameBut hs (y3 y c e)⟩
  ·obtain⟨w',z⟩:=I.cell y c e;exact⟨w',z.sameBut hs (y3 y c e)⟩
  ·obtain⟨e,n,ne,nf,d⟩:=I.pin p hp;exact⟨(hs.2 p.1 ne).trans e,n,ne,nf,d⟩
 ·have hfn:X.fn x=true:=by
   rcases hf with z|z
   ·exact z
   ·rw [z] at hk;cases hk
  obtain⟨c,hc⟩:=I.ok.has x (.inl hk);obtain⟨w',z⟩:=I.cell x c hc;refine wpAny_storeName_cell I.ok.kind hk hc z (λh' hc' hs=>?_);obtain⟨oc,hoc,hocd⟩:=id z;refine h { s with heap:=h' } ⟨I.ok,I.os,I.bare,⟨λb o e n hb hx=>?_,λb o e n hb hx=>?_,I.base.free,λb o e hx=>?_,I.base.i4,I.base.frzs,I.base.tbls⟩,⟨m,hn.sameBut hs (Ne.symm (y3 x c hc)),λj y v' e1 e2 e3=>?_⟩,λy c' e=>?_,I.free,I.freeC,λp hp=>?_,tracked ⟨oc,hoc,I.freeC x c hc⟩ hs,by simpa using I.len⟩ ⟨c,hs,.inr hc⟩
  ·exact (hs.2 b (Fp (EY (E7 e) (I.ok.cab x c hfn hc)))).trans (I.base.keep b o e n hb hx)
  ·obtain⟨sl,e1⟩:=I.base.slot b o e n hb hx;exact⟨sl,(hs.2 b (Fp (EY (E7 e) (I.ok.cab x c hfn hc)))).trans e1⟩
  ·obtain⟨o',e1⟩:=I.base.there b o e hx;exact⟨o',(hs.2 b (Fp (EY (E7 e) (I.ok.cab x c hfn hc)))).trans e1⟩
  ·by_cases hj:j=i
   ·subst hj;rw [hi] at e1;cases e1;rw [E1 hiσ] at e2;cases e2;exact⟨u,r,.inr ⟨.inl hk,c,hc,hc'⟩⟩
   ·rw [EU (Ne.symm hj)] at e2;obtain⟨u',r',q⟩:=hl j y v' e1 e2 e3;refine⟨u',r',?_⟩;rcases q with q|⟨k,c',e,z'⟩
    ·exact .inl q
    ·refine .inr ⟨k,c',e,z'.sameBut hs ?_⟩
     rintro rfl;exact hj (qR hN e1 (I.ok.inj _ _ _ e hc▸hi))
  ·by_cases hcc:c'=c
   ·subst hcc;exact⟨_,hc'⟩
   ·obtain⟨w2,z2⟩:=I.cell y c' e;exact⟨w2,z2.sameBut hs hcc⟩
  ·obtain⟨e,n,ne,nf,d⟩:=I.pin p hp;refine⟨(hs.2 p.1 ?_).trans e,n,ne,nf,d⟩;intro q;rw [q,hoc] at e;have q':oc=p.2:=E9 e;exact d w' (by rw [<- q'];exact hocd)
theorem fD {M:Model} {A:Around} {E:Value->Shared->Prop} {i:Nat} {x:Str} {v:V} {u:Value} {Q:Unit->Shared->Prop} (I:Inv X pins σ H s) (hN:X.N.Nodup) (hi:X.N[i]?=some x) (hx:Loc X.env.scope x) (r:RelV v u)
  (h:∀s',Inv X pins (σ.set i (some v)) H s'->Q () s') (hf:X.fn x=true\/X.env.scope.names.lookup x=some .local:=by first|exact .inl rfl|exact .inr rfl|assumption):wpAny M A (storeName X.env x u) Q E s :=
 oF I hN hi hx r (λs' I' _=>h s' I') hf
theorem Inv.wQ {s':Shared} {ch:List Addr} (I:Inv X pins σ H s) (ho:s'.os=s.os) (u:Un (ji X.stack) ch H H' s.heap s'.heap) (hok:iC X.prog X.w H' s'.heap) (hg:AllBare s'.gens)
  (hch:∀b∈ch,(b∈X.ex\/X.s₀.heap.objs.size<=b)/\b≠X.env.locals/\(∀x c,X.env.cells.lookup x=some c->c≠b)/\∀p∈X.pn ++ pins,p.1≠b):Inv X pins σ H' s':=by
 obtain⟨h',g',d',t',o'⟩:=s';have e:o'=s.os:=ho;subst e;exact I.call (g':=g') (t':=t') (d':=d') u hok hg hch
end
abbrev XK:=Value->Option Addr->Hp->Prop
abbrev St:=List (Option V)
abbrev VK:=V->Hp->Prop
abbrev TE:=St->Hp->VK->Prop
abbrev TT:=St->Hp->(Bool->Hp->Prop)->Prop
abbrev TA:=St->Hp->(List V->Hp->Prop)->Prop
structure Ends where
 nx:St->Hp->Prop
 rt:VK
 bk:St->Hp->Prop:=λ_ _=>False
 ct:St->Hp->Prop:=λ_ _=>False
abbrev TS:=Ends->St->Hp->Prop
def EP (X:Cx) (pins:List (Addr×Obj)) (σ:St) (Q:VK) (u:Value) (s':Shared):Prop:=∃v H',Inv X pins σ H' s'/\RelV v u/\Q v H'
def TP (X:Cx) (pins:List (Addr×Obj)) (σ:St) (Q:Bool->Hp->Prop) (b:Bool) (s':Shared):Prop:=∃H',Inv X pins σ H' s'/\Q b H'
def AP (X:Cx) (pins:List (Addr×Obj)) (σ:St) (Q:List V->Hp->Prop) (us:List Value) (s':Shared):Prop:=∃vs H',Inv X pins σ H' s'/\Vals vs us/\Q vs H'
def SP (X:Cx) (pins:List (Addr×Obj)) (D:Ends) (f:Flow) (s':Shared):Prop :=
 match f with
 | .next=>∃σ' H',Inv X pins σ' H' s'/\D.nx σ' H'
 | .brk=>∃σ' H',Inv X pins σ' H' s'/\D.bk σ' H'
 | .cont=>∃σ' H',Inv X pins σ' H' s'/\D.ct σ' H'
 | .ret u=>∃v σ' H',Inv X pins σ' H' s'/\RelV v u/\D.rt v H'
def PE (X:Cx) (e:Expr) (t:TE):Prop :=
 ∀(pins:List (Addr×Obj)) (s:Shared) (σ:St) (H:Hp) (Q:VK),Inv X pins σ H s->t σ H Q->wpAny (model X.prog X.w) X.A (eval e X.env) (EP X pins σ Q) X.xe s
def PT (X:Cx) (e:Expr) (t:TT):Prop :=
 ∀(pins:List (Addr×Obj)) (s:Shared) (σ:St) (H:Hp) (Q:Bool->Hp->Prop),Inv X pins σ H s->t σ H Q->wpAny (model X.prog X.w) X.A (isTrue e X.env (eval e X.env)) (TP X pins σ Q) X.xe s
def PW (X:Cx) (e:Expr) (t:TT):Prop :=
 ∀(whole:Sem Value) (pins:List (Addr×Obj)) (s:Shared) (σ:St) (H:Hp) (Q:Bool->Hp->Prop),Inv X pins σ H s->t σ H Q->wpAny (model X.prog X.w) X.A (isTrue e X.env whole) (TP X pins σ Q) X.xe s
def PA (X:Cx) (es:List Expr) (t:TA):Prop :=
 ∀(pos:Pos) (pins:List (Addr×Obj)) (s:Shared) (σ:St) (H:Hp) (Q:List V->Hp->Prop),Inv X pins σ H s->t σ H Q->wpAny (model X.prog X.w) X.A (spliced (backTo pos (starEach es X.env))) (AP X pins σ Q) X.xe s
def PS (X:Cx) (st:Stmt) (t:TS):Prop :=
 ∀(pins:List (Addr×Obj)) (s:Shared) (σ:St) (H:Hp) (D:Ends),Inv X pins σ H s->t D σ H->wpAny (model X.prog X.w) X.A (exec st X.env) (SP X pins D) X.xe s
def sv (X:Cx) (st:List Stmt) (t:TS):Prop :=
 ∀(pins:List (Addr×Obj)) (s:Shared) (σ:St) (H:Hp) (D:Ends),Inv X pins σ H s->t D σ H->wpAny (model X.prog X.w) X.A (execs st X.env) (SP X pins D) X.xe s
theorem bu {α:Type} {t:Sem α} {Q Q':α->Shared->Prop} {M:Model} {A:Around} {E:Value->Shared->Prop} {s:Shared} (h:wpAny M A t Q E s) (hQ:∀a s,Q a s->Q' a s):wpAny M A t Q' E s:=Fo h hQ λ_ _ x=>x
section
variable {X:Cx}
def DE (i:Nat):TE:=λσ H Q=>∃v,σ[i]?=some (some v)/\Q v H
def tC (v:V):TE:=λ_ H Q=>Q v H
theorem fu {i:Nat} {x:Str} {pos:Pos} (hN:X.N[i]?=some x) (hv:u9 X.env.scope x) (hd:(x == ("__debug__" : Str))=false:=by decide) (hcd:(x == ("__classdict__" : Str))=false:=by decide):PE X (.Name x pos) (DE i):=by
 intro pins s σ H Q I h;obtain⟨v,e,h⟩:=h;obtain⟨m,hn,hl⟩:=I.loc;obtain⟨u,r,l⟩:=hl i x v hN e hv;have fin:EP X pins σ Q u s:=⟨v,H,I,r,h⟩;rcases l with ⟨hk,hm⟩|⟨hk,c,hc,hcell⟩
 ·exact wpAny_Name (wpAny_loadName_local I.ok.kind hk hn hm fin) hd
 ·rcases hk with hk|hk
  ·exact wpAny_Name (wpAny_loadName_cell I.ok.kind hk hc hcell fin) hd
  ·exact wpAny_Name (wpAny_loadName_free I.ok.kind hk hc hcell fin hcd) hd
theorem A2 {i j pos}:PE X (.Constant (.int i) j pos) (tC (.int i)):=λ_ _ _ H _ I h=>wpAny_Constant_int ⟨.int i,H,I.tok _,⟨_,rfl⟩,h⟩
theorem CA {b j pos}:PE X (.Constant (.bool b) j pos) (tC (.bl b)):=λ_ _ _ H _ I h=>Constant_bool ⟨.bl b,H,I,rfl,h⟩
theorem Bp {j pos}:PE X (.Constant .none j pos) (tC .non):=λ_ _ _ H _ I h=>Constant_none ⟨.non,H,I,rfl,h⟩
theorem wc {x j pos}:PE X (.Constant (.str x) j pos) (tC (.str x)):=λ_ _ _ H _ I h=>Calls.Constant_str ⟨.str x,H,I.tok _,⟨_,rfl⟩,h⟩
def Gl (X:Cx) (x:Str):Prop:=X.env.kindOf x=some .globalImplicit
theorem fm {E:Value->Shared->Prop} {pins:List (Addr×Obj)} {s:Shared} {σ:St} {H:Hp} {x:Str} {u:Value} {pos:Pos} {Q:Value->Shared->Prop} (I:Inv X pins σ H s) (hg:Gl X x) (hm:X.mg x=some u) (h:Q u s)
  (hd:(x == ("__debug__" : Str))=false:=by decide):wpAny (model X.prog X.w) X.A (eval (.Name x pos) X.env) Q E s :=
 Calls.Name_function_global I.ok.kind hg (Calls.loadGlobal_global (by rw [I.ok.glob];exact I.mod.glob.keeps I.bk) hm h) hd
theorem jX {E:Value->Shared->Prop} {pins:List (Addr×Obj)} {s:Shared} {σ:St} {H:Hp} {x:Str} {u:Value} {pos:Pos} {Q:Value->Shared->Prop} (I:Inv X pins σ H s) (hg:Gl X x) (hm:X.mg x=none) (hv:bootBuiltins x=some u) (h:Q u s)
  (hn:x≠"__name__":=by decide) (hd:(x == ("__debug__" : Str))=false:=by decide):wpAny (model X.prog X.w) X.A (eval (.Name x pos) X.env) Q E s:=by
 obtain⟨mb,h1,h2⟩:=I.mod.blt;exact Calls.Name_function_global I.ok.kind hg (Calls.loadGlobal_builtin (by rw [I.ok.glob];exact I.mod.glob.keeps I.bk) hm (by rw [I.ok.blt];exact h1.keeps I.bk) ((h2 x hn).trans hv) h) hd
theorem yH {x:Str} {v:V} {u:Value} {pos:Pos} (hg:Gl X x) (hm:X.mg x=none) (hv:bootBuiltins x=some u) (r:RelV v u) (hn:x≠"__name__":=by decide) (hd:(x == ("__debug__" : Str))=false:=by decide):PE X (.Name x pos) (tC v) :=
 λ_ _ _ H _ I h=>jX I hg hm hv ⟨v,H,I,r,h⟩ hn hd
variable {a b:Expr} {ta tb:TE} {pos:Pos}
def tB (t:TE):TT:=λσ H Q=>t σ H λx H1=>∃c,x=.bl c/\Q c H1
theorem Bs {e:Expr} {t:TE} (h:PE X e t) (he:∀whole,isTrue e X.env whole=(do let v <- whole;standAt e.pos;holding [v] (truthy v)):=by intro _;rfl):PT X e (tB t):=by
 intro pins s σ H Q I hw;refine isTrue_plain (bu (h pins s σ H _ I hw) λv s1 ⟨x,H1,I1,r1,q1⟩=>?_) (he _);obtain⟨d,rfl,q⟩:=q1;cases r1;exact wpAny_truthy_bool ⟨H1,I1,q⟩
variable {tA tB':TT} {rest:List Expr}
def Dn (t u:TT):TT:=λσ H Q=>t σ H λc H1=>if c=true then u σ H1 Q else Q false H1
def EK (t u:TT):TT:=λσ H Q=>t σ H λc H1=>if c=true then Q true H1 else u σ H1 Q
def Dj (t:TT):TT:=λσ H Q=>t σ H λc H1=>Q (!c) H1
theorem yl (ha:PT X a tA):PW X (.BoolOp .And [a] pos) tA:=by
 intro wh pins s σ H Q I h;refine isTrue_and (bu (ha pins s σ H Q I h) λc s1 e=>?_)
 cases c with
 | true=>exact isTrue_and_nil e
 | false=>exact e
theorem Ap (ha:PT X a tA):PW X (.BoolOp .Or [a] pos) tA:=by
 intro wh pins s σ H Q I h;refine isTrue_or (bu (ha pins s σ H Q I h) λc s1 e=>?_)
 cases c with
 | false=>exact isTrue_or_nil e
 | true=>exact e
theorem zQ (ha:PT X a tA) (hb:PW X (.BoolOp .And (b :: rest) pos) tB'):PW X (.BoolOp .And (a :: b :: rest) pos) (Dn tA tB'):=by
 intro wh pins s σ H Q I h;refine isTrue_and (bu (ha pins s σ H _ I h) λc s1 ⟨H1,I1,q1⟩=>?_)
 cases c with
 | true=>exact hb wh pins s1 σ H1 Q I1 q1
 | false=>exact⟨H1,I1,q1⟩
theorem BZ (ha:PT X a tA) (hb:PW X (.BoolOp .Or (b :: rest) pos) tB'):PW X (.BoolOp .Or (a :: b :: rest) pos) (EK tA tB'):=by
 intro wh pins s σ H Q I h;refine isTrue_or (bu (ha pins s σ H _ I h) λc s1 ⟨H1,I1,q1⟩=>?_)
 cases c with
 | true=>exact⟨H1,I1,q1⟩
 | false=>exact hb wh pins s1 σ H1 Q I1 q1
theorem Bh (ha:PT X a tA):PT X (.UnaryOp .Not a pos) (Dj tA):=by
 intro pins s σ H Q I h;exact isTrue_not (ha pins s σ H (λc H1=>Q (!c) H1) I h)
def C9 (ta tb:TE):TE:=λσ H Q=>ta σ H λx H1=>∃c,x=.bl c/\if c=true then tb σ H1 Q else Q (.bl false) H1
def Dw (ta tb:TE):TE:=λσ H Q=>ta σ H λx H1=>∃c,x=.bl c/\if c=true then Q (.bl true) H1 else tb σ H1 Q
theorem Ac {op} {t:TE} (h:PE X a t):PE X (.BoolOp op [a] pos) t:=λpins s σ H Q I hw=>BoolOp_one (h pins s σ H Q I hw)
theorem zX (ha:PE X a ta) (hb:PE X (.BoolOp .And (b :: rest) pos) tb):PE X (.BoolOp .And (a :: b :: rest) pos) (C9 ta tb):=by
 intro pins s σ H Q I h;refine BoolOp_and (bu (ha pins s σ H _ I h) λv s1 hq0=>?_);obtain⟨x,H1,I1,r1,q1⟩:=hq0;obtain⟨c,rfl,q1⟩:=q1;cases r1;refine wpAny_truthy_bool ?_
 cases c with
 | true=>exact hb pins s1 σ H1 Q I1 q1
 | false=>exact⟨.bl false,H1,I1,rfl,q1⟩
theorem Cv (ha:PE X a ta) (hb:PE X (.BoolOp .Or (b :: rest) pos) tb):PE X (.BoolOp .Or (a :: b :: rest) pos) (Dw ta tb):=by
 intro pins s σ H Q I h;refine BoolOp_or (bu (ha pins s σ H _ I h) λv s1 hq0=>?_);obtain⟨x,H1,I1,r1,q1⟩:=hq0;obtain⟨c,rfl,q1⟩:=q1;cases r1;refine wpAny_truthy_bool ?_
 cases c with
 | false=>exact hb pins s1 σ H1 Q I1 q1
 | true=>exact⟨.bl true,H1,I1,rfl,q1⟩
def EE (t:TT) (ta tb:TE):TE:=λσ H Q=>t σ H λc H1=>if c=true then ta σ H1 Q else tb σ H1 Q
theorem xK {c:Expr} (hc:PT X c tA) (ha:PE X a ta) (hb:PE X b tb):PE X (.IfExp c a b pos) (EE tA ta tb):=by
 intro pins s σ H Q I h;refine wpAny_IfExp (bu (hc pins s σ H _ I h) λd s1 ⟨H1,I1,q1⟩=>?_)
 cases d with
 | true=>exact ha pins s1 σ H1 Q I1 q1
 | false=>exact hb pins s1 σ H1 Q I1 q1
end
def fL (K:ES) (H:Hp) (a:Addr) (xs:List V):Prop :=
 Rd H a (.lst xs) \/
  ∃(o:Obj) (its:Array Value) (n:Nat),K.lookup a=some o/\o.cls=.type "list"/\o.dict=none/\o.data=.seq its n/\its.size<=sizeLine/\Vals xs its.toList
def jg (K:ES) (H:Hp) (a:Addr) (xs:List V):Prop :=
 Rd H a (.tup xs) \/
  ∃(o:Obj) (its:Array Value) (n:Nat),K.lookup a=some o/\o.cls=.type "tuple"/\o.data=.seq its n/\its.size<=sizeLine/\Vals xs its.toList/\o.dict=none
def DZ:Value->Option V
 | .none=>some .non
 | .bool b=>some (.bl b)
 | .int i _=>some (.int i)
 | .str x _=>some (.str x)
 | .bytes b _=>some (.byt b)
 | .float b _=>some (.flt b)
 | .ref a=>some (.ref a)
 | .type n=>some (.ty n)
 | _=>none
theorem RelV.abs {x:V} {u:Value} (r:RelV x u):DZ u=some x:=by
 cases x with
 | non=>cases r;rfl
 | bl _=>cases r;rfl
 | int _=>obtain⟨t,rfl⟩:=r;rfl
 | str _=>obtain⟨t,rfl⟩:=r;rfl
 | byt _=>obtain⟨t,rfl⟩:=r;rfl
 | flt _=>obtain⟨t,rfl⟩:=r;rfl
 | ref _=>cases r;rfl
 | ty _=>cases r;rfl
theorem RelV.inj {x y:V} {u:Value} (r:RelV x u) (q:RelV y u):x=y:=E9 (r.abs.symm.trans q.abs)
theorem Vals.inj:∀{xs ys:List V} {us:List Value},Vals xs us->Vals ys us->xs=ys
 | _,_,_,.nil,.nil=>rfl
 | _,_,_,.cons r t,.cons r' t'=>by rw [r.inj r',Vals.inj t t']
section
variable {X:Cx} {pins:List (Addr×Obj)} {σ:St} {H:Hp} {s:Shared} {a:Addr} {xs ys:List V}
theorem fL.of {K:ES} (h:H a=some (.lst xs)):fL K H a xs:=.inl (.inl h)
theorem jg.of {K:ES} (h:H a=some (.tup xs)):jg K H a xs:=.inl (.inl h)
theorem Inv.list (I:Inv X pins σ H s) (h:fL X.K H a xs):∃its:List Value,Vals xs its/\PlainL s.heap a its.toArray/\xs.length<=sizeLine:=by
 rcases h with h|⟨o,its,n,hk,hc,hd,hs,hz,r⟩
 ·obtain⟨z,its,n,r,e⟩:=h.ok I.hok;exact⟨its,r,⟨_,n,e,rfl,rfl,rfl⟩,z⟩
 ·refine⟨its.toList,r,⟨o,n,I.nI a o hk,hc,hd,by simpa using hs⟩,?_⟩;have e:=r.length;simp only [Array.length_toList] at e;omega
theorem Inv.tuple (I:Inv X pins σ H s) (h:jg X.K H a xs):∃its:List Value,Vals xs its/\IsTup s.heap a its.toArray/\xs.length<=sizeLine:=by
 rcases h with h|⟨o,its,n,hk,hc,hs,hz,r,_⟩
 ·obtain⟨z,its,r,p⟩:=h.ok I.hok;exact⟨its,r,p.tup,z⟩
 ·refine⟨its.toList,r,⟨o,I.nI a o hk,hc,n,by simpa using hs⟩,?_⟩;have e:=r.length;simp only [Array.length_toList] at e;omega
theorem Inv.rZ (I:Inv X pins σ H s) (h:fL X.K H a xs) (h':fL X.K H a ys):xs=ys:=by
 obtain⟨its,r,⟨o,n,e,_,_,d⟩,_⟩:=I.list h;obtain⟨its',r',⟨o',n',e',_,_,d'⟩,_⟩:=I.list h';rw [e] at e';cases e';rw [d] at d';injection d' with d1 _
 have:its=its':=by simpa using congrArg Array.toList d1
 subst this;exact r.inj r'
theorem Inv.oX (I:Inv X pins σ H s) (h:jg X.K H a xs) (h':jg X.K H a ys):xs=ys:=by
 obtain⟨its,r,⟨o,e,_,n,d⟩,_⟩:=I.tuple h;obtain⟨its',r',⟨o',e',_,n',d'⟩,_⟩:=I.tuple h';rw [e] at e';cases e';rw [d] at d';injection d' with d1 _
 have:its=its':=by simpa using congrArg Array.toList d1
 subst this;exact r.inj r'
end
abbrev Cx.bG (X:Cx) (E:Value->Shared->Prop):Cx:={ X with xe:=E }
abbrev Cx.nK (X:Cx):Cx:=X.bG λ_ _=>False
theorem Cx.Ok.bG {X:Cx} (ok:X.Ok) (E:Value->Shared->Prop):(X.bG E).Ok :=
 ⟨ok.mod,ok.kind,ok.glob,ok.blt,ok.above,ok.inj,ok.has,ok.cab,ok.hd,ok.frames,ok.stk,ok.exf,ok.bs,ok.bsz,ok.noex,ok.exfs,ok.iI,ok.frf⟩
theorem Cx.Ok.aW {X:Cx} {E:Value->Shared->Prop} (ok:(X.bG E).Ok):X.Ok :=
 ⟨ok.mod,ok.kind,ok.glob,ok.blt,ok.above,ok.inj,ok.has,ok.cab,ok.hd,ok.frames,ok.stk,ok.exf,ok.bs,ok.bsz,ok.noex,ok.exfs,ok.iI,ok.frf⟩
section
variable {X:Cx} {pins:List (Addr×Obj)} {σ:St} {H:Hp} {s:Shared} {E:Value->Shared->Prop}
theorem Inv.bG (I:Inv X pins σ H s) (E:Value->Shared->Prop):Inv (X.bG E) pins σ H s:=⟨I.ok.bG E,I.os,I.bare,I.base,I.loc,I.cell,I.free,I.freeC,I.pin,I.hok,I.len⟩
theorem Inv.aW (I:Inv (X.bG E) pins σ H s):Inv X pins σ H s:=⟨I.ok.aW,I.os,I.bare,I.base,I.loc,I.cell,I.free,I.freeC,I.pin,I.hok,I.len⟩
theorem SP.aW {D:Ends} {f:Flow} {s':Shared} (h:SP (X.bG E) pins D f s'):SP X pins D f s':=by
 cases f with
 | next=>obtain⟨σ',H',I,q⟩:=h;exact⟨σ',H',I.aW,q⟩
 | brk=>obtain⟨σ',H',I,q⟩:=h;exact⟨σ',H',I.aW,q⟩
 | cont=>obtain⟨σ',H',I,q⟩:=h;exact⟨σ',H',I.aW,q⟩
 | ret u=>obtain⟨v,σ',H',I,r,q⟩:=h;exact⟨v,σ',H',I.aW,r,q⟩
theorem sv.nK {st:List Stmt} {t:TS} (h:sv X.nK st t):sv X st t:=λpins s σ H D I hw =>
 Fo (h pins s σ H D (I.bG _) hw) (λ_ _ q=>q.aW) λ_ _ z=>False.elim z
end
section
variable {X:Cx} {st:Stmt} {rest:List Stmt} {t u:TS} {e:Expr} {te:TE} {pos:Pos}
def B9:TS:=λD σ H=>D.nx σ H
def Ec (t u:TS):TS:=λD σ H=>t { D with nx:=u D } σ H
theorem yD:sv X [] B9:=λ_ _ σ H _ I h=>wpAny_execs_nil ⟨σ,H,I,h⟩
theorem jO (h1:PS X st t) (h2:sv X rest u):sv X (st :: rest) (Ec t u):=by
 intro pins s σ H D I h;refine wpAny_execs_cons (bu (h1 pins s σ H { D with nx:=u D } I h) λf s1 q=>?_)
 cases f with
 | next =>
  obtain⟨σ',H',I',q⟩:=q
  exact h2 pins s1 σ' H' D I' q
 | ret v=>exact q
 | brk=>exact q
 | cont=>exact q
theorem ph (h1:PS X st t):sv X [st] t:=by
 intro pins s σ H D I h;refine wpAny_execs_cons (bu (h1 pins s σ H D I h) λf s1 q=>?_)
 cases f with
 | next=>exact wpAny_execs_nil q
 | ret v=>exact q
 | brk=>exact q
 | cont=>exact q
theorem Inv.quiet {pins:List (Addr×Obj)} {σ:St} {H:Hp} {s:Shared} (I:Inv X pins σ H s):interactive X.env=false:=by simp [interactive,I.ok.kind]
def B1 (te:TE):TS:=λD σ H=>te σ H λ_ H1=>D.nx σ H1
theorem za (he:PE X e te) (hs:swapsWith e none pos.line X.env=pure false:=by rfl):PS X (.Expr e pos) (B1 te):=by
 intro pins s σ H D I h;exact wpAny_Expr_any (bu (he pins s σ H _ I h) λv s1 ⟨x,H1,I1,r1,q1⟩=>⟨σ,H1,I1,q1⟩) I.quiet hs
def Dr (te:TE):TS:=λD σ H=>te σ H D.rt
theorem wC (he:PE X e te):PS X (.Return (some e) pos) (Dr te):=by
 intro pins s σ H D I h;exact wpAny_Return_some (bu (he pins s σ H _ I h) λv s1 ⟨x,H1,I1,r1,q1⟩=>⟨x,σ,H1,I1,r1,q1⟩)
def Dt (c:TT) (t u:TS):TS:=λD σ H=>c σ H λb H1=>if b=true then t D σ H1 else u D σ H1
theorem zl {c:Expr} {a b:List Stmt} {tc:TT} (hc:PT X c tc) (ha:sv X a t) (hb:sv X b u):PS X (.If c a b pos) (Dt tc t u):=by
 intro pins s σ H D I h;refine wpAny_If (bu (hc pins s σ H _ I h) λd s1 ⟨H1,I1,q1⟩=>?_)
 cases d with
 | true=>exact ha pins s1 σ H1 D I1 q1
 | false=>exact hb pins s1 σ H1 D I1 q1
end
abbrev TG:=V->St->Hp->(St->Hp->Prop)->Prop
abbrev xQ:=List V->St->Hp->(St->Hp->Prop)->Prop
def PG (X:Cx) (target:Expr) (t:TG):Prop :=
 ∀(pins:List (Addr×Obj)) (s:Shared) (σ:St) (H:Hp) (v:V) (u:Value) (Q:St->Hp->Prop),Inv X pins σ H s->RelV v u->t v σ H Q ->
  wpAny (model X.prog X.w) X.A (assign target X.env u) (λ_ s'=>∃σ' H',Inv X pins σ' H' s'/\Q σ' H') X.xe s
def zW (X:Cx) (ts:List Expr) (t:xQ):Prop :=
 ∀(pins:List (Addr×Obj)) (s:Shared) (σ:St) (H:Hp) (vs:List V) (us:List Value) (Q:St->Hp->Prop),Inv X pins σ H s->Vals vs us->t vs σ H Q ->
  wpAny (model X.prog X.w) X.A (assignInOrder ((assignEach ts X.env).map (·.2)) us) (λ_ s'=>∃σ' H',Inv X pins σ' H' s'/\Q σ' H') X.xe s
section
variable {X:Cx} {pos:Pos}
def zw (i:Nat):TG:=λv σ H Q=>Q (σ.set i (some v)) H
theorem yw {i:Nat} {x:Str} (hN:X.N.Nodup) (hi:X.N[i]?=some x) (hx:Loc X.env.scope x) (hf:X.fn x=true\/X.env.scope.names.lookup x=some .local:=by first|exact .inl rfl|exact .inr rfl|assumption):PG X (.Name x pos) (zw i):=by
 intro pins s σ H v u Q I r h;exact wpAny_assign_Name (fD I hN hi hx r (λs' I'=>⟨_,H,I',h⟩) hf)
def DQ:xQ:=λvs σ H Q=>vs=[]/\Q σ H
def Cn (t:TG) (u:xQ):xQ:=λvs σ H Q=>∃v r,vs=v :: r/\t v σ H λσ' H'=>u r σ' H' Q
theorem yM:zW X [] DQ:=by
 intro pins s σ H vs us Q I r h;obtain⟨e,h⟩:=h;subst e;cases r;exact assignInOrder_nil ⟨σ,H,I,h⟩
theorem xM {e:Expr} {es:List Expr} {t:TG} {u:xQ} (h1:PG X e t) (h2:zW X es u)
  (hs:(assignEach (e :: es) X.env).map (·.2)=assign e X.env :: (assignEach es X.env).map (·.2):=by rfl):zW X (e :: es) (Cn t u):=by
 intro pins s σ H vs us Q I r h;obtain⟨v,vr,e1,h⟩:=h;subst e1
 cases r with
 | cons r rr =>
  rw [hs];refine assignInOrder_cons (bu (h1 pins s σ H _ _ _ I r h) λ_ s1 ⟨σ1,H1,I1,q1⟩=>?_);exact h2 pins s1 σ1 H1 _ _ Q I1 rr q1
def DC (K:ES) (n:Nat) (t:xQ):TG:=λv σ H Q=>∃a xs,v=.ref a/\jg K H a xs/\xs.length=n/\t xs σ H Q
theorem Aj {es:List Expr} {k:Nat} {t:xQ} {n:Nat} (hc:X.calm=true) (h:zW X es t)
  (hn:(assignEach es X.env).length=n:=by rfl) (hst:(assignEach es X.env).findIdx? (·.1)=none:=by rfl):PG X (.Tuple es k pos) (DC X.K n t):=by
 intro pins s σ H v u Q I r hw;obtain⟨a,xs,e1,hq,hl,hw⟩:=hw;subst e1;cases r;obtain⟨its,rv,ht,hz⟩:=I.tuple hq;refine assign_Tuple_tuple (I.ok.hd hc) ht (by simp [hn,<- hl,rv.length]) hst λh' hx=>?_;have I1:Inv X pins σ H { s with heap:=h' }:=I.kept (t':=s.toks) λb o e=>hx b o (Fp (E7 e)) e;exact h pins _ σ H xs _ Q I1 (by simpa using rv) hw
def CK (te:TE) (g:TG):TS:=λD σ H=>te σ H λx H1=>g x σ H1 D.nx
theorem Ao {tg e:Expr} {te:TE} {g:TG} (he:PE X e te) (hg:PG X tg g) (hs:swapsWithSole [tg] e pos.line X.env=pure false:=by rfl) (hw:swappedStores [tg] e X.env=pure none:=by rfl)
  (h1:(assignEach [tg] X.env).map (·.2)=[assign tg X.env]:=by rfl):PS X (.Assign [tg] e pos) (CK te g):=by
 intro pins s σ H D I h;refine wpAny_Assign_stores (bu (he pins s σ H _ I h) λv s1 hq0=>?_) hs hw;obtain⟨x,H1,I1,r1,q1⟩:=hq0;rw [h1];exact bu (hg pins s1 σ H1 x v _ I1 r1 q1) λ_ s2 q=>q
theorem p7 {i:Nat} {x:Str} {e:Expr} {te:TE} {pos':Pos} (hN:X.N.Nodup) (hi:X.N[i]?=some x) (hx:Loc X.env.scope x) (he:PE X e te) (hs:swapsWith e (some (.Name x pos')) pos.line X.env=pure false:=by rfl) (hf:X.fn x=true\/X.env.scope.names.lookup x=some .local:=by first|exact .inl rfl|exact .inr rfl|assumption) :
  PS X (.Assign [.Name x pos'] e pos) (CK te (zw i)):=by
 intro pins s σ H D I h;refine wpAny_Assign_Name (bu (he pins s σ H _ I h) λv s1 hq0=>?_) hs;obtain⟨y,H1,I1,r1,q1⟩:=hq0;exact fD I1 hN hi hx r1 (λs2 I2=>⟨_,H1,I2,q1⟩) hf
def DD (i j:Nat) (ta:TA):TS:=λD σ H=>ta σ H λvs H1=>∃v w,vs=[v,w]/\D.nx ((σ.set i (some v)).set j (some w)) H1
theorem A9 {i j:Nat} {x y:Str} {a b:Expr} {ta:TA} {px py pt:Pos} {kt k2 pt2} (hc:X.calm=true) (hN:X.N.Nodup) (hi:X.N[i]?=some x) (hj:X.N[j]?=some y) (hij:i≠j)
  (hx:X.env.scope.names.lookup x=some .local) (hy:X.env.scope.names.lookup y=some .local) (ha:PA X [a,b] ta)
  (hw:swappedStores [.Tuple [.Name x px,.Name y py] kt pt] (.Tuple [a,b] k2 pt2) X.env=pure (some [x,y]))
  (hs:swapsWithSole [.Tuple [.Name x px,.Name y py] kt pt] (.Tuple [a,b] k2 pt2) pos.line X.env=pure false:=by rfl) :
  PS X (.Assign [.Tuple [.Name x px,.Name y py] kt pt] (.Tuple [a,b] k2 pt2) pos) (DD i j ta):=by
 intro pins s σ H D I h;rw [exec_Assign_arm];refine ER (wpAny_standAt ?_);rw [hs];refine ER (EW ?_);rw [if_neg (by decide)];refine ER (Tuple_ (bu (ha _ pins s σ H _ I h) λus s1 hq0=>?_));obtain⟨vs,H1,I1,r1,q1⟩:=hq0;obtain⟨v,w,e1,q1⟩:=q1;subst e1
 obtain⟨u1,u2,rfl,rv,rw'⟩:∃u1 u2,us=[u1,u2]/\RelV v u1/\RelV w u2:=by
  cases r1 with
  | cons p q =>
   cases q with
   | cons p' q' =>
    cases q';exact⟨_,_,rfl,p,p'⟩
 refine wpAny_newObj_type ?_ (by show 2<=sizeLine;decide);have I2:Inv X pins σ H1 { s1 with heap:=s1.heap.push { cls:=.type "tuple",data:=.seq [u1,u2].toArray } }:=I1.kept (t':=s1.toks) λb o e=>EZ _ e
 rw [hw];refine ER (EW ?_);show wpAny (model X.prog X.w) X.A (do rule "assign.swapped-stores";let items <- unpackItems (.ref s1.heap.objs.size) 2 none;assignInOrder [λv=>bindName X.env y v,λv=>bindName X.env x v] items.reverse;pure Flow.next) _ _ _
 refine ER (wpAny_rule (ER (unpackItems_tuple (items:=#[u1,u2]) (I.ok.hd hc) (IsTup.new s1.heap _) λh' hx'=>?_)));have I3:=I2.kept (h':=h') (t':=s1.toks) λb o e=>hx' b o (Fp (E7 e)) e;show wpAny _ _ (assignInOrder [λv=>bindName X.env y v,λv=>bindName X.env x v] [u2,u1] >>= λ_=>pure Flow.next) _ _ _
 refine ER (assignInOrder_cons (wpAny_bindName (fD I3 hN hj (.inl hy) rw' (λs2 I4=>?_) (.inr hy))));refine assignInOrder_cons (wpAny_bindName (fD I4 hN hi (.inl hx) rv (λs3 I5=>assignInOrder_nil (EW ?_)) (.inr hx)));rw [List.set_comm _ _ (Ne.symm hij)] at I5;exact⟨_,H1,I5,q1⟩
end
section
variable {X:Cx} {pos:Pos}
def Ax (c:TT) (tb:TS):TS:=λD σ H=>∃W:Nat->St->Hp->Prop,(∃m,W m σ H)/\∀m σ H,W m σ H ->
 c σ H λb H1=>if b=true then ∃N:St->Hp->Prop,(∀σ' H',N σ' H'->∃m',m' < m/\W m' σ' H')/\tb { D with nx:=N,ct:=N,bk:=D.nx } σ H1 else D.nx σ H1
theorem rY {c:Expr} {body:List Stmt} {tc:TT} {tb:TS} (hp:PassesOwn (model X.prog X.w) X.A X.env X.xe) (hc:PT X c tc) (hb:sv X body tb):PS X (.While c body [] pos) (Ax tc tb):=by
 intro pins s σ H D I h;obtain⟨W,⟨m0,w0⟩,turn⟩:=h;refine wpAny_While (codeAny_whileLoop (λn s'=>∃σ' H',Inv X pins σ' H' s'/\W n σ' H') ?_ m0 ⟨σ,H,I,w0⟩)
 rintro n s1 ⟨σ1,H1,I1,w1⟩;refine wpAny_passesOwn hp (bu (hc pins s1 σ1 H1 _ I1 (turn n σ1 H1 w1)) λb s2 ⟨H2,I2,q2⟩=>?_)
 cases b with
 | true =>
  obtain⟨N,hN,q2⟩:=q2;rw [if_pos rfl];refine wpAny_passesOwn hp (bu (hb pins s2 σ1 H2 _ I2 q2) λf s3 q3=>?_)
  cases f with
  | next =>
   obtain⟨σ3,H3,I3,n3⟩:=q3;obtain⟨m',hm,w3⟩:=hN σ3 H3 n3
   exact⟨m',hm,σ3,H3,I3,w3⟩
  | cont =>
   obtain⟨σ3,H3,I3,n3⟩:=q3;obtain⟨m',hm,w3⟩:=hN σ3 H3 n3
   exact⟨m',hm,σ3,H3,I3,w3⟩
  | brk=>exact q3
  | ret v=>exact q3
 | false =>
  rw [if_neg Bool.false_ne_true];exact wpAny_execs_nil ⟨σ1,H2,I2,q2⟩
end
structure It where
 go:Nat->Hp->Prop
 yld:Nat->Hp->V->Hp->Prop
 stop:Nat->Hp->Prop
def n8 (X:Cx) (pins:List (Addr×Obj)) (H:Hp) (b:Addr):Prop :=
 H b=none/\b≠X.env.locals/\b∉X.fs/\(b∈X.ex\/X.s₀.heap.objs.size<=b)/\(∀x c,X.env.cells.lookup x=some c->c≠b)/\∀p∈X.pn ++ pins,p.1≠b
theorem Inv.y0 {X:Cx} {pins:List (Addr×Obj)} {σ:St} {H H':Hp} {s:Shared} {b:Addr} (I:Inv X pins σ H s) (hb:s.heap.objs.size<=b) (hn:H' b=none):n8 X pins H' b:=by
 refine⟨hn,Nat.ne_of_gt (EY I.lt hb),I.Dp hb,.inr (FV I.sz hb),λx c e z=>?_,λp hp z=>?_⟩
 ·obtain⟨v,q⟩:=I.cell x c e;exact absurd (EY q.lt (by rw [z];exact hb)) (Nat.lt_irrefl _)
 ·exact absurd (EY (E7 (I.pin p hp).1) (by rw [z];exact hb)) (Nat.lt_irrefl _)
structure Turn (P:Program) (w:World) (K:ES) (tg:Expr) (J:It) (fp:List Addr) (it:Addr) (tn:Nat->Heap->Prop):Prop where
 mem:it∈fp
 obj:∀i h,tn i h->∀b∈fp,∃o,h.get? b=some o/\∀v,o.data≠.cell v
 keep:∀i h h',tn i h->(∀b∈fp,∀o,h.get? b=some o->h'.get? b=some o)->tn i h'
 item:∀(X:Cx),X.prog=P->X.w=w->X.K=K->X.calm=true->∀(i:Nat) (pins:List (Addr×Obj)) (s:Shared) (σ:St) (H:Hp) (E:Value->Shared->Prop),Inv X pins σ H s->(∀b∈fp,n8 X pins H b)->tn i s.heap->J.go i H ->
  wpAny (model P w) X.A (pyNext (.ref it)) (λr s1=>∃u,r=some u /\
   wpAny (model P w) X.A (letOwnedTupleGo tg (.ref it) u) (λ_ s2=>∃x H',Inv X pins σ H' s2/\RelV x u/\J.yld i H x H'/\tn (i + 1) s2.heap/\∀b∈fp,H' b=none) E s1) E s
 done:∀(X:Cx),X.prog=P->X.w=w->X.K=K->X.calm=true->∀(i:Nat) (pins:List (Addr×Obj)) (s:Shared) (σ:St) (H:Hp) (E:Value->Shared->Prop),Inv X pins σ H s->(∀b∈fp,n8 X pins H b)->tn i s.heap->J.stop i H ->
  wpAny (model P w) X.A (pyNext (.ref it)) (λr s1=>r=none/\Inv X pins σ H s1) E s
 self:∀(A:Around) (i:Nat) (s:Shared) (Q:Value->Shared->Prop) (E:Value->Shared->Prop),tn i s.heap->Q (.ref it) s->wpAny (model P w) A (pyIter (.ref it)) Q E s
abbrev TI:=St->Hp->(It->Hp->Prop)->Prop
def Dh (X:Cx) (pins:List (Addr×Obj)) (σ:St) (tg:Expr) (R:It->Hp->Prop) (itv:Value) (s2:Shared):Prop :=
 ∃(it:Addr) (fp:List Addr) (tn:Nat->Heap->Prop) (J:It) (H':Hp),itv=.ref it/\Inv X pins σ H' s2/\Turn X.prog X.w X.K tg J fp it tn/\tn 0 s2.heap/\(∀b∈fp,n8 X pins H' b)/\R J H'
def PI (X:Cx) (tg iter:Expr) (wi:TI):Prop :=
 ∀(pins:List (Addr×Obj)) (s:Shared) (σ:St) (H:Hp) (R:It->Hp->Prop),Inv X pins σ H s->wi σ H R ->
  wpAny (model X.prog X.w) X.A (eval iter X.env) (λv s1=>wpAny (model X.prog X.w) X.A (pyIter v) (Dh X pins σ tg R) X.xe s1) X.xe s
theorem uL {M:Model} {A:Around} {E:Value->Shared->Prop} {s:Shared} {tg:Expr} {it:Addr} {u:Value} {o:Obj} {n:String} {vs:Array Value} {Q:Unit->Shared->Prop} (ho:s.heap.get? it=some o) (hc:o.cls=.type n) (hd:o.data=.fields vs)
    (hn:["enumerate","zip","dict_itemiterator","dict_reverseitemiterator","odict_iterator","itertools.zip_longest","itertools.pairwise"].contains n=false) (hQ:Q () s):wpAny M A (letOwnedTupleGo tg (.ref it) u) Q E s:=by
  unfold letOwnedTupleGo
  cases tg <;> first
    | exact EW hQ
    | (cases u <;> first
        | exact EW hQ
        | (refine ER (wpAny_load ho ?_)
           rw [hc,hd];show wpAny M A (if (["enumerate","zip","dict_itemiterator","dict_reverseitemiterator","odict_iterator","itertools.zip_longest","itertools.pairwise"].contains n && vs[0]? == some (rawInt _))=true then _ else _) Q E s
           rw [if_neg (by intro h;rw [hn,Bool.false_and] at h;cases h)]
           exact EW hQ))
def Dg (K:ES) (a:Addr):It :=
 ⟨λi H=>∃xs x,fL K H a xs/\xs[i]?=some x,λi H x H'=>H'=H/\∀xs,fL K H a xs->xs[i]?=some x,λi H=>∃xs,fL K H a xs/\xs.length<=i⟩
def Dd (K:ES) (a:Addr):It :=
 ⟨λi H=>∃xs x,jg K H a xs/\xs[i]?=some x,λi H x H'=>H'=H/\∀xs,jg K H a xs->xs[i]?=some x,λi H=>∃xs,jg K H a xs/\xs.length<=i⟩
def zh (lo:Int) (n:Nat):It:=⟨λi _=>i < n,λi H x H'=>H'=H/\x=.int (lo + i),λi _=>n<=i⟩
theorem vA {P:Program} {w:World} {K:ES} {tg:Expr} (a it:Addr):Turn P w K tg (Dg K a) [it] it (λi h=>h.IsListIter it a i) where
 mem:=by simp
 obj:=λi h st b hb=>by
  have e:b=it:=by simpa using hb
  subst e;obtain⟨o,e,c,d⟩:=st;exact⟨o,e,λv z=>by rw [d] at z;cases z⟩
 keep:=λi h h' st k=>st.at λo e=>k it (by simp) o e
 item:=by
  intro X hP hw hK hc i pins s σ H E I hf st hg;subst hP hw hK;obtain⟨xs,x,hq,hx⟩:=hg;obtain⟨its,rv,p,hz⟩:=I.list hq;obtain⟨u,hu,ru⟩:=rv.get hx;obtain⟨f0,f1,f2,f3,f4,f5⟩:=hf it (by simp);refine wpAny_pyNext_list_item st p.isList (x:=u) (by simpa using hu) λh' st' sb=>?_;have I1:Inv X pins σ H { s with heap:=h' }:=I.turned (t':=s.toks) (λb o hb e=>(sb.2 b hb).trans e) f0 f1 f3 f4 f5;obtain⟨o,e,c,d⟩:=id st'
  exact⟨u,rfl,uL (s:={ s with heap:=h' }) e c d (by decide) ⟨x,H,I1,ru,⟨rfl,λys hy=>by rw [I.rZ hy hq];exact hx⟩,st',λb hb=>(hf b hb).1⟩⟩
 done:=by
  intro X hP hw hK hc i pins s σ H E I hf st hg;subst hP hw hK;obtain⟨xs,hq,hx⟩:=hg;obtain⟨its,rv,p,hz⟩:=I.list hq;obtain⟨f0,f1,f2,f3,f4,f5⟩:=hf it (by simp);have hl:=rv.length;exact wpAny_pyNext_list_end (I.ok.hd hc) st p.isList (by simp;omega) λh' eb=>⟨rfl,I.turned (t':=s.toks) (λb o hb e=>eb b o hb e) f0 f1 f3 f4 f5⟩
 self:=λ_ _ _ _ _ st h=>wpAny_pyIter_listiter st h
theorem tZ {P:Program} {w:World} {K:ES} {tg:Expr} (a it:Addr):Turn P w K tg (Dd K a) [it] it (λi h=>h.IsTupleIter it a i) where
 mem:=by simp
 obj:=λi h st b hb=>by
  have e:b=it:=by simpa using hb
  subst e;obtain⟨o,e,c,d⟩:=st;exact⟨o,e,λv z=>by rw [d] at z;cases z⟩
 keep:=λi h h' st k=>st.at λo e=>k it (by simp) o e
 item:=by
  intro X hP hw hK hc i pins s σ H E I hf st hg;subst hP hw hK;obtain⟨xs,x,hq,hx⟩:=hg;obtain⟨its,rv,p,hz⟩:=I.tuple hq;obtain⟨u,hu,ru⟩:=rv.get hx;obtain⟨f0,f1,f2,f3,f4,f5⟩:=hf it (by simp);refine wpAny_pyNext_tuple_item st (show s.heap.IsTuple a its.toArray from p) (x:=u) (by simpa using hu) λh' st' sb=>?_;have I1:Inv X pins σ H { s with heap:=h' }:=I.turned (t':=s.toks) (λb o hb e=>(sb.2 b hb).trans e) f0 f1 f3 f4 f5
  obtain⟨o,e,c,d⟩:=id st';exact⟨u,rfl,uL (s:={ s with heap:=h' }) e c d (by decide) ⟨x,H,I1,ru,⟨rfl,λys hy=>by rw [I.oX hy hq];exact hx⟩,st',λb hb=>(hf b hb).1⟩⟩
 done:=by
  intro X hP hw hK hc i pins s σ H E I hf st hg;subst hP hw hK;obtain⟨xs,hq,hx⟩:=hg;obtain⟨its,rv,p,hz⟩:=I.tuple hq;obtain⟨f0,f1,f2,f3,f4,f5⟩:=hf it (by simp);have hl:=rv.length;exact wpAny_pyNext_tuple_end (I.ok.hd hc) st (show s.heap.IsTuple a its.toArray from p) (by simp;omega) λh' eb=>⟨rfl,I.turned (t':=s.toks) (λb o hb e=>eb b o hb e) f0 f1 f3 f4 f5⟩
 self:=λ_ _ _ _ _ st h=>wpAny_pyIter_tupleiter st h
theorem tG {P:Program} {w:World} {K:ES} {tg:Expr} (it:Addr) (lo:Int) (n:Nat):Turn P w K tg (zh lo n) [it] it (λi h=>IsRangeIter h it (lo + (i:Nat) * 1) ((n:Int) - (i:Nat)) 1) where
 mem:=by simp
 obj:=λi h st b hb=>by
  have e:b=it:=by simpa using hb
  subst e
  exact⟨_,st,λv z=>by
   have z':Data.fields _=Data.cell v:=z
   cases z'⟩
 keep:=λi h h' st k=>k it (by simp) _ st
 item:=by
  intro X hP hw hK hc i pins s σ H E I hf st hg;subst hP hw hK;obtain⟨f0,f1,f2,f3,f4,f5⟩:=hf it (by simp);have W:=Walks.range (prog:=X.prog) (w:=X.w) (I.ok.hd hc) it lo 1 n;refine W.item i s _ _ hg st λv h' tk hv st' kk=>?_;obtain⟨t,rfl⟩:=hv;have I1:Inv X pins σ H { s with heap:=h',toks:=tk }:=I.turned (λb o hb e=>kk b o (by simpa using hb) e) f0 f1 f3 f4 f5;refine⟨_,rfl,uL (s:={ s with heap:=h',toks:=tk }) (n:="range_iterator") st' rfl rfl (by decide) ⟨.int (lo + i),H,I1,⟨t,?_⟩,⟨rfl,rfl⟩,st',λb hb=>(hf b hb).1⟩⟩
  rw [Int.mul_one]
 done:=by
  intro X hP hw hK hc i pins s σ H E I hf st hg;subst hP hw hK;obtain⟨f0,f1,f2,f3,f4,f5⟩:=hf it (by simp);exact wpAny_pyNext_range_end (I.ok.hd hc) st (by have:n<=i:=hg;omega) λh' eb=>⟨rfl,I.turned (t':=s.toks) (λb o hb e=>eb b o hb e) f0 f1 f3 f4 f5⟩
 self:=λ_ _ _ _ _ st h=>wpAny_pyIter_rangeiter st h
section
variable {X:Cx} {tg:Expr}
theorem rO {pins:List (Addr×Obj)} {σ:St} {H:Hp} {s:Shared} {R:It->Hp->Prop} {E:Value->Shared->Prop} {lo hi:Int} {t u v:Tok} {tk:Nat} (I:Inv X pins σ H s) (h1:-(2 ^ 62)<=lo) (h2:lo < 2 ^ 62) (h3:-(2 ^ 62)<=hi) (h4:hi < 2 ^ 62)
  (q:R (zh lo (hi - lo).toNat) H):wpAny (model X.prog X.w) X.A (pyIter (.ref s.heap.objs.size)) (Dh X pins σ tg R) E { s with heap:=s.heap.push { cls:=.type "range",data:=.fields #[.int lo t,.int hi u,.int 1 v] },toks:=tk }:=by
 refine wpAny_pyIter_range (IsRange.new ..) (small_one h1 h2 h3 h4) ?_;have I1:Inv X pins σ H { s with heap:=s.heap.push { cls:=.type "range",data:=.fields #[.int lo t,.int hi u,.int 1 v] },toks:=tk }:=I.kept λb o e=>EZ _ e
 refine⟨(s.heap.push { cls:=.type "range",data:=.fields #[.int lo t,.int hi u,.int 1 v] }).objs.size,[(s.heap.push { cls:=.type "range",data:=.fields #[.int lo t,.int hi u,.int 1 v] }).objs.size],_,_,H,rfl,
  I1.kept (t':=tk) λb o e=>EZ _ e,tG _ lo (hi - lo).toNat,?_,λb hb=>?_,q⟩
 ·have e1:lo + ((0:Nat):Int) * 1=lo:=by simp
  have e2:(((hi - lo).toNat:Nat):Int) - ((0:Nat):Int)=Builtin.Range.rangeSize lo hi 1:=by rw [rangeSize_one];split <;> omega
  show IsRangeIter _ _ (lo + ((0:Nat):Int) * 1) ((((hi - lo).toNat:Nat):Int) - ((0:Nat):Int)) 1
  rw [e1,e2];exact Fh _ rfl
 ·have e:b=(s.heap.push { cls:=.type "range",data:=.fields #[.int lo t,.int hi u,.int 1 v] }).objs.size:=by simpa using hb
  subst e;exact I1.y0 (E3 _) (I1.hok.fresh (E3 _))
def Cd (ta:TA):TI:=λσ H R=>ta σ H λvs H1=>∃j:Int,vs=[.int j]/\-(2 ^ 62)<=j/\j < 2 ^ 62/\R (zh 0 j.toNat) H1
def CD (ta:TA):TI:=λσ H R=>ta σ H λvs H1=>∃i j:Int,vs=[.int i,.int j]/\(-(2 ^ 62)<=i/\i < 2 ^ 62/\-(2 ^ 62)<=j/\j < 2 ^ 62)/\R (zh i (j - i).toNat) H1
theorem km {a:Expr} {ta:TA} {p pos:Pos} (hg:Gl X "range") (hm:X.mg "range" = none) (ha:PA X [a] ta) (hs:starEach [a] X.env=[(false,eval a X.env)]:=by rfl):PI X tg (.Call (.Name "range" p) [a] [] pos) (Cd ta):=by
 intro pins s σ H R I h;refine Call_ (jX I hg hm boot_range (PyProof.Rows.callWith_type1 (bu (ha pos pins s σ H _ I h) λus s1 ⟨vs,H1,I1,r1,q1⟩=>?_) hs rfl));obtain⟨j,e,q1,q2,q⟩:=q1;subst e
 cases r1 with
 | cons r rr =>
  cases rr;obtain⟨t,rfl⟩:=r;exact call_range_1 (rO I1 (by omega) (by omega) q1 q2 (by simpa using q))
theorem oo {a b:Expr} {ta:TA} {p pos:Pos} (hg:Gl X "range") (hm:X.mg "range" = none) (ha:PA X [a,b] ta) (hs:starEach [a,b] X.env=[(false,eval a X.env),(false,eval b X.env)]:=by rfl) (hs2:starEach [b] X.env=[(false,eval b X.env)]:=by rfl) :
  PI X tg (.Call (.Name "range" p) [a,b] [] pos) (CD ta):=by
 intro pins s σ H R I h;refine Call_ (jX I hg hm boot_range (PyProof.Rows.callWith_type1 (bu (ha pos pins s σ H _ I h) λus s1 ⟨vs,H1,I1,r1,q1⟩=>?_) (by rw [hs,hs2]) (by rw [hs2];rfl)));obtain⟨i,j,e,⟨q1,q2,q3,q4⟩,q⟩:=q1;subst e
 cases r1 with
 | cons r rr =>
  cases rr with
  | cons r' rr =>
   cases rr;obtain⟨t,rfl⟩:=r;obtain⟨t',rfl⟩:=r';exact call_range_2 (rO I1 q1 q2 q3 q4 q)
def DH (wi:TI) (g:TG) (tb:TS):TS:=λD σ H=>wi σ H λJ H1=>∃W:Nat->Nat->St->Hp->Prop,(∃m,W 0 m σ H1)/\∀i m σ H,W i m σ H ->
 (J.stop i H/\D.nx σ H)\/(J.go i H/\∃N:St->Hp->Prop,(∀σ' H',N σ' H'->∃m',m' < m/\W (i + 1) m' σ' H')/\∀x H',J.yld i H x H'->g x σ H' λσ2 H2=>tb { D with nx:=N,ct:=N,bk:=D.nx } σ2 H2)
def mB (fp:List Addr) (h:Heap):List (Addr×Obj):=fp.filterMap λb=>(h.get? b).map λo=>(b,o)
theorem f9 {fp:List Addr} {h:Heap} {b:Addr} {o:Obj} (hb:b∈fp) (e:h.get? b=some o):(b,o)∈mB fp h:=List.mem_filterMap.mpr ⟨b,hb,by rw [e];rfl⟩
theorem uP {fp:List Addr} {h:Heap} {p:Addr×Obj} (hp:p∈mB fp h):p.1∈fp/\h.get? p.1=some p.2:=by
 obtain⟨b,hb,e⟩:=List.mem_filterMap.mp hp
 cases q:h.get? b with
 | none=>rw [q] at e;cases e
 | some o =>
  rw [q] at e;have e':(b,o)=p:=E9 e;subst e';exact⟨hb,q⟩
theorem Inv.pinned {pins:List (Addr×Obj)} {σ:St} {H:Hp} {s:Shared} {fp:List Addr} (I:Inv X pins σ H s) (hf:∀b∈fp,n8 X pins H b) (ho:∀b∈fp,∃o,s.heap.get? b=some o/\∀v,o.data≠.cell v):Inv X (pins ++ mB fp s.heap) σ H s :=
 I.uK λp hp=>(Fy.mp hp).elim (λz=>I.pin p (Fx _ z)) λz=>by
  obtain⟨hb,e⟩:=uP z;obtain⟨f0,f1,f2,_⟩:=hf p.1 hb;obtain⟨o,e',d⟩:=ho p.1 hb;rw [e] at e';cases e';exact⟨e,f0,f1,f2,d⟩
theorem Inv.jU {pins pl:List (Addr×Obj)} {σ:St} {H:Hp} {s:Shared} (I:Inv X (pins ++ pl) σ H s):Inv X pins σ H s:=I.uK λp hp=>I.pin p (Fx _ (FO _ hp))
theorem v8 {iter:Expr} {body:List Stmt} {wi:TI} {g:TG} {tb:TS} {pos:Pos} (hp:PassesOwn (model X.prog X.w) X.A X.env X.xe) (hc:X.calm=true) (hi:PI X tg iter wi) (hg:PG X tg g) (hb:sv X body tb)
  (hs:∀x,FD iter X.env x=pure x:=by intro _;rfl):PS X (.For tg iter body [] pos) (DH wi g tb):=by
 intro pins s σ H D I h;refine wpAny_For (bu (hi pins s σ H _ I h) λv s1 h1=>bu h1 λitv s2 h2=>?_) hs;obtain⟨it,fp,tn,J,H2,e,I2,T,st2,f2,W,⟨m0,w0⟩,turn⟩:=h2;subst e;have stat:∀{H':Hp},(∀b∈fp,H' b=none)->∀b∈fp,n8 X pins H' b:=λhn b hb=>⟨hn b hb,(f2 b hb).2⟩;refine codeAny_forLoop_any (λn s'=>∃i σ' H',Inv X pins σ' H' s'/\tn i s'.heap/\(∀b∈fp,H' b=none)/\W i n σ' H') ?_ m0 ⟨0,σ,H2,I2,st2,λb hb=>(f2 b hb).1,w0⟩
 rintro n s3 ⟨i,σ3,H3,I3,st3,fr3,w3⟩;rcases turn i n σ3 H3 w3 with ⟨stop,qn⟩|⟨go,N,hN,step⟩
 ·refine wpAny_passesOwn hp (bu (T.done X rfl rfl rfl hc i pins s3 σ3 H3 X.xe I3 (stat fr3) st3 stop) λr s4 ⟨hr,I4⟩=>?_);subst hr;exact wpAny_execs_nil ⟨σ3,H3,I4,qn⟩
 ·refine wpAny_passesOwn hp (bu (T.item X rfl rfl rfl hc i pins s3 σ3 H3 X.xe I3 (stat fr3) st3 go) λr s4 ⟨u,hr,h4⟩=>?_);subst hr;refine wpAny_passesOwn hp (bu h4 λ_ s5 hq0=>?_);obtain⟨x,H5,I5,r5,y5,st5,fr5⟩:=hq0;have I5':=I5.pinned (stat fr5) (T.obj _ _ st5);refine wpAny_passesOwn hp (bu (hg _ s5 σ3 H5 x u _ I5' r5 (step x H5 y5)) λ_ s6 ⟨σ6,H6,I6,q6⟩=>?_);refine wpAny_passesOwn hp (bu (hb _ s6 σ6 H6 _ I6 q6) λf s7 q7=>?_)
  have again:∀{σ7:St} {H7:Hp},Inv X (pins ++ mB fp s5.heap) σ7 H7 s7->N σ7 H7->∃m,m < n/\∃i σ' H',Inv X pins σ' H' s7/\tn i s7.heap/\(∀b∈fp,H' b=none)/\W i m σ' H':=λ{σ7 H7} I7 n7=>by
   obtain⟨m',hm,w7⟩:=hN σ7 H7 n7;refine⟨m',hm,i + 1,σ7,H7,I7.jU,T.keep _ _ _ st5 λb hb o e=>(I7.pin (b,o) (Fx _ (Fx _ (f9 hb e)))).1,λb hb=>?_,w7⟩;obtain⟨o,e,d⟩:=T.obj _ _ st5 b hb;exact (I7.pin (b,o) (Fx _ (Fx _ (f9 hb e)))).2.1
  cases f with
  | next=>obtain⟨σ7,H7,I7,n7⟩:=q7;exact again I7 n7
  | cont=>obtain⟨σ7,H7,I7,n7⟩:=q7;exact again I7 n7
  | brk=>obtain⟨σ7,H7,I7,q7⟩:=q7;exact⟨σ7,H7,I7.jU,q7⟩
  | ret v=>obtain⟨x7,σ7,H7,I7,r7,q7⟩:=q7;exact⟨x7,σ7,H7,I7.jU,r7,q7⟩
end
abbrev R2:=V->V->Hp->VK->Prop
def gq (X:Cx) (f:Value->Value->Sem Value) (r:R2):Prop :=
 ∀(pins:List (Addr×Obj)) (s:Shared) (σ:St) (H:Hp) (x y:V) (v u:Value) (Q:VK),Inv X pins σ H s->RelV x v->RelV y u->r x y H Q ->
  wpAny (model X.prog X.w) X.A (f v u) (EP X pins σ Q) X.xe s
def De (X:Cx) (f:Value->Sem Value) (r:V->Hp->VK->Prop):Prop :=
 ∀(pins:List (Addr×Obj)) (s:Shared) (σ:St) (H:Hp) (x:V) (v:Value) (Q:VK),Inv X pins σ H s->RelV x v->r x H Q ->
  wpAny (model X.prog X.w) X.A (f v) (EP X pins σ Q) X.xe s
def dr (X:Cx) (f:Value) (r:List V->Hp->VK->Prop):Prop :=
 ∀(pins:List (Addr×Obj)) (s:Shared) (σ:St) (H:Hp) (xs:List V) (us:List Value) (Q:VK),Inv X pins σ H s->Vals xs us->r xs H Q ->
  wpAny (model X.prog X.w) X.A (call f us) (EP X pins σ Q) X.xe s
def BJ (r:R2) (ta tb:TE):TE:=λσ H Q=>ta σ H λx H1=>tb σ H1 λy H2=>r x y H2 Q
def Ex (r:V->Hp->VK->Prop) (ta:TE):TE:=λσ H Q=>ta σ H λx H1=>r x H1 Q
def rI (C:Int->Int->Prop) (g:Int->Int->V):R2:=λx y H Q=>∃i j,x=.int i/\y=.int j/\C i j/\Q (g i j) H
def vR (g:Int->Int->V):R2:=λx y H Q=>∃i j,x=.int i/\y=.int j/\Q (g i j) H
def rU (g:Int->V):V->Hp->VK->Prop:=λx H Q=>∃i,x=.int i/\Q (g i) H
section
variable {X:Cx} {a b c:Expr} {ta tb tc:TE} {pos:Pos}
theorem BA (ha:PE X a ta) (hb:PE X b tb) {pins:List (Addr×Obj)} {s:Shared} {σ:St} {H:Hp} {R:V->V->Hp->Prop} (I:Inv X pins σ H s)
  (h:ta σ H λx H1=>tb σ H1 λy H2=>R x y H2) {Q:Value->Shared->Prop} {f:Value->Value->Sem Value}
  (hf:∀v u s2 x y H2,Inv X pins σ H2 s2->RelV x v->RelV y u->R x y H2->wpAny (model X.prog X.w) X.A (f v u) Q X.xe s2) :
  wpAny (model X.prog X.w) X.A (eval a X.env) (λv s₁=>wpAny (model X.prog X.w) X.A (eval b X.env) (λu s₂=>wpAny (model X.prog X.w) X.A (f v u) Q X.xe s₂) X.xe s₁) X.xe s:=by
 refine bu (ha pins s σ H _ I h) λv s1 hq0=>?_;obtain⟨x,H1,I1,r1,q1⟩:=hq0;refine bu (hb pins s1 σ H1 _ I1 q1) λu s2 hq0=>?_;obtain⟨y,H2,I2,r2,q2⟩:=hq0;exact hf v u s2 x y H2 I2 r1 r2 q2
theorem Cm {op:Operator} {r:R2} (ho:gq X (binaryOp op) r) (ha:PE X a ta) (hb:PE X b tb):PE X (.BinOp a op b pos) (BJ r ta tb):=by
 intro pins s σ H Q I h;exact wpAny_BinOp (BA ha hb I h λv u s2 x y H2 I2 rx ry q=>ho pins s2 σ H2 x y v u Q I2 rx ry q)
theorem B5 {op:UnaryOp} {r:V->Hp->VK->Prop} (ho:De X (unaryOp op) r) (ha:PE X a ta):PE X (.UnaryOp op a pos) (Ex r ta):=by
 intro pins s σ H Q I h;exact UnaryOp_ (bu (ha pins s σ H _ I h) λv s1 ⟨x,H1,I1,r1,q1⟩=>ho pins s1 σ H1 x v Q I1 r1 q1)
theorem Di {f:Value->Value->Sem Value} {C:Int->Int->Prop} {g:Int->Int->Int}
  (rule:∀(i j:Int) (t u:Tok) (s:Shared) (Q:Value->Shared->Prop) (E:Value->Shared->Prop),C i j->Q (.int (g i j) s.toks) { s with toks:=s.toks + 1 }->wpAny (model X.prog X.w) X.A (f (.int i t) (.int j u)) Q E s) :
  gq X f (rI C λi j=>.int (g i j)):=by
 intro pins s σ H x y v u Q I rx ry h;obtain⟨i,j,rfl,rfl,hc,q⟩:=h;obtain⟨t,rfl⟩:=rx;obtain⟨t',rfl⟩:=ry;exact rule i j t t' s _ _ hc ⟨.int (g i j),H,I.tok _,⟨_,rfl⟩,q⟩
theorem CM {f:Value->Value->Sem Value} {g:Int->Int->Int}
  (rule:∀(i j:Int) (t u:Tok) (s:Shared) (Q:Value->Shared->Prop) (E:Value->Shared->Prop),Q (.int (g i j) s.toks) { s with toks:=s.toks + 1 }->wpAny (model X.prog X.w) X.A (f (.int i t) (.int j u)) Q E s) :
  gq X f (vR λi j=>.int (g i j)):=by
 intro pins s σ H x y v u Q I rx ry h;obtain⟨i,j,rfl,rfl,q⟩:=h;obtain⟨t,rfl⟩:=rx;obtain⟨t',rfl⟩:=ry;exact rule i j t t' s _ _ ⟨.int (g i j),H,I.tok _,⟨_,rfl⟩,q⟩
theorem yc {f:Value->Value->Sem Value} {g:Int->Int->Bool}
  (rule:∀(i j:Int) (t u:Tok) (s:Shared) (Q:Value->Shared->Prop) (E:Value->Shared->Prop),Q (.bool (g i j)) s->wpAny (model X.prog X.w) X.A (f (.int i t) (.int j u)) Q E s) :
  gq X f (vR λi j=>.bl (g i j)):=by
 intro pins s σ H x y v u Q I rx ry h;obtain⟨i,j,rfl,rfl,q⟩:=h;obtain⟨t,rfl⟩:=rx;obtain⟨t',rfl⟩:=ry;exact rule i j t t' s _ _ ⟨.bl (g i j),H,I,rfl,q⟩
def Aw (i j:Int):Prop:=0<=j/\j<=1000000/\i.natAbs < 2 ^ 64
theorem AI:gq X (binaryOp .Add) (vR λi j=>.int (i + j)):=CM λ_ _ _ _ _ _ _ q=>add_int q
theorem zZ:gq X (binaryOp .Sub) (vR λi j=>.int (i - j)):=CM λ_ _ _ _ _ _ _ q=>sub_int q
theorem yf:gq X (binaryOp .Mod) (rI (λ_ j=>j≠0) λi j=>.int (i.fmod j)):=Di λ_ _ _ _ _ _ _ hc q=>mod_int' hc q
theorem Al:gq X (binaryOp .Pow) (rI Aw λi j=>.int (i ^ j.toNat)):=Di λ_ _ _ _ _ _ _ hc q=>pow_int_small hc.1 hc.2.1 hc.2.2 q
theorem Et {f:Value->Sem Value} {g:Int->Int}
  (rule:∀(i:Int) (t:Tok) (s:Shared) (Q:Value->Shared->Prop) (E:Value->Shared->Prop),Q (.int (g i) s.toks) { s with toks:=s.toks + 1 }->wpAny (model X.prog X.w) X.A (f (.int i t)) Q E s) :
  De X f (rU λi=>.int (g i)):=by
 intro pins s σ H x v Q I rx h;obtain⟨i,rfl,q⟩:=h;obtain⟨t,rfl⟩:=rx;exact rule i t s _ _ ⟨.int (g i),H,I.tok _,⟨_,rfl⟩,q⟩
theorem A1:De X (unaryOp .USub) (rU λi=>.int (-i)):=Et λ_ _ _ _ _ q=>neg_int q
end
section
variable {X:Cx} {a b c:Expr} {ta tb tc:TE} {pos:Pos}
theorem zN:gq X (compareOp .Lt) (vR λi j=>.bl (decide (i < j))):=yc λ_ _ _ _ _ _ _ q=>lt_int q
theorem CG:gq X (compareOp .LtE) (vR λi j=>.bl (decide (i<=j))):=yc λ_ _ _ _ _ _ _ q=>le_int q
theorem BX:gq X (compareOp .Gt) (vR λi j=>.bl (decide (j < i))):=yc λ_ _ _ _ _ _ _ q=>gt_int q
theorem BR:gq X (compareOp .GtE) (vR λi j=>.bl (decide (j<=i))):=yc λ_ _ _ _ _ _ _ q=>ge_int q
theorem gq.or {f:Value->Value->Sem Value} {r r':R2} (h:gq X f r) (h':gq X f r'):gq X f (λx y H Q=>r x y H Q\/r' x y H Q):=by
 intro pins s σ H x y v u Q I rx ry q;rcases q with q|q
 ·exact h pins s σ H x y v u Q I rx ry q
 ·exact h' pins s σ H x y v u Q I rx ry q
theorem ko (b:Expr) {op:CmpOp} (h:op≠.In:=by decide) (h2:op≠.NotIn:=by decide):behindInMarks op b=false:=by
 have e1:(op == CmpOp.In)=false:=by cases op <;> first|rfl|exact absurd rfl h
 have e2:(op == CmpOp.NotIn)=false:=by cases op <;> first|rfl|exact absurd rfl h2
 cases b <;> simp [behindInMarks,e1,e2]
theorem yJ {op:CmpOp} {r:R2} (ho:gq X (compareOp op) r) (ha:PE X a ta) (hb:PE X b tb) (hm:behindInMarks op b=false):PE X (.Compare a [op] [b] pos) (BJ r ta tb):=by
 intro pins s σ H Q I h;exact wpAny_Compare1 (BA ha hb I h λv u s2 x y H2 I2 rx ry q=>ho pins s2 σ H2 x y v u Q I2 rx ry q) hm
def zE (t:TE):TT:=λσ H Q=>t σ H λx H'=>∃k,x=.bl k/\Q k H'
theorem p4 {op:CmpOp} {r:R2} (ho:gq X (compareOp op) r) (ha:PE X a ta) (hb:PE X b tb) (hm:behindInMarks op b=false):PT X (.Compare a [op] [b] pos) (zE (BJ r ta tb)):=by
 intro pins s σ H Q I h
 refine wpAny_isTrue_Compare1 (bu (ha pins s σ H _ I h) λv s1 ⟨x,H1,I1,r1,q1⟩=>bu (hb pins s1 σ H1 _ I1 q1) λu s2 ⟨y,H2,I2,r2,q2⟩ =>
  bu (ho pins s2 σ H2 x y v u _ I2 r1 r2 q2) λc s3 ⟨z,H3,I3,r3,k,e,q3⟩=>?_) hm
 subst e;cases r3;exact wpAny_truthy_bool ⟨H3,I3,q3⟩
def tO (r r':R2) (ta tb tc:TE):TE:=λσ H Q=>ta σ H λx H1=>tb σ H1 λy H2=>r x y H2 λz H3=>∃k,z=.bl k /\
 (if k=true then tc σ H3 λw' H4=>r' y w' H4 Q else Q (.bl false) H3)
theorem wj {op op':CmpOp} {r r':R2} (ho:gq X (compareOp op) r) (ho':gq X (compareOp op') r') (ha:PE X a ta) (hb:PE X b tb) (hc:PE X c tc)
  (hm:lastMarks [op,op'] [b,c]=false:=by with_unfolding_all rfl):PT X (.Compare a [op,op'] [b,c] pos) (zE (tO r r' ta tb tc)):=by
 intro pins s σ H Q I h
 refine isTrue_chain (bu (ha pins s σ H _ I h) λv s1 ⟨x,H1,I1,r1,q1⟩=>test_link (bu (hb pins s1 σ H1 _ I1 q1) λu s2 ⟨y,H2,I2,r2,q2⟩ =>
  bu (ho pins s2 σ H2 x y v u _ I2 r1 r2 q2) λd s3 ⟨z,H3,I3,r3,k,e,q3⟩=>?_)) hm
 subst e;cases r3;refine wpAny_truthy_bool ?_
 cases k with
 | false =>
  obtain⟨k',e',q'⟩:=q3;cases e'
  exact ite_ff ⟨H3,I3,q'⟩
 | true =>
  refine ite_tt (test_last (bu (hc pins s3 σ H3 _ I3 q3) λw' s4 ⟨z',H4,I4,r4,q4⟩=>bu (ho' pins s4 σ H4 y z' u w' _ I4 r2 r4 q4) λd' s5 hq0=>?_));obtain⟨z2,H5,I5,r5,k2,e2,q5⟩:=hq0;subst e2;cases r5;exact wpAny_truthy_bool ⟨H5,I5,q5⟩
theorem nu:(sizeLine:Nat) < 2 ^ 63:=by rw [sizeLine_eq];decide
theorem t7:gq X (binaryOp .Add) (λx y H Q=>∃i j,x=.str i/\y=.str j/\i.length + j.length<=sizeLine/\Q (.str (i ++ j)) H):=by
 intro pins s σ H x y v u Q I rx ry h;obtain⟨i,j,rfl,rfl,hz,q⟩:=h;obtain⟨t,rfl⟩:=rx;obtain⟨t',rfl⟩:=ry;exact add_str (λt' tk=>⟨.str (i ++ j),H,I.tok _,⟨_,rfl⟩,q⟩) hz
theorem vals1 {x:V} {us:List Value} (r:Vals [x] us):∃u,us=[u]/\RelV x u:=by
 cases r with
 | cons r1 r2=>cases r2;exact⟨_,rfl,r1⟩
theorem vals2 {x y:V} {us:List Value} (r:Vals [x,y] us):∃u w',us=[u,w']/\RelV x u/\RelV y w':=by
 cases r with
 | cons r1 r2 =>
  cases r2 with
  | cons r3 r4=>cases r4;exact⟨_,_,rfl,r1,r3⟩
theorem xC:dr X (.builtin "abs") (λxs H Q=>∃i,xs=[.int i]/\Q (.int (if i < 0 then -i else i)) H):=by
 intro pins s σ H xs us Q I r h;obtain⟨i,rfl,q⟩:=h;obtain⟨u,rfl,t,rfl⟩:=vals1 r;exact call_abs_int λu tk=>⟨.int (if i < 0 then -i else i),H,I.tok _,⟨_,rfl⟩,q⟩
theorem vx (hc:X.calm=true):dr X (.builtin "min") (λxs H Q=>∃i j,xs=[.int i,.int j]/\Q (.int (if j < i then j else i)) H):=by
 intro pins s σ H xs us Q I r h;obtain⟨i,j,rfl,q⟩:=h;obtain⟨u,w',rfl,⟨t,rfl⟩,⟨t',rfl⟩⟩:=vals2 r;refine min_two_ints (I.ok.hd hc) λh' tk k=>⟨_,H,I.kept k,?_,q⟩
 by_cases hj:j < i
 ·rw [if_pos hj,if_pos hj];exact⟨_,rfl⟩
 ·rw [if_neg hj,if_neg hj];exact⟨_,rfl⟩
end
theorem r8.some_of {v:V} {o:Option Value} (r:r8 (some v) o):∃u,o=some u/\RelV v u:=by
 cases o with
 | none=>exact (show False from r).elim
 | some u=>exact⟨u,rfl,r⟩
structure cp (k:Nat) (A:Around):Prop where
 hd:A.handled=none
 dp:A.depth + 3 * k + 5 < recursionLimit
 un:A.units + 16 * k + 200 < cLine
theorem cp.mono {j k:Nat} {A:Around} (r:cp k A) (h:j<=k):cp j A:=⟨r.hd,by have:=r.dp;omega,by have:=r.un;omega⟩
theorem cp.deeper {k:Nat} {A:Around} (r:cp (k + 1) A) (env:Env):cp k (A.deeper env) :=
 ⟨r.hd,by have:=r.dp;show A.depth + 1 + 3 * k + 5 < _;omega,by have:=r.un;show A.units + 3 + 16 * k + 200 < _;omega⟩
theorem cp.depth {k:Nat} {A:Around} (r:cp k A):A.depth < recursionLimit:=by have:=r.dp;omega
theorem cp.units {k:Nat} {A:Around} (r:cp k A):A.units + 64 < cLine:=by have:=r.un;omega
def DO:TA:=λ_ H Q=>Q [] H
def CV (ta:TE) (tr:TA):TA:=λσ H Q=>ta σ H λx H1=>tr σ H1 λxs H2=>Q (x :: xs) H2
section
variable {X:Cx} {e:Expr} {es:List Expr} {te:TE} {t:TA} {pos:Pos}
theorem m6:PA X [] DO:=λ_ _ _ _ H Q I h=>Calls.spliced_nil ⟨[],H,I,.nil,h⟩
theorem ir (ha:PE X e te) (hr:PA X es t) (hs:starEach (e :: es) X.env=(false,eval e X.env) :: starEach es X.env:=by rfl):PA X (e :: es) (CV te t):=by
 intro pos pins s σ H Q I h;rw [hs];show wpAny _ _ (spliced ((false,eval e X.env) :: backTo pos (starEach es X.env))) _ _ s
 refine FX (bu (ha pins s σ H _ I h) λu s1 hq0=>?_);obtain⟨x,H1,I1,r1,q1⟩:=hq0;exact bu (hr pos pins s1 σ H1 _ I1 q1) λus s2 ⟨xs,H2,I2,r2,q2⟩=>⟨x :: xs,H2,I2,.cons r1 r2,q2⟩
def DT (t:TA):TE:=λσ H Q=>t σ H λxs H1=>xs.length<=sizeLine/\∀p,H1 p=none->Q (.ref p) (upd H1 p (.tup xs))
def DK (t:TA):TE:=λσ H Q=>t σ H λxs H1=>xs.length<=sizeLine/\∀p,H1 p=none->Q (.ref p) (upd H1 p (.lst xs))
theorem Ba {x1} (h:PA X es t):PE X (.Tuple es x1 pos) (DT t):=by
 intro pins s σ H Q I hq;refine wpAny_Tuple_spliced (bu (h pos pins s σ H _ I hq) λus s1 ⟨xs,H1,I1,r,z,q⟩=>⟨by rw [<- r.length];exact z,?_⟩);have hf:H1 s1.heap.objs.size=none:=I1.hok.fresh (E3 _);refine⟨.ref s1.heap.objs.size,upd H1 s1.heap.objs.size (.tup xs),I1.laid (t':=s1.toks) (λb u e=>EZ _ e) (E3 _) ?_,rfl,q _ hf⟩;exact⟨z,us,r,⟨_,Fh _ rfl,rfl,⟨_,rfl⟩,rfl⟩⟩
theorem wR (h:PA X es t):PE X (.List es pos) (DK t):=by
 intro pins s σ H Q I hq;refine wpAny_List_spliced (bu (h pos pins s σ H _ I hq) λus s1 ⟨xs,H1,I1,r,z,q⟩=>⟨by rw [<- r.length];exact z,?_⟩);have hf:H1 s1.heap.objs.size=none:=I1.hok.fresh (E3 _);refine⟨.ref s1.heap.objs.size,upd H1 s1.heap.objs.size (.lst xs),I1.laid (t':=s1.toks) (λb u e=>EZ _ e) (E3 _) ?_,rfl,q _ hf⟩;exact⟨z,us,0,r,Fh _ rfl⟩
end
abbrev Sp:=List V->Hp->VK->XK->Prop
abbrev xT:=List Env->Hp->Shared->XK->Value->Shared->Prop
structure qy (P:Program) (w:World) (K:ES) (mg:Str->Option Value) (base:Heap) (A:Around) (outer:List Env) (s:Shared) (H:Hp):Prop where
 frames:A.frames=some outer
 mod:Mod K mg base
 bs:∀b o,base.get? b=some o->s.heap.get? b=some o/\H b=none
 bsz:base.objs.size<=s.heap.objs.size
 iI:s.heap.FunFrames base outer
 frf:(∀b∈ji outer,H b=none)/\ya K H
 hok:iC P w H s.heap
 bare:AllBare s.gens
def CE (outer:List Env) (P:Program) (w:World) (H:Hp) (s:Shared) (Q:VK) (u:Value) (s':Shared):Prop :=
 ∃v H',s'.os=s.os/\AllBare s'.gens/\Un (ji outer) [] H H' s.heap s'.heap/\iC P w H' s'.heap/\RelV v u/\Q v H'
def CR (CX:xT) (outer:List Env) (P:Program) (w:World) (H:Hp) (s:Shared) (Q:VK) (E:XK) (r:Result) (s':Shared):Prop :=
 match r with
 | .ok (.ret u)=>CE outer P w H s Q u s'
 | .ok _=>False
 | .error e=>CX outer H s E e s'
structure my (P:Program) (w:World) (K:ES) (mg:Str->Option Value) (base:Heap) (CX:xT) (k:Nat) (f:Addr) (fd:FuncData) (ps:List Str) (sp:Sp):Prop where
 len:∀vs H Q E,sp vs H Q E->vs.length=ps.length
 run:∀(A:Around) (outer:List Env) (s:Shared) (H:Hp) (args:Args) (us:List Value) (vs:List V) (Q:VK) (E:XK),cp k A->qy P w K mg base A outer s H->BindsTo s fd args (ps.zip us)->Vals vs us->sp vs H Q E ->
  codeAny (model P w) A (.call (.ref f) args) (CR CX outer P w H s Q E) s
section
variable {X:Cx} {pins:List (Addr×Obj)} {σ:St} {H:Hp} {s s':Shared}
theorem Inv.bW (I:Inv X pins σ H s):qy X.prog X.w X.K X.mg X.base X.A X.stack s H :=
 ⟨I.ok.frames,I.ok.mod,I.bs,FV I.ok.bsz I.sz,I.stack,⟨I.lQ,I.tb⟩,I.hok,I.bare⟩
theorem Inv.after {Q:VK} {u:Value} (I:Inv X pins σ H s) (h:CE X.stack X.prog X.w H s Q u s'):EP X pins σ Q u s':=by
 obtain⟨v,H',os,bare,un,hok,r,q⟩:=h;obtain⟨hh,g,d,t,os'⟩:=s';obtain rfl:os'=s.os:=os;exact⟨v,H',I.call (h':=hh) (g':=g) (d':=d) (t':=t) (ch:=[]) un hok bare (λb z=>absurd z (by simp)),r,q⟩
end
def zF (sp:Sp) (dvs:List V) (E:XK) (t:TA):TE:=λσ H Q=>t σ H λvs H1=>sp (vs ++ dvs) H1 Q E
def Binds (K:ES) (fd:FuncData) (ps:List Str) (ds:List Value):Prop :=
 ∀(s:Shared) (us:List Value),K.In s.heap->(us ++ ds).length=ps.length->BindsTo s fd ⟨us,[]⟩ (ps.zip (us ++ ds))
theorem Binds.all {K:ES} {fd:FuncData} {ps:List Str} (h:∀us:List Value,us.length=ps.length->bindArgs fd ⟨us,[]⟩=pure (ps.zip us)):Binds K fd ps []:=λs us _ hl=>by
 rw [Fz] at hl ⊢;exact .of_eq (h us hl)
def Passes (CX:xT) (X:Cx) (E:XK):Prop:=∀(pins:List (Addr×Obj)) (σ:St) (H:Hp) (s:Shared) (e:Value) (s':Shared),Inv X pins σ H s->CX X.stack H s E e s'->X.xe e s'
section
variable {X:Cx} {CX:xT} {k:Nat} {f C:Addr} {fd:FuncData} {ps:List Str} {sp:Sp} {dvs:List V} {ds:List Value} {E:XK} {x m:Str} {p pos apos:Pos} {e o:Expr} {es:List Expr} {ta:TE} {t:TA}
theorem AV {pins:List (Addr×Obj)} {σ:St} {H:Hp} {s:Shared} {Q:VK} {us:List Value} {vs:List V} (F:my X.prog X.w X.K X.mg X.base CX k f fd ps sp) (hr:cp k X.A) (hb:Binds X.K fd ps ds) (hd:Vals dvs ds) (hx:Passes CX X E)
  (I:Inv X pins σ H s) (r:Vals vs us) (h:sp (vs ++ dvs) H Q E):wpAny (model X.prog X.w) X.A (call (.ref f) us) (EP X pins σ Q) X.xe s:=by
 have r2:Vals (vs ++ dvs) (us ++ ds):=r.append hd;have hl:(us ++ ds).length=ps.length:=by rw [<- r2.length];exact F.len _ _ _ _ h
 refine wpAny_call (codeAny_mono (F.run X.A X.stack s H ⟨us,[]⟩ (us ++ ds) (vs ++ dvs) Q E hr I.bW (hb s us I.nI hl) r2 h) λr s' hq=>?_)
 cases r with
 | error e=>exact hx pins σ H s e s' I hq
 | ok fl =>
  cases fl with
  | ret u=>exact I.after hq
  | next=>exact False.elim hq
  | brk=>exact False.elim hq
  | cont=>exact False.elim hq
theorem yk (F:my X.prog X.w X.K X.mg X.base CX k f fd ps sp) (hr:cp k X.A) (hg:Gl X x) (hm:X.mg x=some (.ref f)) (hk:PySem.W.keepIn X.K (.ref f)=true) (hb:Binds X.K fd ps ds) (hd:Vals dvs ds) (hx:Passes CX X E)
  (ha:PA X (e :: es) t) (hdb:(x == ("__debug__" : Str))=false:=by decide) (he:starEach (e :: es) X.env=(false,eval e X.env) :: starEach es X.env:=by rfl) (hpl:(backTo pos (starEach es X.env)).any (·.1)=false:=by rfl) :
  PE X (.Call (.Name x p) (e :: es) [] pos) (zF sp dvs E t):=by
 intro pins s σ H Q I h;refine wpAny_Call_Name_kw (fm I hg hm ?_ hdb);refine PySem.W.callWith_K (h₀:=X.base) I.ok.mod.kin hk (bu (ha pos pins s σ H _ I h) λus s1 ⟨vs,H1,I1,r,q⟩=>⟨I1.nI,?_⟩) he hpl;exact AV F hr hb hd hx I1 r q
end
structure aI (N P:List Str) (sc:Scope):Prop where
 kind:sc.kind=.function
 co:sc.isCoroutine=false
 gen:sc.isGenerator=false
 nd:N.Nodup
 pre:N.take P.length=P
 par:∀x∈P,sc.names.lookup x=some .local\/sc.names.lookup x=some .cell
 nofree:∀y∈sc.names,y.2≠.free
theorem o4 {kindOf:Str->Option NameKind} {x:Str}:∀{binds:List (Str×Value)} {m:Str->Option Value},(∀v,(x,v)∉binds)->bindL kindOf binds m x=m x
 | [],_,_=>rfl
 | (n,v) :: r,m,h=>by
  unfold bindL;rw [o4 λw hw=>h w (E4 _ hw)]
  split
  ·have:x≠n:=by rintro rfl;exact h v Fc
   simp [this]
  ·rfl
theorem oP {kindOf:Str->Option NameKind} {x:Str}:∀{binds:List (Str×Value)} {m:Str->Option Value},(∀v,(x,v)∉binds)->bindC kindOf binds m x=m x
 | [],_,_=>rfl
 | (n,v) :: r,m,h=>by
  unfold bindC;rw [oP λw hw=>h w (E4 _ hw)]
  split
  ·rfl
  ·have:x≠n:=by rintro rfl;exact h v Fc
   simp [this]
theorem oW {kindOf:Str->Option NameKind} {x:Str} {v:Value}:∀{P:List Str} {vs:List Value} {i:Nat} {m:Str->Option Value},P.Nodup->P[i]?=some x->vs[i]?=some v->kindOf x=some .local ->
  bindL kindOf (P.zip vs) m x=some v
 | [],_,_,_,_,h,_,_=>by simp at h
 | _ :: _,[],_,_,_,_,h,_=>by simp at h
 | p :: P,w :: vs,0,m,nd,h1,h2,hk=>by
  simp at h1 h2;subst h1;subst h2;show bindL kindOf ((p,w) :: P.zip vs) m p=_
  unfold bindL;rw [o4 λv hv=>(FT.mp nd).1 (List.of_mem_zip hv).1,if_pos hk]
  simp
 | p :: P,w :: vs,i + 1,m,nd,h1,h2,hk=>by
  show bindL kindOf ((p,w) :: P.zip vs) m x=_
  unfold bindL;exact oW (i:=i) (FT.mp nd).2 (by simpa using h1) (by simpa using h2) hk
theorem oD {kindOf:Str->Option NameKind} {x:Str} {v:Value}:∀{P:List Str} {vs:List Value} {i:Nat} {m:Str->Option Value},P.Nodup->P[i]?=some x->vs[i]?=some v->kindOf x≠some .local ->
  bindC kindOf (P.zip vs) m x=some v
 | [],_,_,_,_,h,_,_=>by simp at h
 | _ :: _,[],_,_,_,_,h,_=>by simp at h
 | p :: P,w :: vs,0,m,nd,h1,h2,hk=>by
  simp at h1 h2;subst h1;subst h2;show bindC kindOf ((p,w) :: P.zip vs) m p=_
  unfold bindC;rw [oP λv hv=>(FT.mp nd).1 (List.of_mem_zip hv).1,if_neg hk]
  simp
 | p :: P,w :: vs,i + 1,m,nd,h1,h2,hk=>by
  show bindC kindOf ((p,w) :: P.zip vs) m x=_
  unfold bindC;exact oD (i:=i) (FT.mp nd).2 (by simpa using h1) (by simpa using h2) hk
def start (N:List Str) (vs:List V):St:=vs.map some ++ List.replicate (N.length - vs.length) none
def gj (CX:xT) (P:Program) (w:World) (K:ES) (mg:Str->Option Value) (base:Heap) (N:List Str) (qual:Str) (scope:Scope) (f:Addr) (cd:Value) (A:Around) (outer:List Env) (s:Shared) (H:Hp) (E:XK):Cx where
 prog:=P
 w:=w
 K:=K
 mg:=mg
 base:=base
 A:=A.deeper (envOfC qual scope s.heap.objs.size f cd)
 N:=N
 s₀:=s
 H₀:=H
 env:=envOfC qual scope s.heap.objs.size f cd
 outer:=outer
 stack:=envOfC qual scope s.heap.objs.size f cd :: outer
 ex:=[]
 calm:=true
 fn:=λ_=>true
 pn:=[]
 xe:=λe s'=>wpAny (model P w) (A.deeper (envOfC qual scope s.heap.objs.size f cd)) (leaving (envOfC qual scope s.heap.objs.size f cd) e) (λ_ s''=>CX outer H s E e s'') (λe' s''=>CX outer H s E e' s'') s'
theorem si {sc:Scope} {n:Nat} {x:Str} (h:sc.names.lookup x=some .cell):∃c,(cellsFrom n sc.names []).lookup x=some c:=by
 have q:=PySem.W.cellsFrom_some sc.names n [] (.inl h);exact Option.isSome_iff_exists.mp q
theorem om {CX:xT} {P:Program} {w:World} {K:ES} {mg:Str->Option Value} {base:Heap} {N ps:List Str} {qual:Str} {scope:Scope} {f:Addr} {cd:Value} {A:Around} {outer:List Env} {s s1:Shared} {H:Hp} {E:XK} {us:List Value} {vs:List V}
  (S:aI N ps scope) (hd:A.handled=none) (e0:qy P w K mg base A outer s H) (hl:vs.length=ps.length) (r:Vals vs us)
  (x:InCallC s s.heap.objs.size (bindL (envOfC qual scope s.heap.objs.size f cd).kindOf (ps.zip us) λ_=>none) (cellsFrom (s.heap.objs.size + 1) scope.names []) (bindC (envOfC qual scope s.heap.objs.size f cd).kindOf (ps.zip us) λ_=>none) s1) :
  Inv (gj CX P w K mg base N qual scope f cd A outer s H E) [] (start N vs) H s1:=by
 have hpl:ps.length<=N.length:=by have:=congrArg List.length S.pre;rw [List.length_take] at this;omega
 obtain⟨h1,tk,rfl,hk⟩:=x.done;have noA:∀b:Addr,b∉(gj CX P w K mg base N qual scope f cd A outer s H E).ex:=λb z=>absurd (show b∈([]:List Addr) from z) (by simp)
 refine⟨⟨e0.mod,S.kind,rfl,rfl,E3 _,λy z c h1 h2=>?_,λy hy=>?_,λy c _ h=>?_,λ_=>hd,Around.frames_deeper e0.frames,.inr ⟨rfl,rfl⟩,λb z=>absurd z (noA b),e0.bs,e0.bsz,λb _ _=>noA b,λb z=>absurd z (noA b),e0.iI,e0.frf⟩,
  rfl,e0.bare,Un.kept hk,⟨_,x.toInCall.ns,λi y v h1 h2 h3=>?_⟩,λy c h=>⟨_,x.cell y c h⟩,e0.hok.fresh (E3 _),λy c h=>?_,λp hp=>absurd (show p∈([]:List (Addr×Obj)) from hp) (by simp),e0.hok.kept hk,?_⟩
 ·exact name_of_addr x.apart (PySem.mem_of_lookup h1) (PySem.mem_of_lookup h2)
 ·have hy:scope.names.lookup y=some .cell\/scope.names.lookup y=some .free:=hy;rcases hy with hy|hy
  ·exact si hy
  ·exact absurd rfl (S.nofree _ (PySem.mem_of_lookup hy))
 ·exact Gb (x.above y c (PySem.mem_of_lookup h))
 ·have hi:i < vs.length:=by
   unfold start at h2
   by_cases hi:i < vs.length
   ·exact hi
   ·rw [E8 (by simpa using hi)] at h2;rw [FE] at h2
    split at h2 <;> cases h2
  have ha:vs[i]?=some v:=by
   unfold start at h2;rw [E5 (by simpa using hi),E2] at h2
   cases e:vs[i]? with
   | none=>rw [e] at h2;cases h2
   | some a=>rw [e] at h2;cases h2;rfl
  obtain⟨u,hu,rv⟩:=r.get ha
  have hp:ps[i]?=some y:=by
   rw [<- S.pre,List.getElem?_take_of_lt (by omega)];exact h1
  have ndP:ps.Nodup:=by rw [<- S.pre];exact S.nd.sublist (List.take_sublist _ _)
  refine⟨u,rv,?_⟩;rcases S.par y (E6 hp) with k|k
  ·exact .inl ⟨k,oW ndP hp hu k⟩
  ·obtain⟨c,e⟩:=si (n:=s.heap.objs.size + 1) k;refine .inr ⟨.inl k,c,e,?_⟩;have q:=x.cell y c e;rw [oD ndP hp hu (by show scope.names.lookup y≠_;rw [k];decide)] at q;exact q
 ·exact e0.hok.fresh (Gb (x.above y c (PySem.mem_of_lookup h)))
 ·unfold start;show _=N.length
  rw [Ft,Ff,List.length_replicate];omega
theorem vJ {CX:xT} {P:Program} {w:World} {K:ES} {mg:Str->Option Value} {base:Heap} {k:Nat} {f:Addr} {name qual:Str} {params:Arguments} {body:List Stmt} {scope:Scope} {dV kV doc pm cdv ct oc:Value} {an od:Option Addr}
  {osl:Array (Option Value)} {N ps:List Str} {sp:Sp} (lk:K.lookup f=some ⟨oc,od,.func (PySem.W.fnOf name qual params body scope dV kV doc pm an cdv ct),osl⟩) (hcd:PySem.W.codeIn K cdv qual=true) (S:aI N ps scope)
  (len:∀vs H Q E,sp vs H Q E->vs.length=ps.length)
  (hbody:∀(A:Around) (outer:List Env) (s:Shared) (H:Hp) (vs:List V) (Q:VK) (E:XK),cp k (A.deeper (envOfC qual scope s.heap.objs.size f cdv))->sp vs H Q E ->
   ∃t,sv (gj CX P w K mg base N qual scope f cdv A outer s H E) body t/\t { nx:=λ_ H'=>Q .non H',rt:=Q } (start N vs) H) :
  my P w K mg base CX (k + 1) f (PySem.W.fnOf name qual params body scope dV kV doc pm an cdv ct) ps sp:=by
 refine⟨len,λA outer s H args us vs Q E hr e0 hb r hsp=>?_⟩;have hl:=len _ _ _ _ hsp;have KX:K.In s.heap:=e0.mod.kin.keeps λb o e=>(e0.bs b o e).1;have lim:s.heap.NoLimit:=e0.mod.nolimit.keeps λb o e=>(e0.bs b o e).1
 have hkind:∀y∈ps.zip us,scope.names.lookup y.1=some .local\/(scope.names.lookup y.1=some .cell/\((cellsFrom (s.heap.objs.size + 1) scope.names []).lookup y.1).isSome=true):=fun⟨n,v⟩ hy=>by
  rcases S.par n (List.of_mem_zip hy).1 with q|q
  ·exact .inl q
  ·exact .inr ⟨q,PySem.W.cellsFrom_some _ _ _ (.inl q)⟩
 refine codeAny_call_function hr.depth (KX _ _ lk) rfl S.co S.gen rfl (PySem.W.codeRec_of KX hcd) (hb _ _ _ _ ?_);refine wpAny_newFunctionEnv_cells S.kind hkind λenv he s1 x=>?_;subst he;refine⟨lim.keeps x.toInCall.keep,codeAny_func ?_⟩;obtain⟨t,ht,hq⟩:=hbody A outer s H vs Q E (hr.deeper _) hsp;have I:Inv (gj CX P w K mg base N qual scope f cdv A outer s H E) [] (start N vs) H s1:=om S hr.hd e0 hl r x
 refine Fo (ht [] s1 (start N vs) H _ I hq) (λfl s' hs=>?_) λe s' hs=>hs
 have fin:∀{σ':St} {H':Hp} {v:V} {u:Value},Inv (gj CX P w K mg base N qual scope f cdv A outer s H E) [] σ' H' s'->RelV v u->Q v H'->CE outer P w H s Q u s' :=
  λ{σ' H' v u} J rv q=>⟨v,H',J.os,J.bare,J.base,J.hok,rv,q⟩
 cases fl with
 | ret u =>
  obtain⟨v,σ',H',J,rv,q⟩:=hs
  exact fin J rv q
 | next =>
  obtain⟨σ',H',J,q⟩:=hs
  exact fin (v:=V.non) (u:=Value.none) J rfl q
 | brk =>
  obtain⟨_,_,_,q⟩:=hs
  exact False.elim q
 | cont =>
  obtain⟨_,_,_,q⟩:=hs;exact False.elim q
section
variable {X:Cx} {x:Str} {p pos:Pos} {e:Expr} {es:List Expr} {t:TA} {id T:String} {r:List V->Hp->VK->Prop}
def Dm (r:List V->Hp->VK->Prop) (t:TA):TE:=λσ H Q=>t σ H λvs H1=>r vs H1 Q
theorem ri (hc:dr X (.builtin id) r) (hg:Gl X x) (hm:X.mg x=none) (hv:bootBuiltins x=some (.builtin id)) (ha:PA X (e :: es) t) (hn:x≠"__name__":=by decide) (hdb:(x == ("__debug__" : Str))=false:=by decide)
  (he:starEach (e :: es) X.env=(false,eval e X.env) :: starEach es X.env:=by rfl) (hpl:(backTo pos (starEach es X.env)).any (·.1)=false:=by rfl):PE X (.Call (.Name x p) (e :: es) [] pos) (Dm r t):=by
 intro pins s σ H Q I h;refine wpAny_Call_Name_kw (jX I hg hm hv ?_ hn hdb);exact PyProof.Rows.callWith_builtin1 (bu (ha pos pins s σ H _ I h) λus s1 ⟨vs,H1,I1,r1,q1⟩=>hc pins s1 σ H1 vs us Q I1 r1 q1) he hpl
theorem ot (hc:dr X (.type T) r) (hg:Gl X x) (hm:X.mg x=none) (hv:bootBuiltins x=some (.type T)) (ha:PA X (e :: es) t) (hn:x≠"__name__":=by decide) (hdb:(x == ("__debug__" : Str))=false:=by decide)
  (he:starEach (e :: es) X.env=(false,eval e X.env) :: starEach es X.env:=by rfl) (hpl:(backTo pos (starEach es X.env)).any (·.1)=false:=by rfl):PE X (.Call (.Name x p) (e :: es) [] pos) (Dm r t):=by
 intro pins s σ H Q I h;refine wpAny_Call_Name_kw (jX I hg hm hv ?_ hn hdb);exact PyProof.Rows.callWith_type1 (bu (ha pos pins s σ H _ I h) λus s1 ⟨vs,H1,I1,r1,q1⟩=>hc pins s1 σ H1 vs us Q I1 r1 q1) he hpl
end
end L2
namespace HT
open PySem PyProof.Rows
section
variable {prog:Program} {w:World} {A:Around} {E:Value->Shared->Prop} {s:Shared}
theorem yF {t b:Addr} {vs ws:List Value} {Q:Value->Shared->Prop} (ht:IsTup s.heap t vs.toArray) (hb:IsTup s.heap b ws.toArray) (hv:vs≠[])
  (h1:ws=[]->Q (.ref t) s) (h2:ws≠[]->Q (.ref s.heap.objs.size) { s with heap:=s.heap.push { cls:=.type "tuple",data:=.seq (vs ++ ws).toArray } })
  (hsz:vs.length + ws.length<=sizeLine):wpAny (model prog w) A (binaryOp .Add (.ref t) (.ref b)) Q E s:=by
 obtain⟨⟨cls,dd,data,sl⟩,ho,hc,n,hd⟩:=id ht;obtain⟨⟨cls2,dd2,data2,sl2⟩,ho2,hc2,n2,hd2⟩:=id hb;simp only at hc hd hc2 hd2;subst hc hd hc2 hd2;have e:vs.toArray ++ ws.toArray=(vs ++ ws).toArray:=by simp
 by_cases hw:ws=[]
 ·exact concat_meets ⟨_,ho,rfl⟩ ⟨_,ho2,rfl⟩ noFill_tuple_add seq_tuple_add PySem.F.slot_tuple_add PySem.F.entry_tuple_add (PySem.F.args_tuple_add_2 _ _)
   (tuple_addW1 t b vs.toArray ws.toArray n n2 dd dd2 sl sl2 (by simpa using hv) (by simp [hw])) ⟨ho,ho2,h1 hw⟩
 ·refine concat_meets ⟨_,ho,rfl⟩ ⟨_,ho2,rfl⟩ noFill_tuple_add seq_tuple_add PySem.F.slot_tuple_add PySem.F.entry_tuple_add (PySem.F.args_tuple_add_2 _ _)
   (tuple_addW2 t b vs.toArray ws.toArray n n2 dd dd2 sl sl2 (by simpa using hv) (by simpa using hw) (by rw [Fd,Fd];exact hsz)) ⟨ho,ho2,?_⟩
  rw [e];exact h2 hw
end
end HT
namespace L2
open PySem PySem.Spec PyProof.Rows
section
variable {X:Cx} {e:Expr} {te:TE} {lo hi:Option Expr} {tl th:TO} {pos p2:Pos}
def zx (K:ES):R2:=λx y H Q=>∃a b xs ys,x=.ref a/\y=.ref b/\jg K H a xs/\jg K H b ys/\xs≠[]/\xs.length + ys.length<=sizeLine /\
 (ys=[]->Q (.ref a) H)/\(ys≠[]->∀p,H p=none->Q (.ref p) (upd H p (.tup (xs ++ ys))))
theorem Vals.pU {xs:List V} {us:List Value} (r:Vals xs us):us=[]↔xs=[]:=by
 cases r with
 | nil=>simp
 | cons _ _=>simp
theorem zd:gq X (binaryOp .Add) (zx X.K):=by
 intro pins s σ H x y v u Q I rx ry h;obtain⟨a,b,xs,ys,rfl,rfl,ha,hb,hx,hz,q1,q2⟩:=h;cases rx;cases ry;obtain⟨its,r1,p1,_⟩:=I.tuple ha;obtain⟨its2,r2,p2,_⟩:=I.tuple hb;refine HT.yF p1 p2 (λz=>hx (r1.pU.mp z)) (λz=>⟨.ref a,H,I,rfl,q1 (r2.pU.mp z)⟩) (λz=>?_) (by rw [<- r1.length,<- r2.length];exact hz);refine⟨.ref s.heap.objs.size,_,I.laid (t':=s.toks) (o:=.tup (xs ++ ys)) (λb ob q=>EZ _ q) (E3 _) ?_,rfl,q2 (λw=>z (r2.pU.mpr w)) _ (I.hok.fresh (E3 _))⟩
 exact⟨by rw [Ft];exact hz,_,r1.append r2,tL.new _ _⟩
end
def zG (n:Nat) (i:Int):Option Nat:=if 0<=i then (if i < n then some i.toNat else none) else if -(n:Int)<=i then some (i + n).toNat else none
def lx {α:Type} (xs:List α) (i:Int):Option α:=(zG xs.length i).bind λj=>xs[j]?
theorem y9 {n:Nat} {i:Int} {j:Nat} (h:zG n i=some j):seqIndex? i n=some j/\j < n/\-(n:Int)<=i/\i < n:=by
 unfold zG at h
 by_cases h0:0<=i
 ·rw [if_pos h0] at h
  by_cases h1:i < n
  ·rw [if_pos h1] at h;have e:i.toNat=j:=E9 h;exact⟨by rw [seqIndex_of h0 h1,e],by omega,by omega,h1⟩
  ·rw [if_neg h1] at h;cases h
 ·rw [if_neg h0] at h
  by_cases h1:-(n:Int)<=i
  ·rw [if_pos h1] at h;have e:(i + n).toNat=j:=E9 h;exact⟨by rw [seqIndex_neg (by omega) h1,e],by omega,h1,by omega⟩
  ·rw [if_neg h1] at h;cases h
theorem qg {α:Type} {xs:List α} {i:Int} {v:α} (h:lx xs i=some v):∃j,seqIndex? i xs.length=some j/\xs[j]?=some v/\j < xs.length/\-(xs.length:Int)<=i/\i < xs.length:=by
 unfold lx at h
 cases e:zG xs.length i with
 | none=>rw [e] at h;cases h
 | some j =>
  rw [e] at h;obtain⟨h1,h2,h3,h4⟩:=y9 e;exact⟨j,h1,h,h2,h3,h4⟩
def pk (b:Expr):Prop:=∀o i,subscripted b false o i=operate [o,i] (getItem o i)
def ye (X:Cx) (r:R2):Prop :=
 ∀(value slice:Expr) (pins:List (Addr×Obj)) (s:Shared) (σ:St) (H:Hp) (x y:V) (v u:Value) (Q:VK),Inv X pins σ H s->RelV x v->RelV y u->r x y H Q ->
  subscripted slice false v u=operate [v,u] (getItem v u)->wpAny (model X.prog X.w) X.A (subscriptTail value slice v u) (EP X pins σ Q) X.xe s
def Ey (X:Cx) (id:String) (r:V->List V->Hp->VK->Prop):Prop :=
 ∀(pins:List (Addr×Obj)) (s:Shared) (σ:St) (H:Hp) (x:V) (xs:List V) (v:Value) (us:List Value) (Q:VK),Inv X pins σ H s->RelV x v->Vals xs us->r x xs H Q ->
  wpAny (model X.prog X.w) X.A (call (.builtin id) (v :: us)) (EP X pins σ Q) X.xe s
section
variable {X:Cx} {a b:Expr} {ta tb:TE} {pos:Pos}
theorem ye.or {r r':R2} (h:ye X r) (h':ye X r'):ye X (λx y H Q=>r x y H Q\/r' x y H Q):=by
 intro value slice pins s σ H x y v u Q I rx ry q hs;rcases q with q|q
 ·exact h value slice pins s σ H x y v u Q I rx ry q hs
 ·exact h' value slice pins s σ H x y v u Q I rx ry q hs
theorem zD {r:R2} (hr:ye X r) (ha:PE X a ta) (hb:PE X b tb) (hs:pk b):PE X (.Subscript a b pos) (BJ r ta tb):=by
 intro pins s σ H Q I h;exact Subscript_ (BA ha hb I h λv u s2 x y H2 I2 rx ry q=>hr a b pins s2 σ H2 x y v u Q I2 rx ry q (hs _ _))
def CB (K:ES):R2:=λx y H Q=>∃p xs i v,x=.ref p/\y=.int i/\fL K H p xs/\lx xs i=some v/\Q v H
def Cu (K:ES):R2:=λx y H Q=>∃p xs i v,x=.ref p/\y=.int i/\jg K H p xs/\lx xs i=some v/\Q v H
def Ct:R2:=λx y H Q=>∃z i c,x=.str z/\y=.int i/\z.length<=sizeLine/\lx z.cps.toList i=some c/\Q (.str ⟨#[c]⟩) H
theorem ud:ye X (CB X.K):=by
 intro value slice pins s σ H x y v u Q I rx ry h hs;obtain⟨p,xs,i,z,rfl,rfl,hq,he,q⟩:=h;cases rx;obtain⟨t,rfl⟩:=ry;obtain⟨its,r,pl,hz⟩:=I.list hq;obtain⟨j,h1,h2,h3,h4,h5⟩:=qg he;obtain⟨w,ew,rw'⟩:=r.get h2;have hl:=r.length;have hn:=nu;have fin:EP X pins σ Q w s:=⟨z,H,I,rw',q⟩
 by_cases h0:0<=i
 ·have hj:i.toNat=j:=by
   rw [seqIndex_of h0 h5] at h1;exact E9 h1
  exact item_listR pl.isList h0 (by omega) (by rw [hj];simpa using ew) fin hs
 ·have hj:(i + (its.toArray.size:Int)).toNat=j:=by
   rw [seqIndex_neg (by omega) h4] at h1;rw [Fd,<- hl];exact E9 h1
  exact subscriptTail_builtinR (x:=w) pl.isList.typeIs slot_list_getitem.lookup
   (wpAny_getItem_list_neg (Q:=λr s'=>r=w/\EP X pins σ Q r s') pl.isList (by omega) (by rw [Fd] <;> omega) (by omega) (by rw [hj];simpa using ew) ⟨rfl,fin⟩) hs
theorem As:ye X (Cu X.K):=by
 intro value slice pins s σ H x y v u Q I rx ry h hs;obtain⟨p,xs,i,z,rfl,rfl,hq,he,q⟩:=h;cases rx;obtain⟨t,rfl⟩:=ry;obtain⟨its,r,pl,hz⟩:=I.tuple hq;obtain⟨j,h1,h2,h3,h4,h5⟩:=qg he;obtain⟨w,ew,rw'⟩:=r.get h2;have hl:=r.length;have hn:=nu;have fin:EP X pins σ Q w s:=⟨z,H,I,rw',q⟩
 exact subscriptTail_builtinR (x:=w) pl.typeIs slot_tuple_getitem.lookup
  (getItem_tuple (j:=j) (Q:=λr s'=>r=w/\EP X pins σ Q r s') pl (by omega) (by omega) (by rw [Fd,<- hl];exact h1) (by simpa using ew) ⟨rfl,fin⟩) hs
theorem AL:ye X Ct:=by
 intro value slice pins s σ H x y v u Q I rx ry h hs;obtain⟨z,i,c,rfl,rfl,hz,he,q⟩:=h;obtain⟨t,rfl⟩:=rx;obtain⟨t',rfl⟩:=ry;obtain⟨j,h1,h2,h3,h4,h5⟩:=qg he;have hl:z.cps.toList.length=z.length:=by simp [Str.length]
 rw [hl] at h1 h4 h5;have hn:=nu
 exact tail_any (typeIs_str s z t) slot_str_getitem.lookup (getItem_str (c:=c) (by
  have e1:decide (i < -(2 ^ 63:Int))=false:=decide_eq_false (by omega);have e2:decide (i≥2 ^ 63)=false:=decide_eq_false (by omega)
  rw [e1,e2,Bool.or_false]) (by rw [h1];simpa using h2) ⟨.str ⟨#[c]⟩,H,I.tok _,⟨_,rfl⟩,q⟩) hs
def Ed (K:ES):R2:=λx y H Q=>CB K x y H Q\/Cu K x y H Q\/Ct x y H Q
theorem zR:ye X (Ed X.K):=ud.or (As.or AL)
theorem jT:dr X (.builtin "len") (λxs H Q=>∃p ys,xs=[.ref p]/\(fL X.K H p ys\/jg X.K H p ys)/\Q (.int ys.length) H):=by
 intro pins s σ H xs us Q I r h;obtain⟨p,ys,rfl,hq,q⟩:=h;obtain⟨u,rfl,rx⟩:=vals1 r;cases rx;have hn:=nu;rcases hq with hq|hq
 ·obtain⟨its,r',pl,hz⟩:=I.list hq;have hlen:=r'.length;exact Calls.call_len_list pl.isList (by simp only [Fd] <;> omega) ⟨.int ys.length,H,I.tok _,⟨s.toks + 1,by rw [Fd,hlen]⟩,q⟩
 ·obtain⟨its,r',pl,hz⟩:=I.tuple hq;have hlen:=r'.length;exact len_tuple pl (by simp only [Fd] <;> omega) ⟨.int ys.length,H,I.tok _,⟨s.toks + 1,by rw [Fd,hlen]⟩,q⟩
theorem pq:dr X (.builtin "len") (λxs H Q=>∃z,xs=[.str z]/\z.length<=sizeLine/\Q (.int z.length) H):=by
 intro pins s σ H xs us Q I r h;obtain⟨z,rfl,hz,q⟩:=h;obtain⟨u,rfl,t,rfl⟩:=vals1 r;have hn:=nu;exact len_str (by omega) ⟨.int z.length,H,I.tok _,⟨_,rfl⟩,q⟩
theorem dr.or {f:Value} {r r':List V->Hp->VK->Prop} (h:dr X f r) (h':dr X f r'):dr X f (λxs H Q=>r xs H Q\/r' xs H Q):=by
 intro pins s σ H xs us Q I rs q;rcases q with q|q
 ·exact h pins s σ H xs us Q I rs q
 ·exact h' pins s σ H xs us Q I rs q
theorem nN:dr X (.type "tuple") (λxs H Q=>∃p ys,xs=[.ref p]/\((fL X.K H p ys/\∀l,H l=none->Q (.ref l) (upd H l (.tup ys)))\/(jg X.K H p ys/\Q (.ref p) H))):=by
 intro pins s σ H xs us Q I r h;obtain⟨p,ys,rfl,h⟩:=h;obtain⟨u,rfl,rx⟩:=vals1 r;cases rx;rcases h with ⟨hq,q⟩|⟨hq,q⟩
 ·obtain⟨its,r',pl,hz⟩:=I.list hq;have hlen:=r'.length;refine call_tuple_list pl.isList (λh' kp=>?_) (by simp only [Fd] <;> omega)
  have I1:Inv X pins σ H { s with heap:=h' }:=I.kept (t':=s.toks) kp
  have I2:Inv X pins σ (upd H h'.objs.size (.tup ys)) { s with heap:=h'.push { cls:=.type "tuple",data:=.seq its.toArray } } :=
   I1.laid (t':=s.toks) (λb o e=>EZ _ e) (E3 _) (show bo X.prog X.w _ _ _ (.tup ys) from ⟨hz,its,r',tL.new _ _⟩)
  exact⟨.ref h'.objs.size,_,I2,rfl,q _ (I1.hok.fresh (E3 _))⟩
 ·obtain⟨its,r',pl,hz⟩:=I.tuple hq;exact call_tuple_same pl ⟨.ref p,H,I,rfl,q⟩
def Ep (K:ES) (T:String) (x:V) (H:Hp):Prop:=match x with
 | .str _=>T = "str"
 | .int _=>T = "int"
 | .ref p=>(T = "list"/\∃xs,fL K H p xs)\/(T = "tuple"/\∃o,K.lookup p=some o/\o.cls=.type "tuple"/\o.dict=none) \/
   (T = "dict"/\((∃kvs,H p=some (.dK kvs))\/∃kvs,H p=some (.dT kvs)))\/(T = "set"/\∃S n,H p=some (.set S n))
 | _=>False
theorem Aa {pins:List (Addr×Obj)} {σ:St} {H:Hp} {s:Shared} {T:String} {x:V} {v:Value} (I:Inv X pins σ H s) (r:RelV x v) (ty:Ep X.K T x H) :
  s.TypeIs v T/\∀a,v=.ref a->∃ob,s.heap.get? a=some ob/\ob.dict=none:=by
 cases x with
 | str z =>
  obtain⟨t,rfl⟩:=r;cases (show T = "str" from ty)
  exact⟨typeIs_str s z t,λ_ e=>nomatch e⟩
 | int i =>
  obtain⟨t,rfl⟩:=r;cases (show T = "int" from ty)
  exact⟨typeIs_int s i t,λ_ e=>nomatch e⟩
 | ref p =>
  cases r;rcases ty with ⟨rfl,xs,hq⟩|⟨rfl,o,hk,hc,hd⟩|⟨rfl,hk⟩|⟨rfl,S,n,hk⟩
  ·obtain⟨its,_,pl,_⟩:=I.list hq;refine⟨pl.isList.typeIs,λa e=>?_⟩;cases e;obtain⟨o,n,e,c,hd,_⟩:=pl;exact⟨o,e,hd⟩
  ·refine⟨⟨o,I.nI p o hk,hc⟩,λa e=>?_⟩;cases e;exact⟨o,I.nI _ o hk,hd⟩
  ·have z:∃o,s.heap.get? p=some o/\o.ExactDict:=by
    rcases hk with ⟨kvs,hk⟩|⟨kvs,hk⟩
    ·obtain⟨_,_,_,_,o,_,_,e,ex,_⟩:=I.hok p _ hk;exact⟨o,e,ex⟩
    ·obtain⟨_,_,_,_,o,_,_,e,ex,_⟩:=I.hok p _ hk;exact⟨o,e,ex⟩
   obtain⟨o,e,ex⟩:=z;refine⟨⟨o,e,ex.1⟩,λa e2=>?_⟩;cases e2;exact⟨o,e,ex.2.1⟩
  ·obtain⟨o,_,_,_,e,ex,_⟩:=I.hok p _ hk;refine⟨⟨o,e,ex.1⟩,λa e2=>?_⟩;cases e2
   exact⟨o,e,ex.2.1⟩
 | _=>exact False.elim ty
def EI (K:ES) (T:String) (r:V->List V->Hp->VK->Prop) (to:TE) (t:TA):TE:=λσ H Q=>to σ H λx H1=>Ep K T x H1/\t σ H1 λxs H2=>r x xs H2 Q
variable {o e:Expr} {es:List Expr} {to:TE} {t:TA} {name:Str} {apos cpos:Pos} {T id:String} {r:V->List V->Hp->VK->Prop}
theorem B6 (pa:PlainAttrs T) (slot:Slot T name id) (hty:typeOf (.builtin id)=pure (.type "method_descriptor")) (hm:Ey X id r) (ho:PE X o to) (ha:PA X (e :: es) t)
  (hbase:attributeBase o name X.env (eval o X.env)=eval o X.env:=by rfl)
  (hfew:((backTo cpos (starEach (e :: es) X.env)).all (λx=>!x.1) && (backToKw cpos (keywordEach [] X.env)).all (λx=>x.1.isSome)
   && decide ((e :: es).length + ([]:List Keyword).length + (if ([]:List Keyword).isEmpty then 0 else 1) < 30))=true:=by rfl)
  (hline:(apos.endLine == cpos.line)=true:=by rfl) (hs:starEach (e :: es) X.env=(false,eval e X.env) :: starEach es X.env:=by rfl) (hplain:(backTo cpos (starEach es X.env)).any (·.1)=false:=by rfl) :
  PE X (.Call (.Attribute o name apos) (e :: es) [] cpos) (EI X.K T r to t):=by
 intro pins s σ H Q I h;refine wpAny_Call_method_late hbase hfew hline rfl (bu (ho pins s σ H _ I h) λv s1 hq0=>?_);obtain⟨x,H1,I1,r1,ty,q1⟩:=hq0;obtain⟨h1,h2⟩:=Aa I1 r1 ty;refine⟨T,id,pa,slot,hty,h1,h2,?_⟩;have hA:=ha cpos pins s1 σ H1 _ I1 q1;rw [hs] at hA ⊢;refine Calls.callWith_builtin (by show (false || (backTo cpos (starEach es X.env)).any (·.1))=false;rw [hplain] <;> rfl) (Calls.evalArgs_plain ?_)
 exact bu hA λus s2 ⟨vs,H2,I2,r2,q2⟩=>hm pins s2 σ H2 x vs v us Q I2 r1 r2 q2
end
def EG (X:Cx) (id:String) (r:V->List V->Hp->VK->Prop):Prop :=
 ∀(pins:List (Addr×Obj)) (s:Shared) (σ:St) (H:Hp) (x:V) (xs:List V) (v:Value) (us:List Value) (Q:VK),Inv X pins σ H s->RelV x v->Vals xs us->r x xs H Q ->
  wpAny (model X.prog X.w) X.A (call (.builtin id) (v :: us)) (EP X pins σ Q) X.xe s
theorem Vals.one:∀{x:V} {us:List Value},Vals [x] us->∃u,us=[u]/\RelV x u
 | _,_,.cons r .nil=>⟨_,rfl,r⟩
section
variable {X:Cx} {pins:List (Addr×Obj)} {σ:St} {H:Hp} {s:Shared} {l b:Addr} {xs ys zs:List V}
theorem Inv.DF {its its':List Value} {n:Nat} {f:Array Value->Array Value} {t':Nat} (I:Inv X pins σ H s) (hH:H l=some (.lst xs))
  (e:s.heap.get? l=some { cls:=.type "list",data:=.seq its.toArray n }) (hf:f its.toArray=its'.toArray) (hv:Vals ys its') (hz:ys.length<=sizeLine) :
  Inv X pins σ (upd H l (.lst ys)) { s with heap:=s.heap.update l (Obj.mapSeq f),toks:=t' }:=by
 have q:=PySem.IsL.update e f;rw [hf] at q;refine I.write (x:=l) (e:=l) (by rw [hH];exact trivial) (.inl rfl) (λb' u hb hu=>(Heap.get?_update_other s.heap (Obj.mapSeq f) (Ne.symm hb)).trans hu) ⟨_,q⟩ ?_;exact⟨hz,its',_,hv,q⟩
theorem Inv.Dq {its:List Value} {t':Nat} (I:Inv X pins σ H s) (hv:Vals ys its) (hz:ys.length<=sizeLine) :
  Inv X pins σ (upd H s.heap.objs.size (.lst ys)) { s with heap:=s.heap.push { cls:=.type "list",data:=.seq its.toArray },toks:=t' } :=
 I.laid (λ_ _ q=>EZ _ q) (E3 _) ⟨hz,its,0,hv,Fh _ rfl⟩
theorem Inv.fresh (I:Inv X pins σ H s):H s.heap.objs.size=none:=I.hok.fresh (E3 _)
theorem Inv.Dz (I:Inv X pins σ H s) (hH:H l=some (.lst xs)):xs.length<=sizeLine/\∃(its:List Value) (n:Nat),Vals xs its/\xs.length=its.length/\s.heap.get? l=some { cls:=.type "list",data:=.seq its.toArray n }:=by
 obtain⟨z,its,n,r,e⟩:=I.hok l _ hH;exact⟨z,its,n,r,r.length,e⟩
end
section
variable {X:Cx}
def yE:V->List V->Hp->VK->Prop:=λx vs H Q=>∃l xs y,x=.ref l/\vs=[y]/\H l=some (.lst xs)/\xs.length < sizeLine/\Q .non (upd H l (.lst (xs ++ [y])))
theorem o5:EG X "list.append" yE:=by
 intro pins s σ H x vs v us Q I rx rv h;obtain⟨l,xs,y,rfl,rfl,hH,hz,q⟩:=h;cases rx;obtain⟨u,rfl,ru⟩:=rv.one;obtain⟨z,its,n,r,hl,e⟩:=I.Dz hH;refine call_meets F.slot_list_append ⟨_,e,rfl⟩ F.entry_list_append (F.args_list_append_2 _ _) (PySem.list_append l its.toArray n u (by rw [Fd];omega)) ⟨e,?_⟩;refine⟨.non,_,I.DF (its':=its ++ [u]) hH e (by simp) (r.append (.cons ru .nil)) ?_,rfl,q⟩;rw [Ft,List.length_singleton]
 omega
end
end L2
namespace Att
open PySem PySem.W PySem.Calls PyProof.Rows
theorem ly {P:Params} {h:Heap}:∀(ns:List Int) (vs:List Value),WellAll P h vs (ns.map WData.int)->IntsAre vs ns:=by
 intro ns
 induction ns with
 | nil =>
  intro vs w;rw [List.map_nil] at w;cases w
  exact .nil
 | cons n ns ih =>
  intro vs w;rw [Fm] at w
  cases w with
  | cons a b =>
   cases a;exact .cons _ _ (ih _ b)
theorem uZ {l:OpenLaw} {n:Nat} (hn:l.most=some n) {P:Params} {h:Heap} {args:List WData} {vals:List Value}
  (hpre:l.row.toRowW.claim.pre args=true) (hwl:WellAll P h vals args) :
  ∃a vs ns,vals=[Value.ref a]/\args=[WData.list (ns.map WData.int)]/\h.get? a=some { cls:=.type "list",data:=.seq vs.toArray }/\IntsAre vs ns/\ns.length<=n:=by
 have hsh:WShape.hasAll [] args [.list .int]=true:=(pre_splitW hpre).1;have hc:l.pre.holds [] { args:=args }=true:=(pre_splitW hpre).2;obtain⟨d,r,rfl,h1,h2⟩:=hasAllW_cons hsh;obtain rfl:=hasAllW_nil h2;obtain⟨xs,rfl,h3⟩:=hasW_list h1;obtain⟨ns,rfl⟩:=items_int h3
 have hlen:ns.length<=n:=by
  unfold OpenLaw.pre at hc
  have h4:(WTm.not (.lt (.lit (.int (n:Int))) (.len (.arg 0)))).holds [] { args:=[.list (ns.map .int)] }=true:=by
   have h4:=(holds_andW hc).1;rw [hn] at h4;exact h4
  have h5:=condW_of h4 (w_not (w_lt w_lit (w_len_list (w_arg rfl))));rw [Ff] at h5;refine Nat.le_of_not_lt λq=>?_;have q':(n:Int) < ((ns.length:Nat):Int):=by omega
  first
   | (rw [decide_eq_true q'] at h5;exact absurd h5 (by decide))
   | (simp at h5;omega)
 cases hwl with
 | cons w1 w2 =>
  cases w2
  cases w1 with
  | list ho hall=>exact⟨_,_,ns,rfl,rfl,ho,ly ns _ hall,hlen⟩
theorem u0 (l:OpenLaw) (args:List WData):l.row.toRowW.claim.post args (.bool true) args=true :=
 postW_of (r:=l.row.toRowW) (X:=(true == true))
  (show WShape.has [] (.bool true) .bool=true by first|rfl|decide|simp [WShape.has,WShape.arms,WShape.armsAll])
  (show (WTm.eq .res (.lit (.bool true))).value [] { args:=args,res:=some (.bool true),after:=args }=some (.bool (true == true)) from w_eq_bool (w_res rfl) w_lit) rfl
theorem rf {l:OpenLaw} {n:Nat} {q:Program} {loose:List Str} {XP:(Str->Option Value)->Heap->Prop} {YP:World->Heap->Prop} {d:DefRec}
  (hn:l.most=some n) (hdf:d.params.defaults=[])
  (call:∀(w:World) (s₀ s₁:Shared) (mg mb:Str->Option Value) (fa:Addr) (o:Obj) (pm cd doc:Value) (a:Addr) (vs:List Value) (ns:List Int),
   Ground q loose [] XP w s₀ mg mb s₁.heap->YP w s₁.heap ->
   s₁.heap.get? fa=some o->o.data=.func (docDef d.name d.params d.body d.scope pm cd doc)->s₁.heap.CodeRec cd d.name->mg d.name=some (.ref fa) ->
   s₁.heap.get? a=some { cls:=.type "list",data:=.seq vs.toArray }->IntsAre vs ns->ns.length<=n->s₁.gens=#[] ->
   codeAny (model l.prog w) callerA (.call (.ref fa) ⟨[.ref a],[]⟩) (λr s'=>r=.ok (.ret (.bool true))/\OldK s₁.heap s'.heap/\s'.os=s₁.os/\AllBare s'.gens) s₁) :
  WalkO q loose XP YP l.row.toRowW d [] (λf vs=>PySem.call f vs):=by
 intro w s₀ s₁ mg mb G Y fa o pm cd doc dV kV ho hd hcd hD hmg hg args vals as hpre hlay hrd hwl hlo;obtain rfl:dV=.none:=Dflts.none hD hdf;obtain rfl:kV=.none:=Dflts.noKw hD;obtain⟨a,vs,ns,rfl,rfl,hobj,hints,hlen⟩:=uZ hn hpre hwl;refine enter_call (codeAny_mono (call w s₀ s₁ mg mb fa o pm cd doc a vs ns G Y ho (fd_plain hd) hcd hmg hobj hints hlen hg) λr s' hq=>?_);obtain⟨rfl,h2,h3,h4⟩:=hq;exact⟨.inl ⟨.bool true,.bool true,[],rfl,λ_=>rfl,.bool true,u0 l _,λ_=>⟨List.Pairwise.nil,λ_ hm=>(nomatch hm)⟩⟩,h2,h3,h4⟩
end Att
namespace L2
open PySem PySem.Spec PyProof.Rows
theorem iB:∀{vs:List Value} {ns:List Int},IntsAre vs ns->Vals (ns.map V.int) vs
 | _,_,.nil=>.nil
 | _,_,.cons n t h=>.cons ⟨t,rfl⟩ (iB h)
theorem yn {K:ES} {b:Addr} {q:Str} (h:tq K b=some q):∃x c,(x,q)∈jq/\PySem.W.tabIn K x=some (c,b):=by
 unfold tq at h
 cases e:jq.find? λp=>match PySem.W.tabIn K p.1 with|some (_,P)=>P == b|none=>false with
 | none=>rw [e] at h;cases h
 | some p =>
  rw [e] at h;cases h;have m:=List.mem_of_find?_eq_some e;have z:=List.find?_some e;refine⟨p.1,?_⟩
  cases t:PySem.W.tabIn K p.1 with
  | none=>rw [t] at z;cases z
  | some r =>
   obtain⟨c,P⟩:=r;rw [t] at z;obtain rfl:P=b:=by simpa using z
   exact⟨c,m,rfl⟩
theorem xF {P:Program} {w:World} {K:ES} {mg mb:Str->Option Value} {CX:xT} {k:Nat} {fa a:Addr} {fd:FuncData} {x:Str} {sp:Sp} {s₁:Shared} {vs:List Value} {ns:List Int}
  (KX:K.In s₁.heap) (hns:s₁.heap.Ns mainGlobals mg) (hb:s₁.heap.Ns builtinsNs mb) (hbb:∀x:Str,x≠"__name__"->mb x=bootBuiltins x) (hlim:s₁.heap.NoLimit) (hg:s₁.gens=#[])
  (ha:s₁.heap.get? a=some { cls:=.type "list",data:=.seq vs.toArray }) (hi:IntsAre vs ns) (hl:ns.length<=sizeLine) (hr:cp k callerA)
  (hbm:∃bm ob,mg "__builtins__" = some (.ref bm)/\bm≠builtinsNs/\s₁.heap.get? bm=some ob/\ob.cls=.type "module"/\ob.dict=some builtinsNs/\ob.data=.plain)
  (hnt:PySem.W.noTabs K=true) (htb:∀x c b,x∈jq.map (·.1)->PySem.W.tabIn K x=some (c,b)->PySem.W.CodeHd s₁.heap c b/\s₁.heap.get? b=some (PySem.W.tabObj #[]))
  (F:∀base:Heap,K.In base->base.Ns mainGlobals mg->my P w K mg base CX k fa fd [x] sp) (hbind:∀(s:Shared) (u:Value),BindsTo s fd ⟨[u],[]⟩ [(x,u)])
  (hsp:∀H:Hp,fL K H a (ns.map V.int)->sp [.ref a] H (λv _=>v=.bl true) λ_ _ _=>False)
  (hCX:∀H e s',CX [] H s₁ (λ_ _ _=>False) e s'->False) :
  codeAny (model P w) callerA (.call (.ref fa) ⟨[.ref a],[]⟩) (λr s'=>r=.ok (.ret (.bool true))/\OldK s₁.heap s'.heap/\s'.os=s₁.os/\AllBare s'.gens) s₁:=by
 have rv:=iB hi;have lenV:=hi.length
 have tab:∀{b:Addr} {q:Str},tq K b=some q->(∃c,PySem.W.CodeHd s₁.heap c b)/\s₁.heap.get? b=some (PySem.W.tabObj #[]):=λ{b q} e=>by
  obtain⟨x,c,m,t⟩:=yn e;obtain⟨h1,h2⟩:=htb x c b (Fj.mpr ⟨_,m,rfl⟩) t;exact⟨⟨c,h1⟩,h2⟩
 have notab:∀{b:Addr} {o:Obj} {q:Str},K.lookup b=some o->tq K b=some q->False:=λ{b o q} e z=>by
  have e2:=(tab z).2;rw [KX b o e] at e2;cases e2;have h2:=List.all_eq_true.mp hnt (b,_) (PySem.W.mem_of_lookupK e);exact absurd (show false=true from h2) Bool.false_ne_true
 have core:∀H:Hp,(∀b,(H b=none/\tq K b=none)\/(∃o xs,H b=some (.frz o (.lst xs))/\b=a/\tq K b=none)\/∃q,H b=some (.oG q)/\tq K b=some q)->fL K H a (ns.map V.int)->iC P w H s₁.heap->(H a≠none->K.lookup a=none) ->
   codeAny (model P w) callerA (.call (.ref fa) ⟨[.ref a],[]⟩) (λr s'=>r=.ok (.ret (.bool true))/\OldK s₁.heap s'.heap/\s'.os=s₁.os/\AllBare s'.gens) s₁:=by
  intro H hO hS hok hK;have base_of:∀{b:Addr} {o:Obj},s₁.heap.get? b=some o->H b=none->(qf s₁.heap H).get? b=some o:=λe n=>wu e n
  have noA:∀{b:Addr} {o:Obj} {es:Array DictEntry} {ep:Nat},s₁.heap.get? b=some o->o.data=.dict es ep->H b=none:=λ{b o es ep} e d=>by
   rcases hO b with z|⟨_,_,_,rfl,_⟩|⟨q,z,t⟩
   ·exact z.1
   ·rw [ha] at e;cases e;have d':Data.seq vs.toArray _=Data.dict es ep:=d;cases d'
   ·rw [(tab t).2] at e;cases e;have d':Data.fields #[]=Data.dict es ep:=d;cases d'
  have nsK:∀{b:Addr} {m:Str->Option Value},s₁.heap.Ns b m->(qf s₁.heap H).Ns b m:=λ{b m} ⟨o,es,ep,e,d,r⟩=>⟨o,es,ep,base_of e (noA e d),d,r⟩
  have hKb:K.In (qf s₁.heap H):=λb o e=>base_of (KX b o e) (by
   rcases hO b with z|⟨_,_,z,rfl,_⟩|⟨q,z,t⟩
   ·exact z.1
   ·rw [hK (by rw [z];simp)] at e;cases e
   ·exact (notab e t).elim)
  have hM:Mod K mg (qf s₁.heap H):=⟨hKb,nsK hns,⟨mb,nsK hb,hbb⟩,let ⟨mc,h1,h2⟩:=hlim;⟨mc,nsK h1,h2⟩,by
   obtain⟨bm,ob,b1,b2,b3,b4,b5⟩:=hbm;refine⟨bm,ob,b1,b2,base_of b3 ?_,b4,b5⟩;rcases hO bm with z|⟨_,_,_,rfl,_⟩|⟨q,z,t⟩
   ·exact z.1
   ·rw [ha] at b3;cases b3;simp at b4
   ·rw [(tab t).2] at b3;cases b3;simp at b4⟩
  have hTb:ya K H:=λb q e=>by
   rcases hO b with z|⟨_,_,_,_,z⟩|⟨q',z,t⟩
   ·rw [z.2] at e;cases e
   ·rw [z] at e;cases e
   ·rw [t] at e;cases e;exact z
  have e0:qy P w K mg (qf s₁.heap H) callerA [] s₁ H:=⟨rfl,hM,λb o e=>zb e,Nat.le_of_eq (uO _ _),trivial,⟨λb hb=>absurd (show b∈([]:List Addr) from hb) (by simp),hTb⟩,hok,.of_eq hg⟩;refine codeAny_mono ((F _ hKb (nsK hns)).run callerA [] s₁ H ⟨[.ref a],[]⟩ [.ref a] [.ref a] _ _ hr e0 (hbind s₁ (.ref a)) (.cons rfl .nil) (hsp H hS)) λr s' h=>?_
  cases r with
  | error e=>exact (hCX H e s' h).elim
  | ok fl =>
   cases fl with
   | next=>exact False.elim h
   | brk=>exact False.elim h
   | cont=>exact False.elim h
   | ret u =>
    obtain⟨v,H',os,bare,un,hok',r',q⟩:=h;have q':v=.bl true:=q;subst q';obtain rfl:u=Value.bool true:=r'
    have look:∀b o,s₁.heap.get? b=some o->s'.heap.get? b=some o\/(isCodeTable s₁.heap b/\o=PySem.W.tabObj #[]/\∃ps,s'.heap.get? b=some (PySem.W.tabObj ps)):=λb o e=>by
     rcases hO b with z|⟨ob,xs,z,rfl,_⟩|⟨q,z,t⟩
     ·exact .inl (un.keep b o e z.1 (by intro z;exact absurd (show b∈([]:List Addr) from z) (by simp)) (by simp))
     ·have z2:=un.frzs _ ob _ z;obtain⟨e1,_⟩:=hok _ _ z;obtain⟨e2,_⟩:=hok' _ _ z2;rw [e] at e1;cases e1;exact .inl e2
     ·obtain⟨⟨c,hc⟩,e1⟩:=tab t;obtain⟨ps,e2,_⟩:=hok' b _ (un.tbls b q z);rw [e] at e1;cases e1;exact .inr ⟨(hc.tab e).isCodeTable,rfl,ps,e2⟩
    refine⟨rfl,⟨λb o e=>?_,λb o e=>?_⟩,os,bare⟩
    ·rcases look b o e with z|⟨t,rfl,ps,z⟩
     ·exact .inl z
     ·exact .inr (.inl ⟨t,rfl,#[],ps,rfl,by rw [Array.empty_append];exact z⟩)
    ·rcases look b o e with z|⟨t,rfl,ps,z⟩
     ·exact⟨o,z⟩
     ·exact⟨_,z⟩
 have aTab:tq K a=none:=by
  cases e:tq K a with
  | none=>rfl
  | some q=>have z:=(tab e).2;rw [ha] at z;cases z
 have tblOk:∀(H:Hp) {b:Addr} {q:Str},tq K b=some q->bo P w H s₁.heap b (.oG q):=λH {b q} e=>⟨#[],(tab e).2,trivial,λpos cv z=>by cases z⟩
 cases hk:K.lookup a with
 | some o =>
  have e:=KX a o hk;rw [ha] at e;cases e;refine core (λb=>(tq K b).map HO.oG) (λb=>?_) (.inr ⟨_,vs.toArray,_,hk,rfl,rfl,rfl,by rw [Fd,lenV];exact hl,by simpa using rv⟩) (λb u z=>?_) λz=>absurd (by show (tq K a).map HO.oG=none;rw [aTab];rfl) z
  ·cases e:tq K b with
   | none=>exact .inl ⟨by rw [Option.map_none],rfl⟩
   | some q=>exact .inr (.inr ⟨q,by rw [Option.map_some],rfl⟩)
  ·have z':(tq K b).map HO.oG=some u:=z
   cases e:tq K b with
   | none=>rw [e] at z';cases z'
   | some q=>rw [e] at z';cases z';exact tblOk _ e
 | none =>
  refine core (λb=>if b=a then some (.frz { cls:=.type "list",data:=.seq vs.toArray } (.lst (ns.map V.int))) else (tq K b).map HO.oG) (λb=>?_) (.inl (.inr ⟨{ cls:=.type "list",data:=.seq vs.toArray },if_pos rfl⟩)) (λb u z=>?_) λ_=>hk
  ·by_cases hb:b=a
   ·exact .inr (.inl ⟨_,_,if_pos hb,hb,by rw [hb];exact aTab⟩)
   ·cases e:tq K b with
    | none=>exact .inl ⟨by rw [if_neg hb,Option.map_none],rfl⟩
    | some q=>exact .inr (.inr ⟨q,by rw [if_neg hb,Option.map_some],rfl⟩)
  ·by_cases hb:b=a
   ·have z':=(if_pos hb).symm.trans z;cases z';subst hb;exact⟨ha,by rw [Ff];exact hl,vs,_,rv,ha⟩
   ·have z':=(if_neg hb).symm.trans z
    cases e:tq K b with
    | none=>rw [e] at z';cases z'
    | some q=>rw [e] at z';cases z';exact tblOk _ e
theorem y8 {l:PySem.W.OpenLaw} {n k:Nat} {q:Program} {loose:List Str} {XP:(Str->Option Value)->Heap->Prop} {YP:World->Heap->Prop} {d:DefRec} {K:Params->ES} {CX:World->xT} {sp:World->Sp} {x:Str}
  (hn:l.most=some n) (hn2:n<=sizeLine) (hdf:d.params.defaults=[]) (hr:cp k callerA)
  (hnt:∀w:World,PySem.W.noTabs (K w.params)=true) (hrc:∀w:World,jq.all (λp=>(PySem.W.tabIn (K w.params) p.1).isNone || ((recsOf q).find? λe=>e.name == p.1).isSome)=true)
  (hY:∀(w:World) (h:Heap),YP w h->(K w.params).In h)
  (F:∀(w:World) (mg:Str->Option Value) (fa:Addr) (h:Heap),(K w.params).In h->h.Ns mainGlobals mg->mg d.name=some (.ref fa) ->
   ∃fd:FuncData,(∀(s:Shared) (u:Value),BindsTo s fd ⟨[u],[]⟩ [(x,u)]) /\
    ∀base:Heap,(K w.params).In base->base.Ns mainGlobals mg->my l.prog w (K w.params) mg base (CX w) k fa fd [x] (sp w))
  (hsp:∀(w:World) (H:Hp) (a:Addr) (ns:List Int),ns.length<=n->fL (K w.params) H a (ns.map V.int)->sp w [.ref a] H (λv _=>v=.bl true) λ_ _ _=>False)
  (hCX:∀(w:World) (H:Hp) (s:Shared) (e:Value) (s':Shared),CX w [] H s (λ_ _ _=>False) e s'->False) :
  PySem.W.WalkO q loose XP YP l.row.toRowW d [] (λf vs=>PySem.call f vs):=by
 refine Att.rf hn hdf λw s₀ s₁ mg mb fa o pm cd doc a vs ns G Y ho hd hcd hmg hobj hints hlen hg=>?_;have KX:=hY w _ Y;obtain⟨fd,hb,hF⟩:=F w mg fa _ KX G.T.g hmg;refine xF KX G.T.g G.T.b G.T.builtins G.T.nolimit hg hobj hints (FV hlen hn2) hr G.T.bmain (hnt w) (λx c b hx ht=>?_) hF hb (λH hS=>hsp w H a ns hlen hS) λH e s'=>hCX w H s₁ e s';obtain⟨p,hp,rfl⟩:=Fj.mp hx;have z:=List.all_eq_true.mp (hrc w) p hp
 rw [ht] at z;have z2:((recsOf q).find? λe=>e.name == p.1).isSome=true:=by simpa using z
 obtain⟨dd,hd'⟩:=Option.isSome_iff_exists.mp z2;exact PySem.W.tab_of G.T KX hd' ht
def dj (s:Stmt):Arguments:=match s with
 | .FunctionDef _ a _ _ _ _ _ _ _ _=>a
 | _=>{ posonlyargs:=[],args:=[],vararg:=none,kwonlyargs:=[],kw_defaults:=[],kwarg:=none,defaults:=[] }
def a6 (s:Stmt):List Stmt:=match s with
 | .FunctionDef _ _ b _ _ _ _ _ _ _=>b
 | _=>[]
def aj (s:Stmt):Scope:=match s with
 | .FunctionDef _ _ _ _ _ _ sc _ _ _=>sc
 | _=>{ kind:=.function,names:=[],isGenerator:=false,isCoroutine:=false }
abbrev sq:xT:=λ_ _ _ _ _ _=>False
abbrev E0:XK:=λ_ _ _=>False
theorem zI {X:Cx}:Passes sq X E0:=λ_ _ _ _ _ _ _ h=>h.elim
structure nJ (K:ES) (x qual:Str) (st:Stmt) (f:Addr) (fd:FuncData):Prop where
 ex:∃(oc:Value) (od:Option Addr) (kV doc pm:Value) (an:Option Addr) (cdv ct:Value) (osl:Array (Option Value)),
  fd=PySem.W.fnOf x qual (dj st) (a6 st) (aj st) .none kV doc pm an cdv ct/\K.lookup f=some ⟨oc,od,.func fd,osl⟩/\PySem.W.codeIn K cdv qual=true
 kp:PySem.W.keepIn K (.ref f)=true
section
variable {P:Program} {w:World} {K:ES} {mg:Str->Option Value} {base:Heap}
theorem nJ.ok {x qual:Str} {st:Stmt} {f:Addr} {fd:FuncData} {N ps:List Str} {k:Nat} {sp:Sp} (F:nJ K x qual st f fd) (S:aI N ps (aj st)) (len:∀vs H Q E,sp vs H Q E->vs.length=ps.length)
  (hbody:∀(cdv:Value) (A:Around) (outer:List Env) (s:Shared) (H:Hp) (vs:List V) (Q:VK) (E:XK),cp k (A.deeper (envOfC qual (aj st) s.heap.objs.size f cdv))->sp vs H Q E ->
   ∃t,sv (gj sq P w K mg base N qual (aj st) f cdv A outer s H E).nK (a6 st) t/\t { nx:=λ_ H'=>Q .non H',rt:=Q } (start N vs) H):my P w K mg base sq (k + 1) f fd ps sp:=by
 obtain⟨oc,od,kV,doc,pm,an,cdv,ct,osl,rfl,lk,hcd⟩:=F.ex;refine vJ lk hcd S len λA outer s H vs Q E hr hsp=>?_;obtain⟨t,h,q⟩:=hbody cdv A outer s H vs Q E hr hsp;exact⟨t,h.nK,q⟩
theorem nJ.binds {x qual:Str} {st:Stmt} {f:Addr} {fd:FuncData} {ps:List Str} (F:nJ K x qual st f fd)
  (h:∀(kV doc pm:Value) (an:Option Addr) (cdv ct:Value) (us:List Value),us.length=ps.length->bindArgs (PySem.W.fnOf x qual (dj st) (a6 st) (aj st) .none kV doc pm an cdv ct) ⟨us,[]⟩=pure (ps.zip us)):Binds K fd ps []:=by
 obtain⟨oc,od,kV,doc,pm,an,cdv,ct,osl,rfl,lk,hcd⟩:=F.ex;exact .all (h kV doc pm an cdv ct)
theorem sR {x qual:Str} {st:Stmt} {f:Addr} {oc:Value} {od an:Option Addr} {osl:Array (Option Value)} {kV doc pm cdv ct:Value} (l:K.lookup f=some ⟨oc,od,.func (PySem.W.fnOf x qual (dj st) (a6 st) (aj st) .none kV doc pm an cdv ct),osl⟩)
  (c:PySem.W.codeIn K cdv qual=true) (k:PySem.W.keepIn K (.ref f)=true):nJ K x qual st f (PySem.W.fnOf x qual (dj st) (a6 st) (aj st) .none kV doc pm an cdv ct):=⟨⟨oc,od,kV,doc,pm,an,cdv,ct,osl,rfl,l,c⟩,k⟩
end
def ao (H H':Hp):Prop:=∀b o,H b=some o->H' b=some o
theorem ao.refl (H:Hp):ao H H:=λ_ _ h=>h
theorem ao.trans {H H1 H2:Hp} (a:ao H H1) (b:ao H1 H2):ao H H2:=λc o h=>b c o (a c o h)
theorem ao.free {H H':Hp} (e:ao H H') {l:Addr} (h:H' l=Option.none):H l=Option.none:=by
 cases q:H l with
 | none=>rfl
 | some o =>
  rw [e l o q] at h;cases h
theorem ao.seq {K:ES} {H H':Hp} {a:Addr} {xs:List V} (e:ao H H') (h:fL K H a xs):fL K H' a xs:=by
 rcases h with (h|⟨o,h⟩)|h
 ·exact .inl (.inl (e _ _ h))
 ·exact .inl (.inr ⟨o,e _ _ h⟩)
 ·exact .inr h
end L2
set_option maxHeartbeats 8000000
namespace L2
open PySem PySem.Spec PyProof.Rows
section
variable {κ:Type} [DecidableEq κ]
def jG (kvs:List (κ×V)) (k:κ):Option V:=(kvs.find? λkv=>decide (kv.1=k)).map (·.2)
def putK (kvs:List (κ×V)) (k:κ) (v:V):List (κ×V) :=
 if (kvs.any λkv=>decide (kv.1=k))=true then kvs.map (λkv=>if kv.1=k then (kv.1,v) else kv) else kvs ++ [(k,v)]
theorem jJ {p:κ×V} {r:List (κ×V)} {k:κ} (e:p.1=k):jG (p :: r) k=some p.2:=by simp [jG,List.find?_cons,e]
theorem ju {p:κ×V} {r:List (κ×V)} {k:κ} (e:¬ p.1=k):jG (p :: r) k=jG r k:=by simp [jG,List.find?_cons,e]
theorem ny (k:κ):∀kvs:List (κ×V),(kvs.any λkv=>decide (kv.1=k))=(jG kvs k).isSome
 | []=>rfl
 | p :: r=>by
  rw [List.any_cons]
  by_cases e:p.1=k
  ·simp only [jJ e,decide_eq_true e,Bool.true_or,Option.isSome_some]
  ·rw [ju e,decide_eq_false e,Bool.false_or];exact ny k r
theorem rq (kvs:List (κ×V)) (k:κ) (v:V):(putK kvs k v).length<=kvs.length + 1:=by
 unfold putK
 split
 ·rw [Ff];omega
 ·rw [Ft,FA,FN];omega
theorem xu {kvs:List (κ×V)} {k:κ} (v:V) (h:jG kvs k=none):putK kvs k v=kvs ++ [(k,v)]:=by
 unfold putK;rw [ny,h];exact if_neg (by decide)
theorem KV.val {kvs:List (κ×V)} {vs:List (κ×Value)} (r:KV kvs vs) (k:κ):r8 (jG kvs k) (valueAt vs k):=by
 unfold KV at r
 induction r with
 | nil=>exact True.intro
 | @cons p q ps qs h t ih =>
  obtain⟨h1,h2⟩:=h
  by_cases e:p.1=k
  ·have e':q.1=k:=h1.symm.trans e;have b:valueAt (q :: qs) k=some q.2:=by simp [valueAt,List.find?_cons,e']
   rw [jJ e,b];exact h2
  ·have e':¬ q.1=k:=λz=>e (h1.trans z);have b:valueAt (q :: qs) k=valueAt qs k:=by simp [valueAt,List.find?_cons,e']
   rw [ju e,b];exact ih
theorem KV.any {kvs:List (κ×V)} {vs:List (κ×Value)} (r:KV kvs vs) (k:κ):(kvs.any λkv=>decide (kv.1=k))=vs.any λkv=>decide (kv.1=k):=by
 unfold KV at r
 induction r with
 | nil=>rfl
 | cons h t ih=>rw [List.any_cons,List.any_cons,ih,h.1]
theorem KV.DX {kvs:List (κ×V)} {vs:List (κ×Value)} (r:KV kvs vs) (k:κ) {y:V} {u:Value} (ry:RelV y u) :
  KV (kvs.map λkv=>if kv.1=k then (kv.1,y) else kv) (vs.map λkv=>if kv.1=k then (kv.1,u) else kv):=by
 unfold KV at r ⊢
 induction r with
 | nil=>exact .nil
 | @cons p q ps qs h t ih =>
  rw [Fm,Fm];refine .cons ?_ ih;obtain⟨h1,h2⟩:=h
  by_cases e:p.1=k
  ·rw [if_pos e,if_pos (h1.symm.trans e)];exact⟨h1,ry⟩
  ·rw [if_neg e,if_neg (λz=>e (h1.trans z))];exact⟨h1,h2⟩
theorem KV.put {kvs:List (κ×V)} {vs:List (κ×Value)} (r:KV kvs vs) (k:κ) {y:V} {u:Value} (ry:RelV y u):KV (putK kvs k y) (stored vs k u):=by
 unfold putK stored;rw [r.any k]
 by_cases e:(vs.any λkv=>decide (kv.1=k))=true
 ·rw [if_pos e,if_pos e];exact r.DX k ry
 ·rw [if_neg e,if_neg e];exact Paired.snoc r ⟨rfl,ry⟩
theorem KV.length {kvs:List (κ×V)} {vs:List (κ×Value)} (r:KV kvs vs):kvs.length=vs.length:=Paired.length r
end
theorem vZ {P:Program} {w:World} {k:Key} {u:Value} (r:RelV (kV k) u):(bD P w).is k u=true:=by
 cases k with
 | inl i=>obtain⟨t,e⟩:=(show ∃t,u=Value.int i t from r);subst e;exact qQ P w i t
 | inr x=>obtain⟨t,e⟩:=(show ∃t,u=Value.str x t from r);subst e;exact rL P w x t
theorem oI {P:Program} {w:World}:∀{ks:List Key} {us:List Value},Vals (ks.map kV) us->ItemsAre (bD P w) ks us
 | [],_,r=>by rw [List.map_nil] at r;cases r;exact .nil
 | k :: ks,_,r=>by
  rw [Fm] at r
  cases r with
  | cons h t=>exact .cons (vZ h) (oI t)
abbrev KT (H:Hp):List (List Key×V)->List (List Key×Addr×Value)->Prop:=Paired λp q=>p.1=q.1/\H q.2.1=some (.tup (p.1.map kV))/\RelV p.2 q.2.2
theorem KT.val {H:Hp} {kvs:List (List Key×V)} {xs:List (List Key×Addr×Value)} (r:KT H kvs xs) (k:List Key):r8 (jG kvs k) ((atKey xs k).map (·.2)):=by
 induction r with
 | nil=>exact True.intro
 | @cons p q ps qs h t ih =>
  obtain⟨h1,_,h2⟩:=h
  by_cases e:p.1=k
  ·have e':q.1=k:=h1.symm.trans e;have b:atKey (q :: qs) k=some q.2:=by simp [atKey,List.find?_cons,e']
   rw [jJ e,b];exact h2
  ·have e':¬ q.1=k:=λz=>e (h1.trans z);have b:atKey (q :: qs) k=atKey qs k:=by simp [atKey,List.find?_cons,e']
   rw [ju e,b];exact ih
section
variable {P:Program} {w:World} {H:Hp} {h:Heap} {a:Addr}
theorem zt {u:HO} (ok:iC P w H h) (e:Rd H a u):bo P w H h a u:=e.ok ok
theorem xo {kvs:List (Key×V)} (ok:iC P w H h) (e:Rd H a (.dK kvs)):kvs.length<=sizeLine/\(a == sysModules)=false/\∃vs,KV kvs vs/\h.DictOf (bD P w) a vs :=
 show bo P w H h a (.dK kvs) from zt ok e
theorem Cr {kvs:List (Key×V)} (ok:iC P w H h) (e:H a=some (.dK kvs)):kvs.length<=sizeLine/\(a == sysModules)=false/\∃vs,KV kvs vs/\h.DictOf (bD P w) a vs:=xo ok (.inl e)
theorem xS {ks:List Key} (ok:iC P w H h) (e:H a=some (.tup (ks.map kV))):(tupleKind (bD P w)).is h ks a:=by
 obtain⟨_,its,r,o,h1,h2,⟨n,h3⟩,_⟩:=(show bo P w H h a (.tup (ks.map kV)) from ok a _ e);exact⟨o,its.toArray,n,h1,h2,h3,by simpa using oI r⟩
theorem zu {kvs:List (List Key×V)} (ok:iC P w H h) (e:Rd H a (.dT kvs)):kvs.length<=sizeLine/\(a == sysModules)=false /\
  ∃xs,KT H kvs xs/\h.DictOfH (tupleKind (bD P w)) a xs:=by
 obtain⟨z,y,xs,r,o,es,ep,h1,h2,h3,h4,h5⟩:=(show bo P w H h a (.dT kvs) from zt ok e);refine⟨z,y,xs,r,o,es,ep,h1,h2,h3,h4,λx hx=>?_,h5⟩
 have all:∀{l:List (List Key×V)} {m:List (List Key×Addr×Value)},KT H l m->∀x∈m,(tupleKind (bD P w)).is h x.1 x.2.1:=by
  intro l m q
  induction q with
  | nil=>intro x hx;exact nomatch hx
  | @cons p q ps qs hq t ih =>
   intro x hx;rcases Fe.mp hx with e|hx
   ·subst e;exact xS ok (by rw [<- hq.1];exact hq.2.1)
   ·exact ih x hx
 exact all r x hx
end
def wL (H:Hp) (a:Addr) (y:V) (r:Option V):Prop :=
 (∃kvs k,Rd H a (.dK kvs)/\y=kV k/\r=jG kvs k)\/∃kvs k b,Rd H a (.dT kvs)/\y=.ref b/\H b=some (.tup (k.map kV))/\r=jG kvs k
theorem wL.k {H:Hp} {a:Addr} {kvs:List (Key×V)} {k:Key} (e:H a=some (.dK kvs)):wL H a (kV k) (jG kvs k):=.inl ⟨kvs,k,.inl e,rfl,rfl⟩
section
variable {X:Cx} {pins:List (Addr×Obj)} {σ:St} {H:Hp} {s:Shared} {a:Addr} {y v:V} {u r:Value} {o:Option V} {A:Around} {E:Value->Shared->Prop}
theorem Inv.big (I:Inv X pins σ H s):sysModules < s.heap.objs.size:=by
 have h:mainGlobals < s.heap.objs.size:=(I.mod.glob.keeps I.bk).lt;exact Nat.lt_trans (by decide) h
theorem vi {Q:Value->Shared->Prop} (hu:A.units + 1 < cLine) (I:Inv X pins σ H s) (g:wL H a y (some v)) (ry:RelV y u) (h:∀w' s',Inv X pins σ H s'->RelV v w'->Q w' s') :
  wpAny (model X.prog X.w) A (getItem (.ref a) u) Q E s:=by
 rcases g with ⟨kvs,k,e,ey,l⟩|⟨kvs,k,b,e,ey,eb,l⟩
 ·subst ey;obtain⟨z,hd,vs,rel,dd⟩:=xo I.hok e;obtain⟨w',hw,rw'⟩:=r8.some_of (v:=v) (o:=valueAt vs k) (by rw [l];exact rel.val k);exact wpAny_getItem_of (vZ ry) dd.mapOf hw (h w' _ (I.tok _) rw')
 ·subst ey;cases (show u=Value.ref b from ry);obtain⟨z,hd,xs,rel,dd⟩:=zu I.hok e;obtain⟨w',hw,rw'⟩:=r8.some_of (v:=v) (o:=(atKey xs k).map (·.2)) (by rw [l];exact rel.val k);obtain⟨p,hp,hp2⟩:=Fv.mp hw;refine wpAny_getItem_heap (tupleKind_room_in1 hu) (xS I.hok eb) dd hp ?_;rw [hp2];exact h w' _ (I.tok _) rw'
theorem jD {h':Heap} {t':Nat} {ob:HO} (I:Inv X pins σ H s) (mu:C8 (H a)) (hs:Heap.SameBut a s.heap h') (he:∃q,h'.get? a=some q) (new:bo X.prog X.w (upd H a ob) h' a ob) :
  Inv X pins σ (upd H a ob) { s with heap:=h',toks:=t' } :=
 I.write (x:=a) (e:=a) mu (.inl rfl) (λb q hb z=>(hs.2 b hb).trans z) he new
theorem Aq {P:Program} {w:World} {H':Hp} {h':Heap} {kvs:List (Key×V)} {vs:List (Key×Value)} (z:kvs.length<=sizeLine) (hd:(a == sysModules)=false) (rel:KV kvs vs) (dd:h'.DictOf (bD P w) a vs) :
  bo P w H' h' a (.dK kvs):=⟨z,hd,vs,rel,dd⟩
end
def xb (i:Expr):Prop:=∀ov iv,subscripted i false ov iv=operate [ov,iv] (getItem ov iv)
theorem uv {prog:Program} {w:World} {A:Around} {E:Value->Shared->Prop} {s:Shared} {env:Env} {value slice:Expr} {pos:Pos} {T id:String} {Q:Value->Shared->Prop}
  (hl:typeLookup (.type T) "__getitem__" = pure (some (.builtin id))) (hs:xb slice)
  (h:wpAny (model prog w) A (eval value env) (λo s₁=>wpAny (model prog w) A (eval slice env) (λi s₂=>s₂.TypeIs o T/\wpAny (model prog w) A (getItem o i) Q E s₂) E s₁) E s) :
  wpAny (model prog w) A (eval (.Subscript value slice pos) env) Q E s:=by
 refine Subscript_ (Fo h (λo s₁ h₁=>Fo h₁ (λi s₂ h₂=>?_) λ_ _ x=>x) λ_ _ x=>x);obtain⟨hT,h₂⟩:=h₂;unfold subscriptTail;refine ER ?_;rw [getitemInPython_of_ne hT.not_modules];refine ER (wpAny_specialOf hT hl ?_)
 have fin:wpAny (model prog w) A (subscripted slice false o i) (λr s₃=>wpAny (model prog w) A (letTemporaryGo value o r >>= λ_=>pure r) Q E s₃) E s₂:=by
  rw [hs o i];exact wpAny_operating (Fo h₂ (λr s₃ h₃=>ER (wpAny_letTemporaryGo (EW h₃))) λ_ _ x=>x)
 first
  | exact EW (ER fin)
  | exact ER (EW (ER fin))
  | exact ER fin
theorem se {X:Cx} {pins:List (Addr×Obj)} {σ:St} {H:Hp} {s:Shared} {a:Addr} {y:V} {o:Option V} (I:Inv X pins σ H s) (g:wL H a y o):s.TypeIs (.ref a) "dict":=by
 rcases g with ⟨kvs,k,e,_,_⟩|⟨kvs,k,b,e,_,_,_⟩
 ·obtain⟨_,_,vs,_,dd⟩:=xo I.hok e;exact dd.typeIs
 ·obtain⟨_,_,xs,_,dd⟩:=zu I.hok e;exact dd.typeIs
def CU (td ty:TE):TE:=λσ H Q=>td σ H λx H1=>ty σ H1 λy H2=>∃a v,x=.ref a/\wL H2 a y (some v)/\Q v H2
section
variable {X:Cx} {o i e value:Expr} {pos pos' tpos:Pos} {td ty tv:TE}
theorem yA (hu:X.A.units + 1 < cLine) (ho:PE X o td) (hi:PE X i ty) (hs:xb i):PE X (.Subscript o i pos) (CU td ty):=by
 intro pins s σ H Q I h;refine uv PySem.F.slot_dict_getitem.lookup hs (bu (ho pins s σ H _ I h) λu s1 ⟨x,H1,I1,rx,q1⟩=>bu (hi pins s1 σ H1 _ I1 q1) λiv s2 hq0=>?_);obtain⟨y,H2,I2,ry,a,v,ex,g,q2⟩:=hq0;subst ex;obtain rfl:u=Value.ref a:=rx;exact⟨se I2 g,vi hu I2 g ry λw' s3 I3 rw'=>⟨v,H2,I3,rw',q2⟩⟩
end
theorem wY {P:Program} {w:World} {H:Hp} (h:Heap) (hb:sysModules < h.objs.size):bo P w H (h.push { cls:=.type "dict",data:=.dict #[] }) h.objs.size (.dK []) :=
 ⟨FC _,beq_eq_false_iff_ne.mpr (Ne.symm (Fp hb)),[],.nil,Heap.DictOf.new h⟩
def kC:List (TE×TE)->St->Hp->(List (V×V)->Hp->Prop)->Prop
 | [],_,H,Q=>Q [] H
 | (tk,tv) :: r,σ,H,Q=>tk σ H λx H1=>tv σ H1 λy H2=>kC r σ H2 λps H3=>Q ((x,y) :: ps) H3
abbrev VV:List (V×V)->List (Value×Value)->Prop:=Paired λp q=>RelV p.1 q.1/\RelV p.2 q.2
def Cj (X:Cx) (pos:Pos) (keys:List (Option Expr)) (values:List Expr) (trs:List (TE×TE)):Prop :=
 ∀(pins:List (Addr×Obj)) (s:Shared) (σ:St) (H:Hp) (Q:List (V×V)->Hp->Prop),Inv X pins σ H s->kC trs σ H Q ->
  wpAny (model X.prog X.w) X.A (evalPairs (pairTrees keys values X.env pos)) (λvs s'=>∃ps H',Inv X pins σ H' s'/\VV ps vs/\Q ps H') X.xe s
theorem pG {X:Cx} {pos:Pos}:Cj X pos [] [] []:=λpins s σ H Q I h=>pairTrees_nil_walk ⟨[],H,I,.nil,h⟩
theorem mE {X:Cx} {pos:Pos} {k v:Expr} {ks:List (Option Expr)} {vs:List Expr} {tk tv:TE} {trs:List (TE×TE)} (hk:PE X k tk) (hv:PE X v tv) (hr:Cj X pos ks vs trs) :
  Cj X pos (some k :: ks) (v :: vs) ((tk,tv) :: trs):=λpins s σ H Q I h =>
 pairTrees_cons_walk (bu (hk pins s σ H _ I h) λu s1 ⟨x,H1,I1,rx,q1⟩=>bu (hv pins s1 σ H1 _ I1 q1) λw2 s2 ⟨y,H2,I2,ry,q2⟩ =>
  bu (hr pins s2 σ H2 _ I2 q2) λws s3 ⟨ps,H3,I3,rel,q3⟩=>⟨(x,y) :: ps,H3,I3,.cons ⟨rx,ry⟩ rel,q3⟩)
def fv (kvs more:List (Key×V)):List (Key×V):=more.foldl (λacc kv=>putK acc kv.1 kv.2) kvs
theorem KV.merge:∀{more:List (Key×V)} {rs:List (Key×Value)} {kvs:List (Key×V)} {vs:List (Key×Value)},KV more rs->KV kvs vs->KV (fv kvs more) (merged vs rs):=by
 intro more rs kvs vs r;unfold KV at r
 induction r generalizing kvs vs with
 | nil=>intro q;exact q
 | @cons p q ps qs h t ih =>
  intro r0
  have e:KV (putK kvs p.1 p.2) (stored vs q.1 q.2):=by
   have:=r0.put p.1 h.2;rw [<- h.1];exact this
  exact ih e
theorem iR:∀(more kvs:List (Key×V)),(fv kvs more).length<=kvs.length + more.length
 | [],kvs=>by show kvs.length<=kvs.length + 0;omega
 | p :: r,kvs=>by
  have h1:=iR r (putK kvs p.1 p.2);have h2:=rq kvs p.1 p.2;show (fv (putK kvs p.1 p.2) r).length<=_
  rw [FA];omega
theorem mZ {P:Program} {w:World}:∀{kvs:List (Key×V)} {ws:List (Value×Value)},VV (kvs.map λkv=>(kV kv.1,kv.2)) ws->∃rs,Carries (bD P w) ws rs/\KV kvs rs
 | [],_,r=>by rw [List.map_nil] at r;cases r;exact⟨[],True.intro,.nil⟩
 | p :: kvs,_,r=>by
  rw [Fm] at r
  cases r with
  | @cons a b as bs h t =>
   obtain⟨rs,c,q⟩:=mZ (P:=P) (w:=w) t;obtain⟨b1,b2⟩:=b;exact⟨(p.1,b2) :: rs,⟨vZ h.1,rfl,c⟩,.cons ⟨rfl,h.2⟩ q⟩
def C0 (trs:List (TE×TE)):TE:=λσ H Q=>∀p,H p=none->kC trs σ (upd H p (.dK [])) λps H2=>H2 p=some (.dK [])/\∃kvs:List (Key×V),ps=kvs.map (λkv=>(kV kv.1,kv.2))/\kvs.length<=15/\Q (.ref p) (upd H2 p (.dK (fv [] kvs)))
theorem uH {X:Cx} {pos:Pos} {keys:List (Option Expr)} {values:List Expr} {trs:List (TE×TE)} (h:Cj X pos keys values trs) (hall:keys.all (·.isSome)=true) (hl:keys.length=values.length) (h0:keys≠[])
  (h15:keys.length<=15):PE X (.Dict keys values pos) (C0 trs):=by
 intro pins s σ H Q I q;have hn:=I.hok.fresh (E3 s.heap.objs.size);have I1:=I.laid (a:=s.heap.objs.size) (o:=.dK []) (h':=s.heap.push { cls:=.type "dict",data:=.dict #[] }) (t':=s.toks) (λ_ _ q=>EZ _ q) (E3 _) (wY s.heap I.big)
 refine wpAny_Dict_walk (knd:=bD X.prog X.w) hall hl h0 h15 (bu (h pins _ σ _ _ I1 (q _ hn)) λws s2 hq0=>?_);obtain⟨ps,H2,I2,rel,e,kvs,ep,lk,q2⟩:=hq0;subst ep;obtain⟨rs,c,rk⟩:=mZ (P:=X.prog) (w:=X.w) rel;obtain⟨z,hd,vs0,r0,dd⟩:=Cr I2.hok e;cases r0;refine⟨rs,c,dd,λh' dd' hs=>⟨.ref s.heap.objs.size,_,?_,rfl,q2⟩⟩
 have hz:(fv [] kvs).length<=sizeLine:=by
  have h1:=iR kvs [];rw [FN] at h1;rw [sizeLine_eq];omega
 have he:∃q,h'.get? s.heap.objs.size=some q:=let ⟨q,_,_,hq,_⟩:=dd';⟨q,hq⟩
 exact jD I2 (by rw [e];exact True.intro) hs he (Aq hz hd (rk.merge .nil) dd')
structure M1 (X:Cx) (o:Expr) (m:Str) (apos:Pos) (e:Expr) (cpos:Pos):Prop where
 base:attributeBase o m X.env (eval o X.env)=eval o X.env
 few:((backTo cpos (starEach [e] X.env)).all (λx=>!x.1) && (backToKw cpos (keywordEach [] X.env)).all (λx=>x.1.isSome)
  && decide (([e]:List Expr).length + ([]:List Keyword).length + (if ([]:List Keyword).isEmpty then 0 else 1) < 30))=true
 line:(apos.endLine == cpos.line)=true
 trees:backTo cpos (starEach [e] X.env)=[(false,eval e X.env)]
end L2
namespace L2.L3
open PySem PySem.Spec PyProof.Rows
inductive D where
 | non|bl (b:Bool)|int (i:Int)|str (x:Str)|tup (xs:List D)|lst (xs:List D)|dct (ks:List Key) (xs:List D)|ty (n:String)|exc (c:Str)|cls (c:Str)|obj (P:ES->Hp->Addr->Prop)
def excAt (a C:Addr) (h:Heap):Prop:=∃o vs,h.get? a=some o/\o.cls=.ref C/\o.dict=none/\o.data=.fields vs
mutual
def Den (K:ES) (F:Hp):D->V->Prop
 | .non,v=>v=V.non
 | .bl b,v=>v=V.bl b
 | .int i,v=>v=V.int i
 | .str x,v=>v=V.str x
 | .ty n,v=>v=V.ty n
 | .exc c,v=>∃a C,v=V.ref a/\PySem.W.nsIn K mainGlobals c=some (some (.ref C))/\F a=some (.ext (excAt a C))
 | .cls c,v=>∃C,v=V.ref C/\PySem.W.nsIn K mainGlobals c=some (some (.ref C))
 | .tup ds,v=>∃a vs,v=V.ref a/\jg K F a vs/\aq K F ds vs
 | .lst ds,v=>∃a vs,v=V.ref a/\fL K F a vs/\aq K F ds vs
 | .obj P,v=>∃a,v=V.ref a/\∀G,ao F G->P K G a
 | .dct ks ds,v=>∃a vs,v=V.ref a/\F a=some (.dK (ks.zip vs))/\vs.length=ks.length/\aq K F ds vs
def aq (K:ES) (F:Hp):List D->List V->Prop
 | [],vs=>vs=[]
 | d :: ds,vs=>∃v r,vs=v :: r/\Den K F d v/\aq K F ds r
end
theorem ao.bS {K:ES} {H H':Hp} {a:Addr} {xs:List V} (e:ao H H') (h:jg K H a xs):jg K H' a xs:=by
 rcases h with (h|⟨o,h⟩)|h
 ·exact .inl (.inl (e _ _ h))
 ·exact .inl (.inr ⟨o,e _ _ h⟩)
 ·exact .inr h
mutual
theorem Den.mono {K:ES} {F F':Hp} (s:ao F F'):∀(d:D) (v:V),Den K F d v->Den K F' d v
 | .non,_,h=>by simpa only [Den] using h
 | .bl _,_,h=>by simpa only [Den] using h
 | .int _,_,h=>by simpa only [Den] using h
 | .str _,_,h=>by simpa only [Den] using h
 | .ty _,_,h=>by simpa only [Den] using h
 | .cls _,_,h=>by simpa only [Den] using h
 | .exc _,v,h=>by
  simp only [Den] at h ⊢;obtain⟨a,C,e,z,q⟩:=h
  exact⟨a,C,e,z,s _ _ q⟩
 | .tup ds,v,h=>by
  simp only [Den] at h ⊢;obtain⟨a,vs,e,q,r⟩:=h
  exact⟨a,vs,e,ao.bS s q,aq.mono s ds vs r⟩
 | .lst ds,v,h=>by
  simp only [Den] at h ⊢;obtain⟨a,vs,e,q,r⟩:=h
  exact⟨a,vs,e,s.seq q,aq.mono s ds vs r⟩
 | .obj _,v,h=>by
  simp only [Den] at h ⊢;obtain⟨a,e,q⟩:=h
  exact⟨a,e,λG sG=>q G (s.trans sG)⟩
 | .dct ks ds,v,h=>by
  simp only [Den] at h ⊢;obtain⟨a,vs,e,q,l,r⟩:=h;exact⟨a,vs,e,s _ _ q,l,aq.mono s ds vs r⟩
theorem aq.mono {K:ES} {F F':Hp} (s:ao F F'):∀(ds:List D) (vs:List V),aq K F ds vs->aq K F' ds vs
 | [],_,h=>by simpa only [aq] using h
 | d :: ds,vs,h=>by
  simp only [aq] at h ⊢;obtain⟨v,r,e,a,b⟩:=h;exact⟨v,r,e,Den.mono s d v a,aq.mono s ds r b⟩
end
section
variable {K:ES} {F:Hp}
theorem br {i:Int}:Den K F (.int i) (.int i):=by simp only [Den]
theorem dY {b:Bool}:Den K F (.bl b) (.bl b):=by simp only [Den]
theorem jm:Den K F .non .non:=by simp only [Den]
theorem jo {x:Str}:Den K F (.str x) (.str x):=by simp only [Den]
theorem Bw {x:String}:Den K F (.ty x) (.ty x):=by simp only [Den]
theorem iw {a:Addr} {vs:List V} {ds:List D} (h:jg K F a vs) (r:aq K F ds vs):Den K F (.tup ds) (.ref a):=by
 simp only [Den];exact⟨a,vs,rfl,h,r⟩
theorem lI {a:Addr} {vs:List V} {ds:List D} (h:fL K F a vs) (r:aq K F ds vs):Den K F (.lst ds) (.ref a):=by
 simp only [Den];exact⟨a,vs,rfl,h,r⟩
theorem aT:aq K F [] []:=by simp only [aq]
theorem aM {d:D} {v:V} {ds:List D} {vs:List V} (h:Den K F d v) (r:aq K F ds vs):aq K F (d :: ds) (v :: vs):=by
 simp only [aq];exact⟨v,vs,rfl,h,r⟩
theorem aq.length:∀{ds:List D} {vs:List V},aq K F ds vs->ds.length=vs.length
 | [],vs,h=>by simp only [aq] at h;subst h;rfl
 | d :: ds,vs,h=>by
  simp only [aq] at h;obtain⟨v,r,rfl,_,b⟩:=h;simp [aq.length b]
theorem aq.get:∀{ds:List D} {vs:List V} {i:Nat} {d:D},aq K F ds vs->ds[i]?=some d->∃v,vs[i]?=some v/\Den K F d v
 | [],vs,i,d,h,e=>by simp at e
 | x :: ds,vs,i,d,h,e=>by
  simp only [aq] at h;obtain⟨v,r,rfl,a,b⟩:=h
  cases i with
  | zero=>simp at e;subst e;exact⟨v,rfl,a⟩
  | succ i=>simpa using aq.get b (by simpa using e)
theorem aq.Ak:∀{ds:List D} {vs:List V} {i:Nat} {v:V},aq K F ds vs->vs[i]?=some v->∃d,ds[i]?=some d/\Den K F d v
 | [],vs,i,d,h,e=>by simp only [aq] at h;subst h;simp at e
 | x :: ds,vs,i,d,h,e=>by
  simp only [aq] at h;obtain⟨v,r,rfl,a,b⟩:=h
  cases i with
  | zero=>simp at e;subst e;exact⟨x,rfl,a⟩
  | succ i=>simpa using aq.Ak b (by simpa using e)
theorem aq.append:∀{ds es:List D} {vs us:List V},aq K F ds vs->aq K F es us->aq K F (ds ++ es) (vs ++ us)
 | [],es,vs,us,h,g=>by simp only [aq] at h;subst h;exact g
 | x :: ds,es,vs,us,h,g=>by
  simp only [aq] at h;obtain⟨v,r,rfl,a,b⟩:=h;exact aM a (aq.append b g)
theorem aq.set {x:D} {v:V} (q:Den K F x v):∀{ds:List D} {vs:List V} (n:Nat),aq K F ds vs->aq K F (ds.set n x) (vs.set n v)
 | [],vs,n,h=>by simp only [aq] at h;subst h;simpa using aT
 | y :: ds,vs,0,h=>by
  simp only [aq] at h;obtain⟨w,r,rfl,a,b⟩:=h
  exact aM q b
 | y :: ds,vs,n + 1,h=>by
  simp only [aq] at h;obtain⟨w,r,rfl,a,b⟩:=h;exact aM a (aq.set q n b)
theorem oy (ns:List Int):aq K F (ns.map D.int) (ns.map V.int):=by
 induction ns with
 | nil=>exact aT
 | cons n r ih=>exact aM br ih
end
mutual
def um:D->Int
 | .int i=>hashInt i
 | .tup ds=>reduceHash (Builtin.Tuple.tupleHashOf (mH ds))
 | .non=>4238894112
 | _=>0
def mH:List D->List Int
 | []=>[]
 | d :: ds=>um d :: mH ds
end
def bE (h:Heap) (d:Addr) (es:Array DictEntry) (ep:Nat):Prop:=∃o,h.get? d=some o/\o.ExactDict/\o.data=.dict es ep
def u4 (row:Int×V×V) (e:DictEntry):Prop:=e.hash=row.1/\RelV row.2.1 e.key/\RelV row.2.2 e.val
def iY (p:Addr) (ep:Nat) (rows:List (Int×V×V)):HO:=.ext λh=>rows.length<=sizeLine/\(p == sysModules)=false/\∃es,bE h p es ep/\Paired u4 rows es.toList
def cM (kvs:List (D×D)) (us vs:List V):List (Int×V×V):=(kvs.map λkv=>um kv.1).zip (us.zip vs)
inductive Lo where
 | d (x:D)|own (xs:List D)|dic (kvs:List (D×D))
abbrev En:=List (Option Lo)
structure Base where
 F:Hp
 H:Hp
 N:Addr->Prop
 nb:∀p,N p->H p≠none
structure Rep (K:ES) (B:Base) (F H:Hp) (σ:St) (e:En):Prop where
 f0:ao B.F F
 fh:ao F H
 h0:ao B.H H
 nf:∀p,B.N p->F p=none
 dv:∀(i:Nat) x,e[i]?=some (some (.d x))->∃v,σ[i]?=some (some v)/\Den K F x v
 ov:∀(i:Nat) xs,e[i]?=some (some (.own xs))->∃p vs,σ[i]?=some (some (.ref p))/\H p=some (.lst vs)/\F p=none/\B.H p=none/\aq K F xs vs
 ne:∀(i j:Nat) xs ys p,i≠j->e[i]?=some (some (.own xs))->e[j]?=some (some (.own ys))->σ[i]?=some (some (.ref p))->σ[j]?=some (some (.ref p))->False
 mv:∀(i:Nat) kvs,e[i]?=some (some (.dic kvs))->∃p ep us vs,σ[i]?=some (some (.ref p))/\H p=some (iY p ep (cM kvs us vs))/\F p=none/\B.H p=none/\aq K F (kvs.map (·.1)) us/\aq K F (kvs.map (·.2)) vs
 nm:∀(i j:Nat) xs ys p,i≠j->e[i]?=some (some (.dic xs))->e[j]?=some (some (.dic ys))->σ[i]?=some (some (.ref p))->σ[j]?=some (some (.ref p))->False
section
variable {K:ES} {B:Base} {F H F' H':Hp} {σ:St} {e:En}
theorem Rep.ext (r:Rep K B F H σ e) (a:ao F F') (b:ao F' H') (c:ao H H') (n:∀p,H p≠none->F p=none->F' p=none):Rep K B F' H' σ e where
 f0:=r.f0.trans a
 fh:=b
 h0:=r.h0.trans c
 nf:=λp hp=>by
  refine n p (λz=>?_) (r.nf p hp);have q:=B.nb p hp
  cases w:B.H p with
  | none=>exact q w
  | some o=>rw [r.h0 _ _ w] at z;cases z
 dv:=λi x h=>let ⟨v,h1,h2⟩:=r.dv i x h;⟨v,h1,Den.mono a _ _ h2⟩
 ov:=λi xs h=>by
  obtain⟨p,vs,h1,h2,h3,h4,h5⟩:=r.ov i xs h;exact⟨p,vs,h1,c _ _ h2,n p (by rw [h2];simp) h3,h4,aq.mono a _ _ h5⟩
 ne:=r.ne
 mv:=λi xs h=>by
  obtain⟨p,ep,us,vs,h1,h2,h3,h4,h5,h6⟩:=r.mv i xs h;exact⟨p,ep,us,vs,h1,c _ _ h2,n p (by rw [h2];simp) h3,h4,aq.mono a _ _ h5,aq.mono a _ _ h6⟩
 nm:=r.nm
theorem Rep.lX (r:Rep K B F H σ e) {p:Addr} (h:H p=none):F p=none:=r.fh.free h
theorem a9 {H:Hp} {p:Addr} {o:HO} (h:H p=none):ao H (upd H p o):=λb u q=>by rw [au (a0 q h)];exact q
theorem oj {F H:Hp} {p:Addr} {o:HO} (h:ao F H):ao (upd F p o) (upd H p o):=λb u q=>by
 by_cases e:b=p
 ·subst e;rw [av] at q ⊢;exact q
 ·rw [au e] at q ⊢;exact h _ _ q
theorem Rep.laid (r:Rep K B F H σ e) {p:Addr} {o:HO} (h:H p=none):Rep K B (upd F p o) (upd H p o) σ e/\ao F (upd F p o):=by
 have hf:=r.lX h;refine⟨r.ext (a9 hf) (oj r.fh) (a9 h) λq hq hn=>?_,a9 hf⟩
 by_cases z:q=p
 ·subst z;exact absurd h hq
 ·rw [au z];exact hn
theorem Rep.loose (r:Rep K B F H σ e) {p:Addr} {o:HO} (h:H p=none):Rep K B F (upd H p o) σ e :=
 r.ext (ao.refl _) (r.fh.trans (a9 h)) (a9 h) λ_ _ hn=>hn
theorem Rep.now (r:Rep K B F H σ e):Rep K ⟨F,B.H,B.N,B.nb⟩ F H σ e:=⟨ao.refl _,r.fh,r.h0,r.nf,r.dv,r.ov,r.ne,r.mv,r.nm⟩
theorem Rep.back {G:Hp} (s:ao B.F G) (r:Rep K ⟨G,B.H,B.N,B.nb⟩ F H σ e):Rep K B F H σ e:=⟨s.trans r.f0,r.fh,r.h0,r.nf,r.dv,r.ov,r.ne,r.mv,r.nm⟩
theorem ba {e:En} {i j:Nat} {l:Lo} {kvs:List (D×D)} (hl:∀z,l≠.dic z) (q:(e.set i (some l))[j]?=some (some (.dic kvs))):i≠j:=λz=>by
 subst z
 by_cases w:i < e.length
 ·rw [E1 w] at q;cases q;exact hl _ rfl
 ·rw [Fg (by simpa using w)] at q;cases q
theorem Rep.set (r:Rep K B F H σ e) {i:Nat} {v:V} {x:D} (h:Den K F x v) (hl:i < σ.length):Rep K B F H (σ.set i (some v)) (e.set i (some (.d x))) where
 f0:=r.f0
 fh:=r.fh
 h0:=r.h0
 nf:=r.nf
 dv:=λj y q=>by
  by_cases z:i=j
  ·subst z
   by_cases w:i < e.length
   ·rw [E1 w] at q;cases q;exact⟨v,E1 hl,h⟩
   ·rw [Fg (by simpa using w)] at q;cases q
  ·rw [EU z] at q ⊢;exact r.dv j y q
 ov:=λj y q=>by
  by_cases z:i=j
  ·subst z
   by_cases w:i < e.length
   ·rw [E1 w] at q;cases q
   ·rw [Fg (by simpa using w)] at q;cases q
  ·rw [EU z] at q ⊢;exact r.ov j y q
 ne:=λj k xs ys p hjk q1 q2 q3 q4=>by
  have own_ne:∀(j:Nat) (ys:List D),(e.set i (some (.d x)))[j]?=some (some (.own ys))->i≠j:=λj ys q z=>by
   subst z
   by_cases w:i < e.length
   ·rw [E1 w] at q;cases q
   ·rw [Fg (by simpa using w)] at q;cases q
  have z1:=own_ne j xs q1;have z2:=own_ne k ys q2;rw [EU z1] at q1 q3;rw [EU z2] at q2 q4;exact r.ne j k xs ys p hjk q1 q2 q3 q4
 mv:=λj y q=>by
  have z:i≠j:=ba (λ_ w=>by cases w) q;rw [EU z] at q ⊢;exact r.mv j y q
 nm:=λj k xs ys p hjk q1 q2 q3 q4=>by
  have z1:=ba (λ_ w=>by cases w) q1;have z2:=ba (λ_ w=>by cases w) q2;rw [EU z1] at q1 q3;rw [EU z2] at q2 q4;exact r.nm j k xs ys p hjk q1 q2 q3 q4
theorem Rep.AU (r:Rep K B F H σ e) {i:Nat} {p:Addr} {vs:List V} {xs:List D} (h:H p=none) (hd:aq K F xs vs) (hl:i < σ.length) :
  Rep K B F (upd H p (.lst vs)) (σ.set i (some (.ref p))) (e.set i (some (.own xs))):=by
 have r1:=r.loose (o:=.lst vs) h;have hb:B.H p=none:=r.h0.free h
 have old:∀(j:Nat) (ys:List D),e[j]?=some (some (.own ys))->σ[j]?≠some (some (.ref p)):=λj ys q z=>by
  obtain⟨q1,_,h1,h2,_⟩:=r.ov j ys q;rw [z] at h1;cases h1;rw [h] at h2;cases h2
 refine⟨r1.f0,r1.fh,r1.h0,r1.nf,λj y q=>?_,λj y q=>?_,λj k ys zs q hjk q1 q2 q3 q4=>?_,λj y q=>?_,λj k ys zs q hjk q1 q2 q3 q4=>?_⟩
 ·by_cases z:i=j
  ·subst z
   by_cases w:i < e.length
   ·rw [E1 w] at q;cases q
   ·rw [Fg (by simpa using w)] at q;cases q
  ·rw [EU z] at q ⊢;exact r1.dv j y q
 ·by_cases z:i=j
  ·subst z
   by_cases w:i < e.length
   ·rw [E1 w] at q;cases q;exact⟨p,vs,E1 hl,av,r.lX h,hb,hd⟩
   ·rw [Fg (by simpa using w)] at q;cases q
  ·rw [EU z] at q ⊢;exact r1.ov j y q
 ·by_cases z1:i=j
  ·subst z1;rw [EU hjk] at q2 q4
   by_cases w:i < e.length
   ·rw [E1 hl] at q3;cases q3;exact old k zs q2 q4
   ·rw [Fg (by simpa using w)] at q1;cases q1
  ·rw [EU z1] at q1 q3
   by_cases z2:i=k
   ·subst z2;rw [E1 hl] at q4;cases q4;exact old j ys q1 q3
   ·rw [EU z2] at q2 q4;exact r.ne j k ys zs q hjk q1 q2 q3 q4
 ·have z:i≠j:=ba (λ_ w=>by cases w) q;rw [EU z] at q ⊢;exact r1.mv j y q
 ·have z1:=ba (λ_ w=>by cases w) q1;have z2:=ba (λ_ w=>by cases w) q2;rw [EU z1] at q1 q3;rw [EU z2] at q2 q4;exact r.nm j k ys zs q hjk q1 q2 q3 q4
theorem Rep.change (r:Rep K B F H σ e) {i:Nat} {p:Addr} {vs:List V} {xs ys:List D} (h:e[i]?=some (some (.own xs))) (hp:σ[i]?=some (some (.ref p))) (hd:aq K F ys vs) :
  Rep K B F (upd H p (.lst vs)) σ (e.set i (some (.own ys))):=by
 obtain⟨p',_,h1,h2,h3,h4,_⟩:=r.ov i xs h;rw [hp] at h1;cases h1;have wl:i < e.length:=(EO.mp h).1;have fk:∀q o,F q=some o->q≠p:=λq o z w=>by subst w;rw [h3] at z;cases z
 have bk:∀q o,B.H q=some o->q≠p:=λq o z w=>by subst w;rw [h4] at z;cases z
 have ownAt:∀(j:Nat) (zs:List D),(e.set i (some (.own ys)))[j]?=some (some (.own zs))->∃ws,e[j]?=some (some (.own ws)):=λj zs q=>by
  by_cases z:i=j
  ·subst z;exact⟨xs,h⟩
  ·rw [EU z] at q;exact⟨zs,q⟩
 refine⟨r.f0,λb o z=>by rw [au (fk b o z)];exact r.fh _ _ z,λb o z=>by rw [au (bk b o z)];exact r.h0 _ _ z,r.nf,λj y q=>?_,λj y q=>?_,λj k as bs q hjk q1 q2 q3 q4=>?_,λj y q=>?_,λj k as bs q hjk q1 q2 q3 q4=>?_⟩
 ·by_cases z:i=j
  ·subst z;rw [E1 wl] at q;cases q
  ·rw [EU z] at q;exact r.dv j y q
 ·by_cases z:i=j
  ·subst z;rw [E1 wl] at q;cases q;exact⟨p,vs,hp,av,h3,h4,hd⟩
  ·rw [EU z] at q;obtain⟨p2,us,g1,g2,g3,g4,g5⟩:=r.ov j y q;have:p2≠p:=λw=>by subst w;exact r.ne j i y xs p2 (Ne.symm z) q h g1 hp
   exact⟨p2,us,g1,by rw [au this];exact g2,g3,g4,g5⟩
 ·obtain⟨as',w1⟩:=ownAt j as q1;obtain⟨bs',w2⟩:=ownAt k bs q2;exact r.ne j k as' bs' q hjk w1 w2 q3 q4
 ·have z:i≠j:=ba (λ_ w=>by cases w) q;rw [EU z] at q;obtain⟨p2,ep,us,ws,g1,g2,g3,g4,g5,g6⟩:=r.mv j y q;have:p2≠p:=λw=>by subst w;rw [h2] at g2;cases g2
  exact⟨p2,ep,us,ws,g1,by rw [au this];exact g2,g3,g4,g5,g6⟩
 ·have z1:=ba (λ_ w=>by cases w) q1;have z2:=ba (λ_ w=>by cases w) q2;rw [EU z1] at q1;rw [EU z2] at q2;exact r.nm j k as bs q hjk q1 q2 q3 q4
theorem Rep.freeze (r:Rep K B F H σ e) {i:Nat} {xs:List D} (h:e[i]?=some (some (.own xs))):∃F',ao F F'/\Rep K B F' H σ (e.set i (some (.d (.lst xs)))):=by
 obtain⟨p,vs,h1,h2,h3,h4,h5⟩:=r.ov i xs h;have wl:i < e.length:=(EO.mp h).1;have s1:ao F (upd F p (.lst vs)):=a9 h3;refine⟨upd F p (.lst vs),s1,r.f0.trans s1,λb o z=>?_,r.h0,λq hq=>?_,λj y q=>?_,λj y q=>?_,λj k as bs q hjk q1 q2 q3 q4=>?_,λj y q=>?_,λj k as bs q hjk q1 q2 q3 q4=>?_⟩
 ·by_cases w:b=p
  ·subst w;rw [av] at z;cases z;exact h2
  ·rw [au w] at z;exact r.fh _ _ z
 ·have:q≠p:=λw=>by subst w;exact B.nb _ hq h4
  rw [au this];exact r.nf q hq
 ·by_cases z:i=j
  ·subst z;rw [E1 wl] at q;cases q;exact⟨_,h1,lI (fL.of av) (aq.mono s1 _ _ h5)⟩
  ·rw [EU z] at q;obtain⟨v,a,b⟩:=r.dv j y q;exact⟨v,a,Den.mono s1 _ _ b⟩
 ·by_cases z:i=j
  ·subst z;rw [E1 wl] at q;cases q
  ·rw [EU z] at q;obtain⟨p2,us,g1,g2,g3,g4,g5⟩:=r.ov j y q;have:p2≠p:=λw=>by subst w;exact r.ne j i y xs p2 (Ne.symm z) q h g1 h1
   exact⟨p2,us,g1,g2,by rw [au this];exact g3,g4,aq.mono s1 _ _ g5⟩
 ·have ownAt:∀(j:Nat) (zs:List D),(e.set i (some (.d (.lst xs))))[j]?=some (some (.own zs))->e[j]?=some (some (.own zs)):=λj zs q=>by
   by_cases z:i=j
   ·subst z;rw [E1 wl] at q;cases q
   ·rw [EU z] at q;exact q
  exact r.ne j k as bs q hjk (ownAt j as q1) (ownAt k bs q2) q3 q4
 ·have z:i≠j:=ba (λ_ w=>by cases w) q;rw [EU z] at q;obtain⟨p2,ep,us,ws,g1,g2,g3,g4,g5,g6⟩:=r.mv j y q;have:p2≠p:=λw=>by subst w;rw [h2] at g2;cases g2
  exact⟨p2,ep,us,ws,g1,g2,by rw [au this];exact g3,g4,aq.mono s1 _ _ g5,aq.mono s1 _ _ g6⟩
 ·have z1:=ba (λ_ w=>by cases w) q1;have z2:=ba (λ_ w=>by cases w) q2;rw [EU z1] at q1;rw [EU z2] at q2;exact r.nm j k as bs q hjk q1 q2 q3 q4
end
end L2.L3
namespace L2.L3
open PySem PySem.Spec PyProof.Rows
def notStar:Expr->Bool
 | .Starred _ _=>false
 | _=>true
theorem aV {e:Expr} {es:List Expr} {env:Env} (h:notStar e=true):starEach (e :: es) env=(false,eval e env) :: starEach es env:=by
 cases e <;> first|rfl|cases h
abbrev TD:=En->(D->Prop)->Prop
abbrev TB:=En->(Bool->Prop)->Prop
abbrev dS:=En->(List D->Prop)->Prop
structure Ends3 where
 nx:En->Prop
 rt:D->Prop
 bk:En->Prop:=λ_=>False
 ct:En->Prop:=λ_=>False
abbrev cK:=Ends3->En->Prop
def wE (X:Cx) (e:Expr):TE:=λσ H Q=>∀(pins:List (Addr×Obj)) (s:Shared),Inv X pins σ H s->wpAny (model X.prog X.w) X.A (eval e X.env) (EP X pins σ Q) X.xe s
def wT (X:Cx) (e:Expr):TT:=λσ H Q=>∀(pins:List (Addr×Obj)) (s:Shared),Inv X pins σ H s->wpAny (model X.prog X.w) X.A (isTrue e X.env (eval e X.env)) (TP X pins σ Q) X.xe s
def wW (X:Cx) (e:Expr):TT:=λσ H Q=>∀(whole:Sem Value) (pins:List (Addr×Obj)) (s:Shared),Inv X pins σ H s->wpAny (model X.prog X.w) X.A (isTrue e X.env whole) (TP X pins σ Q) X.xe s
def wA (X:Cx) (es:List Expr):TA:=λσ H Q=>∀(pos:Pos) (pins:List (Addr×Obj)) (s:Shared),Inv X pins σ H s->wpAny (model X.prog X.w) X.A (spliced (backTo pos (starEach es X.env))) (AP X pins σ Q) X.xe s
def wS (X:Cx) (st:Stmt):TS:=λD σ H=>∀(pins:List (Addr×Obj)) (s:Shared),Inv X pins σ H s->wpAny (model X.prog X.w) X.A (exec st X.env) (SP X pins D) X.xe s
def wSs (X:Cx) (st:List Stmt):TS:=λD σ H=>∀(pins:List (Addr×Obj)) (s:Shared),Inv X pins σ H s->wpAny (model X.prog X.w) X.A (execs st X.env) (SP X pins D) X.xe s
section
variable {X:Cx} {e:Expr} {es:List Expr} {st:Stmt} {sts:List Stmt} {σ:St} {H:Hp}
theorem bz:PE X e (wE X e):=λpins s σ H Q I h=>h pins s I
theorem n5:PT X e (wT X e):=λpins s σ H Q I h=>h pins s I
theorem BV:PW X e (wW X e):=λwh pins s σ H Q I h=>h wh pins s I
theorem iV:PA X es (wA X es):=λpos pins s σ H Q I h=>h pos pins s I
theorem vd:PS X st (wS X st):=λpins s σ H D I h=>h pins s I
theorem d9:sv X sts (wSs X sts):=λpins s σ H D I h=>h pins s I
theorem bN {te:TE} {Q:VK} (h:PE X e te) (q:te σ H Q):wE X e σ H Q:=λpins s I=>h pins s σ H Q I q
theorem oq {te:TT} {Q:Bool->Hp->Prop} (h:PT X e te) (q:te σ H Q):wT X e σ H Q:=λpins s I=>h pins s σ H Q I q
theorem uM {te:TT} {Q:Bool->Hp->Prop} (h:PW X e te) (q:te σ H Q):wW X e σ H Q:=λwh pins s I=>h wh pins s σ H Q I q
theorem zv {te:TA} {Q:List V->Hp->Prop} (h:PA X es te) (q:te σ H Q):wA X es σ H Q:=λpos pins s I=>h pos pins s σ H Q I q
theorem gR {te:TS} {D:Ends} (h:PS X st te) (q:te D σ H):wS X st D σ H:=λpins s I=>h pins s σ H D I q
theorem i9 {te:TS} {D:Ends} (h:sv X sts te) (q:te D σ H):wSs X sts D σ H:=λpins s I=>h pins s σ H D I q
theorem aE {Q Q':VK} (h:wE X e σ H Q) (i:∀v H',Q v H'->Q' v H'):wE X e σ H Q':=λpins s I=>bu (h pins s I) λ_ _ ⟨v,H',I',r,q⟩=>⟨v,H',I',r,i v H' q⟩
theorem eU {Q Q':Bool->Hp->Prop} (h:wT X e σ H Q) (i:∀v H',Q v H'->Q' v H'):wT X e σ H Q':=λpins s I=>bu (h pins s I) λb _ ⟨H',I',q⟩=>⟨H',I',i b H' q⟩
theorem uz {Q Q':Bool->Hp->Prop} (h:wW X e σ H Q) (i:∀v H',Q v H'->Q' v H'):wW X e σ H Q':=λwh pins s I=>bu (h wh pins s I) λb _ ⟨H',I',q⟩=>⟨H',I',i b H' q⟩
theorem cu {Q Q':List V->Hp->Prop} (h:wA X es σ H Q) (i:∀v H',Q v H'->Q' v H'):wA X es σ H Q':=λpos pins s I=>bu (h pos pins s I) λ_ _ ⟨v,H',I',r,q⟩=>⟨v,H',I',r,i v H' q⟩
theorem lJ {pins:List (Addr×Obj)} {D D':Ends} {f:Flow} {s':Shared} (h:SP X pins D f s') (nx:∀σ H,D.nx σ H->D'.nx σ H) (rt:∀v H,D.rt v H->D'.rt v H) (bk:∀σ H,D.bk σ H->D'.bk σ H) (ct:∀σ H,D.ct σ H->D'.ct σ H):SP X pins D' f s':=by
 cases f with
 | next=>obtain⟨σ',H',I,q⟩:=h;exact⟨σ',H',I,nx _ _ q⟩
 | brk=>obtain⟨σ',H',I,q⟩:=h;exact⟨σ',H',I,bk _ _ q⟩
 | cont=>obtain⟨σ',H',I,q⟩:=h;exact⟨σ',H',I,ct _ _ q⟩
 | ret u=>obtain⟨v,σ',H',I,r,q⟩:=h;exact⟨v,σ',H',I,r,rt _ _ q⟩
theorem pQ {D D':Ends} (h:wS X st D σ H) (nx:∀σ H,D.nx σ H->D'.nx σ H) (rt:∀v H,D.rt v H->D'.rt v H) (bk:∀σ H,D.bk σ H->D'.bk σ H) (ct:∀σ H,D.ct σ H->D'.ct σ H):wS X st D' σ H :=
 λpins s I=>bu (h pins s I) λ_ _ q=>lJ q nx rt bk ct
theorem jt {D D':Ends} (h:wSs X sts D σ H) (nx:∀σ H,D.nx σ H->D'.nx σ H) (rt:∀v H,D.rt v H->D'.rt v H) (bk:∀σ H,D.bk σ H->D'.bk σ H) (ct:∀σ H,D.ct σ H->D'.ct σ H):wSs X sts D' σ H :=
 λpins s I=>bu (h pins s I) λ_ _ q=>lJ q nx rt bk ct
end
def RV (X:Cx) (B:Base) (σ:St) (env:En) (F:Hp) (Q:D->Prop):VK:=λv H'=>∃F' d,Rep X.K B F' H' σ env/\ao F F'/\Den X.K F' d v/\Q d
def RB (X:Cx) (B:Base) (σ:St) (env:En) (F:Hp) (Q:Bool->Prop):Bool->Hp->Prop:=λb H'=>∃F',Rep X.K B F' H' σ env/\ao F F'/\Q b
def RA (X:Cx) (B:Base) (σ:St) (env:En) (F:Hp) (Q:List D->Prop):List V->Hp->Prop:=λvs H'=>∃F' ds,Rep X.K B F' H' σ env/\ao F F'/\aq X.K F' ds vs/\Q ds
def RS (X:Cx) (B:Base) (D:Ends3):Ends where
 nx:=λσ' H'=>∃F' env',Rep X.K B F' H' σ' env'/\D.nx env'
 rt:=λv H'=>∃F' d,Rep X.K B F' H' [] []/\Den X.K F' d v/\D.rt d
 bk:=λσ' H'=>∃F' env',Rep X.K B F' H' σ' env'/\D.bk env'
 ct:=λσ' H'=>∃F' env',Rep X.K B F' H' σ' env'/\D.ct env'
structure QE (X:Cx) (e:Expr) (t:TD):Prop where
 of ::
 run:∀(B:Base) (σ:St) (F H:Hp) (env:En) (Q:D->Prop),Rep X.K B F H σ env->t env Q->wE X e σ H (RV X B σ env F Q)
instance {X:Cx} {e:Expr} {t:TD}:CoeFun (QE X e t) (λ_=>∀(B:Base) (σ:St) (F H:Hp) (env:En) (Q:D->Prop),Rep X.K B F H σ env->t env Q->wE X e σ H (RV X B σ env F Q)):=⟨QE.run⟩
structure QT (X:Cx) (e:Expr) (t:TB):Prop where
 of ::
 run:∀(B:Base) (σ:St) (F H:Hp) (env:En) (Q:Bool->Prop),Rep X.K B F H σ env->t env Q->wT X e σ H (RB X B σ env F Q)
instance {X:Cx} {e:Expr} {t:TB}:CoeFun (QT X e t) (λ_=>∀(B:Base) (σ:St) (F H:Hp) (env:En) (Q:Bool->Prop),Rep X.K B F H σ env->t env Q->wT X e σ H (RB X B σ env F Q)):=⟨QT.run⟩
structure QW (X:Cx) (e:Expr) (t:TB):Prop where
 of ::
 run:∀(B:Base) (σ:St) (F H:Hp) (env:En) (Q:Bool->Prop),Rep X.K B F H σ env->t env Q->wW X e σ H (RB X B σ env F Q)
instance {X:Cx} {e:Expr} {t:TB}:CoeFun (QW X e t) (λ_=>∀(B:Base) (σ:St) (F H:Hp) (env:En) (Q:Bool->Prop),Rep X.K B F H σ env->t env Q->wW X e σ H (RB X B σ env F Q)):=⟨QW.run⟩
structure QA (X:Cx) (es:List Expr) (t:dS):Prop where
 of ::
 run:∀(B:Base) (σ:St) (F H:Hp) (env:En) (Q:List D->Prop),Rep X.K B F H σ env->t env Q->wA X es σ H (RA X B σ env F Q)
instance {X:Cx} {es:List Expr} {t:dS}:CoeFun (QA X es t) (λ_=>∀(B:Base) (σ:St) (F H:Hp) (env:En) (Q:List D->Prop),Rep X.K B F H σ env->t env Q->wA X es σ H (RA X B σ env F Q)):=⟨QA.run⟩
structure QS (X:Cx) (st:Stmt) (t:cK):Prop where
 of ::
 run:∀(B:Base) (σ:St) (F H:Hp) (env:En) (D:Ends3),Rep X.K B F H σ env->t D env->wS X st (RS X B D) σ H
instance {X:Cx} {st:Stmt} {t:cK}:CoeFun (QS X st t) (λ_=>∀(B:Base) (σ:St) (F H:Hp) (env:En) (D:Ends3),Rep X.K B F H σ env->t D env->wS X st (RS X B D) σ H):=⟨QS.run⟩
structure qx (X:Cx) (st:List Stmt) (t:cK):Prop where
 of ::
 run:∀(B:Base) (σ:St) (F H:Hp) (env:En) (D:Ends3),Rep X.K B F H σ env->t D env->wSs X st (RS X B D) σ H
instance {X:Cx} {st:List Stmt} {t:cK}:CoeFun (qx X st t) (λ_=>∀(B:Base) (σ:St) (F H:Hp) (env:En) (D:Ends3),Rep X.K B F H σ env->t D env->wSs X st (RS X B D) σ H):=⟨qx.run⟩
section
variable {X:Cx} {a b c e:Expr} {es:List Expr} {ta tb tc:TD} {tA tB':TB} {ts:dS} {pos:Pos} {rest:List Expr}
def ag (i:Nat):TD:=λenv Q=>∃x,env[i]?=some (some (.d x))/\Q x
def cC (x:D):TD:=λ_ Q=>Q x
theorem qv (i:Nat) {x:Str} {pos:Pos} (hN:X.N[i]?=some x:=by rfl) (hv:u9 X.env.scope x:=by first | exact Or.inl rfl | exact Or.inr (Or.inl rfl) | exact Or.inr (Or.inr rfl)) (hd:(x == ("__debug__" : Str))=false:=by decide)
  (hcd:(x == ("__classdict__" : Str))=false:=by decide):QE X (.Name x pos) (ag i):=by
 refine⟨?_⟩;intro B σ F H env Q r ⟨x,hx,q⟩;obtain⟨v,hv',hd'⟩:=r.dv i x hx;exact bN (fu hN hv hd hcd) ⟨v,hv',F,x,r,ao.refl _,hd',q⟩
theorem qc {te:TE} {v:V} {x:D} (h:PE X e (tC v)) (hd:∀F,Den X.K F x v):QE X e (cC x):=⟨λB σ F H env Q r q=>bN h ⟨F,x,r,ao.refl _,hd F,q⟩⟩
theorem aB {i j pos}:QE X (.Constant (.int i) j pos) (cC (.int i)):=qc (te:=tC (.int i)) A2 λ_=>br
theorem w6 {b j pos}:QE X (.Constant (.bool b) j pos) (cC (.bl b)):=qc (te:=tC (.bl b)) CA λ_=>dY
theorem DR {j pos}:QE X (.Constant .none j pos) (cC .non):=qc (te:=tC .non) Bp λ_=>jm
theorem fE {x j pos}:QE X (.Constant (.str x) j pos) (cC (.str x)):=qc (te:=tC (.str x)) wc λ_=>jo
theorem Eo {x:Str} {n:String} {pos:Pos} (hg:Gl X x) (hm:X.mg x=none) (hv:bootBuiltins x=some (.type n)) (hn:x≠"__name__":=by decide) (hd:(x == ("__debug__" : Str))=false:=by decide):QE X (.Name x pos) (cC (.ty n)) :=
 qc (te:=tC (.ty n)) (yH (v:=.ty n) hg hm hv rfl hn hd) λ_=>Bw
def Kont (X:Cx) (B:Base) (σ:St) (env:En) (F:Hp) (Q:D->Prop) (Z:VK):Prop:=∀(v:V) (H' F':Hp) (d:D),Rep X.K B F' H' σ env->ao F F'->Den X.K F' d v->Q d->Z v H'
def sk (X:Cx) (r:R2) (f:D->D->(D->Prop)->Prop):Prop:=∀(B:Base) (σ:St) (F H:Hp) (env:En) (Q:D->Prop) (d d':D) (x y:V) (Z:VK),Rep X.K B F H σ env->Den X.K F d x->Den X.K F d' y->Kont X B σ env F Q Z->f d d' Q->r x y H Z
def aF (f:D->D->(D->Prop)->Prop) (ta tb:TD):TD:=λenv Q=>ta env λx=>tb env λy=>f x y Q
theorem RV.weaken {B:Base} {σ:St} {env:En} {F F':Hp} {Q:D->Prop} (s:ao F F') {v:V} {H:Hp} (h:RV X B σ env F' Q v H):RV X B σ env F Q v H:=by
 obtain⟨G,d,r,s',hd,q⟩:=h;exact⟨G,d,r,s.trans s',hd,q⟩
theorem two {r:R2} {f:D->D->(D->Prop)->Prop} (hf:sk X r f) (ha:QE X a ta) (hb:QE X b tb) {B:Base} {σ:St} {F H:Hp} {env:En} {Q:D->Prop} {Z:VK} (rp:Rep X.K B F H σ env) (hz:Kont X B σ env F Q Z) (h:aF f ta tb env Q) :
  BJ r (wE X a) (wE X b) σ H Z:=by
 refine aE (ha B σ F H env _ rp h) λx H1 hq0=>?_;obtain⟨F1,d,r1,s1,d1,q1⟩:=hq0;refine aE (hb B σ F1 H1 env _ r1 q1) λy H2 hq0=>?_;obtain⟨F2,d',r2,s2,d2,q2⟩:=hq0;exact hf B σ F2 H2 env Q d d' x y Z r2 (Den.mono s2 _ _ d1) d2 (λv H' F' d' r' s'=>hz v H' F' d' r' ((s1.trans s2).trans s')) q2
theorem Du {B:Base} {σ:St} {env:En} {F:Hp} {Q:D->Prop}:Kont X B σ env F Q (RV X B σ env F Q):=λv H' F' d r s hd q=>⟨F',d,r,s,hd,q⟩
theorem uT {op:Operator} {r:R2} {f:D->D->(D->Prop)->Prop} (ho:gq X (binaryOp op) r) (hf:sk X r f) (ha:QE X a ta) (hb:QE X b tb):QE X (.BinOp a op b pos) (aF f ta tb) :=
 ⟨λB σ F H env Q rp h=>bN (Cm ho bz bz) (two hf ha hb rp Du h)⟩
theorem C3 {op:CmpOp} {r:R2} {f:D->D->(D->Prop)->Prop} (ho:gq X (compareOp op) r) (hf:sk X r f) (ha:QE X a ta) (hb:QE X b tb) (hm:behindInMarks op b=false):QE X (.Compare a [op] [b] pos) (aF f ta tb) :=
 ⟨λB σ F H env Q rp h=>bN (yJ ho bz bz hm) (two hf ha hb rp Du h)⟩
def aL (t:TD):TB:=λenv Q=>t env λx=>∃k,x=.bl k/\Q k
theorem dH {K:ES} {F:Hp} {k:Bool} {v:V} (h:Den K F (.bl k) v):v=.bl k:=by simpa only [Den] using h
theorem j5 {op:CmpOp} {r:R2} {f:D->D->(D->Prop)->Prop} (ho:gq X (compareOp op) r) (hf:sk X r f) (ha:QE X a ta) (hb:QE X b tb) (hm:behindInMarks op b=false):QT X (.Compare a [op] [b] pos) (aL (aF f ta tb)):=by
 refine⟨?_⟩;intro B σ F H env Q rp h;refine oq (p4 ho bz bz hm) ?_;show BJ r (wE X a) (wE X b) σ H λx H'=>∃k,x=.bl k/\RB X B σ env F Q k H'
 refine two hf ha hb rp (λv H' F' d r' s' hd q=>?_) h;obtain⟨k,rfl,q⟩:=q;exact⟨k,dH hd,F',r',s',q⟩
theorem iW {t:TD} (h:QE X e t) (he:∀whole,isTrue e X.env whole=(do let v <- whole;standAt e.pos;holding [v] (truthy v)):=by intro _;rfl):QT X e (aL t):=by
 refine⟨?_⟩;intro B σ F H env Q rp hq;refine oq (Bs bz he) ?_;refine aE (h B σ F H env _ rp hq) λv H' w=>?_;obtain⟨F',d,r',s',hd,k,rfl,q⟩:=w;exact⟨k,dH hd,F',r',s',q⟩
def o9 (t u:TB):TB:=λenv Q=>t env λk=>if k=true then u env Q else Q false
def tJ (t u:TB):TB:=λenv Q=>t env λk=>if k=true then Q true else u env Q
def j7 (t:TB):TB:=λenv Q=>t env λk=>Q (!k)
theorem QW.t (h:QW X e tA):QT X e tA:=⟨λB σ F H env Q rp hq pins s I=>h B σ F H env Q rp hq _ pins s I⟩
theorem uG (ha:QT X a tA):QW X (.BoolOp .And [a] pos) tA:=⟨λB σ F H env Q rp h=>uM (yl n5) (ha B σ F H env Q rp h)⟩
theorem mP (ha:QT X a tA):QW X (.BoolOp .Or [a] pos) tA:=⟨λB σ F H env Q rp h=>uM (Ap n5) (ha B σ F H env Q rp h)⟩
theorem wB (ha:QT X a tA) (hb:QW X (.BoolOp .And (b :: rest) pos) tB'):QW X (.BoolOp .And (a :: b :: rest) pos) (o9 tA tB'):=by
 refine⟨?_⟩;intro B σ F H env Q rp h;refine uM (zQ n5 BV) ?_;refine eU (ha B σ F H env _ rp h) λk H1 ⟨F1,r1,s1,q1⟩=>?_
 cases k with
 | true=>exact uz (hb B σ F1 H1 env Q r1 q1) λk2 H2 ⟨F2,r2,s2,q2⟩=>⟨F2,r2,s1.trans s2,q2⟩
 | false=>exact⟨F1,r1,s1,q1⟩
theorem kU (ha:QT X a tA) (hb:QW X (.BoolOp .Or (b :: rest) pos) tB'):QW X (.BoolOp .Or (a :: b :: rest) pos) (tJ tA tB'):=by
 refine⟨?_⟩;intro B σ F H env Q rp h;refine uM (BZ n5 BV) ?_;refine eU (ha B σ F H env _ rp h) λk H1 ⟨F1,r1,s1,q1⟩=>?_
 cases k with
 | false=>exact uz (hb B σ F1 H1 env Q r1 q1) λk2 H2 ⟨F2,r2,s2,q2⟩=>⟨F2,r2,s1.trans s2,q2⟩
 | true=>exact⟨F1,r1,s1,q1⟩
theorem kh (ha:QT X a tA):QT X (.UnaryOp .Not a pos) (j7 tA):=⟨λB σ F H env Q rp h=>oq (Bh n5) (eU (ha B σ F H env _ rp h) λk H1 q=>q)⟩
def iQ (t u:TD):TD:=λenv Q=>t env λx=>∃k,x=.bl k/\if k=true then u env Q else Q (.bl false)
def qL (t u:TD):TD:=λenv Q=>t env λx=>∃k,x=.bl k/\if k=true then Q (.bl true) else u env Q
theorem qm {op} (h:QE X a ta):QE X (.BoolOp op [a] pos) ta:=⟨λB σ F H env Q rp q=>bN (Ac bz) (h B σ F H env Q rp q)⟩
theorem sZ (ha:QE X a ta) (hb:QE X (.BoolOp .And (b :: rest) pos) tb):QE X (.BoolOp .And (a :: b :: rest) pos) (iQ ta tb):=by
 refine⟨?_⟩;intro B σ F H env Q rp h;refine bN (zX bz bz) ?_;refine aE (ha B σ F H env _ rp h) λv H1 hq0=>?_;obtain⟨F1,d,r1,s1,d1,k,hk,q1⟩:=hq0;subst hk;refine⟨k,dH d1,?_⟩
 cases k with
 | true=>exact aE (hb B σ F1 H1 env Q r1 q1) λv H2 z=>z.weaken s1
 | false=>exact⟨F1,_,r1,s1,dY,q1⟩
theorem B3 (ha:QE X a ta) (hb:QE X (.BoolOp .Or (b :: rest) pos) tb):QE X (.BoolOp .Or (a :: b :: rest) pos) (qL ta tb):=by
 refine⟨?_⟩;intro B σ F H env Q rp h;refine bN (Cv bz bz) ?_;refine aE (ha B σ F H env _ rp h) λv H1 hq0=>?_;obtain⟨F1,d,r1,s1,d1,k,hk,q1⟩:=hq0;subst hk;refine⟨k,dH d1,?_⟩
 cases k with
 | false=>exact aE (hb B σ F1 H1 env Q r1 q1) λv H2 z=>z.weaken s1
 | true=>exact⟨F1,_,r1,s1,dY,q1⟩
def zB (t:TB) (ta tb:TD):TD:=λenv Q=>t env λk=>if k=true then ta env Q else tb env Q
theorem B2 (hc:QT X c tA) (ha:QE X a ta) (hb:QE X b tb):QE X (.IfExp c a b pos) (zB tA ta tb):=by
 refine⟨?_⟩;intro B σ F H env Q rp h;refine bN (xK n5 bz bz) ?_;refine eU (hc B σ F H env _ rp h) λk H1 ⟨F1,r1,s1,q1⟩=>?_
 cases k with
 | true=>exact aE (ha B σ F1 H1 env Q r1 q1) λv H2 z=>z.weaken s1
 | false=>exact aE (hb B σ F1 H1 env Q r1 q1) λv H2 z=>z.weaken s1
def aw:dS:=λ_ Q=>Q []
def af (ta:TD) (tr:dS):dS:=λenv Q=>ta env λx=>tr env λxs=>Q (x :: xs)
theorem ah:QA X [] aw:=⟨λB σ F H env Q rp h=>zv m6 ⟨F,[],rp,ao.refl _,aT,h⟩⟩
theorem ae (ha:QE X e ta) (hr:QA X es ts) (hs:starEach (e :: es) X.env=(false,eval e X.env) :: starEach es X.env:=by exact aV rfl):QA X (e :: es) (af ta ts):=by
 refine⟨?_⟩;intro B σ F H env Q rp h;refine zv (ir bz iV hs) ?_;refine aE (ha B σ F H env _ rp h) λx H1 hq0=>?_;obtain⟨F1,d,r1,s1,d1,q1⟩:=hq0;exact cu (hr B σ F1 H1 env _ r1 q1) λxs H2 ⟨F2,ds,r2,s2,d2,q2⟩=>⟨F2,d :: ds,r2,s1.trans s2,aM (Den.mono s2 _ _ d1) d2,q2⟩
def c8 (t:dS):TD:=λenv Q=>t env λxs=>xs.length<=sizeLine/\Q (.tup xs)
def iF (t:dS):TD:=λenv Q=>t env λxs=>xs.length<=sizeLine/\Q (.lst xs)
theorem RV.xU {B:Base} {σ:St} {env:En} {F H:Hp} {Q:D->Prop} {ds:List D} {vs:List V} (r:Rep X.K B F H σ env) (hd:aq X.K F ds vs) (q:Q (.tup ds)):∀p,H p=none->RV X B σ env F Q (.ref p) (upd H p (.tup vs)):=λp hp=>by
 obtain⟨r2,s2⟩:=r.laid (o:=.tup vs) hp;exact⟨_,_,r2,s2,iw (jg.of av) (aq.mono s2 _ _ hd),q⟩
theorem RV.vG {B:Base} {σ:St} {env:En} {F H:Hp} {Q:D->Prop} {ds:List D} {vs:List V} (r:Rep X.K B F H σ env) (hd:aq X.K F ds vs) (q:Q (.lst ds)):∀p,H p=none->RV X B σ env F Q (.ref p) (upd H p (.lst vs)):=λp hp=>by
 obtain⟨r2,s2⟩:=r.laid (o:=.lst vs) hp;exact⟨_,_,r2,s2,lI (fL.of av) (aq.mono s2 _ _ hd),q⟩
theorem bK {x1} (h:QA X es ts):QE X (.Tuple es x1 pos) (c8 ts):=by
 refine⟨?_⟩;intro B σ F H env Q rp hq;refine bN (Ba iV) ?_;refine cu (h B σ F H env _ rp hq) λvs H1 ⟨F1,ds,r1,s1,d1,z,q1⟩=>⟨by rw [<- d1.length];exact z,λp hp=>(RV.xU r1 d1 q1 p hp).weaken s1⟩
theorem fU (h:QA X es ts):QE X (.List es pos) (iF ts):=by
 refine⟨?_⟩;intro B σ F H env Q rp hq;refine bN (wR iV) ?_;refine cu (h B σ F H env _ rp hq) λvs H1 ⟨F1,ds,r1,s1,d1,z,q1⟩=>⟨by rw [<- d1.length];exact z,λp hp=>(RV.vG r1 d1 q1 p hp).weaken s1⟩
end
mutual
def aQ:D->D->Bool
 | .non,.non=>true
 | .bl a,.bl b=>a == b
 | .bl a,.int b=>(if a then 1 else 0) == b
 | .int a,.bl b=>a == (if b then 1 else 0)
 | .int a,.int b=>a == b
 | .str a,.str b=>a == b
 | .tup a,.tup b=>bQ a b
 | .lst a,.lst b=>bQ a b
 | _,_=>false
def bQ:List D->List D->Bool
 | [],[]=>true
 | a :: as,b :: bs=>aQ a b && bQ as bs
 | _,_=>false
end
mutual
def dep:D->Nat
 | .tup ds=>bJ ds + 1
 | .lst ds=>bJ ds + 1
 | .dct _ _=>1000
 | .obj _=>1000
 | .ty _=>1000
 | .exc _=>1000
 | .cls _=>1000
 | _=>0
def bJ:List D->Nat
 | []=>0
 | d :: ds=>max (dep d) (bJ ds)
end
def rz (ds es:List D) (j:Nat):Bool:=match ds[j]?,es[j]? with
 | some a,some b=>aQ a b
 | _,_=>true
theorem m9 (n:Nat) (e:Nat->Bool):(List.range (n + 1)).all e=(e 0 && (List.range n).all λi=>e (i + 1)):=by
 rw [List.range_succ_eq_map,List.all_cons,List.all_map];rfl
theorem qe:∀ds es:List D,((List.range (min ds.length es.length)).all (rz ds es) && (ds.length == es.length))=bQ ds es
 | [],[]=>by simp [bQ]
 | [],b :: es=>by simp [bQ]
 | a :: ds,[]=>by simp [bQ]
 | a :: ds,b :: es=>by
  have ih:=qe ds es;rw [FA,FA,Nat.succ_min_succ,m9];have e1:rz (a :: ds) (b :: es) 0=aQ a b:=by simp [rz]
  have e2:(λi=>rz (a :: ds) (b :: es) (i + 1))=rz ds es:=by funext i;simp [rz]
  have e3:(ds.length + 1 == es.length + 1)=(ds.length == es.length):=by
   rw [Bool.eq_iff_iff];simp
  rw [e1,e2,e3,Bool.and_assoc,ih,bQ]
section
variable {X:Cx} {pins:List (Addr×Obj)} {σ:St} {H F:Hp} {s:Shared}
theorem Inv.rW (I:Inv X pins σ H s) {a:Addr} {xs ys:List V} (h:jg X.K H a xs) (h':fL X.K H a ys):False:=by
 obtain⟨_,_,⟨o,e1,c1,_⟩,_⟩:=I.tuple h;obtain⟨_,_,⟨o2,_,e2,c2,_⟩,_⟩:=I.list h';rw [e1] at e2;cases e2;rw [c1] at c2;injection c2 with z;exact absurd z (by decide)
mutual
theorem lN (I:Inv X pins σ H s) (fh:ao F H):∀(d d':D) (v:V),dep d < 1000->dep d' < 1000->Den X.K F d v->Den X.K F d' v->aQ d d'=true
 | .non,d',v,h1,h2,e1,e2=>by
  simp only [Den] at e1;subst e1
  cases d' <;> simp only [Den] at e2 <;> first|rfl|(obtain⟨a,vs,z,_⟩:=e2;cases z;done)|(obtain⟨a,z,_⟩:=e2;cases z;done)|cases e2
 | .bl b,d',v,h1,h2,e1,e2=>by
  simp only [Den] at e1;subst e1
  cases d' <;> simp only [Den] at e2 <;> first|(obtain⟨a,vs,z,_⟩:=e2;cases z;done)|(obtain⟨a,z,_⟩:=e2;cases z;done)|(cases e2;simp [aQ];done)|cases e2
 | .int b,d',v,h1,h2,e1,e2=>by
  simp only [Den] at e1;subst e1
  cases d' <;> simp only [Den] at e2 <;> first|(obtain⟨a,vs,z,_⟩:=e2;cases z;done)|(obtain⟨a,z,_⟩:=e2;cases z;done)|(cases e2;simp [aQ];done)|cases e2
 | .str b,d',v,h1,h2,e1,e2=>by
  simp only [Den] at e1;subst e1
  cases d' <;> simp only [Den] at e2 <;> first|(obtain⟨a,vs,z,_⟩:=e2;cases z;done)|(obtain⟨a,z,_⟩:=e2;cases z;done)|(cases e2;simp [aQ];done)|cases e2
 | .ty b,d',v,h1,h2,e1,e2=>by simp [dep] at h1
 | .exc b,d',v,h1,h2,e1,e2=>by simp [dep] at h1
 | .cls b,d',v,h1,h2,e1,e2=>by simp [dep] at h1
 | .dct _ _,d',v,h1,h2,e1,e2=>by simp [dep] at h1
 | .obj _,d',v,h1,h2,e1,e2=>by simp [dep] at h1
 | .tup ds,d',v,h1,h2,e1,e2=>by
  simp only [Den] at e1;obtain⟨a,vs,rfl,q,r⟩:=e1
  cases d' with
  | tup es =>
   simp only [Den] at e2;obtain⟨a',us,z,q',r'⟩:=e2;cases z;have:=I.oX (ao.bS fh q) (ao.bS fh q');subst this;simp only [aQ]
   exact lV I fh ds es vs (by simp [dep] at h1;omega) (by simp [dep] at h2;omega) r r'
  | lst es =>
   simp only [Den] at e2;obtain⟨a',us,z,q',r'⟩:=e2;cases z
   exact (Inv.rW I (ao.bS fh q) (fh.seq q')).elim
  | dct _ _=>simp [dep] at h2
  | obj _=>simp [dep] at h2
  | exc _=>simp [dep] at h2
  | cls _=>simp [dep] at h2
  | _=>simp only [Den] at e2;cases e2
 | .lst ds,d',v,h1,h2,e1,e2=>by
  simp only [Den] at e1;obtain⟨a,vs,rfl,q,r⟩:=e1
  cases d' with
  | lst es =>
   simp only [Den] at e2;obtain⟨a',us,z,q',r'⟩:=e2;cases z;have:=I.rZ (fh.seq q) (fh.seq q');subst this;simp only [aQ]
   exact lV I fh ds es vs (by simp [dep] at h1;omega) (by simp [dep] at h2;omega) r r'
  | tup es =>
   simp only [Den] at e2;obtain⟨a',us,z,q',r'⟩:=e2;cases z
   exact (Inv.rW I (ao.bS fh q') (fh.seq q)).elim
  | dct _ _=>simp [dep] at h2
  | obj _=>simp [dep] at h2
  | exc _=>simp [dep] at h2
  | cls _=>simp [dep] at h2
  | _=>simp only [Den] at e2;cases e2
theorem lV (I:Inv X pins σ H s) (fh:ao F H):∀(ds es:List D) (vs:List V),bJ ds < 1000->bJ es < 1000->aq X.K F ds vs->aq X.K F es vs->bQ ds es=true
 | [],es,vs,h1,h2,e1,e2=>by
  simp only [aq] at e1;subst e1
  cases es with
  | nil=>rfl
  | cons _ _=>simp only [aq] at e2;obtain⟨_,_,z,_⟩:=e2;cases z
 | d :: ds,es,vs,h1,h2,e1,e2=>by
  simp only [aq] at e1;obtain⟨v,r,rfl,a,b⟩:=e1
  cases es with
  | nil=>simp only [aq] at e2;cases e2
  | cons e es =>
   simp only [aq] at e2;obtain⟨v',r',z,a',b'⟩:=e2;cases z;simp only [bJ] at h1 h2;simp only [bQ,Bool.and_eq_true];exact⟨lN I fh d e v (by omega) (by omega) a a',lV I fh ds es r (by omega) (by omega) b b'⟩
end
theorem units_in1 (A:Around):A.in1.units=A.units + 1:=rfl
def BS:D->Bool
 | .non=>true
 | .bl _=>true
 | .int _=>true
 | .str _=>true
 | _=>false
theorem pI (I:Inv X pins σ H s) (fh:ao F H):∀(d d':D) (A:Around) (x y:V) (u v:Value),BS d=true->A.units + dep d < cLine->dep d' < 1000->Den X.K F d x->Den X.K F d' y->RelV x u->RelV y v ->
  SeqAt.RcAt A s u v (aQ d d')/\SeqAt.RcNeAt A s u v (!aQ d d')
 | .non,d',A,x,y,u,v,lf,hu,h2,e1,e2,r1,r2=>by
  simp only [Den] at e1;subst e1;cases r1;have hu0:A.units < cLine:=by omega
  cases d' with
  | ty _=>simp [dep] at h2
  | dct _ _=>simp [dep] at h2
  | obj _=>simp [dep] at h2
  | exc _=>simp [dep] at h2
  | cls _=>simp [dep] at h2
  | non=>simp only [Den] at e2;subst e2;cases r2;exact⟨SeqAt.RcAt.none_none,SeqAt.RcNeAt.none_none⟩
  | bl b=>simp only [Den] at e2;subst e2;cases r2;exact⟨SeqAt.RcAt.none_bool b,SeqAt.RcNeAt.none_bool b⟩
  | int b=>simp only [Den] at e2;subst e2;obtain⟨t,rfl⟩:=r2;exact⟨SeqAt.RcAt.none_int b t,SeqAt.RcNeAt.none_int b t⟩
  | str b=>simp only [Den] at e2;subst e2;obtain⟨t,rfl⟩:=r2;exact⟨SeqAt.RcAt.none_str b t,SeqAt.RcNeAt.none_str b t⟩
  | tup es =>
   simp only [Den] at e2;obtain⟨a,vs,rfl,q,r⟩:=e2;cases r2;obtain⟨its,rv,ht,hz⟩:=I.tuple (ao.bS fh q)
   exact⟨SeqAt.RcAt.none_tuple ht hu0,SeqAt.RcNeAt.none_tuple ht hu0⟩
  | lst es =>
   simp only [Den] at e2;obtain⟨a,vs,rfl,q,r⟩:=e2;cases r2;obtain⟨its,rv,ht,hz⟩:=I.list (fh.seq q)
   exact⟨SeqAt.RcAt.none_list ht.isList hu0,SeqAt.RcNeAt.none_list ht.isList hu0⟩
 | .bl b',d',A,x,y,u,v,lf,hu,h2,e1,e2,r1,r2=>by
  simp only [Den] at e1;subst e1;cases r1;have hu0:A.units < cLine:=by omega
  cases d' with
  | ty _=>simp [dep] at h2
  | dct _ _=>simp [dep] at h2
  | obj _=>simp [dep] at h2
  | exc _=>simp [dep] at h2
  | cls _=>simp [dep] at h2
  | non=>simp only [Den] at e2;subst e2;cases r2;exact⟨SeqAt.RcAt.bool_none b',SeqAt.RcNeAt.bool_none b'⟩
  | bl b=>simp only [Den] at e2;subst e2;cases r2;exact⟨by simpa only [aQ] using SeqAt.RcAt.bool_bool b' b,by simpa only [aQ] using SeqAt.RcNeAt.bool_bool b' b⟩
  | int b=>simp only [Den] at e2;subst e2;obtain⟨t,rfl⟩:=r2;exact⟨by simpa only [aQ] using SeqAt.RcAt.bool_int b' b t,by simpa only [aQ] using SeqAt.RcNeAt.bool_int b' b t⟩
  | str b=>simp only [Den] at e2;subst e2;obtain⟨t,rfl⟩:=r2;exact⟨SeqAt.RcAt.bool_str b' b t,SeqAt.RcNeAt.bool_str b' b t⟩
  | tup es =>
   simp only [Den] at e2;obtain⟨a,vs,rfl,q,r⟩:=e2;cases r2;obtain⟨its,rv,ht,hz⟩:=I.tuple (ao.bS fh q)
   exact⟨SeqAt.RcAt.bool_tuple b' ht hu0,SeqAt.RcNeAt.bool_tuple b' ht hu0⟩
  | lst es =>
   simp only [Den] at e2;obtain⟨a,vs,rfl,q,r⟩:=e2;cases r2;obtain⟨its,rv,ht,hz⟩:=I.list (fh.seq q)
   exact⟨SeqAt.RcAt.bool_list b' ht.isList hu0,SeqAt.RcNeAt.bool_list b' ht.isList hu0⟩
 | .int b',d',A,x,y,u,v,lf,hu,h2,e1,e2,r1,r2=>by
  simp only [Den] at e1;subst e1;obtain⟨t',rfl⟩:=r1;have hu0:A.units < cLine:=by omega
  cases d' with
  | ty _=>simp [dep] at h2
  | dct _ _=>simp [dep] at h2
  | obj _=>simp [dep] at h2
  | exc _=>simp [dep] at h2
  | cls _=>simp [dep] at h2
  | non=>simp only [Den] at e2;subst e2;cases r2;exact⟨SeqAt.RcAt.int_none b' t',SeqAt.RcNeAt.int_none b' t'⟩
  | bl b=>simp only [Den] at e2;subst e2;cases r2;exact⟨by simpa only [aQ] using SeqAt.RcAt.int_bool b' t' b,by simpa only [aQ] using SeqAt.RcNeAt.int_bool b' t' b⟩
  | int b=>simp only [Den] at e2;subst e2;obtain⟨t,rfl⟩:=r2;exact⟨by simpa only [aQ] using SeqAt.RcAt.int_int b' t' b t,by simpa only [aQ] using SeqAt.RcNeAt.int_int b' t' b t⟩
  | str b=>simp only [Den] at e2;subst e2;obtain⟨t,rfl⟩:=r2;exact⟨SeqAt.RcAt.int_str b' t' b t,SeqAt.RcNeAt.int_str b' t' b t⟩
  | tup es =>
   simp only [Den] at e2;obtain⟨a,vs,rfl,q,r⟩:=e2;cases r2;obtain⟨its,rv,ht,hz⟩:=I.tuple (ao.bS fh q)
   exact⟨SeqAt.RcAt.int_tuple b' t' ht hu0,SeqAt.RcNeAt.int_tuple b' t' ht hu0⟩
  | lst es =>
   simp only [Den] at e2;obtain⟨a,vs,rfl,q,r⟩:=e2;cases r2;obtain⟨its,rv,ht,hz⟩:=I.list (fh.seq q)
   exact⟨SeqAt.RcAt.int_list b' t' ht.isList hu0,SeqAt.RcNeAt.int_list b' t' ht.isList hu0⟩
 | .str b',d',A,x,y,u,v,lf,hu,h2,e1,e2,r1,r2=>by
  simp only [Den] at e1;subst e1;obtain⟨t',rfl⟩:=r1;have hu0:A.units < cLine:=by omega
  cases d' with
  | ty _=>simp [dep] at h2
  | dct _ _=>simp [dep] at h2
  | obj _=>simp [dep] at h2
  | exc _=>simp [dep] at h2
  | cls _=>simp [dep] at h2
  | non=>simp only [Den] at e2;subst e2;cases r2;exact⟨SeqAt.RcAt.str_none b' t',SeqAt.RcNeAt.str_none b' t'⟩
  | bl b=>simp only [Den] at e2;subst e2;cases r2;exact⟨SeqAt.RcAt.str_bool b' t' b,SeqAt.RcNeAt.str_bool b' t' b⟩
  | int b=>simp only [Den] at e2;subst e2;obtain⟨t,rfl⟩:=r2;exact⟨SeqAt.RcAt.str_int b' t' b t,SeqAt.RcNeAt.str_int b' t' b t⟩
  | str b=>simp only [Den] at e2;subst e2;obtain⟨t,rfl⟩:=r2;exact⟨by simpa only [aQ] using SeqAt.RcAt.str_str b' t' b t,by simpa only [aQ] using SeqAt.RcNeAt.str_str b' t' b t⟩
  | tup es =>
   simp only [Den] at e2;obtain⟨a,vs,rfl,q,r⟩:=e2;cases r2;obtain⟨its,rv,ht,hz⟩:=I.tuple (ao.bS fh q)
   exact⟨SeqAt.RcAt.str_tuple b' t' ht hu0,SeqAt.RcNeAt.str_tuple b' t' ht hu0⟩
  | lst es =>
   simp only [Den] at e2;obtain⟨a,vs,rfl,q,r⟩:=e2;cases r2;obtain⟨its,rv,ht,hz⟩:=I.list (fh.seq q)
   exact⟨SeqAt.RcAt.str_list b' t' ht.isList hu0,SeqAt.RcNeAt.str_list b' t' ht.isList hu0⟩
 | .ty _,d',A,x,y,u,v,lf,hu,h2,e1,e2,r1,r2=>(by cases lf)
 | .exc _,d',A,x,y,u,v,lf,hu,h2,e1,e2,r1,r2=>(by cases lf)
 | .cls _,d',A,x,y,u,v,lf,hu,h2,e1,e2,r1,r2=>(by cases lf)
 | .dct _ _,d',A,x,y,u,v,lf,hu,h2,e1,e2,r1,r2=>(by cases lf)
 | .obj _,d',A,x,y,u,v,lf,hu,h2,e1,e2,r1,r2=>(by cases lf)
 | .tup _,d',A,x,y,u,v,lf,hu,h2,e1,e2,r1,r2=>(by cases lf)
 | .lst _,d',A,x,y,u,v,lf,hu,h2,e1,e2,r1,r2=>(by cases lf)
theorem uE (I:Inv X pins σ H s) (fh:ao F H) (d d':D) (A:Around) (x y:V) (u v:Value) (hu:A.units + dep d < cLine) (h1:dep d < 1000) (h2:dep d' < 1000) (e1:Den X.K F d x) (e2:Den X.K F d' y) (r1:RelV x u) (r2:RelV y v) (k:SeqAt.RcAt A s u v (aQ d d')) :
  SeqAt.EqAt A s u v (aQ d d'):=by
 have hu0:A.units < cLine:=by omega
 by_cases z:u=v
 ·subst z;have:x=y:=r1.inj r2;subst this;rw [lN I fh d d' x h1 h2 e1 e2];exact SeqAt.EqAt.same u
 ·intro prog w E Q hq;unfold eqBool;refine wpAny_holding ?_;refine wpAny_ite_split (λhab=>absurd (eq_of_beq hab) z) (λ_=>?_)
  have nf:∀b t,u≠.float b t:=λb t w=>by
   subst w;cases x <;> first|(obtain⟨_,q⟩:=r1;cases q;done)|(cases r1;done)|skip
   cases d <;> simp only [Den] at e1 <;> first|(cases e1;done)|(obtain⟨_,_,z,_⟩:=e1;cases z;done)|(obtain⟨_,z,_⟩:=e1;cases z;done)
  cases u <;> cases v <;> first|exact absurd rfl (nf _ _)|exact ER (k prog w E _ (wpAny_truthy_bool hq))
theorem zq (I:Inv X pins σ H s) (fh:ao F H) (ds0:List D) (d d':D) (A:Around) (x y:V) (u v:Value) (hl:d=.tup ds0\/d=.lst ds0) (hu:A.units + dep d < cLine) (h1:dep d < 1000) (h2:dep d' < 1000) (e1:Den X.K F d x) (e2:Den X.K F d' y) (r1:RelV x u) (r2:RelV y v)
  (rec:∀(es:List D),(d'=.tup es\/d'=.lst es)->∀(vs1 vs:List V) (its1 its:List Value),aq X.K F ds0 vs1->aq X.K F es vs->Vals vs1 its1->Vals vs its->∀(j:Nat) (h1:j < its1.length) (h2:j < its.length),SeqAt.EqAt A.in1 s its1[j] its[j] (rz ds0 es j)) :
  SeqAt.RcAt A s u v (aQ d d')/\SeqAt.RcNeAt A s u v (!aQ d d'):=by
 cases d with
 | non=>rcases hl with hl|hl <;> cases hl
 | bl _=>rcases hl with hl|hl <;> cases hl
 | int _=>rcases hl with hl|hl <;> cases hl
 | str _=>rcases hl with hl|hl <;> cases hl
 | ty _=>simp [dep] at h1
 | exc _=>simp [dep] at h1
 | cls _=>simp [dep] at h1
 | dct _ _=>simp [dep] at h1
 | obj _=>simp [dep] at h1
 | tup ds =>
  have z:ds=ds0:=by rcases hl with hl|hl <;> cases hl <;> rfl
  subst z;simp only [Den] at e1;obtain⟨a1,vs1,rfl,q1,g1⟩:=e1;cases r1;obtain⟨its1,rv1,ht1,hz1⟩:=I.tuple (ao.bS fh q1);simp only [dep] at hu h1;have hu0:A.units < cLine:=by omega
  cases d' with
  | ty _=>simp [dep] at h2
  | dct _ _=>simp [dep] at h2
  | obj _=>simp [dep] at h2
  | exc _=>simp [dep] at h2
  | cls _=>simp [dep] at h2
  | non=>simp only [Den] at e2;subst e2;cases r2;exact⟨SeqAt.RcAt.tuple_none ht1 hu0,SeqAt.RcNeAt.tuple_none ht1 hu0⟩
  | bl b=>simp only [Den] at e2;subst e2;cases r2;exact⟨SeqAt.RcAt.tuple_bool b ht1 hu0,SeqAt.RcNeAt.tuple_bool b ht1 hu0⟩
  | int b=>simp only [Den] at e2;subst e2;obtain⟨t,rfl⟩:=r2;exact⟨SeqAt.RcAt.tuple_int b t ht1 hu0,SeqAt.RcNeAt.tuple_int b t ht1 hu0⟩
  | str b=>simp only [Den] at e2;subst e2;obtain⟨t,rfl⟩:=r2;exact⟨SeqAt.RcAt.tuple_str b t ht1 hu0,SeqAt.RcNeAt.tuple_str b t ht1 hu0⟩
  | lst es =>
   simp only [Den] at e2;obtain⟨a,vs,rfl,q,r⟩:=e2;cases r2;obtain⟨its,rv,ht,hz⟩:=I.list (fh.seq q)
   exact⟨SeqAt.RcAt.tuple_list ht1 ht.isList hu0,SeqAt.RcNeAt.tuple_list ht1 ht.isList hu0⟩
  | tup es =>
   simp only [Den] at e2;obtain⟨a,vs,rfl,q,r⟩:=e2;cases r2;obtain⟨its,rv,ht,hz⟩:=I.tuple (ao.bS fh q);simp only [dep] at h2;have he:=rec es (.inl rfl) vs1 vs its1 its g1 r rv1 rv;have l1:its1.length=ds.length:=by rw [g1.length,rv1.length]
   have l2:its.length=es.length:=by rw [r.length,rv.length]
   have k1:=SeqAt.RcAt.tuples (e:=rz ds es) ht1 ht hu0 (λj h1 h2=>he j (by simpa using h1) (by simpa using h2));have k2:=SeqAt.RcNeAt.tuples (e:=rz ds es) ht1 ht hu0 (λj h1 h2=>he j (by simpa using h1) (by simpa using h2));rw [Fd,Fd,l1,l2,qe] at k1 k2
   exact⟨by simpa only [aQ] using k1,by simpa only [aQ] using k2⟩
 | lst ds =>
  have z:ds=ds0:=by rcases hl with hl|hl <;> cases hl <;> rfl
  subst z;simp only [Den] at e1;obtain⟨a1,vs1,rfl,q1,g1⟩:=e1;cases r1;obtain⟨its1,rv1,ht1,hz1⟩:=I.list (fh.seq q1);simp only [dep] at hu h1;have hu0:A.units < cLine:=by omega
  cases d' with
  | ty _=>simp [dep] at h2
  | dct _ _=>simp [dep] at h2
  | obj _=>simp [dep] at h2
  | exc _=>simp [dep] at h2
  | cls _=>simp [dep] at h2
  | non=>simp only [Den] at e2;subst e2;cases r2;exact⟨SeqAt.RcAt.list_none ht1.isList hu0,SeqAt.RcNeAt.list_none ht1.isList hu0⟩
  | bl b=>simp only [Den] at e2;subst e2;cases r2;exact⟨SeqAt.RcAt.list_bool b ht1.isList hu0,SeqAt.RcNeAt.list_bool b ht1.isList hu0⟩
  | int b=>simp only [Den] at e2;subst e2;obtain⟨t,rfl⟩:=r2;exact⟨SeqAt.RcAt.list_int b t ht1.isList hu0,SeqAt.RcNeAt.list_int b t ht1.isList hu0⟩
  | str b=>simp only [Den] at e2;subst e2;obtain⟨t,rfl⟩:=r2;exact⟨SeqAt.RcAt.list_str b t ht1.isList hu0,SeqAt.RcNeAt.list_str b t ht1.isList hu0⟩
  | tup es =>
   simp only [Den] at e2;obtain⟨a,vs,rfl,q,r⟩:=e2;cases r2;obtain⟨its,rv,ht,hz⟩:=I.tuple (ao.bS fh q)
   exact⟨SeqAt.RcAt.list_tuple ht1.isList ht hu0,SeqAt.RcNeAt.list_tuple ht1.isList ht hu0⟩
  | lst es =>
   simp only [Den] at e2;obtain⟨a,vs,rfl,q,r⟩:=e2;cases r2;obtain⟨its,rv,ht,hz⟩:=I.list (fh.seq q);simp only [dep] at h2;have he:=rec es (.inr rfl) vs1 vs its1 its g1 r rv1 rv;have l1:its1.length=ds.length:=by rw [g1.length,rv1.length]
   have l2:its.length=es.length:=by rw [r.length,rv.length]
   simp only [aQ];rw [<- qe]
   by_cases hsz:ds.length=es.length
   ·have k1:=SeqAt.RcAt.lists (e:=rz ds es) ht1.isList ht.isList (by simp [l1,l2,hsz]) hu0 (λj h1 h2=>he j (by simpa using h1) (by simpa using h2));have k2:=SeqAt.RcNeAt.lists (e:=rz ds es) ht1.isList ht.isList (by simp [l1,l2,hsz]) hu0 (λj h1 h2=>he j (by simpa using h1) (by simpa using h2));rw [Fd,l1] at k1 k2;have e:(ds.length == es.length)=true:=by simp [hsz]
    rw [e,Gi,<- hsz,Nat.min_self];exact⟨k1,k2⟩
   ·have e:(ds.length == es.length)=false:=by simp [hsz]
    rw [e,Bool.and_false];have e2:(its1.toArray.size != its.toArray.size)=true:=by simp [l1,l2,hsz]
    exact⟨SeqAt.RcAt.lists_lengths ht1.isList ht.isList e2 hu0,SeqAt.RcNeAt.lists_lengths ht1.isList ht.isList e2 hu0⟩
mutual
theorem yL (I:Inv X pins σ H s) (fh:ao F H):∀(d d':D) (A:Around) (x y:V) (u v:Value),A.units + dep d < cLine->dep d < 1000->dep d' < 1000->Den X.K F d x->Den X.K F d' y->RelV x u->RelV y v ->
  SeqAt.RcAt A s u v (aQ d d')/\SeqAt.RcNeAt A s u v (!aQ d d')
 | .ty _,d',A,x,y,u,v,hu,h1,h2,e1,e2,r1,r2=>by simp [dep] at h1
 | .exc _,d',A,x,y,u,v,hu,h1,h2,e1,e2,r1,r2=>by simp [dep] at h1
 | .cls _,d',A,x,y,u,v,hu,h1,h2,e1,e2,r1,r2=>by simp [dep] at h1
 | .dct _ _,d',A,x,y,u,v,hu,h1,h2,e1,e2,r1,r2=>by simp [dep] at h1
 | .obj _,d',A,x,y,u,v,hu,h1,h2,e1,e2,r1,r2=>by simp [dep] at h1
 | .non,d',A,x,y,u,v,hu,h1,h2,e1,e2,r1,r2=>pI I fh _ d' A x y u v rfl hu h2 e1 e2 r1 r2
 | .bl _,d',A,x,y,u,v,hu,h1,h2,e1,e2,r1,r2=>pI I fh _ d' A x y u v rfl hu h2 e1 e2 r1 r2
 | .int _,d',A,x,y,u,v,hu,h1,h2,e1,e2,r1,r2=>pI I fh _ d' A x y u v rfl hu h2 e1 e2 r1 r2
 | .str _,d',A,x,y,u,v,hu,h1,h2,e1,e2,r1,r2=>pI I fh _ d' A x y u v rfl hu h2 e1 e2 r1 r2
 | .tup ds,d',A,x,y,u,v,hu,h1,h2,e1,e2,r1,r2=>zq I fh ds _ d' A x y u v (.inl rfl) hu h1 h2 e1 e2 r1 r2 λes z2 vs1 vs its1 its g1 r rv1 rv =>
  xA I fh ds es A.in1 vs1 vs its1 its (by rw [units_in1];simp only [dep] at hu;omega) (by simp only [dep] at h1;omega) (by rcases z2 with rfl|rfl <;> (simp only [dep] at h2;omega)) g1 r rv1 rv
 | .lst ds,d',A,x,y,u,v,hu,h1,h2,e1,e2,r1,r2=>zq I fh ds _ d' A x y u v (.inr rfl) hu h1 h2 e1 e2 r1 r2 λes z2 vs1 vs its1 its g1 r rv1 rv =>
  xA I fh ds es A.in1 vs1 vs its1 its (by rw [units_in1];simp only [dep] at hu;omega) (by simp only [dep] at h1;omega) (by rcases z2 with rfl|rfl <;> (simp only [dep] at h2;omega)) g1 r rv1 rv
theorem xA (I:Inv X pins σ H s) (fh:ao F H):∀(ds es:List D) (A:Around) (xs ys:List V) (us vs:List Value),A.units + bJ ds < cLine->bJ ds < 1000->bJ es < 1000->aq X.K F ds xs->aq X.K F es ys->Vals xs us->Vals ys vs ->
  ∀(j:Nat) (h1:j < us.length) (h2:j < vs.length),SeqAt.EqAt A s us[j] vs[j] (rz ds es j)
 | [],es,A,xs,ys,us,vs,hu,h1,h2,e1,e2,r1,r2,j,hj1,hj2=>by
  simp only [aq] at e1;subst e1;cases r1;simp at hj1
 | d :: ds,es,A,xs,ys,us,vs,hu,h1,h2,e1,e2,r1,r2,j,hj1,hj2=>by
  simp only [aq] at e1;obtain⟨x,xr,rfl,ax,bx⟩:=e1
  cases r1 with
  | cons rx rrx =>
  cases es with
  | nil=>simp only [aq] at e2;subst e2;cases r2;simp at hj2
  | cons e es =>
   simp only [aq] at e2;obtain⟨y,yr,rfl,ay,by'⟩:=e2
   cases r2 with
   | cons ry rry =>
   simp only [bJ] at hu h1 h2
   cases j with
   | zero =>
    simp only [List.getElem_cons_zero];have e0:rz (d :: ds) (e :: es) 0=aQ d e:=by simp [rz]
    rw [e0]
    exact uE I fh d e A x y _ _ (by omega) (by omega) (by omega) ax ay rx ry (yL I fh d e A x y _ _ (by omega) (by omega) (by omega) ax ay rx ry).1
   | succ j =>
    simp only [List.getElem_cons_succ];have e0:rz (d :: ds) (e :: es) (j + 1)=rz ds es j:=by simp [rz]
    rw [e0];exact xA I fh ds es A xr yr _ _ (by omega) (by omega) (by omega) bx by' rrx rry j (by simpa using hj1) (by simpa using hj2)
end
theorem jw (I:Inv X pins σ H s) (fh:ao F H) (d d':D) (A:Around) (x y:V) (u v:Value) (hu:A.units + dep d < cLine) (h1:dep d < 1000) (h2:dep d' < 1000) (e1:Den X.K F d x) (e2:Den X.K F d' y) (r1:RelV x u) (r2:RelV y v) :
  SeqAt.EqAt A s u v (aQ d d'):=uE I fh d d' A x y u v hu h1 h2 e1 e2 r1 r2 (yL I fh d d' A x y u v hu h1 h2 e1 e2 r1 r2).1
end
end L2.L3
namespace L2.L3
open PySem PySem.Spec PyProof.Rows
section
variable {X:Cx} {a b c e:Expr} {es:List Expr} {ta tb tc:TD} {tA tB':TB} {ts:dS} {pos:Pos} {rest:List Expr}
def zm (K:ES):R2:=λx y H Q=>∃l b xs zs,x=.ref l/\y=.ref b/\fL K H l xs/\fL K H b zs/\xs.length + zs.length<=sizeLine/\∀p,H p=none->Q (.ref p) (upd H p (.lst (xs ++ zs)))
theorem zf:gq X (binaryOp .Add) (zm X.K):=by
 intro pins s σ H x y v u Q I rx ry h;obtain⟨l,b,xs,zs,rfl,rfl,hH,hB,hz,q⟩:=h;cases rx;cases ry;obtain⟨its,r,⟨⟨cls,dd,data,sl⟩,n,ho,hc,hdd,hd⟩,z⟩:=I.list hH;obtain⟨its2,r2,⟨⟨cls2,dd2,data2,sl2⟩,n2,ho2,hc2,hdd2,hd2⟩,z2⟩:=I.list hB;simp only at hc hdd hd hc2 hdd2 hd2;subst hc hdd hd hc2 hdd2 hd2;have ea:its.toArray ++ its2.toArray=(its ++ its2).toArray:=by simp
 refine concat_meets ⟨_,ho,rfl⟩ ⟨_,ho2,rfl⟩ noFill_list_add seq_list_add PySem.F.slot_list_add PySem.F.entry_list_add (PySem.F.args_list_add_2 _ _)
  (list_addW l b its.toArray its2.toArray n n2 none none sl sl2 (by rw [Fd,Fd,<- r.length,<- r2.length];exact hz)) ⟨ho,ho2,?_⟩
 rw [ea];exact⟨.ref _,_,I.Dq (t':=s.toks) (r.append r2) (by rw [Ft];omega),rfl,q _ I.fresh⟩
def vI (K:ES):R2:=λx y H Q=>∃a b ys,x=.ref a/\y=.ref b/\jg K H a []/\jg K H b ys/\Q (.ref b) H
theorem xa:gq X (binaryOp .Add) (vI X.K):=by
 intro pins s σ H x y v u Q I rx ry h;obtain⟨l,b,zs,rfl,rfl,hH,hB,q⟩:=h;cases rx;cases ry;obtain⟨its,r,⟨⟨cls,dd,data,sl⟩,ho,hc,n,hd⟩,z⟩:=I.tuple hH;obtain⟨its2,r2,⟨⟨cls2,dd2,data2,sl2⟩,ho2,hc2,n2,hd2⟩,z2⟩:=I.tuple hB;cases r;simp only at hc hd hc2 hd2;subst hc hd hc2 hd2
 exact concat_meets ⟨_,ho,rfl⟩ ⟨_,ho2,rfl⟩ noFill_tuple_add seq_tuple_add PySem.F.slot_tuple_add PySem.F.entry_tuple_add (PySem.F.args_tuple_add_2 _ _)
  (tuple_addW0 l b _ _ n n2 dd dd2 sl sl2 (by simp)) ⟨ho,ho2,⟨.ref b,H,I,rfl,q⟩⟩
def bw (x y:D) (Q:D->Prop):Prop:=match x,y with
 | .int i,.int j=>Q (.int (i + j))
 | .str u,.str w=>u.length + w.length<=sizeLine/\Q (.str (u ++ w))
 | .lst u,.lst w=>u.length + w.length<=sizeLine/\Q (.lst (u ++ w))
 | .tup u,.tup w=>u.length + w.length<=sizeLine/\Q (.tup (u ++ w))
 | _,_=>False
def uw (K:ES):R2:=λx y H Q=>vR (λi j=>.int (i + j)) x y H Q\/(∃i j,x=.str i/\y=.str j/\i.length + j.length<=sizeLine/\Q (.str (i ++ j)) H)\/zm K x y H Q\/zx K x y H Q\/vI K x y H Q
theorem vD:gq X (binaryOp .Add) (uw X.K):=AI.or (t7.or (zf.or (zd.or xa)))
theorem Bv:sk X (uw X.K) bw:=by
 intro B σ F H env Q d d' x y Z rp h1 h2 hz hf;unfold bw at hf
 split at hf
 ·simp only [Den] at h1 h2;subst h1 h2;exact .inl ⟨_,_,rfl,rfl,hz _ _ F _ rp (ao.refl _) br hf⟩
 ·simp only [Den] at h1 h2;subst h1 h2;exact .inr (.inl ⟨_,_,rfl,rfl,hf.1,hz _ _ F _ rp (ao.refl _) jo hf.2⟩)
 ·simp only [Den] at h1 h2;obtain⟨p,vs,rfl,q,r⟩:=h1;obtain⟨p',vs',rfl,q',r'⟩:=h2;refine .inr (.inr (.inl ⟨p,p',vs,vs',rfl,rfl,rp.fh.seq q,rp.fh.seq q',by rw [<- r.length,<- r'.length];exact hf.1,λw hw=>?_⟩));obtain⟨r2,s2⟩:=rp.laid (o:=.lst (vs ++ vs')) hw;exact hz _ _ _ _ r2 s2 (lI (fL.of av) (aq.mono s2 _ _ (r.append r'))) hf.2
 ·simp only [Den] at h1 h2;obtain⟨p,vs,rfl,q,r⟩:=h1;obtain⟨p',vs',rfl,q',r'⟩:=h2
  cases vs with
  | nil =>
   rename_i u w
   cases u with
   | cons _ _=>simp only [aq] at r;obtain⟨_,_,z,_⟩:=r;cases z
   | nil =>
    exact .inr (.inr (.inr (.inr ⟨p,p',vs',rfl,rfl,ao.bS rp.fh q,ao.bS rp.fh q',hz _ _ F _ rp (ao.refl _) (iw q' r') (by simpa using hf.2)⟩)))
  | cons v0 vr =>
   refine .inr (.inr (.inr (.inl ⟨p,p',v0 :: vr,vs',rfl,rfl,ao.bS rp.fh q,ao.bS rp.fh q',by simp,by rw [<- r.length,<- r'.length];exact hf.1,λw=>?_,λw z hw=>?_⟩)))
   ·subst w
    rename_i w
    have e:w=[]:=by
     cases w with
     | nil=>rfl
     | cons _ _=>simp only [aq] at r';obtain⟨_,_,z,_⟩:=r';cases z
    subst e;exact hz _ _ F _ rp (ao.refl _) (iw q r) (by simpa using hf.2)
   ·obtain⟨r2,s2⟩:=rp.laid (o:=.tup (v0 :: vr ++ vs')) hw;exact hz _ _ _ _ r2 s2 (iw (jg.of av) (aq.mono s2 _ _ (r.append r'))) hf.2
 ·exact hf.elim
theorem bI (ha:QE X a ta) (hb:QE X b tb):QE X (.BinOp a .Add b pos) (aF bw ta tb):=uT vD Bv ha hb
def sr (C:Int->Int->Prop) (g:Int->Int->D) (x y:D) (Q:D->Prop):Prop:=match x,y with
 | .int i,.int j=>C i j/\Q (g i j)
 | _,_=>False
theorem uf {C:Int->Int->Prop} {g:Int->Int->Int}:sk X (rI C λi j=>.int (g i j)) (sr C λi j=>.int (g i j)):=by
 intro B σ F H env Q d d' x y Z rp h1 h2 hz hf;unfold sr at hf
 split at hf
 ·simp only [Den] at h1 h2;subst h1 h2;exact⟨_,_,rfl,rfl,hf.1,hz _ _ F _ rp (ao.refl _) br hf.2⟩
 ·exact hf.elim
theorem A8 {g:Int->Int->Int}:sk X (vR λi j=>.int (g i j)) (sr (λ_ _=>True) λi j=>.int (g i j)):=by
 intro B σ F H env Q d d' x y Z rp h1 h2 hz hf;unfold sr at hf
 split at hf
 ·simp only [Den] at h1 h2;subst h1 h2;exact⟨_,_,rfl,rfl,hz _ _ F _ rp (ao.refl _) br hf.2⟩
 ·exact hf.elim
theorem mG {g:Int->Int->Bool}:sk X (vR λi j=>.bl (g i j)) (sr (λ_ _=>True) λi j=>.bl (g i j)):=by
 intro B σ F H env Q d d' x y Z rp h1 h2 hz hf;unfold sr at hf
 split at hf
 ·simp only [Den] at h1 h2;subst h1 h2;exact⟨_,_,rfl,rfl,hz _ _ F _ rp (ao.refl _) dY hf.2⟩
 ·exact hf.elim
theorem yZ:gq X (binaryOp .Mult) (rI IntMulOk λi j=>.int (i * j)):=Di λ_ _ _ _ _ _ _ hc q=>mul_int q hc
def sg (_ j:Int):Prop:=j≠0/\j.natAbs.log2 < 9000
theorem vP:gq X (binaryOp .FloorDiv) (rI sg λi j=>.int (i.fdiv j)):=Di λ_ _ _ _ _ _ _ hc q=>floordiv_int hc.1 q (.inl (PyProof.noPylong_of_log2 hc.2))
def oS (_ j:Int):Prop:=j≠0
abbrev A4:=sr (λ_ _=>True) λi j=>.int (i - j)
abbrev dN:=sr IntMulOk λi j=>.int (i * j)
abbrev kQ:=sr sg λi j=>.int (i.fdiv j)
abbrev dm:=sr oS λi j=>.int (i.fmod j)
abbrev CJ:=sr Aw λi j=>.int (i ^ j.toNat)
abbrev yW:=sr (λ_ _=>True) λi j=>.bl (decide (i < j))
abbrev Ei:=sr (λ_ _=>True) λi j=>.bl (decide (i<=j))
abbrev Ea:=sr (λ_ _=>True) λi j=>.bl (decide (j < i))
abbrev Em:=sr (λ_ _=>True) λi j=>.bl (decide (j<=i))
theorem zH (ha:QE X a ta) (hb:QE X b tb):QE X (.BinOp a .Sub b pos) (aF A4 ta tb):=uT zZ A8 ha hb
theorem dQ (ha:QE X a ta) (hb:QE X b tb):QE X (.BinOp a .Mult b pos) (aF dN ta tb):=uT yZ uf ha hb
theorem i3 (ha:QE X a ta) (hb:QE X b tb):QE X (.BinOp a .FloorDiv b pos) (aF kQ ta tb):=uT vP uf ha hb
theorem b8 (ha:QE X a ta) (hb:QE X b tb):QE X (.BinOp a .Mod b pos) (aF dm ta tb):=uT (r:=rI oS λi j=>.int (i.fmod j)) yf uf ha hb
theorem BY (ha:QE X a ta) (hb:QE X b tb):QE X (.BinOp a .Pow b pos) (aF CJ ta tb):=uT Al uf ha hb
theorem uY (ha:QE X a ta) (hb:QE X b tb):QT X (.Compare a [.Lt] [b] pos) (aL (aF yW ta tb)):=j5 zN mG ha hb (ko _)
theorem C1 (ha:QE X a ta) (hb:QE X b tb):QT X (.Compare a [.Gt] [b] pos) (aL (aF Ea ta tb)):=j5 BX mG ha hb (ko _)
theorem D0 (ha:QE X a ta) (hb:QE X b tb):QT X (.Compare a [.GtE] [b] pos) (aL (aF Em ta tb)):=j5 BR mG ha hb (ko _)
def EL (X:Cx) (r:V->Hp->VK->Prop) (f:D->(D->Prop)->Prop):Prop:=∀(B:Base) (σ:St) (F H:Hp) (env:En) (Q:D->Prop) (d:D) (x:V) (Z:VK),Rep X.K B F H σ env->Den X.K F d x->Kont X B σ env F Q Z->f d Q->r x H Z
def pM (f:D->(D->Prop)->Prop) (ta:TD):TD:=λenv Q=>ta env λx=>f x Q
theorem DG {op:UnaryOp} {r:V->Hp->VK->Prop} {f:D->(D->Prop)->Prop} (ho:De X (unaryOp op) r) (hf:EL X r f) (ha:QE X a ta):QE X (.UnaryOp op a pos) (pM f ta):=by
 refine⟨?_⟩;intro B σ F H env Q rp h;refine bN (B5 ho bz) ?_;refine aE (ha B σ F H env _ rp h) λx H1 hq0=>?_;obtain⟨F1,d,r1,s1,d1,q1⟩:=hq0;exact hf B σ F1 H1 env Q d x _ r1 d1 (λv H' F' d' r' s' hd q=>⟨F',d',r',s1.trans s',hd,q⟩) q1
def jE (x:D) (Q:D->Prop):Prop:=match x with
 | .int i=>Q (.int (-i))
 | _=>False
theorem gZ (ha:QE X a ta):QE X (.UnaryOp .USub a pos) (pM jE ta):=by
 refine DG A1 ?_ ha;intro B σ F H env Q d x Z rp h1 hz hf;unfold jE at hf
 split at hf
 ·simp only [Den] at h1;subst h1;exact⟨_,rfl,hz _ _ F _ rp (ao.refl _) br hf⟩
 ·exact hf.elim
def yu (X:Cx) (neg:Bool):R2:=λx y H Q=>∃(F:Hp) (d d':D),ao F H/\Den X.K F d x/\Den X.K F d' y/\X.A.units + dep d < cLine/\dep d < 1000/\dep d' < 1000/\Q (.bl (if neg then !aQ d d' else aQ d d')) H
theorem vO:gq X (compareOp .Eq) (yu X false):=by
 intro pins s σ H x y v u Q I rx ry h;obtain⟨F,d,d',fh,h1,h2,hu,hd,hd',q⟩:=h;exact (yL I fh d d' X.A x y v u hu hd hd' h1 h2 rx ry).1 X.prog X.w X.xe _ ⟨.bl _,H,I,rfl,q⟩
theorem A3:gq X (compareOp .NotEq) (yu X true):=by
 intro pins s σ H x y v u Q I rx ry h;obtain⟨F,d,d',fh,h1,h2,hu,hd,hd',q⟩:=h;exact (yL I fh d d' X.A x y v u hu hd hd' h1 h2 rx ry).2 X.prog X.w X.xe _ ⟨.bl _,H,I,rfl,q⟩
def iJ (x y:D):Prop:=dep x<=60/\dep y<=60
def iG (x y:D) (Q:D->Prop):Prop:=iJ x y/\Q (.bl (aQ x y))
def rJ (x y:D) (Q:D->Prop):Prop:=iJ x y/\Q (.bl (!aQ x y))
theorem zA (hu:X.A.units + 64 < cLine):sk X (yu X false) iG:=by
 intro B σ F H env Q d d' x y Z rp h1 h2 hz hf;obtain⟨⟨l1,l2⟩,q⟩:=hf;exact⟨F,d,d',rp.fh,h1,h2,by omega,by omega,by omega,hz _ _ F _ rp (ao.refl _) dY q⟩
theorem BU (hu:X.A.units + 64 < cLine):sk X (yu X true) rJ:=by
 intro B σ F H env Q d d' x y Z rp h1 h2 hz hf;obtain⟨⟨l1,l2⟩,q⟩:=hf;exact⟨F,d,d',rp.fh,h1,h2,by omega,by omega,by omega,hz _ _ F _ rp (ao.refl _) dY q⟩
theorem pP (hu:X.A.units + 64 < cLine) (ha:QE X a ta) (hb:QE X b tb):QE X (.Compare a [.Eq] [b] pos) (aF iG ta tb):=C3 vO (zA hu) ha hb (ko _)
theorem lB (hu:X.A.units + 64 < cLine) (ha:QE X a ta) (hb:QE X b tb):QT X (.Compare a [.Eq] [b] pos) (aL (aF iG ta tb)):=j5 vO (zA hu) ha hb (ko _)
theorem pB (hu:X.A.units + 64 < cLine) (ha:QE X a ta) (hb:QE X b tb):QT X (.Compare a [.NotEq] [b] pos) (aL (aF rJ ta tb)):=j5 A3 (BU hu) ha hb (ko _)
def gT (x y:D) (Q:D->Prop):Prop:=match x,y with
 | .lst xs,.int i=>∃v,lx xs i=some v/\Q v
 | .tup xs,.int i=>∃v,lx xs i=some v/\Q v
 | .str z,.int i=>z.length<=sizeLine/\∃c,lx z.cps.toList i=some c/\Q (.str ⟨#[c]⟩)
 | _,_=>False
theorem aq.lx {K:ES} {F:Hp} {ds:List D} {vs:List V} {i:Int} {d:D} (r:aq K F ds vs) (h:lx ds i=some d):∃v,L2.lx vs i=some v/\Den K F d v:=by
 unfold L2.lx at h ⊢;rw [<- r.length]
 cases e:zG ds.length i with
 | none=>rw [e] at h;cases h
 | some j =>
  rw [e] at h;exact r.get h
theorem Ca:sk X (Ed X.K) gT:=by
 intro B σ F H env Q d d' x y Z rp h1 h2 hz hf;unfold gT at hf
 split at hf
 ·simp only [Den] at h1 h2;subst h2;obtain⟨p,vs,rfl,q,r⟩:=h1;obtain⟨v,hv,qv⟩:=hf;obtain⟨w,hw,dw⟩:=r.lx hv;exact .inl ⟨p,vs,_,w,rfl,rfl,rp.fh.seq q,hw,hz _ _ F _ rp (ao.refl _) dw qv⟩
 ·simp only [Den] at h1 h2;subst h2;obtain⟨p,vs,rfl,q,r⟩:=h1;obtain⟨v,hv,qv⟩:=hf;obtain⟨w,hw,dw⟩:=r.lx hv;exact .inr (.inl ⟨p,vs,_,w,rfl,rfl,ao.bS rp.fh q,hw,hz _ _ F _ rp (ao.refl _) dw qv⟩)
 ·simp only [Den] at h1 h2;subst h1 h2;obtain⟨hl,c,hc,qv⟩:=hf;exact .inr (.inr ⟨_,_,c,rfl,rfl,hl,hc,hz _ _ F _ rp (ao.refl _) jo qv⟩)
 ·exact hf.elim
theorem dW (ha:QE X a ta) (hb:QE X b tb) (hs:pk b):QE X (.Subscript a b pos) (aF gT ta tb):=⟨λB σ F H env Q rp h=>bN (zD zR bz bz hs) (two Ca ha hb rp Du h)⟩
def Call3 (X:Cx) (r:List V->Hp->VK->Prop) (f:List D->(D->Prop)->Prop):Prop:=∀(B:Base) (σ:St) (F H:Hp) (env:En) (Q:D->Prop) (ds:List D) (vs:List V) (Z:VK),Rep X.K B F H σ env->aq X.K F ds vs->Kont X B σ env F Q Z->f ds Q->r vs H Z
def az (f:List D->(D->Prop)->Prop) (ts:dS):TD:=λenv Q=>ts env λxs=>f xs Q
theorem zP {r:List V->Hp->VK->Prop} {f:List D->(D->Prop)->Prop} (hf:Call3 X r f) (ha:QA X es ts) {B:Base} {σ:St} {F H:Hp} {env:En} {Q:D->Prop} (rp:Rep X.K B F H σ env) (h:az f ts env Q):Dm r (wA X es) σ H (RV X B σ env F Q):=by
 refine cu (ha B σ F H env _ rp h) λvs H1 hq0=>?_;obtain⟨F1,ds,r1,s1,d1,q1⟩:=hq0;exact hf B σ F1 H1 env Q ds vs _ r1 d1 (λv H' F' d' r' s' hd q=>⟨F',d',r',s1.trans s',hd,q⟩) q1
theorem fX {id:String} {r:List V->Hp->VK->Prop} {f:List D->(D->Prop)->Prop} {x:Str} {p:Pos} (hc:dr X (.builtin id) r) (hf:Call3 X r f) (hg:Gl X x) (hm:X.mg x=none) (hv:bootBuiltins x=some (.builtin id)) (ha:QA X (e :: es) ts)
  (hn:x≠"__name__":=by decide) (hdb:(x == ("__debug__" : Str))=false:=by decide) (he:starEach (e :: es) X.env=(false,eval e X.env) :: starEach es X.env:=by exact aV rfl) (hpl:(backTo pos (starEach es X.env)).any (·.1)=false:=by rfl) :
  QE X (.Call (.Name x p) (e :: es) [] pos) (az f ts):=⟨λB σ F H env Q rp h=>bN (ri hc hg hm hv iV hn hdb he hpl) (zP hf ha rp h)⟩
theorem wU {T:String} {r:List V->Hp->VK->Prop} {f:List D->(D->Prop)->Prop} {x:Str} {p:Pos} (hc:dr X (.type T) r) (hf:Call3 X r f) (hg:Gl X x) (hm:X.mg x=none) (hv:bootBuiltins x=some (.type T)) (ha:QA X (e :: es) ts)
  (hn:x≠"__name__":=by decide) (hdb:(x == ("__debug__" : Str))=false:=by decide) (he:starEach (e :: es) X.env=(false,eval e X.env) :: starEach es X.env:=by exact aV rfl) (hpl:(backTo pos (starEach es X.env)).any (·.1)=false:=by rfl) :
  QE X (.Call (.Name x p) (e :: es) [] pos) (az f ts):=⟨λB σ F H env Q rp h=>bN (ot hc hg hm hv iV hn hdb he hpl) (zP hf ha rp h)⟩
end
theorem vk:bootBuiltins "abs" = some (.builtin "abs"):=by decide +kernel
theorem uR:bootBuiltins "all" = some (.builtin "all"):=by decide +kernel
theorem oK:bootBuiltins "min" = some (.builtin "min"):=by decide +kernel
theorem oz:bootBuiltins "isinstance" = some (.builtin "isinstance"):=by decide +kernel
theorem o3:bootBuiltins "len" = some (.builtin "len"):=by decide +kernel
theorem vo:bootBuiltins "int" = some (.type "int"):=by decide +kernel
theorem sU:bootBuiltins "bool" = some (.type "bool"):=by decide +kernel
theorem ub:bootBuiltins "list" = some (.type "list"):=by decide +kernel
theorem gB:bootBuiltins "tuple" = some (.type "tuple"):=by decide +kernel
section
variable {X:Cx} {a b c e:Expr} {es:List Expr} {ta tb tc:TD} {tA tB':TB} {ts:dS} {pos:Pos} {rest:List Expr}
def tu (ds:List D) (Q:D->Prop):Prop:=match ds with
 | [.int i]=>Q (.int (if i < 0 then -i else i))
 | _=>False
theorem AO:Call3 X (λxs H Q=>∃i,xs=[.int i]/\Q (.int (if i < 0 then -i else i)) H) tu:=by
 intro B σ F H env Q ds vs Z rp h hz hf;unfold tu at hf
 split at hf
 ·simp only [aq,Den] at h;obtain⟨v,r,rfl,rfl,rfl⟩:=h;exact⟨_,rfl,hz _ _ F _ rp (ao.refl _) br hf⟩
 ·exact hf.elim
def lA (ds:List D) (Q:D->Prop):Prop:=match ds with
 | [.lst xs]=>Q (.int xs.length)
 | [.tup xs]=>Q (.int xs.length)
 | [.str z]=>z.length<=sizeLine/\Q (.int z.length)
 | _=>False
theorem Bm:Call3 X (λxs H Q=>(∃p ys,xs=[.ref p]/\(fL X.K H p ys\/jg X.K H p ys)/\Q (.int ys.length) H)\/∃z,xs=[.str z]/\z.length<=sizeLine/\Q (.int z.length) H) lA:=by
 intro B σ F H env Q ds vs Z rp h hz hf;unfold lA at hf
 split at hf
 ·simp only [aq,Den] at h;obtain⟨v,r,rfl,⟨p,ys,rfl,q,r⟩,rfl⟩:=h;refine .inl ⟨p,ys,rfl,.inl (rp.fh.seq q),hz _ _ F _ rp (ao.refl _) br ?_⟩;rw [<- r.length];exact hf
 ·simp only [aq,Den] at h;obtain⟨v,r,rfl,⟨p,ys,rfl,q,r⟩,rfl⟩:=h;refine .inl ⟨p,ys,rfl,.inr (ao.bS rp.fh q),hz _ _ F _ rp (ao.refl _) br ?_⟩;rw [<- r.length];exact hf
 ·simp only [aq,Den] at h;obtain⟨v,r,rfl,rfl,rfl⟩:=h;exact .inr ⟨_,rfl,hf.1,hz _ _ F _ rp (ao.refl _) br hf.2⟩
 ·exact hf.elim
def xR (ds:List D) (Q:D->Prop):Prop:=match ds with
 | [.int i,.int j]=>Q (.int (if j < i then j else i))
 | _=>False
theorem Bi:Call3 X (λxs H Q=>∃i j,xs=[.int i,.int j]/\Q (.int (if j < i then j else i)) H) xR:=by
 intro B σ F H env Q ds vs Z rp h hz hf;unfold xR at hf
 split at hf
 ·simp only [aq,Den] at h;obtain⟨v,r,rfl,rfl,v',r',rfl,rfl,rfl⟩:=h;exact⟨_,_,rfl,hz _ _ F _ rp (ao.refl _) br hf⟩
 ·exact hf.elim
def eJ (ds:List D) (Q:D->Prop):Prop:=match ds with
 | [.lst xs]=>Q (.tup xs)
 | [.tup xs]=>Q (.tup xs)
 | _=>False
theorem xZ:Call3 X (λxs H Q=>∃p ys,xs=[.ref p]/\((fL X.K H p ys/\∀l,H l=none->Q (.ref l) (upd H l (.tup ys)))\/(jg X.K H p ys/\Q (.ref p) H))) eJ:=by
 intro B σ F H env Q ds vs Z rp h hz hf;unfold eJ at hf
 split at hf
 ·simp only [aq,Den] at h;obtain⟨v,r,rfl,⟨p,ys,rfl,q,r⟩,rfl⟩:=h;refine⟨p,ys,rfl,.inl ⟨rp.fh.seq q,λw hw=>?_⟩⟩;obtain⟨r2,s2⟩:=rp.laid (o:=.tup ys) hw;exact hz _ _ _ _ r2 s2 (iw (jg.of av) (aq.mono s2 _ _ r)) hf
 ·simp only [aq,Den] at h;obtain⟨v,r,rfl,⟨p,ys,rfl,q,r⟩,rfl⟩:=h;exact⟨p,ys,rfl,.inr ⟨ao.bS rp.fh q,hz _ _ F _ rp (ao.refl _) (iw q r) hf⟩⟩
 ·exact hf.elim
def Ee (K:ES) (H:Hp) (x:V) (t:String):Prop:=match x with
 | .non=>t = "NoneType"
 | .bl _=>t = "bool"
 | .int _=>t = "int"
 | .str _=>t = "str"
 | .ref a=>(t = "tuple"/\∃vs,jg K H a vs)\/(t = "list"/\∃vs,fL K H a vs)
 | _=>False
theorem wX:dr X (.builtin "isinstance") (λxs H Q=>∃x n t b,xs=[x,.ty n]/\Ee X.K H x t/\PySem.W.kitOne X.K (.type t) (.type n)=some b/\Q (.bl b) H):=by
 intro pins s σ H xs us Q I r h;obtain⟨x,n,t,b,rfl,ty,e,q⟩:=h;obtain⟨u,w,rfl,rx,rw'⟩:=vals2 r;cases (show w=Value.type n from rw');have fin:∀tk,EP X pins σ Q (.bool b) { s with toks:=tk }:=λtk=>⟨.bl b,H,I.tok tk,rfl,q⟩
 cases x with
 | non=>cases (show t = "NoneType" from ty);cases (show u=Value.none from rx);exact PySem.W.kia_one PySem.W.kitx_none I.nI True.intro e (λz=>nomatch z) fin
 | bl y=>cases (show t = "bool" from ty);cases (show u=Value.bool y from rx);exact PySem.W.kia_one PySem.W.kitx_bool I.nI True.intro e (λz=>nomatch z) fin
 | int i=>cases (show t = "int" from ty);obtain⟨t,q⟩:=(show ∃t,u=Value.int i t from rx);cases q;exact PySem.W.kia_one PySem.W.kitx_int I.nI True.intro e (λz=>nomatch z) fin
 | str i=>cases (show t = "str" from ty);obtain⟨t,q⟩:=(show ∃t,u=Value.str i t from rx);cases q;exact PySem.W.kia_one PySem.W.kitx_str I.nI True.intro e (λz=>nomatch z) fin
 | ref a =>
  cases (show u=Value.ref a from rx);rcases ty with ⟨rfl,vs,hq⟩|⟨rfl,vs,hq⟩
  ·obtain⟨_,_,⟨o,h1,h2,_⟩,_⟩:=I.tuple hq;exact PySem.W.kia_one PySem.W.kitx_tuple I.nI ⟨o,h1,h2⟩ e (λz=>nomatch z) fin
  ·obtain⟨_,_,⟨o,n,h1,h2,_⟩,_⟩:=I.list hq
   exact PySem.W.kia_one PySem.W.kitx_list I.nI ⟨o,h1,h2⟩ e (λz=>nomatch z) fin
 | _=>exact False.elim ty
inductive Kd where|non|bl|int|str|tup|lst|oth
def Eg:D->Kd
 | .non=>.non
 | .bl _=>.bl
 | .int _=>.int
 | .str _=>.str
 | .tup _=>.tup
 | .lst _=>.lst
 | _=>.oth
def yK:Kd->String->Option Bool
 | .oth,_=>none
 | k,"int"=>some (match k with | .int=>true | .bl=>true | _=>false)
 | k,"bool"=>some (match k with | .bl=>true | _=>false)
 | k,"str"=>some (match k with | .str=>true | _=>false)
 | k,"tuple"=>some (match k with | .tup=>true | _=>false)
 | k,"list"=>some (match k with | .lst=>true | _=>false)
 | _,_=>none
def C5 (ds:List D) (Q:D->Prop):Prop:=match ds with
 | [x,.ty n]=>∃b,yK (Eg x) n=some b/\Q (.bl b)
 | _=>False
theorem iy (K:ES) (k:Kd) (n t:String) (b:Bool) (h:yK k n=some b)
  (ht:t=match k with | .non=>"NoneType" | .bl=>"bool" | .int=>"int" | .str=>"str" | .tup=>"tuple" | .lst=>"list" | .oth=>"type"):PySem.W.kitOne K (.type t) (.type n)=some b:=by
 subst ht;unfold yK at h
 split at h
 ·cases h
 all_goals (cases k <;> simp at h <;> subst h <;> rfl)
theorem Ab:Call3 X (λxs H Q=>∃x n t b,xs=[x,.ty n]/\Ee X.K H x t/\PySem.W.kitOne X.K (.type t) (.type n)=some b/\Q (.bl b) H) C5:=by
 intro B σ F H env Q ds vs Z rp h hz hf;unfold C5 at hf
 split at hf
 ·rename_i x n;obtain⟨b,hb,q⟩:=hf;simp only [aq] at h;obtain⟨v,r,rfl,hd,v',r',rfl,hd',rfl⟩:=h;simp only [Den] at hd';subst hd';have fin:=hz (.bl b) H F (.bl b) rp (ao.refl _) dY q
  cases x with
  | non=>simp only [Den] at hd;subst hd;exact⟨_,n,"NoneType",b,rfl,rfl,iy _ _ _ _ _ hb rfl,fin⟩
  | bl k=>simp only [Den] at hd;subst hd;exact⟨_,n,"bool",b,rfl,rfl,iy _ _ _ _ _ hb rfl,fin⟩
  | int k=>simp only [Den] at hd;subst hd;exact⟨_,n,"int",b,rfl,rfl,iy _ _ _ _ _ hb rfl,fin⟩
  | str k=>simp only [Den] at hd;subst hd;exact⟨_,n,"str",b,rfl,rfl,iy _ _ _ _ _ hb rfl,fin⟩
  | tup k=>simp only [Den] at hd;obtain⟨p,vs,rfl,q',r⟩:=hd;exact⟨_,n,"tuple",b,rfl,.inl ⟨rfl,vs,ao.bS rp.fh q'⟩,iy _ _ _ _ _ hb rfl,fin⟩
  | lst k=>simp only [Den] at hd;obtain⟨p,vs,rfl,q',r⟩:=hd;exact⟨_,n,"list",b,rfl,.inr ⟨rfl,vs,rp.fh.seq q'⟩,iy _ _ _ _ _ hb rfl,fin⟩
  | dct k _=>cases hb
  | obj k=>cases hb
  | ty k=>cases hb
  | exc k=>cases hb
  | cls k=>cases hb
 ·exact hf.elim
theorem kK:∀{bs:List Bool} {us:List Value},Vals (bs.map V.bl) us->LSm.BoolsAre us bs
 | [],_,r=>by rw [List.map_nil] at r;cases r;exact .nil
 | b :: bs,_,r=>by
  rw [Fm] at r
  cases r with
  | cons h t=>cases (show _=Value.bool b from h);exact .cons b (kK t)
theorem nH {s:Shared} {h':Heap} {o:Obj} (hk:∀b x,b∉[s.heap.objs.size]->(s.heap.push o).get? b=some x->h'.get? b=some x):∀b x,s.heap.get? b=some x->h'.get? b=some x :=
 λb x e=>hk b x (λhm=>by rw [Fi.mp hm] at e;exact Nat.lt_irrefl _ (E7 e)) (EZ _ e)
theorem v5 (hc:X.calm=true):dr X (.builtin "all") (λxs H Q=>∃(p:Addr) (bs:List Bool),xs=[.ref p]/\fL X.K H p (bs.map V.bl)/\Q (.bl (bs.all id)) H):=by
 intro pins s σ H xs us Q I r h;obtain⟨p,bs,rfl,hq,q⟩:=h;obtain⟨u,rfl,rx⟩:=vals1 r;cases rx;obtain⟨its,r',pl,hz⟩:=I.list hq;have hb:=kK r';have hl:=pl.isList;have hlt:p < s.heap.objs.size:=by obtain⟨_,e,_⟩:=hl;exact E7 e
 refine call_all_walk (wpAny_pyIter_list hl ?_)
 refine⟨s.heap.objs.size,[s.heap.objs.size,p],[s.heap.objs.size],its.toArray.size,_,_,λi=>(bs[i]?).getD true,rfl,Walks.list (A:=X.A.in1) (I.ok.hd hc) _ p (Fp hlt) its.toArray,
  ⟨⟨_,Fh _ rfl,rfl,rfl⟩,hl.push _⟩,λi v s' Q' E' hP hQ=>?_,λh' tk hk=>?_⟩
 ·obtain⟨b,e,rfl⟩:=hb.get i v (by simpa using hP);simp only [e,Option.getD_some] at hQ;exact wpAny_truthy_bool hQ
 ·have e:((List.range its.toArray.size).all λi=>(bs[i]?).getD true)=bs.all id:=by
   rw [Fd,hb.length];exact LSm.range_all bs
  rw [e];exact⟨.bl _,H,I.kept (t':=tk) (nH hk),rfl,q⟩
def boolsOf:List D->Option (List Bool)
 | []=>some []
 | .bl b :: r=>(boolsOf r).map (b :: ·)
 | _=>none
theorem qJ (bs:List Bool):boolsOf (bs.map D.bl)=some bs:=by
 induction bs with
 | nil=>rfl
 | cons b r ih=>simp [boolsOf,ih]
theorem kY {K:ES} {F:Hp}:∀{ds:List D} {bs:List Bool} {vs:List V},boolsOf ds=some bs->aq K F ds vs->vs=bs.map V.bl
 | [],bs,vs,h,r=>by simp only [boolsOf] at h;cases h;simp only [aq] at r;subst r;rfl
 | .bl b :: ds,bs,vs,h,r=>by
  simp only [boolsOf] at h
  cases e:boolsOf ds with
  | none=>rw [e] at h;cases h
  | some bs' =>
   rw [e] at h;cases h;simp only [aq,Den] at r;obtain⟨v,r',rfl,rfl,r⟩:=r
   rw [kY e r];rfl
 | .non :: _,_,_,h,_=>by cases h
 | .int _ :: _,_,_,h,_=>by cases h
 | .str _ :: _,_,_,h,_=>by cases h
 | .tup _ :: _,_,_,h,_=>by cases h
 | .lst _ :: _,_,_,h,_=>by cases h
 | .dct _ _ :: _,_,_,h,_=>by cases h
 | .obj _ :: _,_,_,h,_=>by cases h
 | .ty _ :: _,_,_,h,_=>by cases h
 | .exc _ :: _,_,_,h,_=>by cases h
 | .cls _ :: _,_,_,h,_=>by cases h
def xj (ds:List D) (Q:D->Prop):Prop:=match ds with
 | [.lst xs]=>∃bs,boolsOf xs=some bs/\Q (.bl (bs.all id))
 | _=>False
theorem A0:Call3 X (λxs H Q=>∃(p:Addr) (bs:List Bool),xs=[.ref p]/\fL X.K H p (bs.map V.bl)/\Q (.bl (bs.all id)) H) xj:=by
 intro B σ F H env Q ds vs Z rp h hz hf;unfold xj at hf
 split at hf
 ·obtain⟨bs,hb,q⟩:=hf;simp only [aq,Den] at h;obtain⟨v,r,rfl,⟨p,ys,rfl,q',r⟩,rfl⟩:=h;have:=kY hb r;subst this;exact⟨p,bs,rfl,rp.fh.seq q',hz _ _ F _ rp (ao.refl _) dY q⟩
 ·exact hf.elim
end
section
variable {K:ES} {B:Base} {F H:Hp} {σ:St} {env:En}
theorem Rep.bare (r:Rep K B F H σ env):Rep K B F H [] [] :=
 ⟨r.f0,r.fh,r.h0,r.nf,λi x q=>by simp at q,λi x q=>by simp at q,λi j _ _ _ _ q=>by simp at q,λi x q=>by simp at q,λi j _ _ _ _ q=>by simp at q⟩
end
section
variable {X:Cx} {a b c e:Expr} {es:List Expr} {ta tb tc:TD} {tA tB':TB} {ts:dS} {pos:Pos} {rest:List Expr} {st:Stmt} {sts:List Stmt} {t u:cK}
def bC:cK:=λD env=>D.nx env
def aN (t u:cK):cK:=λD env=>t { D with nx:=u D } env
theorem a5:qx X [] bC:=⟨λB σ F H env D rp h=>i9 yD ⟨F,env,rp,h⟩⟩
theorem ar (h1:QS X st t):qx X [st] t:=⟨λB σ F H env D rp h=>i9 (ph vd) (h1 B σ F H env D rp h)⟩
theorem ak (h1:QS X st t) (h2:qx X sts u):qx X (st :: sts) (aN t u):=by
 refine⟨?_⟩;intro B σ F H env D rp h;refine i9 (jO vd d9) ?_;exact pQ (h1 B σ F H env _ rp h) (λσ' H' ⟨F',env',rp',q⟩=>h2 B σ' F' H' env' D rp' q) (λ_ _ q=>q) (λ_ _ q=>q) (λ_ _ q=>q)
def bT (te:TD):cK:=λD env=>te env D.rt
theorem aU (he:QE X e ta):QS X (.Return (some e) pos) (bT ta):=by
 refine⟨?_⟩;intro B σ F H env D rp h;refine gR (wC bz) ?_;exact aE (he B σ F H env _ rp h) λv H' ⟨F',d,r',s',hd,q⟩=>⟨F',d,r'.bare,hd,q⟩
def jj (c:TB) (t u:cK):cK:=λD env=>c env λk=>if k=true then t D env else u D env
theorem cD {xs ys:List Stmt} (hc:QT X c tA) (ha:qx X xs t) (hb:qx X ys u):QS X (.If c xs ys pos) (jj tA t u):=by
 refine⟨?_⟩;intro B σ F H env D rp h;refine gR (zl n5 d9 d9) ?_;refine eU (hc B σ F H env _ rp h) λk H1 ⟨F1,r1,s1,q1⟩=>?_
 cases k with
 | true=>exact ha B σ F1 H1 env D r1 q1
 | false=>exact hb B σ F1 H1 env D r1 q1
abbrev qX:=D->En->(En->Prop)->Prop
abbrev m7:=List D->En->(En->Prop)->Prop
def wG (X:Cx) (tg:Expr):TG:=λv σ H Q=>∀(pins:List (Addr×Obj)) (s:Shared) (u:Value),Inv X pins σ H s->RelV v u ->
 wpAny (model X.prog X.w) X.A (assign tg X.env u) (λ_ s'=>∃σ' H',Inv X pins σ' H' s'/\Q σ' H') X.xe s
def BG (X:Cx) (tg:List Expr):xQ:=λvs σ H Q=>∀(pins:List (Addr×Obj)) (s:Shared) (us:List Value),Inv X pins σ H s->Vals vs us ->
 wpAny (model X.prog X.w) X.A (assignInOrder ((assignEach tg X.env).map (·.2)) us) (λ_ s'=>∃σ' H',Inv X pins σ' H' s'/\Q σ' H') X.xe s
theorem yp {tg:Expr}:PG X tg (wG X tg):=λpins s σ H v u Q I r h=>h pins s u I r
theorem vN {tg:List Expr}:zW X tg (BG X tg):=λpins s σ H v u Q I r h=>h pins s u I r
theorem zj {tg:Expr} {g:TG} {v:V} {σ:St} {H:Hp} {Q:St->Hp->Prop} (h:PG X tg g) (q:g v σ H Q):wG X tg v σ H Q:=λpins s u I r=>h pins s σ H v u Q I r q
theorem vK {tg:List Expr} {g:xQ} {v:List V} {σ:St} {H:Hp} {Q:St->Hp->Prop} (h:zW X tg g) (q:g v σ H Q):BG X tg v σ H Q:=λpins s u I r=>h pins s σ H v u Q I r q
theorem hG {tg:Expr} {v:V} {σ:St} {H:Hp} {Q Q':St->Hp->Prop} (h:wG X tg v σ H Q) (i:∀σ H,Q σ H->Q' σ H):wG X tg v σ H Q':=λpins s u I r=>bu (h pins s u I r) λ_ _ ⟨σ',H',I',q⟩=>⟨σ',H',I',i _ _ q⟩
theorem we {tg:List Expr} {v:List V} {σ:St} {H:Hp} {Q Q':St->Hp->Prop} (h:BG X tg v σ H Q) (i:∀σ H,Q σ H->Q' σ H):BG X tg v σ H Q':=λpins s u I r=>bu (h pins s u I r) λ_ _ ⟨σ',H',I',q⟩=>⟨σ',H',I',i _ _ q⟩
def RG (X:Cx) (B:Base) (F:Hp) (Q:En->Prop):St->Hp->Prop:=λσ' H'=>∃F' env',Rep X.K B F' H' σ' env'/\ao F F'/\Q env'
structure QG (X:Cx) (tg:Expr) (g:qX):Prop where
 of ::
 run:∀(B:Base) (σ:St) (F H:Hp) (env:En) (Q:En->Prop) (d:D) (v:V),Rep X.K B F H σ env->Den X.K F d v->g d env Q->wG X tg v σ H (RG X B F Q)
instance {X:Cx} {tg:Expr} {g:qX}:CoeFun (QG X tg g) (λ_=>∀(B:Base) (σ:St) (F H:Hp) (env:En) (Q:En->Prop) (d:D) (v:V),Rep X.K B F H σ env->Den X.K F d v->g d env Q->wG X tg v σ H (RG X B F Q)):=⟨QG.run⟩
structure AX (X:Cx) (tg:List Expr) (g:m7):Prop where
 of ::
 run:∀(B:Base) (σ:St) (F H:Hp) (env:En) (Q:En->Prop) (ds:List D) (vs:List V),Rep X.K B F H σ env->aq X.K F ds vs->g ds env Q->BG X tg vs σ H (RG X B F Q)
instance {X:Cx} {tg:List Expr} {g:m7}:CoeFun (AX X tg g) (λ_=>∀(B:Base) (σ:St) (F H:Hp) (env:En) (Q:En->Prop) (ds:List D) (vs:List V),Rep X.K B F H σ env->aq X.K F ds vs->g ds env Q->BG X tg vs σ H (RG X B F Q)):=⟨AX.run⟩
def aR (i:Nat):qX:=λx env Q=>Q (env.set i (some (.d x)))
theorem aC {x:Str} (i:Nat) (hN:X.N.Nodup) (hi:X.N[i]?=some x:=by rfl) (hx:Loc X.env.scope x:=by first|exact Or.inl rfl|exact Or.inr rfl) (hf:X.fn x=true\/X.env.scope.names.lookup x=some .local:=by first|exact .inl rfl|exact .inr rfl):QG X (.Name x pos) (aR i):=by
 refine⟨?_⟩;intro B σ F H env Q d v rp hd h pins s u I r;refine yw (i:=i) hN hi hx hf pins s σ H v u _ I r ?_;refine⟨F,_,rp.set hd ?_,ao.refl _,h⟩;rw [I.len];exact (EO.mp hi).1
def iE:m7:=λxs env Q=>xs=[]/\Q env
def bf (g:qX) (gs:m7):m7:=λxs env Q=>∃x r,xs=x :: r/\g x env λenv'=>gs r env' Q
theorem eB:AX X [] iE:=by
 refine⟨?_⟩;intro B σ F H env Q ds vs rp hd h;obtain⟨rfl,q⟩:=h;simp only [aq] at hd;exact vK yM ⟨hd,F,env,rp,ao.refl _,q⟩
theorem aJ {g:qX} {gs:m7} (h1:QG X e g) (h2:AX X es gs) (hs:(assignEach (e :: es) X.env).map (·.2)=assign e X.env :: (assignEach es X.env).map (·.2):=by rfl):AX X (e :: es) (bf g gs):=by
 refine⟨?_⟩;intro B σ F H env Q ds vs rp hd h;obtain⟨x,r,rfl,q⟩:=h;simp only [aq] at hd;obtain⟨v,vr,rfl,a1,b1⟩:=hd;refine vK (xM yp vN hs) ⟨v,vr,rfl,?_⟩;refine hG (h1 B σ F H env _ x v rp a1 q) λσ1 H1 hq0=>?_;obtain⟨F1,env1,r1,s1,q1⟩:=hq0;exact we (h2 B σ1 F1 H1 env1 Q r vr r1 (aq.mono s1 _ _ b1) q1) λσ2 H2 ⟨F2,env2,r2,s2,q2⟩=>⟨F2,env2,r2,s1.trans s2,q2⟩
def j4 (n:Nat) (gs:m7):qX:=λx env Q=>∃xs,x=.tup xs/\xs.length=n/\gs xs env Q
theorem iU {k n:Nat} {gs:m7} (hc:X.calm=true) (h:AX X es gs) (hn:(assignEach es X.env).length=n:=by rfl) (hst:(assignEach es X.env).findIdx? (·.1)=none:=by rfl):QG X (.Tuple es k pos) (j4 n gs):=by
 refine⟨?_⟩;intro B σ F H env Q d v rp hd hq;obtain⟨xs,rfl,hl,q⟩:=hq;simp only [Den] at hd;obtain⟨p,vs,rfl,hs,r⟩:=hd;refine zj (Aj hc vN hn hst) ⟨p,vs,rfl,ao.bS rp.fh hs,by rw [<- r.length];exact hl,?_⟩;exact h B σ F H env Q xs vs rp r q
def iD (te:TD) (g:qX):cK:=λD env=>te env λx=>g x env D.nx
theorem gG {tg:Expr} {g:qX} (he:QE X e ta) (hg:QG X tg g) (hs:swapsWithSole [tg] e pos.line X.env=pure false:=by rfl) (hw:swappedStores [tg] e X.env=pure none:=by rfl)
  (h1:(assignEach [tg] X.env).map (·.2)=[assign tg X.env]:=by rfl):QS X (.Assign [tg] e pos) (iD ta g):=by
 refine⟨?_⟩;intro B σ F H env D rp h;refine gR (Ao bz yp hs hw h1) ?_;refine aE (he B σ F H env _ rp h) λv H1 hq0=>?_;obtain⟨F1,d,r1,s1,d1,q1⟩:=hq0;exact hG (hg B σ F1 H1 env _ d v r1 d1 q1) λσ2 H2 ⟨F2,env2,r2,s2,q2⟩=>⟨F2,env2,r2,q2⟩
def bg (i:Nat) (te:TD):cK:=λD env=>te env λx=>D.nx (env.set i (some (.d x)))
theorem aO {x:Str} {pos':Pos} (i:Nat) (hN:X.N.Nodup) (he:QE X e ta) (hi:X.N[i]?=some x:=by rfl) (hx:Loc X.env.scope x:=by first|exact Or.inl rfl|exact Or.inr rfl) (hs:swapsWith e (some (.Name x pos')) pos.line X.env=pure false:=by rfl)
  (hf:X.fn x=true\/X.env.scope.names.lookup x=some .local:=by first|exact .inl rfl|exact .inr rfl):QS X (.Assign [.Name x pos'] e pos) (bg i ta):=by
 refine⟨?_⟩;intro B σ F H env D rp h pins s I;refine p7 (i:=i) hN hi hx bz hs hf pins s σ H _ I ?_;refine aE (he B σ F H env _ rp h) λv H1 ⟨F1,d,r1,s1,d1,q1⟩=>⟨F1,_,r1.set d1 ?_,q1⟩;rw [I.len];exact (EO.mp hi).1
def yB (i j:Nat) (ts:dS):cK:=λD env=>ts env λxs=>∃x y,xs=[x,y]/\D.nx ((env.set i (some (.d x))).set j (some (.d y)))
theorem BE {x y:Str} {px py pt:Pos} {kt k2 pt2} (i j:Nat) (hc:X.calm=true) (hN:X.N.Nodup) (ha:QA X [a,b] ts) (hi:X.N[i]?=some x:=by rfl) (hj:X.N[j]?=some y:=by rfl) (hij:i≠j:=by decide)
  (hx:X.env.scope.names.lookup x=some .local:=by rfl) (hy:X.env.scope.names.lookup y=some .local:=by rfl)
  (hw:swappedStores [.Tuple [.Name x px,.Name y py] kt pt] (.Tuple [a,b] k2 pt2) X.env=pure (some [x,y]):=by rfl)
  (hs:swapsWithSole [.Tuple [.Name x px,.Name y py] kt pt] (.Tuple [a,b] k2 pt2) pos.line X.env=pure false:=by rfl) :
  QS X (.Assign [.Tuple [.Name x px,.Name y py] kt pt] (.Tuple [a,b] k2 pt2) pos) (yB i j ts):=by
 refine⟨?_⟩;intro B σ F H env D rp h pins s I;refine A9 (i:=i) (j:=j) hc hN hi hj hij hx hy iV hw hs pins s σ H _ I ?_;refine cu (ha B σ F H env _ rp h) λvs H1 hq0=>?_;obtain⟨F1,ds,r1,s1,d1,x,y,hxy,q1⟩:=hq0;subst hxy;simp only [aq] at d1;obtain⟨v,r,rfl,a1,v',r',rfl,a2,rfl⟩:=d1;have l1:i < σ.length:=by rw [I.len];exact (EO.mp hi).1
 have l2:j < (σ.set i (some v)).length:=by rw [List.length_set,I.len];exact (EO.mp hj).1
 exact⟨v,v',rfl,F1,_,(r1.set a1 l1).set a2 l2,q1⟩
def fP (c:TB) (tb:cK):cK:=λD env=>∃(I:En->Prop) (μ:En->Nat),I env/\∀env,I env->c env λk=>if k=true then tb { D with nx:=λe'=>I e'/\μ e' < μ env,ct:=λe'=>I e'/\μ e' < μ env,bk:=D.nx } env else D.nx env
theorem jM {body:List Stmt} (hp:PassesOwn (model X.prog X.w) X.A X.env X.xe) (hc:QT X c tA) (hb:qx X body t):QS X (.While c body [] pos) (fP tA t):=by
 refine⟨?_⟩;intro B σ F H env D rp h;obtain⟨I,μ,i0,turn⟩:=h;refine gR (rY hp n5 d9) ?_;refine⟨λm σ H=>∃F env,Rep X.K B F H σ env/\I env/\μ env=m,⟨_,F,env,rp,i0,rfl⟩,?_⟩
 rintro m σ1 H1 ⟨F1,env1,r1,i1,rfl⟩;refine eU (hc B σ1 F1 H1 env1 _ r1 (turn env1 i1)) λk H2 ⟨F2,r2,s2,q2⟩=>?_
 cases k with
 | false=>exact⟨F2,env1,r2,q2⟩
 | true =>
  refine⟨λσ' H'=>∃F' env',Rep X.K B F' H' σ' env'/\I env'/\μ env' < μ env1,λσ' H' ⟨F',env',r',i',l⟩=>⟨_,l,F',env',r',i',rfl⟩,?_⟩;exact hb B σ1 F2 H2 env1 _ r2 q2
def turns (g:qX) (tb:cK) (Z:Ends3):List D->En->Prop
 | [],env=>Z.nx env
 | x :: xs,env=>g x env λenv'=>tb { Z with nx:=turns g tb Z xs,ct:=turns g tb Z xs,bk:=Z.nx } env'
def dZ (z:Str):List D:=z.cps.toList.map λc=>.str ⟨#[c]⟩
def bA:D->Option (List D)
 | .lst xs=>some xs
 | .tup xs=>some xs
 | .str z=>some (dZ z)
 | _=>none
def Ck (z:Str):It:=⟨λi _=>i < z.cps.size,λi H v H'=>H'=H/\∃c,z.cps[i]?=some c/\v=.str ⟨#[c]⟩,λi _=>z.cps.size<=i⟩
theorem qG {P:Program} {w:World} {K:ES} {tg:Expr} (it:Addr) (z:Str) (t:Tok) (nm:String) (hn:["enumerate","zip","dict_itemiterator","dict_reverseitemiterator","odict_iterator","itertools.zip_longest","itertools.pairwise"].contains nm=false)
  (W:∀A:Around,A.handled=none->Walks P w A it [it] [it] z.cps.size (SignAt z) (λi h=>h.IsStrIter it nm z t i)) (sf:∀(A:Around) (i:Nat) (s:Shared) (Q:Value->Shared->Prop) (E:Value->Shared->Prop),s.heap.IsStrIter it nm z t i->Q (.ref it) s->wpAny (model P w) A (pyIter (.ref it)) Q E s)
  (dn:∀(A:Around) (i:Nat) (s:Shared) (Q:Option Value->Shared->Prop) (E:Value->Shared->Prop),A.handled=none->s.heap.IsStrIter it nm z t i->z.cps[i]?=none->(∀h',Heap.ExtBut it s.heap h'->Q none { s with heap:=h' })->wpAny (model P w) A (pyNext (.ref it)) Q E s) :
  Turn P w K tg (Ck z) [it] it (λi h=>h.IsStrIter it nm z t i) where
 mem:=by simp
 obj:=λi h st b hb=>by
  have e:b=it:=by simpa using hb
  subst e;obtain⟨o,e,c,d⟩:=st;exact⟨o,e,λv z=>by rw [d] at z;cases z⟩
 keep:=λi h h' st k=>by
  obtain⟨o,e,c,d⟩:=st;exact⟨o,k it (by simp) o e,c,d⟩
 item:=by
  intro X hP hw hK hc i pins s σ H E I hf st hg;subst hP hw hK;obtain⟨f0,f1,f2,f3,f4,f5⟩:=hf it (by simp);refine (W X.A (I.ok.hd hc)).item i s _ _ hg st λv h' tk hv st' kk=>?_;obtain⟨c,u,hc',rfl⟩:=hv;have I1:Inv X pins σ H { s with heap:=h',toks:=tk }:=I.turned (λb o hb e=>kk b o (by simpa using hb) e) f0 f1 f3 f4 f5;obtain⟨o,e,c',d⟩:=id st';exact⟨_,rfl,uL (s:={ s with heap:=h',toks:=tk }) e c' d hn ⟨.str ⟨#[c]⟩,H,I1,⟨u,rfl⟩,⟨rfl,c,hc',rfl⟩,st',λb hb=>(hf b hb).1⟩⟩
 done:=by
  intro X hP hw hK hc i pins s σ H E I hf st hg;subst hP hw hK;obtain⟨f0,f1,f2,f3,f4,f5⟩:=hf it (by simp);have hg':z.cps.size<=i:=hg;exact dn X.A i s _ _ (I.ok.hd hc) st (by simp;exact hg') λh' eb=>⟨rfl,I.turned (t':=s.toks) (λb o hb e=>eb b o hb e) f0 f1 f3 f4 f5⟩
 self:=λA i s Q E st h=>sf A i s Q E st h
def B8 (K:ES) (tl:TE):TI:=λσ H R=>tl σ H λx H1=>(∃a,x=.ref a/\(((∃xs,fL K H1 a xs)/\R (Dg K a) H1)\/((∃xs,jg K H1 a xs)/\R (Dd K a) H1)))\/∃z,x=.str z/\R (Ck z) H1
theorem qu {tg l:Expr} {tl:TE} (hl:PE X l tl):PI X tg l (B8 X.K tl):=by
 intro pins s σ H R I h;refine bu (hl pins s σ H _ I h) λv s1 hq0=>?_;obtain⟨x,H1,I1,r1,q1⟩:=hq0;rcases q1 with ⟨a,e,q⟩|⟨z,e,q⟩
 rotate_left
 ·subst e;obtain⟨t,rfl⟩:=r1
  have fin:∀(o:Obj) (nm:String),(∀v,o.data≠.cell v)->Turn X.prog X.w X.K tg (Ck z) [s1.heap.objs.size] s1.heap.objs.size (λi h=>h.IsStrIter s1.heap.objs.size nm z t i)->(s1.heap.push o).IsStrIter s1.heap.objs.size nm z t 0 ->
    Dh X pins σ tg R (.ref s1.heap.objs.size) { s1 with heap:=s1.heap.push o }:=λo nm hcell T st=>by
   refine⟨s1.heap.objs.size,[s1.heap.objs.size],_,_,H1,rfl,I1.kept (t':=s1.toks) λb o e=>EZ _ e,T,st,λb hb=>?_,q⟩;have e:b=s1.heap.objs.size:=by simpa using hb
   subst e;exact I1.y0 (E3 _) (I1.hok.fresh (E3 _))
  cases ha:z.cps.all (· < 128)
  ·exact wpAny_pyIter_wide ha (fin _ "str_iterator" (λv e=>by cases e) (qG _ z t "str_iterator" (by decide) (λA hA=>Walks.strWide hA _ z t) (λA i s Q E st h=>wpAny_pyIter_striter_wide st h) (λA i s Q E hh st hx h=>wpAny_pyNext_wide_end hh st hx h)) ⟨_,Fh _ rfl,rfl,rfl⟩)
  ·exact wpAny_pyIter_ascii ha (fin _ "str_ascii_iterator" (λv e=>by cases e) (qG _ z t "str_ascii_iterator" (by decide) (λA hA=>Walks.strAscii hA _ z t) (λA i s Q E st h=>wpAny_pyIter_striter_ascii st h) (λA i s Q E hh st hx h=>wpAny_pyNext_ascii_end hh st hx h)) ⟨_,Fh _ rfl,rfl,rfl⟩)
 subst e;cases r1;rcases q with ⟨⟨xs,hq⟩,q⟩|⟨⟨xs,hq⟩,q⟩
 ·obtain⟨its,rv,p,hz⟩:=I1.list hq;refine wpAny_pyIter_list p.isList ?_;refine⟨s1.heap.objs.size,[s1.heap.objs.size],_,_,H1,rfl,I1.kept (t':=s1.toks) λb o e=>EZ _ e,vA a _,⟨_,Fh _ rfl,rfl,rfl⟩,λb hb=>?_,q⟩;have e:b=s1.heap.objs.size:=by simpa using hb
  subst e;exact I1.y0 (E3 _) (I1.hok.fresh (E3 _))
 ·obtain⟨its,rv,p,hz⟩:=I1.tuple hq;refine wpAny_pyIter_tuple (show s1.heap.IsTuple a its.toArray from p) ?_;refine⟨s1.heap.objs.size,[s1.heap.objs.size],_,_,H1,rfl,I1.kept (t':=s1.toks) λb o e=>EZ _ e,tZ a _,⟨_,Fh _ rfl,rfl,rfl⟩,λb hb=>?_,q⟩;have e:b=s1.heap.objs.size:=by simpa using hb
  subst e;exact I1.y0 (E3 _) (I1.hok.fresh (E3 _))
theorem uc {K:ES} {F:Hp} (z:Str):aq K F (dZ z) (z.cps.toList.map λc=>V.str ⟨#[c]⟩):=by
 unfold dZ
 induction z.cps.toList with
 | nil=>exact aT
 | cons c r ih=>exact aM jo ih
def jI (te:TD) (g:qX) (tb:cK):cK:=λD env=>te env λx=>∃xs,bA x=some xs/\turns g tb D xs env
theorem drop_cons {α:Type} {xs:List α} {i:Nat} {x:α} (h:xs[i]?=some x):xs.drop i=x :: xs.drop (i + 1):=by
 obtain⟨hl,e⟩:=EO.mp h;rw [FR hl,e]
theorem RS.same {B:Base} {G:Hp} {D:Ends3} (s:ao B.F G):(∀σ H,(RS X ⟨G,B.H,B.N,B.nb⟩ D).nx σ H->(RS X B D).nx σ H)/\(∀v H,(RS X ⟨G,B.H,B.N,B.nb⟩ D).rt v H->(RS X B D).rt v H) /\
  (∀σ H,(RS X ⟨G,B.H,B.N,B.nb⟩ D).bk σ H->(RS X B D).bk σ H)/\(∀σ H,(RS X ⟨G,B.H,B.N,B.nb⟩ D).ct σ H->(RS X B D).ct σ H) :=
 ⟨λ_ _ ⟨F',env',r,q⟩=>⟨F',env',r.back s,q⟩,λ_ _ ⟨F',d,r,hd,q⟩=>⟨F',d,r.back s,hd,q⟩,λ_ _ ⟨F',env',r,q⟩=>⟨F',env',r.back s,q⟩,λ_ _ ⟨F',env',r,q⟩=>⟨F',env',r.back s,q⟩⟩
theorem i5 {tg iter:Expr} {body:List Stmt} {g:qX} (hp:PassesOwn (model X.prog X.w) X.A X.env X.xe) (hc:X.calm=true) (hi:QE X iter ta) (hg:QG X tg g) (hb:qx X body t)
  (hs:∀x,FD iter X.env x=pure x:=by intro _;rfl):QS X (.For tg iter body [] pos) (jI ta g t):=by
 refine⟨?_⟩;intro B σ F H env D rp h;refine gR (v8 hp hc (qu bz) yp d9 hs) ?_;refine aE (hi B σ F H env _ rp h) λv H1 hq0=>?_;obtain⟨F1,d,r1,s1,d1,xs,hx,q1⟩:=hq0
 have core:∀(a:Addr) (vs:List V) (J:It),aq X.K F1 xs vs->(∀(i:Nat) (x:V) (G H':Hp),ao F1 G->ao G H'->vs[i]?=some x->J.go i H')->(∀(i:Nat) (x:V) (G H':Hp) (y:V) (H'':Hp),ao F1 G->ao G H'->vs[i]?=some x->J.yld i H' y H''->H''=H'/\y=x) ->
   (∀(G H':Hp),ao F1 G->ao G H'->J.stop vs.length H') ->
   ∃W:Nat->Nat->St->Hp->Prop,(∃m,W 0 m σ H1)/\∀i m σ H,W i m σ H->(J.stop i H/\(RS X B D).nx σ H)\/(J.go i H/\∃N:St->Hp->Prop,(∀σ' H',N σ' H'->∃m',m' < m/\W (i + 1) m' σ' H') /\
    ∀x H',J.yld i H x H'->wG X tg x σ H' λσ2 H2=>wSs X body { RS X B D with nx:=N,ct:=N,bk:=(RS X B D).nx } σ2 H2):=by
  intro a vs J dl go yld stop;have hlen:=dl.length;refine⟨λi m σ H=>m=vs.length - i/\i<=vs.length/\∃F env,Rep X.K ⟨F1,B.H,B.N,B.nb⟩ F H σ env/\turns g t D (xs.drop i) env,⟨vs.length,by simp,FC _,F1,env,r1.now,by simpa using q1⟩,?_⟩
  rintro i m σ2 H2 ⟨rfl,hi2,F2,env2,r2,q2⟩
  by_cases hlt:i < vs.length
  ·have hv:vs[i]?=some vs[i]:=by simp [hlt]
   obtain⟨dx,hdx,ddx⟩:=dl.Ak hv;rw [drop_cons hdx] at q2;refine .inr ⟨go i _ F2 H2 r2.f0 r2.fh hv,λσ' H'=>∃F env,Rep X.K ⟨F1,B.H,B.N,B.nb⟩ F H' σ' env/\turns g t D (xs.drop (i + 1)) env,λσ' H' ⟨F',env',r',q'⟩=>⟨vs.length - (i + 1),by omega,rfl,by omega,F',env',r',q'⟩,λy H' hy=>?_⟩;obtain⟨rfl,rfl⟩:=yld i _ F2 H2 y H' r2.f0 r2.fh hv hy;have st:=hg ⟨F1,B.H,B.N,B.nb⟩ σ2 F2 _ env2 _ dx _ r2 (Den.mono r2.f0 _ _ ddx) q2
   refine hG st λσ3 H3 hq0=>?_;obtain⟨F3,env3,r3,s3,q3⟩:=hq0;have bd:=hb ⟨F1,B.H,B.N,B.nb⟩ σ3 F3 H3 env3 _ r3 q3;obtain⟨z1,z2,z3,z4⟩:=RS.same (X:=X) (B:=B) (D:=D) (r1.f0);exact jt bd (λ_ _ q=>q) z2 z1 (λ_ _ q=>q)
  ·have e:i=vs.length:=by omega
   subst e;rw [FP (by omega)] at q2;exact .inl ⟨stop F2 H2 r2.f0 r2.fh,F2,env2,r2.back r1.f0,q2⟩
 cases d with
 | lst ys =>
  simp only [bA] at hx;cases hx;simp only [Den] at d1;obtain⟨a,vs,rfl,q,r⟩:=d1;refine .inl ⟨a,rfl,.inl ⟨⟨vs,r1.fh.seq q⟩,core a vs (Dg X.K a) r (λi x G H' s1 s2 hv=>⟨vs,x,s2.seq (s1.seq q),hv⟩) (λi x G H' y H'' s1 s2 hv hy=>?_) (λG H' s1 s2=>⟨vs,s2.seq (s1.seq q),E3 _⟩)⟩⟩;obtain⟨e1,e2⟩:=hy;have:=e2 vs (s2.seq (s1.seq q));rw [hv] at this
  exact⟨e1,(E9 this).symm⟩
 | tup ys =>
  simp only [bA] at hx;cases hx;simp only [Den] at d1;obtain⟨a,vs,rfl,q,r⟩:=d1;refine .inl ⟨a,rfl,.inr ⟨⟨vs,ao.bS r1.fh q⟩,core a vs (Dd X.K a) r (λi x G H' s1 s2 hv=>⟨vs,x,ao.bS s2 (ao.bS s1 q),hv⟩) (λi x G H' y H'' s1 s2 hv hy=>?_) (λG H' s1 s2=>⟨vs,ao.bS s2 (ao.bS s1 q),E3 _⟩)⟩⟩;obtain⟨e1,e2⟩:=hy;have:=e2 vs (ao.bS s2 (ao.bS s1 q));rw [hv] at this
  exact⟨e1,(E9 this).symm⟩
 | str z =>
  simp only [bA] at hx;cases hx;simp only [Den] at d1;subst d1;refine .inr ⟨z,rfl,core 0 (z.cps.toList.map λc=>V.str ⟨#[c]⟩) (Ck z) (uc z) (λi x G H' s1 s2 hv=>?_) (λi x G H' y H'' s1 s2 hv hy=>?_) (λG H' s1 s2=>?_)⟩
  ·have:=(EO.mp hv).1;show i < z.cps.size
   simpa using this
  ·obtain⟨e1,c,hc,rfl⟩:=hy;rw [E2,FY,hc] at hv;exact⟨e1,E9 hv⟩
  ·show z.cps.size<=_
   simp
 | _=>simp only [bA] at hx;cases hx
def aX (lo:Int) (n:Nat):List D:=(List.range n).map λ(i:Nat)=>D.int (lo + (i:Int))
def gh (f:List D->(Int->Nat->Prop)->Prop) (ts:dS) (g:qX) (tb:cK):cK:=λD env=>ts env λxs=>f xs λlo n=>turns g tb D (aX lo n) env
def jy (xs:List D) (Q:Int->Nat->Prop):Prop:=match xs with
 | [.int j]=>(-(2 ^ 62)<=j/\j < 2 ^ 62)/\Q 0 j.toNat
 | _=>False
def tY (xs:List D) (Q:Int->Nat->Prop):Prop:=match xs with
 | [.int i,.int j]=>(-(2 ^ 62)<=i/\i < 2 ^ 62/\-(2 ^ 62)<=j/\j < 2 ^ 62)/\Q i (j - i).toNat
 | _=>False
theorem wo {tg:Expr} {body:List Stmt} {g:qX} (hg:QG X tg g) (hb:qx X body t) {B:Base} {D:Ends3} {lo:Int} {n:Nat} {σ:St} {F1 H1:Hp} {env:En} (r1:Rep X.K B F1 H1 σ env) (q1:turns g t D (aX lo n) env) :
  ∃W:Nat->Nat->St->Hp->Prop,(∃m,W 0 m σ H1)/\∀i m σ H,W i m σ H->((zh lo n).stop i H/\(RS X B D).nx σ H)\/((zh lo n).go i H/\∃N:St->Hp->Prop,(∀σ' H',N σ' H'->∃m',m' < m/\W (i + 1) m' σ' H') /\
    ∀x H',(zh lo n).yld i H x H'->wG X tg x σ H' λσ2 H2=>wSs X body { RS X B D with nx:=N,ct:=N,bk:=(RS X B D).nx } σ2 H2):=by
 have hl:(aX lo n).length=n:=by simp [aX]
 refine⟨λi m σ H=>m=n - i/\i<=n/\∃F env,Rep X.K B F H σ env/\turns g t D ((aX lo n).drop i) env,⟨n,by simp,FC _,F1,env,r1,by simpa using q1⟩,?_⟩
 rintro i m σ2 H2 ⟨rfl,hi2,F2,env2,r2,q2⟩
 by_cases hlt:i < n
 ·have hdx:(aX lo n)[i]?=some (L3.D.int (lo + (i:Int))):=by simp [aX,hlt]
  rw [drop_cons hdx] at q2;refine .inr ⟨hlt,λσ' H'=>∃F env,Rep X.K B F H' σ' env/\turns g t D ((aX lo n).drop (i + 1)) env,λσ' H' ⟨F',env',r',q'⟩=>⟨n - (i + 1),by omega,rfl,by omega,F',env',r',q'⟩,λy H' hy=>?_⟩;obtain⟨rfl,rfl⟩:=hy;refine hG (hg B σ2 F2 _ env2 _ _ _ r2 br q2) λσ3 H3 hq0=>?_;obtain⟨F3,env3,r3,s3,q3⟩:=hq0;exact jt (hb B σ3 F3 H3 env3 _ r3 q3) (λ_ _ q=>q) (λ_ _ q=>q) (λ_ _ q=>q) (λ_ _ q=>q)
 ·have e:i=n:=by omega
  subst e;rw [FP (by omega)] at q2;exact .inl ⟨E3 _,F2,env2,r2,q2⟩
theorem gA {tg:Expr} {body:List Stmt} {g:qX} {p:Pos} {pos2:Pos} (hp:PassesOwn (model X.prog X.w) X.A X.env X.xe) (hc:X.calm=true) (hgl:Gl X "range") (hm:X.mg "range" = none) (ha:QA X [a] ts) (hg:QG X tg g) (hb:qx X body t)
  (hst:starEach [a] X.env=[(false,eval a X.env)]:=by rfl) (hs:∀x,FD (.Call (.Name "range" p) [a] [] pos2) X.env x=pure x:=by intro _;rfl):QS X (.For tg (.Call (.Name "range" p) [a] [] pos2) body [] pos) (gh jy ts g t):=by
 refine⟨?_⟩;intro B σ F H env D rp h;refine gR (v8 hp hc (km hgl hm iV hst) yp d9 hs) ?_;refine cu (ha B σ F H env _ rp h) λvs H1 hq0=>?_;obtain⟨F1,ds,r1,s1,d1,q1⟩:=hq0
 (try dsimp only at q1);unfold jy at q1
 split at q1
 ·simp only [aq,Den] at d1;obtain⟨v,r,rfl,rfl,rfl⟩:=d1;exact⟨_,rfl,q1.1.1,q1.1.2,wo hg hb r1 q1.2⟩
 ·exact q1.elim
def RF (X:Cx) (B:Base) (σ:St) (env:En) (F:Hp) (Q:List D->Prop):VK:=λv H'=>∃F' H1 p vs ds,v=.ref p/\H1 p=none/\H'=upd H1 p (.lst vs)/\Rep X.K B F' H1 σ env/\ao F F'/\aq X.K F' ds vs/\Q ds
structure QF (X:Cx) (e:Expr) (t:dS):Prop where
 of ::
 run:∀(B:Base) (σ:St) (F H:Hp) (env:En) (Q:List D->Prop),Rep X.K B F H σ env->t env Q->wE X e σ H (RF X B σ env F Q)
instance {X:Cx} {e:Expr} {t:dS}:CoeFun (QF X e t) (λ_=>∀(B:Base) (σ:St) (F H:Hp) (env:En) (Q:List D->Prop),Rep X.K B F H σ env->t env Q->wE X e σ H (RF X B σ env F Q)):=⟨QF.run⟩
def iH (ts:dS):dS:=λenv Q=>ts env λxs=>xs.length<=sizeLine/\Q xs
theorem fS (h:QA X es ts):QF X (.List es pos) (iH ts):=by
 refine⟨?_⟩;intro B σ F H env Q rp hq;refine bN (wR iV) ?_;exact cu (h B σ F H env _ rp hq) λvs H1 ⟨F1,ds,r1,s1,d1,z,q1⟩=>⟨by rw [<- d1.length];exact z,λp hp=>⟨F1,H1,p,vs,ds,rfl,hp,rfl,r1,s1,d1,q1⟩⟩
def bO (i:Nat) (ts:dS):cK:=λD env=>ts env λxs=>D.nx (env.set i (some (.own xs)))
theorem cI {x:Str} {pos':Pos} (i:Nat) (hN:X.N.Nodup) (he:QF X e ts) (hi:X.N[i]?=some x:=by rfl) (hx:Loc X.env.scope x:=by first|exact Or.inl rfl|exact Or.inr rfl) (hs:swapsWith e (some (.Name x pos')) pos.line X.env=pure false:=by rfl)
  (hf:X.fn x=true\/X.env.scope.names.lookup x=some .local:=by first|exact .inl rfl|exact .inr rfl):QS X (.Assign [.Name x pos'] e pos) (bO i ts):=by
 refine⟨?_⟩;intro B σ F H env D rp h pins s I;refine p7 (i:=i) hN hi hx bz hs hf pins s σ H _ I ?_;refine aE (he B σ F H env _ rp h) λv H' hq0=>?_;obtain⟨F1,H1,p,vs,ds,e1,hp,e2,r1,s1,d1,q1⟩:=hq0;subst e1 e2;refine⟨F1,_,r1.AU hp d1 ?_,q1⟩;rw [I.len];exact (EO.mp hi).1
def bP (i:Nat) (te:TD):cK:=λD env=>∃xs,env[i]?=some (some (.own xs))/\xs.length < sizeLine/\te env λx=>D.nx (env.set i (some (.own (xs ++ [x]))))
theorem cG {x:Str} {px apos cpos:Pos} (i:Nat) (he:QE X e ta) (hN:X.N[i]?=some x:=by rfl) (hv:u9 X.env.scope x:=by first | exact Or.inl rfl | exact Or.inr (Or.inl rfl) | exact Or.inr (Or.inr rfl)) (hd:(x == ("__debug__" : Str))=false:=by decide) (hcd:(x == ("__classdict__" : Str))=false:=by decide)
  (hbase:attributeBase (.Name x px) "append" X.env (eval (.Name x px) X.env)=eval (.Name x px) X.env:=by rfl)
  (hfew:((backTo cpos (starEach [e] X.env)).all (λx=>!x.1) && (backToKw cpos (keywordEach [] X.env)).all (λx=>x.1.isSome)
   && decide (([e]:List Expr).length + ([]:List Keyword).length + (if ([]:List Keyword).isEmpty then 0 else 1) < 30))=true:=by rfl)
  (hline:(apos.endLine == cpos.line)=true:=by rfl) (hst:starEach [e] X.env=(false,eval e X.env) :: starEach [] X.env:=by exact aV rfl) (hplain:(backTo cpos (starEach ([]:List Expr) X.env)).any (·.1)=false:=by rfl)
  (hs:swapsWith (.Call (.Attribute (.Name x px) "append" apos) [e] [] cpos) none pos.line X.env=pure false:=by rfl) :
  QS X (.Expr (.Call (.Attribute (.Name x px) "append" apos) [e] [] cpos) pos) (bP i ta):=by
 refine⟨?_⟩;intro B σ F H env D rp h;refine gR (za (B6 PySem.F.plainAttrs_list PySem.F.slot_list_append PySem.F.type_list_append o5 (fu hN hv hd hcd) (ir bz m6 hst) hbase hfew hline hst hplain) hs) ?_;obtain⟨xs,hx,hl,h⟩:=h;obtain⟨p,vs,h1,h2,h3,h4,h5⟩:=rp.ov i xs hx;refine⟨.ref p,h1,.inl ⟨rfl,vs,fL.of h2⟩,?_⟩;refine aE (he B σ F H env _ rp h) λy H1 hq0=>?_;obtain⟨F1,d,r1,s1,d1,q1⟩:=hq0;obtain⟨p',vs',g1,g2,g3,g4,g5⟩:=r1.ov i xs hx
 rw [h1] at g1;cases g1;exact⟨p,vs',y,rfl,rfl,g2,by rw [<- g5.length];exact hl,F1,_,r1.change hx h1 (g5.append (aM d1 aT)),q1⟩
end
abbrev Fw:=List D->(D->Prop)->Prop
def Bo (K:ES) (f:Fw):Sp:=λvs H Q _=>∃(F:Hp) (ds:List D) (P:D->Prop),ao F H/\aq K F ds vs/\f ds P /\
 ∀(d:D) (v:V) (F' H':Hp),ao F F'->ao H H'->ao F' H'->(∀p,H p≠none->F p=none->F' p=none)->Den K F' d v->P d->Q v H'
structure Known (P:Program) (w:World) (K:ES) (mg:Str->Option Value) (base:Heap) (k:Nat) (x:Str) (f:Fw):Prop where
 ex:∃(fa:Addr) (fd:FuncData) (ps:List Str),my P w K mg base sq k fa fd ps (Bo K f)/\mg x=some (.ref fa)/\PySem.W.keepIn K (.ref fa)=true/\Binds K fd ps []
def aA (N:List Str) (ds:List D):En:=ds.map (λd=>some (Lo.d d)) ++ List.replicate (N.length - ds.length) none
section
variable {X:Cx} {e:Expr} {es:List Expr} {ts:dS} {p pos:Pos} {x:Str} {k:Nat} {f:Fw}
theorem bq (h:Known X.prog X.w X.K X.mg X.base k x f) (hr:cp k X.A) (ha:QA X (e :: es) ts) (hg:Gl X x:=by rfl) (hdb:(x == ("__debug__" : Str))=false:=by decide)
  (he:starEach (e :: es) X.env=(false,eval e X.env) :: starEach es X.env:=by exact aV rfl) (hpl:(backTo pos (starEach es X.env)).any (·.1)=false:=by rfl):QE X (.Call (.Name x p) (e :: es) [] pos) (az f ts):=by
 refine⟨?_⟩;intro B σ F H env Q rp hq;obtain⟨fa,fd,ps,G,hm,hk,hb⟩:=h.ex;refine bN (yk G hr hg hm hk hb .nil zI iV hdb he hpl) ?_;refine cu (ha B σ F H env _ rp hq) λvs H1 hq0=>?_;obtain⟨F1,ds,r1,s1,d1,hf⟩:=hq0;rw [Fz];exact⟨F1,ds,Q,r1.fh,d1,hf,λd v F' H' a b c n hd q=>⟨F',d,r1.ext a c b n,s1.trans a,hd,q⟩⟩
end
theorem eS {K:ES} {F H:Hp} {N:List Str} {ds:List D} {vs:List V} (fh:ao F H) (hd:aq K F ds vs) :
  Rep K ⟨F,H,λp=>H p≠none/\F p=none,λ_ h=>h.1⟩ F H (start N vs) (aA N ds):=by
 have noown:∀(i:Nat) ys,(aA N ds)[i]?=some (some (.own ys))->False:=λi ys q=>by
  unfold aA at q
  by_cases hi:i < ds.length
  ·rw [E5 (by simpa using hi),E2] at q;rw [ET hi] at q;cases q
  ·rw [E8 (by simpa using hi),FE] at q
   split at q <;> cases q
 have nodic:∀(i:Nat) ys,(aA N ds)[i]?=some (some (.dic ys))->False:=λi ys q=>by
  unfold aA at q
  by_cases hi:i < ds.length
  ·rw [E5 (by simpa using hi),E2] at q;rw [ET hi] at q;cases q
  ·rw [E8 (by simpa using hi),FE] at q
   split at q <;> cases q
 refine⟨ao.refl _,fh,ao.refl _,λp h=>h.2,λi x q=>?_,λi ys q=>(noown i ys q).elim,λi j xs ys p _ q=>(noown i xs q).elim,λi ys q=>(nodic i ys q).elim,λi j xs ys p _ q=>(nodic i xs q).elim⟩;unfold aA at q
 by_cases hi:i < ds.length
 ·rw [E5 (by simpa using hi),E2] at q;rw [ET hi] at q;cases q;obtain⟨v,h1,h2⟩:=hd.get (ET hi);refine⟨v,?_,h2⟩;unfold start;rw [E5 (by rw [Ff,<- hd.length];exact hi),E2,h1];rfl
 ·rw [E8 (by simpa using hi),FE] at q
  split at q <;> cases q
section
variable {P:Program} {w:World} {K:ES} {mg:Str->Option Value} {base:Heap}
theorem nJ.C2 {x qual:Str} {st:Stmt} {fa:Addr} {fd:FuncData} {N ps:List Str} {k:Nat} {f:Fw} (F:nJ K x qual st fa fd) (S:aI N ps (aj st))
  (hl:∀ds Q,f ds Q->ds.length=ps.length)
  (hbody:∀(cdv:Value) (A:Around) (outer:List Env) (s:Shared) (H:Hp) (E:XK),cp k (A.deeper (envOfC qual (aj st) s.heap.objs.size fa cdv)) ->
   ∃t,qx (gj sq P w K mg base N qual (aj st) fa cdv A outer s H E).nK (a6 st) t/\∀ds (Q:D->Prop),f ds Q->t { nx:=λ_=>Q .non,rt:=Q } (aA N ds)) :
  my P w K mg base sq (k + 1) fa fd ps (Bo K f):=by
 refine F.ok S (λvs H Q E h=>?_) (λcdv A outer s H vs Q E hr h=>?_)
 ·obtain⟨F0,ds,P,_,hd,hf,_⟩:=h;rw [<- hd.length];exact hl ds _ hf
 ·obtain⟨F0,ds,P,fh,hd,hf,kk⟩:=h;obtain⟨t,ht,hq⟩:=hbody cdv A outer s H E hr;refine⟨_,d9,?_⟩;have core:=ht _ (start N vs) F0 H (aA N ds) _ (eS fh hd) (hq ds P hf);refine jt core (λσ' H' ⟨F',env',r,q⟩=>?_) (λv H' ⟨F',d',r,dd,q⟩=>?_) (λ_ _ ⟨_,_,_,q⟩=>q) (λ_ _ ⟨_,_,_,q⟩=>q)
  ·exact kk .non .non F' H' r.f0 r.h0 r.fh (λp h1 h2=>r.nf p ⟨h1,h2⟩) jm q
  ·exact kk d' v F' H' r.f0 r.h0 r.fh (λp h1 h2=>r.nf p ⟨h1,h2⟩) dd q
theorem nJ.known {x qual:Str} {st:Stmt} {fa:Addr} {fd:FuncData} {N ps:List Str} {k:Nat} {f:Fw} (F:nJ K x qual st fa fd) (S:aI N ps (aj st)) (hmg:mg x=some (.ref fa)) (hb:Binds K fd ps [])
  (hl:∀ds Q,f ds Q->ds.length=ps.length)
  (hbody:∀(cdv:Value) (A:Around) (outer:List Env) (s:Shared) (H:Hp) (E:XK),cp k (A.deeper (envOfC qual (aj st) s.heap.objs.size fa cdv)) ->
   ∃t,qx (gj sq P w K mg base N qual (aj st) fa cdv A outer s H E).nK (a6 st) t/\∀ds (Q:D->Prop),f ds Q->t { nx:=λ_=>Q .non,rt:=Q } (aA N ds)) :
  Known P w K mg base (k + 1) x f:=⟨fa,fd,ps,nJ.C2 F S hl hbody,hmg,F.kp,hb⟩
def u7 (n:Nat):Fw:=λds Q=>∃ns:List Int,ds=[.lst (ns.map D.int)]/\ns.length<=n/\Q (.bl true)
theorem Bz {K:ES} {H:Hp} {a:Addr} {ns:List Int} {n:Nat} (hl:ns.length<=n) (hS:fL K H a (ns.map V.int)):Bo K (u7 n) [.ref a] H (λv _=>v=.bl true) λ_ _ _=>False:=by
 refine⟨H,[.lst (ns.map D.int)],λd=>d=.bl true,ao.refl _,aM (lI hS (oy ns)) aT,⟨ns,rfl,hl,rfl⟩,λd v F' H' _ _ _ _ hd q=>?_⟩;subst q
 simpa only [Den] using hd
end
section
variable {X:Cx} {a b c e:Expr} {es:List Expr} {ta tb tc:TD} {ts:dS} {pos:Pos} {st:Stmt} {sts:List Stmt} {t u:cK}
def cQ (i:Nat) (t:cK):cK:=λD env=>∃xs,env[i]?=some (some (.own xs))/\t D (env.set i (some (.d (.lst xs))))
theorem fF (i:Nat) (h:QS X st t):QS X st (cQ i t):=by
 refine⟨?_⟩;intro B σ F H env D rp hq;obtain⟨xs,hx,q⟩:=hq;obtain⟨F',s',r'⟩:=rp.freeze hx;exact h B σ F' H _ D r' q
def de (i:Nat) (tj:TD):TD:=λenv Q=>∃xs,env[i]?=some (some (.own xs))/\tj env λy=>∃j v,y=.int j/\lx xs j=some v/\Q v
theorem fY {x:Str} {px:Pos} (i:Nat) (hb:QE X b tb) (hs:pk b) (hN:X.N[i]?=some x:=by rfl) (hv:u9 X.env.scope x:=by first | exact Or.inl rfl | exact Or.inr (Or.inl rfl) | exact Or.inr (Or.inr rfl)) (hd:(x == ("__debug__" : Str))=false:=by decide)
  (hcd:(x == ("__classdict__" : Str))=false:=by decide):QE X (.Subscript (.Name x px) b pos) (de i tb):=by
 refine⟨?_⟩;intro B σ F H env Q rp h;refine bN (zD ud (fu hN hv hd hcd) bz hs) ?_;obtain⟨xs,hx,h⟩:=h;obtain⟨p,vs,h1,h2,h3,h4,h5⟩:=rp.ov i xs hx;refine⟨.ref p,h1,?_⟩;refine aE (hb B σ F H env _ rp h) λy H1 hq0=>?_;obtain⟨F1,d,r1,s1,d1,j,v,hj,hv,q1⟩:=hq0;subst hj;simp only [Den] at d1;obtain⟨p',vs',g1,g2,g3,g4,g5⟩:=r1.ov i xs hx;rw [h1] at g1;cases g1;obtain⟨w,hw,dw⟩:=g5.lx hv;exact⟨p,vs',j,w,rfl,d1,fL.of g2,hw,F1,v,r1,s1,dw,q1⟩
end
def d7 (names:List (Str×NameKind)) (cells:List (Str×Addr)) (acc:List (Str×Addr)):List (Str×Addr):=match names with
 | []=>acc
 | (n,k) :: r=>if k=.free then (match cells.lookup n with|some c=>d7 r cells ((n,c) :: acc)|none=>d7 r cells acc) else d7 r cells acc
theorem dX {env:Env}:∀(names:List (Str×NameKind)) (acc:List (Str×Addr)),(∀y∈names,y.2=.free->∃c,env.cells.lookup y.1=some c) ->
  (forIn names acc λ(x:Str×NameKind) r=>if (x.2 == NameKind.free)=true then (do let a <- cellOf env x.1;pure (ForInStep.yield ((x.1,a) :: r))) else pure (ForInStep.yield r):Sem (List (Str×Addr)))=pure (d7 names env.cells acc)
 | [],acc,_=>rfl
 | (n,k) :: r,acc,h=>by
  rw [List.forIn_cons]
  by_cases hk:k=.free
  ·subst hk;obtain⟨c,hc⟩:=h (n,.free) Fc rfl;have hc':env.cells.lookup n=some c:=hc;have ih:=dX r ((n,c) :: acc) λy hy=>h y (E4 _ hy);simp only [beq_self_eq_true,if_true,cellOf,hc',d7];exact ih
  ·have ih:=dX r acc λy hy=>h y (E4 _ hy);have hb:(k == NameKind.free)=false:=by simpa using hk
   simp only [hb,EV,if_false,d7,if_neg hk];exact ih
theorem nX {scope:Scope} {env:Env} (h:∀y∈scope.names,y.2=.free->∃c,env.cells.lookup y.1=some c):closureFor scope env=pure (d7 scope.names env.cells []):=by
 have e:=dX (env:=env) scope.names [] h;have e2:closureFor scope env=((forIn scope.names ([]:List (Str×Addr)) λ(x:Str×NameKind) r=>if (x.2 == NameKind.free)=true then (do let a <- cellOf env x.1;pure (ForInStep.yield ((x.1,a) :: r))) else pure (ForInStep.yield r)) >>= λcs=>pure cs):=rfl
 rw [e2,e];rfl
theorem jn {cells:List (Str×Addr)}:∀(names:List (Str×NameKind)) (acc:List (Str×Addr)),(∀x c,acc.lookup x=some c->cells.lookup x=some c)->∀x c,(d7 names cells acc).lookup x=some c->cells.lookup x=some c
 | [],acc,h,x,c,q=>h x c q
 | (n,k) :: r,acc,h,x,c,q=>by
  unfold d7 at q
  split at q
  ·split at q
   ·rename_i c' e;refine jn r _ (λy d w=>?_) x c q;rw [List.lookup_cons] at w
    split at w
    ·rename_i z;have:y=n:=by simpa using z
     subst this;cases w;exact e
    ·exact h y d w
   ·exact jn r _ h x c q
  ·exact jn r _ h x c q
theorem js {cells:List (Str×Addr)}:∀(names:List (Str×NameKind)) (acc:List (Str×Addr)) (x:Str),(acc.lookup x).isSome=true->((d7 names cells acc).lookup x).isSome=true
 | [],acc,x,q=>q
 | (n,k) :: r,acc,x,q=>by
  unfold d7
  split
  ·split
   ·refine js r _ x ?_;rw [List.lookup_cons]
    split
    ·rfl
    ·exact q
   ·exact js r _ x q
  ·exact js r _ x q
theorem jx {cells:List (Str×Addr)}:∀(names:List (Str×NameKind)) (acc:List (Str×Addr)) (x:Str),(x,NameKind.free)∈names->(cells.lookup x).isSome=true->((d7 names cells acc).lookup x).isSome=true
 | [],acc,x,h,_=>by simp at h
 | (n,k) :: r,acc,x,h,q=>by
  rcases Fe.mp h with e|h
  ·cases e;unfold d7;rw [if_pos rfl]
   split
   ·exact js r _ _ (by rw [List.lookup_cons];simp)
   ·rename_i e;rw [e] at q;cases q
  ·unfold d7
   split
   ·split <;> exact jx r _ x h q
   ·exact jx r _ x h q
theorem pT:∀(names:List (Str×NameKind)) (n:Nat) (acc:List (Str×Addr)),cellsFrom n names acc=cellsFrom n names [] ++ acc
 | [],n,acc=>rfl
 | (x,k) :: r,n,acc=>by
  unfold cellsFrom
  split
  ·rw [pT r _ ((x,n) :: acc),pT r _ [(x,n)],List.append_assoc];rfl
  ·exact pT r n acc
theorem xI {x:Str} {c:Addr}:∀(names:List (Str×NameKind)) (n:Nat) (acc:List (Str×Addr)),(x,c)∈cellsFrom n names acc->(x,NameKind.cell)∈names\/(x,c)∈acc
 | [],n,acc,h=>.inr h
 | (y,k) :: r,n,acc,h=>by
  unfold cellsFrom at h
  split at h
  ·rename_i hk;have hk':k=.cell:=by simpa using hk
   rcases xI r _ _ h with z|z
   ·exact .inl (E4 _ z)
   ·rcases Fe.mp z with e|z
    ·cases e;rw [hk'];exact .inl Fc
    ·exact .inr z
  ·rcases xI r _ _ h with z|z
   ·exact .inl (E4 _ z)
   ·exact .inr z
theorem pb {x:Str}:∀(names:List (Str×NameKind)) (n:Nat) (acc:List (Str×Addr)),(acc.lookup x).isSome=true->((cellsFrom n names acc).lookup x).isSome=true
 | [],n,acc,h=>h
 | (y,k) :: r,n,acc,h=>by
  unfold cellsFrom
  split
  ·refine pb r _ _ ?_;rw [List.lookup_cons]
   split
   ·rfl
   ·exact h
  ·exact pb r _ _ h
theorem tF {x:Str}:∀(names:List (Str×NameKind)) (n:Nat) (acc:List (Str×Addr)),(x,NameKind.cell)∈names->((cellsFrom n names acc).lookup x).isSome=true
 | [],n,acc,h=>by simp at h
 | (y,k) :: r,n,acc,h=>by
  unfold cellsFrom;rcases Fe.mp h with e|h
  ·cases e;rw [if_pos (by simp)];exact pb r _ _ (by rw [List.lookup_cons];simp)
  ·split <;> exact tF r _ _ h
structure Cg (h1:Heap) (C:Addr) (cs:List (Str×Addr)):Prop where
 cell:∀x c,(x,c)∈cs->h1.IsCell c none/\C + 1<=c
 apart:cs.Pairwise λx y=>x.2≠y.2
def aH (X:Cx) (N':List Str) (scope:Scope) (C:Addr) (s:Shared) (H:Hp) (fp:List Addr) (pins:List (Addr×Obj)):Cx :=
 { X with N:=N',s₀:=s,H₀:=H,env:=compEnvC scope (cellsFrom (C + 1) scope.names [] ++ d7 scope.names X.env.cells []) C X.env,outer:=X.stack,stack:=X.stack,ex:=fp,fn:=λx=>scope.names.lookup x == some .cell,pn:=X.pn ++ pins,xe:=λ_ _=>False }
structure aS (X:Cx) (N':List Str) (nt:Nat) (ix:List Nat) (scope:Scope):Prop where
 kind:scope.kind=.function
 apart:∀x,(x,NameKind.free)∈scope.names->(x,NameKind.cell)∉scope.names
 names:∀x∈scope.names,x.2=.local->scope.names.lookup x.1=some .local
 free:∀x∈scope.names,x.2=.free->X.env.scope.names.lookup x.1=some .cell\/X.env.scope.names.lookup x.1=some .free
 caps:∀(j:Nat) (i:Nat),ix[j]?=some i->∃x,N'[nt + j]?=some x/\X.N[i]?=some x/\(x,NameKind.free)∈scope.names/\((relabel scope X.env).names.lookup x=some .cell\/(relabel scope X.env).names.lookup x=some .free)
 len:N'.length=nt + ix.length
section
variable {prog:Program} {w:World} {A:Around} {R:Result->Shared->Prop} {s:Shared}
theorem pj {elt target iter:Expr} {ifs:List Expr} {scope:Scope} {pos:Pos} {it acc:Value} {env:Env} (I:Nat->Shared->Prop)
  (turn:∀n s,I n s->wpAny (model prog w) A (pyNext it) (λr s₁=>match r with
   | none=>R (.ok .next) s₁
   | some v=>wpAny (model prog w) A (letOwnedTupleGo target it v) (λ_ s₁'=>wpAny (model prog w) A (assign target env v) (λ_ s₂ =>
     wpAny (model prog w) A (forIn ifs true λc r=>if r=true then do let ok <- isTrue c env (eval c env);pure (ForInStep.yield ok) else pure (ForInStep.yield r)) (λok s₃ =>
      if ok=true then wpAny (model prog w) A (eval elt env) (λx s₄ =>
       wpAny (model prog w) A (call (.builtin "list.append") [acc,x]) (λ_ s₅=>∃m,m < n/\I m s₅) (λ_ _=>False) s₄) (λ_ _=>False) s₃
      else ∃m,m < n/\I m s₃) (λ_ _=>False) s₂) (λ_ _=>False) s₁') (λ_ _=>False) s₁) (λ_ _=>False) s)
  (n:Nat) (h:I n s) :
  codeAny (model prog w) A (.compLoop (.ListComp elt [⟨target,iter,ifs,0⟩] scope pos) 0 it acc env) R s:=by
 refine codeAny_loop rfl I (λn s hI=>?_) n h;show wpAny _ A ((compTurn (.ListComp elt [⟨target,iter,ifs,0⟩] scope pos) 0 it acc env).onRaise (λx=>do noteFrame x env;theTreesLotGoes x)) _ _ s
 refine wpAny_noted ?_;rw [compTurn_list];refine ER (wpAny_standAt (ER (Fo (turn n s hI) (λr s₁ h₁=>?_) λ_ _ h'=>h'.elim)))
 cases r with
 | none=>exact EW h₁
 | some v =>
  refine ER (Fo h₁ (λ_ s₁' h₁'=>?_) λ_ _ h'=>h'.elim);refine ER (Fo h₁' (λ_ s₂ h₂=>ER (Fo h₂ (λok s₃ h₃=>?_) λ_ _ h'=>h'.elim)) λ_ _ h'=>h'.elim)
  cases ok with
  | false=>exact EW ⟨rfl,h₃⟩
  | true =>
   exact ER (ER (Fo h₃ (λx s₄ h₄=>ER (Fo h₄ (λ_ s₅ h₅=>EW (EW ⟨rfl,h₅⟩)) λ_ _ h'=>h'.elim)) λ_ _ h'=>h'.elim))
end
def nM (nt:Nat) (ix:List Nat) (σ:St):St:=List.replicate nt none ++ ix.map λi=>(σ[i]?).join
theorem lookup_mem {α β:Type} [BEq α] [LawfulBEq α] {l:List (α×β)} {x:α} {y:β} (h:l.lookup x=some y):(x,y)∈l:=by
 induction l with
 | nil=>simp at h
 | cons p r ih =>
  obtain⟨a,b⟩:=p;rw [List.lookup_cons] at h
  split at h
  ·rename_i e;have:x=a:=by simpa using e
   subst this;cases h;exact Fc
  ·exact E4 _ (ih h)
section
variable {X:Cx} {pins:List (Addr×Obj)} {σ:St} {H:Hp} {s:Shared} {N':List Str} {nt:Nat} {ix:List Nat} {scope:Scope}
theorem kZ {x:Str} {k:NameKind} (h:(x,k)∈(relabel scope X.env).names):(x,k)∈scope.names\/((x,NameKind.free)∈scope.names/\k=.cell):=by
 unfold relabel at h;obtain⟨⟨n,k'⟩,hm,e⟩:=Fj.mp h;dsimp only at e
 split at e
 ·rename_i hc;cases e;simp only [Bool.and_eq_true,beq_iff_eq] at hc;exact .inr ⟨by rw [<- hc.1.1];exact hm,rfl⟩
 ·cases e;exact .inl hm
theorem sC (I:Inv X pins σ H s) (O:aS X N' nt ix scope) {fp:List Addr} (hf:∀b∈fp,n8 X pins H b) (hlt:∀b∈fp,b < s.heap.objs.size) {h1:Heap} {tk:Nat}
  (hns:h1.Ns s.heap.objs.size (λ_=>none)) (hsb:∀b o,s.heap.get? b=some o->h1.get? b=some o) (hnc:Cg h1 s.heap.objs.size (cellsFrom (s.heap.objs.size + 1) scope.names [])) :
  Inv (aH X N' scope s.heap.objs.size s H fp pins) [] (nM nt ix σ) H { s with heap:=h1,toks:=tk }:=by
 have cellsAt:∀x c,(d7 scope.names X.env.cells []).lookup x=some c->X.env.cells.lookup x=some c:=λx c q=>jn scope.names [] (λy d w=>by simp at w) x c q;have clt:∀x c,X.env.cells.lookup x=some c->c < s.heap.objs.size:=λx c e=>let ⟨_,q⟩:=I.cell x c e;q.lt
 have two:∀x c,(cellsFrom (s.heap.objs.size + 1) scope.names [] ++ d7 scope.names X.env.cells []).lookup x=some c->((x,c)∈cellsFrom (s.heap.objs.size + 1) scope.names []/\s.heap.objs.size < c)\/X.env.cells.lookup x=some c:=λx c e=>by
  rw [List.lookup_append] at e
  cases q:(cellsFrom (s.heap.objs.size + 1) scope.names []).lookup x with
  | some d =>
   rw [q] at e;have:d=c:=by simpa using e
   subst this;have hm:=PySem.mem_of_lookup q
   exact .inl ⟨hm,(hnc.cell x d hm).2⟩
  | none=>rw [q] at e;exact .inr (cellsAt x c (by simpa using e))
 have hasN:∀x,(x,NameKind.cell)∈scope.names->∃c,(cellsFrom (s.heap.objs.size + 1) scope.names [] ++ d7 scope.names X.env.cells []).lookup x=some c:=λx hx=>by
  obtain⟨c,hc⟩:=Option.isSome_iff_exists.mp (tF scope.names (s.heap.objs.size + 1) [] hx);exact⟨c,by rw [List.lookup_append,hc];rfl⟩
 have noN:∀x,(x,NameKind.free)∈scope.names->(cellsFrom (s.heap.objs.size + 1) scope.names []).lookup x=none:=λx hx=>by
  cases q:(cellsFrom (s.heap.objs.size + 1) scope.names []).lookup x with
  | none=>rfl
  | some d =>
   rcases xI _ _ _ (PySem.mem_of_lookup q) with z|z
   ·exact absurd z (O.apart x hx)
   ·simp at z
 refine⟨⟨I.ok.mod,O.kind,I.ok.glob,I.ok.blt,E3 _,λx y c h1 h2=>?_,λx hx=>?_,λx c hfx h=>?_,I.ok.hd,I.ok.frames,.inl rfl,λb hb=>⟨Fp (hlt b hb),λx c e=>?_⟩,I.bs,
   FV I.ok.bsz I.sz,λb o e hb=>?_,λb hb z=>?_,I.stack,⟨I.lQ,I.tb⟩⟩,
  rfl,I.bare,Un.kept hsb,⟨_,hns,λj x v e1 e2 e3=>?_⟩,λx c e=>?_,I.hok.fresh (E3 _),λx c e=>?_,λp hp=>?_,I.hok.kept hsb,?_⟩
 ·rcases two x c h1 with ⟨m1,g1⟩|o1 <;> rcases two y c h2 with ⟨m2,g2⟩|o2
  ·exact name_of_addr hnc.apart m1 m2
  ·exact absurd (clt y c o2) (Nat.lt_asymm g1)
  ·exact absurd (clt x c o1) (Nat.lt_asymm g2)
  ·exact I.ok.inj x y c o1 o2
 ·
  have hx':((relabel scope X.env).names.lookup x=some .cell\/(relabel scope X.env).names.lookup x=some .free):=hx
  have key:(x,NameKind.cell)∈scope.names\/(x,NameKind.free)∈scope.names:=by
   rcases hx' with h|h
   ·rcases kZ (lookup_mem h) with q|q
    ·exact .inl q
    ·exact .inr q.1
   ·rcases kZ (lookup_mem h) with q|q
    ·exact .inr q
    ·exact .inr q.1
  rcases key with key|key
  ·exact hasN x key
  ·obtain⟨c,hc⟩:=I.ok.has x (O.free _ key rfl);obtain⟨c2,hc2⟩:=Option.isSome_iff_exists.mp (jx (cells:=X.env.cells) scope.names [] x key (by rw [hc];rfl));refine⟨c2,?_⟩;show (cellsFrom (s.heap.objs.size + 1) scope.names [] ++ d7 scope.names X.env.cells []).lookup x=some c2
   rw [List.lookup_append,noN x key,hc2];rfl
 ·
  have hm:(x,NameKind.cell)∈scope.names:=lookup_mem (by have z:(scope.names.lookup x == some .cell)=true:=hfx;simpa using z)
  have h':(cellsFrom (s.heap.objs.size + 1) scope.names [] ++ d7 scope.names X.env.cells []).lookup x=some c:=h;obtain⟨d,hd⟩:=Option.isSome_iff_exists.mp (tF scope.names (s.heap.objs.size + 1) [] hm);rw [List.lookup_append,hd] at h';have:d=c:=by simpa using h'
  subst this;exact Gb (hnc.cell x d (PySem.mem_of_lookup hd)).2
 ·rcases two x c e with ⟨_,g⟩|o
  ·exact λz=>absurd (hlt b hb) (Nat.lt_asymm (z▸g))
  ·exact (hf b hb).2.2.2.2.1 x c o
 ·rcases (hf b hb).2.2.2.1 with z|z
  ·exact I.ok.noex b o e z
  ·exact absurd (EY (E7 (I.ok.bs b o e).1) z) (Nat.lt_irrefl _)
 ·rcases Fe.mp (I.kE b z) with e|e
  ·exact (hf b hb).2.1 e
  ·exact (hf b hb).2.2.1 e
 ·
  unfold nM at e2
  by_cases hj:j < nt
  ·rw [E5 (by simpa using hj),FE] at e2
   split at e2 <;> cases e2
  ·rw [E8 (by simpa using hj),E2,List.length_replicate] at e2
   cases hi:ix[j - nt]? with
   | none=>rw [hi] at e2;cases e2
   | some i =>
    rw [hi] at e2
    have hs:σ[i]?=some (some v):=by
     simp only [Option.map_some,Option.some.injEq] at e2
     cases q:σ[i]? with
     | none=>rw [q] at e2;cases e2
     | some o=>rw [q] at e2;simp only [Option.join] at e2;rw [show o=some v from e2]
    obtain⟨y,n1,n2,n3,n4⟩:=O.caps (j - nt) i hi;have hjj:nt + (j - nt)=j:=by omega
    rw [hjj] at n1;have e1':N'[j]?=some x:=e1;rw [n1] at e1';cases e1';obtain⟨m,hn,hl⟩:=I.loc;have hk:=O.free _ n3 rfl;obtain⟨u,r,l⟩:=hl i x v n2 hs (.inr hk);refine⟨u,r,?_⟩;rcases l with ⟨k,_⟩|⟨_,c,ec,z⟩
    ·have k':X.env.scope.names.lookup x=some .local:=k;rcases hk with hk|hk <;> (have hk':X.env.scope.names.lookup x=_:=hk;rw [hk'] at k';cases k')
    ·have hc2:=Option.isSome_iff_exists.mp (jx (cells:=X.env.cells) scope.names [] x n3 (by rw [ec];rfl));obtain⟨c2,hc2⟩:=hc2;have:=cellsAt x c2 hc2;rw [ec] at this;cases this;refine .inr ⟨n4,c,?_,z.keeps hsb⟩;show (cellsFrom (s.heap.objs.size + 1) scope.names [] ++ d7 scope.names X.env.cells []).lookup x=some c
     rw [List.lookup_append,noN x n3,hc2];rfl
 ·rcases two x c e with ⟨m,_⟩|o
  ·exact⟨_,(hnc.cell x c m).1⟩
  ·obtain⟨v,z⟩:=I.cell x c o;exact⟨v,z.keeps hsb⟩
 ·rcases two x c e with ⟨_,g⟩|o
  ·exact I.hok.fresh (Gb g)
  ·exact I.freeC x c o
 ·rw [Fz] at hp;obtain⟨e,n,ne,nf,d⟩:=I.pin p hp;refine⟨hsb _ _ e,n,Fp (E7 e),λz=>?_,d⟩;rcases Fe.mp (I.kE p.1 z) with q|q
  ·exact ne q
  ·exact nf q
 ·unfold nM;show _=N'.length
  rw [O.len,Ft,List.length_replicate,Ff]
theorem vU (I:Inv X pins σ H s) {fp:List Addr} (hf:∀b∈fp,n8 X pins H b) {σ':St} {H':Hp} {s':Shared} (J:Inv (aH X N' scope s.heap.objs.size s H fp pins) [] σ' H' s') {h':Heap} (hs:Heap.SameBut s.heap.objs.size s'.heap h') :
  Inv X pins σ H' { s' with heap:=h' }:=by
 have ne:∀b o,s.heap.get? b=some o->b≠s.heap.objs.size:=λb o e=>Fp (E7 e);have jb:=J.base;refine I.wQ (ch:=fp) J.os ⟨λb o e n h1 h2=>(hs.2 b (ne b o e)).trans (jb.keep b o e n h1 h2),λb o e n h1 h2=>?_,jb.free,λb o e h2=>?_,jb.i4,jb.frzs,jb.tbls⟩ (λb o e=>?_) J.bare λb hb=>?_
 ·obtain⟨sl,q⟩:=jb.slot b o e n h1 h2;exact⟨sl,(hs.2 b (ne b o e)).trans q⟩
 ·obtain⟨o',q⟩:=jb.there b o e h2;exact⟨o',(hs.2 b (ne b o e)).trans q⟩
 ·have jf:H' s.heap.objs.size=none:=J.free;refine (J.hok b o e).mJ (λc u hc q=>(hs.2 c ?_).trans q) (λ_ q=>q) (λ_ _ q=>q) λ_ _ _ q=>q;intro z;subst z;rcases hc with z|z
  ·rw [<- z,jf] at e;cases e
  ·rw [jf] at z;cases z
 ·obtain⟨f0,f1,f2,f3,f4,f5⟩:=hf b hb;exact⟨f3,f1,f4,f5⟩
end
def tN (X:Cx) (ifs:List Expr):TT:=λσ H Q=>∀(pins:List (Addr×Obj)) (s:Shared),Inv X pins σ H s ->
 wpAny (model X.prog X.w) X.A (forIn ifs true λc r=>if r=true then do let ok <- isTrue c X.env (eval c X.env);pure (ForInStep.yield ok) else pure (ForInStep.yield r)) (TP X pins σ Q) (λ_ _=>False) s
def zo (X:Cx) (N':List Str) (nt:Nat) (ix:List Nat) (scope:Scope) (elt target:Expr) (ifs:List Expr) (wi:TI):TE:=λσ H Q=>wi σ H λJ H1=>∀(a C:Addr) (s:Shared) (fp:List Addr) (pins:List (Addr×Obj)),H1 a=none ->
 ∃W:Nat->Nat->St->Hp->Prop,(∃m,W 0 m (nM nt ix σ) (upd H1 a (.lst [])))/\∀i m σ' H',W i m σ' H'->(J.stop i H'/\Q (.ref a) H')\/(J.go i H'/\∀x H2,J.yld i H' x H2 ->
  wG (aH X N' scope C s (upd H1 a (.lst [])) fp pins) target x σ' H2 λσ2 H3=>tN (aH X N' scope C s (upd H1 a (.lst [])) fp pins) ifs σ2 H3 λok H4=>if ok=true then
   wE (aH X N' scope C s (upd H1 a (.lst [])) fp pins) elt σ2 H4 λy H5=>∃ys,H5 a=some (.lst ys)/\ys.length < sizeLine/\∃m',m' < m/\W (i + 1) m' σ2 (upd H5 a (.lst (ys ++ [y])))
   else ∃m',m' < m/\W (i + 1) m' σ2 H4)
section
variable {X:Cx} {N':List Str} {nt:Nat} {ix:List Nat} {scope:Scope}
theorem aS.bb {pins:List (Addr×Obj)} {σ:St} {H:Hp} {s:Shared} (O:aS X N' nt ix scope) (I:Inv X pins σ H s):closureFor scope X.env=pure (d7 scope.names X.env.cells []) :=
 nX λy hy hk=>I.ok.has y.1 (O.free y hy hk)
theorem xh {M:Model} {A:Around} {E:Value->Shared->Prop} {s:Shared} {globals:Addr} {cl:List (Str×Addr)} {qual:Str} {around:Env} {Q:Env->Shared->Prop} (hk:scope.kind=.function)
  (h:∀h1,h1.Ns s.heap.objs.size (λ_=>none)->(∀b o,s.heap.get? b=some o->h1.get? b=some o)->Cg h1 s.heap.objs.size (cellsFrom (s.heap.objs.size + 1) scope.names []) ->
   Q { scope:=scope,locals:=s.heap.objs.size,globals:=globals,cells:=cellsFrom (s.heap.objs.size + 1) scope.names [] ++ cl,qual:=qual,func:=none,code:=around.code,frame:=around.frame,builtins:=around.builtins } { s with heap:=h1 }) :
  wpAny M A (newFunctionEnv scope globals cl [] qual none .none (some around)) Q E s:=by
 simp only [newFunctionEnv,Option.isSome_some,if_true];refine ER (wpAny_alloc ?_);refine ER (wpAny_layCells _ (λname kind cells=>by cases hkc:kind == NameKind.cell <;> simp [hkc]) _ _ _ _ ?_)
 rw [pT];have sz:(s.heap.push { cls:=.type "dict",data:=.dict #[] }).objs.size=s.heap.objs.size + 1:=Heap.size_push ..
 have ok:=cellsFrom_ok scope.names (s.heap.push { cls:=.type "dict",data:=.dict #[] }) (s.heap.objs.size + 1) [] ⟨λ_ _ hm=>(nomatch hm),List.Pairwise.nil⟩ (by rw [sz];exact E3 _)
 rw [sz] at ok;have q:=h (pushCells (s.heap.push { cls:=.type "dict",data:=.dict #[] }) scope.names) ((Heap.Ns.new s.heap (.type "dict")).keeps (pushCells_keeps _ _)) (λb o e=>pushCells_keeps _ _ b o (EZ _ e)) ⟨λx c hm=>ok.empty x c hm,ok.apart⟩
 rw [<- sz] at q;refine ER ?_;rw [List.forIn_nil];exact EW (EW (by simpa only [sz] using q))
theorem rC {elt target iter:Expr} {ifs:List Expr} {pos:Pos} {pins:List (Addr×Obj)} {σ:St} {s2:Shared} {Q:VK} {R:It->Hp->Prop} {itv:Value} {RR:Value->Addr->Result->Shared->Prop} (hc:X.calm=true) (O:aS X N' nt ix scope)
  (h2:Dh X pins σ target R itv s2)
  (hR:∀J H1,R J H1->∀(a C:Addr) (s:Shared) (fp:List Addr) (pins:List (Addr×Obj)),H1 a=none ->
   ∃W:Nat->Nat->St->Hp->Prop,(∃m,W 0 m (nM nt ix σ) (upd H1 a (.lst [])))/\∀i m σ' H',W i m σ' H'->(J.stop i H'/\Q (.ref a) H')\/(J.go i H'/\∀x H2,J.yld i H' x H2 ->
    wG (aH X N' scope C s (upd H1 a (.lst [])) fp pins) target x σ' H2 λσ2 H3=>tN (aH X N' scope C s (upd H1 a (.lst [])) fp pins) ifs σ2 H3 λok H4=>if ok=true then
     wE (aH X N' scope C s (upd H1 a (.lst [])) fp pins) elt σ2 H4 λy H5=>∃ys,H5 a=some (.lst ys)/\ys.length < sizeLine/\∃m',m' < m/\W (i + 1) m' σ2 (upd H5 a (.lst (ys ++ [y])))
     else ∃m',m' < m/\W (i + 1) m' σ2 H4))
  (hRR:∀(a C:Addr) (H':Hp) (s6:Shared) (m:Str->Option Value),Q (.ref a) H'->s6.heap.Ns C m->H' C=none->C≠X.env.locals->X.s₀.heap.objs.size<=C->(∀x c,X.env.cells.lookup x=some c->c≠C)->(∀p∈X.pn ++ pins,p.1≠C) ->
   (∀h',Heap.SameBut C s6.heap h'->Inv X pins σ H' { s6 with heap:=h' })->RR (.ref a) C (.ok .next) s6) :
  wpAny (model X.prog X.w) X.A (newList []) (λacc s3=>wpAny (model X.prog X.w) X.A (newFunctionEnv scope X.env.globals (d7 scope.names X.env.cells []) [] X.env.qual none .none (some X.env)) (λcenv s4 =>
   codeAny (model X.prog X.w) X.A (.compStart (.ListComp elt [⟨target,iter,ifs,0⟩] scope pos) 0 itv acc { cenv with scope:=relabel scope X.env }) (RR acc cenv.locals) s4) X.xe s3) X.xe s2:=by
 obtain⟨it,fp,tn,J,H2,e,I2,T,st2,f2,hq0⟩:=h2;have hq:=hR J H2 hq0;subst e;have hlt2:∀b∈fp,b < s2.heap.objs.size:=λb hb=>let ⟨o,e,_⟩:=T.obj _ _ st2 b hb;E7 e
 refine wpAny_newObj_type ?_;generalize hs3:({ s2 with heap:=s2.heap.push { cls:=.type "list",dict:=none,data:=.seq ([]:List Value).toArray } }:Shared)=s3
 have k3:∀b o,s2.heap.get? b=some o->s3.heap.get? b=some o:=λb o e=>by rw [<- hs3];exact EZ _ e
 have ha:H2 s2.heap.objs.size=none:=I2.hok.fresh (E3 _)
 have I3:Inv X pins σ (upd H2 s2.heap.objs.size (.lst [])) s3:=by
  rw [<- hs3];exact I2.laid (t':=s2.toks) (λb u e=>EZ _ e) (E3 _) ⟨FC _,[],0,.nil,Fh _ rfl⟩
 have f3:∀b∈fp,n8 X pins (upd H2 s2.heap.objs.size (.lst [])) b:=λb hb=>⟨by rw [au (Fp (hlt2 b hb))];exact (f2 b hb).1,(f2 b hb).2⟩;have st3:tn 0 s3.heap:=T.keep _ _ _ st2 λb hb o e=>k3 b o e;have hlt3:∀b∈fp,b < s3.heap.objs.size:=λb hb=>let ⟨o,e,_⟩:=T.obj _ _ st3 b hb;E7 e
 refine xh O.kind λh1 hns k4 hnc=>?_;have I4:=sC (tk:=s3.toks) I3 O f3 hlt3 hns k4 hnc;have st4:tn 0 h1:=T.keep _ _ _ st3 λb hb o e=>k4 b o e;obtain⟨W,⟨m0,w0⟩,turn⟩:=hq s2.heap.objs.size s3.heap.objs.size s3 fp pins ha;have fr3:∀b∈fp,(upd H2 s2.heap.objs.size (.lst [])) b=none:=λb hb=>(f3 b hb).1
 have stat:∀{H':Hp},(∀b∈fp,H' b=none)->∀b∈fp,n8 (aH X N' scope s3.heap.objs.size s3 (upd H2 s2.heap.objs.size (.lst [])) fp pins) [] H' b:=λ{H'} hn b hb=>by
  refine⟨hn b hb,Fp (hlt3 b hb),λz=>?_,.inl hb,(I4.ok.exf b hb).2,λp hp=>?_⟩
  ·rcases Fe.mp (I3.kE b z) with q|q
   ·exact (f3 b hb).2.1 q
   ·exact (f3 b hb).2.2.1 q
  ·rw [Fz] at hp;exact (f3 b hb).2.2.2.2.2 p hp
 generalize hX:aH X N' scope s3.heap.objs.size s3 (upd H2 s2.heap.objs.size (.lst [])) fp pins=X' at I4 turn stat;have eP:X'.prog=X.prog:=by rw [<- hX];rfl
 have eW:X'.w=X.w:=by rw [<- hX];rfl
 have eK:X'.K=X.K:=by rw [<- hX];rfl
 have eA:X'.A=X.A:=by rw [<- hX];rfl
 have eC:X'.calm=true:=by rw [<- hX];exact hc
 have eE:X'.env=compEnvC scope (cellsFrom (s3.heap.objs.size + 1) scope.names [] ++ d7 scope.names X.env.cells []) s3.heap.objs.size X.env:=by rw [<- hX];rfl
 have eX:X'.xe=λ_ _=>False:=by rw [<- hX];rfl
 have loop:codeAny (model X.prog X.w) X.A (.compLoop (.ListComp elt [⟨target,iter,ifs,0⟩] scope pos) 0 (.ref it) (.ref s2.heap.objs.size) (compEnvC scope (cellsFrom (s3.heap.objs.size + 1) scope.names [] ++ d7 scope.names X.env.cells []) s3.heap.objs.size X.env))
   (RR (.ref s2.heap.objs.size) s3.heap.objs.size) { s3 with heap:=h1 }:=by
  refine pj (λn s'=>∃i σ' H',Inv X' [] σ' H' s'/\tn i s'.heap/\(∀b∈fp,H' b=none)/\W i n σ' H') ?_ m0 ⟨0,_,_,I4,st4,fr3,w0⟩
  rintro n s5 ⟨i,σ5,H5,I5,st5,fr5,w5⟩;rcases turn i n σ5 H5 w5 with ⟨stop,q⟩|⟨go,step⟩
  ·have:=T.done X' eP eW eK eC i [] s5 σ5 H5 (λ_ _=>False) I5 (stat fr5) st5 stop;rw [eA] at this;refine bu this λr s6 ⟨hr,I6⟩=>?_;subst hr;obtain⟨m,hm,_⟩:=id I6.loc;rw [eE] at hm;have fre:H5 s3.heap.objs.size=none:=by have z:=I6.free;rw [eE] at z;exact z
   refine hRR _ _ H5 s6 m q hm fre (Nat.ne_of_gt I3.lt) I3.sz (λx c e z=>?_) (λp hp z=>?_) λh' hsb'=>?_
   ·obtain⟨v,w⟩:=I3.cell x c e;exact absurd w.lt (by rw [z];exact Nat.lt_irrefl _)
   ·exact absurd (E7 (I3.pin p hp).1) (by rw [z];exact Nat.lt_irrefl _)
   ·rw [<- hX] at I6;exact vU I3 f3 I6 hsb'
  ·have:=T.item X' eP eW eK eC i [] s5 σ5 H5 (λ_ _=>False) I5 (stat fr5) st5 go;rw [eA] at this;refine bu this λr s6 ⟨u,hr,h6⟩=>?_;subst hr;refine bu h6 λ_ s7 hq0=>?_;obtain⟨x,H7,I7,r7,y7,st7,fr7⟩:=hq0;have I7':=I7.pinned (stat fr7) (T.obj _ _ st7);have g7:=step x H7 y7 _ s7 u I7' r7;rw [eP,eW,eA,eE,eX] at g7;refine bu g7 λ_ s8 ⟨σ8,H8,I8,q8⟩=>?_;have t8:=q8 _ s8 I8;rw [eP,eW,eA,eE] at t8;refine bu t8 λok s9 ⟨H9,I9,q9⟩=>?_
   have back:∀{σz:St} {Hz:Hp} {sz:Shared} {m':Nat},Inv X' ([] ++ mB fp s7.heap) σz Hz sz->m' < n->W (i + 1) m' σz Hz->∃m,m < n/\∃i σ' H',Inv X' [] σ' H' sz/\tn i sz.heap/\(∀b∈fp,H' b=none)/\W i m σ' H':=λ{σz Hz sz m'} Iz hm wz=>by
    refine⟨m',hm,i + 1,σz,Hz,Iz.jU,T.keep _ _ _ st7 λb hb o e=>(Iz.pin (b,o) (Fx _ (Fx _ (f9 hb e)))).1,λb hb=>?_,wz⟩;obtain⟨o,e,d⟩:=T.obj _ _ st7 b hb;exact (Iz.pin (b,o) (Fx _ (Fx _ (f9 hb e)))).2.1
   cases ok with
   | false =>
    obtain⟨m',hm,w9⟩:=q9
    exact back I9 hm w9
   | true =>
    have e9:=q9 _ s9 I9;rw [eP,eW,eA,eE,eX] at e9;refine bu e9 λuy s10 hq0=>?_;obtain⟨y,H10,I10,r10,ys,hys,hl,m',hm,w10⟩:=hq0;have ap:=o5 (X:=X') _ s10 σ8 H10 (.ref s2.heap.objs.size) [y] (.ref s2.heap.objs.size) [uy] (λ_ H'=>H'=upd H10 s2.heap.objs.size (.lst (ys ++ [y]))) I10 rfl (.cons r10 .nil) ⟨_,ys,y,rfl,rfl,hys,hl,rfl⟩;rw [eP,eW,eA,eX] at ap;refine bu ap λ_ s11 hq0=>?_;obtain⟨_,H11,I11,_,q11⟩:=hq0
    have q11':H11=upd H10 s2.heap.objs.size (.lst (ys ++ [y])):=q11;subst q11';exact back I11 hm w10
 exact codeAny_compStart_list loop (T.self _ _ _ _ _ st4 loop)
theorem jS {elt target iter:Expr} {ifs:List Expr} {pos:Pos} {wi:TI} (hc:X.calm=true) (hi:PI X target iter wi) (O:aS X N' nt ix scope) (hs:∀x,FD iter X.env x=pure x:=by intro _;rfl) :
  PE X (.ListComp elt [⟨target,iter,ifs,0⟩] scope pos) (zo X N' nt ix scope elt target ifs wi):=by
 intro pins s σ H Q I h;rw [eval_ListComp];refine wpAny_comprehension_free (use:=none) rfl hs (O.bb I) O.kind O.names ?_;refine bu (hi pins s σ H _ I h) λv s1 h1=>bu h1 λitv s2 h2=>?_;refine rC (Q:=Q) (RR:=λacc C=>compPost (model X.prog X.w) X.A X.xe none (EP X pins σ Q) acc C) hc O h2 (λJ H1 z=>z) ?_;intro a C H' s6 m q hm _ _ _ _ _ hI;exact⟨m,hm,λh' hsb=>⟨.ref a,H',hI h' hsb,rfl,q⟩⟩
theorem nz {elt target iter:Expr} {ifs:List Expr} {pos spos py:Pos} {y:Str} {i:Nat} {wi:TI} (hc:X.calm=true) (hi:PI X target iter wi) (O:aS X N' nt ix scope) (hN:X.N.Nodup) (hy:X.N[i]?=some y) (hx:Loc X.env.scope y)
  (hsw:swapsWith (.ListComp elt [⟨target,iter,ifs,0⟩] scope pos) (some (.Name y py)) spos.line X.env=pure true)
  (hf:X.fn y=true\/X.env.scope.names.lookup y=some .local) (hs:∀x,FD iter X.env x=pure x:=by intro _;rfl) :
  PS X (.Assign [.Name y py] (.ListComp elt [⟨target,iter,ifs,0⟩] scope pos) spos) (λD=>λσ H=>zo X N' nt ix scope elt target ifs wi σ H λv H'=>D.nx (σ.set i (some v)) H'):=by
 intro pins s σ H D I h;rw [exec_Assign_Name_used _ _ _ _ hsw];refine ER (wpAny_standAt (ER ?_));show wpAny _ X.A (do let _ <- comprehension (.ListComp elt [⟨target,iter,ifs,0⟩] scope pos) scope X.env _ (newList []) false (eval iter X.env) (some (assign (.Name y py) X.env))) _ _ s
 refine ER (Fo (wpAny_comprehension_free (use:=some (assign (.Name y py) X.env)) (Q:=λ_ s'=>SP X pins D .next s') rfl hs (O.bb I) O.kind O.names ?_) (λ_ s' hq=>EW (EW hq)) λ_ _ e=>e);refine bu (hi pins s σ H _ I h) λv s1 h1=>bu h1 λitv s2 h2=>?_;refine rC (Q:=λv H'=>D.nx (σ.set i (some v)) H') (RR:=λacc C=>compPost (model X.prog X.w) X.A X.xe (some (assign (.Name y py) X.env)) (λ_ s'=>SP X pins D .next s') acc C) hc O h2 (λJ H1 z=>z) ?_
 intro a C H' s6 m q hm hC n1 n2 n3 n4 hI;have I6:Inv X pins σ H' s6:=hI s6.heap (.refl ..);show wpAny _ X.A (assign (.Name y py) X.env (.ref a)) _ _ _
 refine wpAny_assign_Name (oF I6 hN hy hx (v:=.ref a) rfl (λs7 I7 hsame=>?_) hf);obtain⟨b,hb,hbx⟩:=hsame
 have hne:C≠b:=by
  rcases hbx with e|e
  ·rw [e];exact n1
  ·exact Ne.symm (n3 y b e)
 refine⟨m,hm.sameBut hb hne,λh' hsb=>⟨_,H',?_,q⟩⟩;exact I7.turned (t':=s7.toks) (λc o hc' e=>(hsb.2 c hc').trans e) hC n1 (.inr n2) n3 n4
end
def bc (nt:Nat) (ix:List Nat) (env:En):En:=List.replicate nt none ++ ix.map λi=>match env[i]? with
 | some (some (.d x))=>some (.d x)
 | _=>none
theorem bM {nt:Nat} {ix:List Nat} {env:En} (i:Nat) (ys:List D):(bc nt ix env)[i]?≠some (some (.own ys)):=λq=>by
 unfold bc at q
 by_cases hj:i < nt
 ·rw [E5 (by simpa using hj),FE] at q
  split at q <;> cases q
 ·rw [E8 (by simpa using hj),E2] at q
  cases e:ix[i - (List.replicate nt (none:Option Lo)).length]? with
  | none=>rw [e] at q;cases q
  | some k =>
   rw [e] at q;simp only [Option.map_some,Option.some.injEq] at q
   split at q <;> cases q
theorem bL {nt:Nat} {ix:List Nat} {env:En} (i:Nat) (ys:List (D×D)):(bc nt ix env)[i]?≠some (some (.dic ys)):=λq=>by
 unfold bc at q
 by_cases hj:i < nt
 ·rw [E5 (by simpa using hj),FE] at q
  split at q <;> cases q
 ·rw [E8 (by simpa using hj),E2] at q
  cases e:ix[i - (List.replicate nt (none:Option Lo)).length]? with
  | none=>rw [e] at q;cases q
  | some k =>
   rw [e] at q;simp only [Option.map_some,Option.some.injEq] at q
   split at q <;> cases q
def Base.here (F H:Hp):Base:=⟨F,H,λp=>H p≠none/\F p=none,λ_ h=>h.1⟩
theorem uA {K:ES} {B:Base} {F H:Hp} {σ:St} {env:En} {nt:Nat} {ix:List Nat} {a:Addr} {o:HO} (r:Rep K B F H σ env) (ha:H a=none):Rep K (Base.here F H) F (upd H a o) (nM nt ix σ) (bc nt ix env):=by
 refine⟨ao.refl _,r.fh.trans (a9 ha),a9 ha,λp h=>h.2,λj x q=>?_,λj ys q=>(bM j ys q).elim,λi j xs ys p _ q=>(bM i xs q).elim,λj ys q=>(bL j ys q).elim,λi j xs ys p _ q=>(bL i xs q).elim⟩;unfold bc at q
 by_cases hj:j < nt
 ·rw [E5 (by simpa using hj),FE] at q
  split at q <;> cases q
 ·rw [E8 (by simpa using hj),E2,List.length_replicate] at q
  cases e:ix[j - nt]? with
  | none=>rw [e] at q;cases q
  | some k =>
   rw [e] at q;simp only [Option.map_some,Option.some.injEq] at q
   split at q
   ·rename_i x' h';cases q;obtain⟨v,h1,h2⟩:=r.dv k x h';refine⟨v,?_,h2⟩;unfold nM;rw [E8 (by simpa using hj),E2,List.length_replicate,e];simp only [Option.map_some,h1,Option.join];rfl
   ·cases q
theorem Rep.here {K:ES} {B:Base} {F H:Hp} {σ:St} {env:En} (r:Rep K B F H σ env) (no:∀(i:Nat) ys,env[i]?≠some (some (.own ys))) (no':∀(i:Nat) ys,env[i]?≠some (some (.dic ys))):Rep K (Base.here F H) F H σ env :=
 ⟨ao.refl _,r.fh,ao.refl _,λp h=>h.2,r.dv,λi ys q=>(no i ys q).elim,λi j xs ys p _ q=>(no i xs q).elim,λi ys q=>(no' i ys q).elim,λi j xs ys p _ q=>(no' i xs q).elim⟩
theorem Rep.there {K:ES} {B:Base} {F H F' H':Hp} {σ:St} {env bW:En} (r:Rep K (Base.here F H) F' H' σ env) (f0:ao B.F F) (h0:ao B.H H) (nf:∀p,B.N p->F p=none) (he:∀(i:Nat) l,bW[i]?=some (some l)->env[i]?=some (some l)) (no:∀(i:Nat) ys,bW[i]?≠some (some (.own ys))) (no':∀(i:Nat) ys,bW[i]?≠some (some (.dic ys))):Rep K B F' H' σ bW:=by
 refine⟨f0.trans r.f0,r.fh,h0.trans r.h0,λp hp=>?_,λi x q=>r.dv i x (he i _ q),λi ys q=>(no i ys q).elim,λi j xs ys p _ q=>(no i xs q).elim,λi ys q=>(no' i ys q).elim,λi j xs ys p _ q=>(no' i xs q).elim⟩;refine r.nf p ⟨λz=>?_,nf p hp⟩;have q:=B.nb p hp
 cases w:B.H p with
 | none=>exact q w
 | some o=>rw [h0 _ _ w] at z;cases z
structure jW (K:ES) (J:It) (F1:Hp) (xs:List D):Prop where
 go:∀(i:Nat) (G H':Hp),ao F1 G->ao G H'->i < xs.length->J.go i H'
 yld:∀(i:Nat) (G H':Hp) (y:V) (H'':Hp) (x:D),ao F1 G->ao G H'->xs[i]?=some x->J.yld i H' y H''->H''=H'/\Den K G x y
 stop:∀(G H':Hp),ao F1 G->ao G H'->J.stop xs.length H'
theorem tw {K:ES} {F1:Hp} {a:Addr} {vs:List V} {xs:List D} (q:fL K F1 a vs) (r:aq K F1 xs vs):jW K (Dg K a) F1 xs where
 go:=λi G H' s1 s2 hi=>by
  have:i < vs.length:=by rw [<- r.length];exact hi
  exact⟨vs,vs[i],s2.seq (s1.seq q),by simp [this]⟩
 yld:=λi G H' y H'' x s1 s2 hx hy=>by
  obtain⟨v,h1,h2⟩:=r.get hx;obtain⟨e1,e2⟩:=hy;have:=e2 vs (s2.seq (s1.seq q));rw [h1] at this;cases this;exact⟨e1,Den.mono s1 _ _ h2⟩
 stop:=λG H' s1 s2=>⟨vs,s2.seq (s1.seq q),by rw [r.length];exact E3 _⟩
theorem vy {K:ES} {F1:Hp} {a:Addr} {vs:List V} {xs:List D} (q:jg K F1 a vs) (r:aq K F1 xs vs):jW K (Dd K a) F1 xs where
 go:=λi G H' s1 s2 hi=>by
  have:i < vs.length:=by rw [<- r.length];exact hi
  exact⟨vs,vs[i],ao.bS s2 (ao.bS s1 q),by simp [this]⟩
 yld:=λi G H' y H'' x s1 s2 hx hy=>by
  obtain⟨v,h1,h2⟩:=r.get hx;obtain⟨e1,e2⟩:=hy;have:=e2 vs (ao.bS s2 (ao.bS s1 q));rw [h1] at this;cases this;exact⟨e1,Den.mono s1 _ _ h2⟩
 stop:=λG H' s1 s2=>⟨vs,ao.bS s2 (ao.bS s1 q),by rw [r.length];exact E3 _⟩
theorem vp {K:ES} {F1:Hp} {z:Str}:jW K (Ck z) F1 (dZ z) where
 go:=λi G H' s1 s2 hi=>by
  show i < z.cps.size
  simpa [dZ] using hi
 yld:=λi G H' y H'' x s1 s2 hx hy=>by
  obtain⟨e1,c,hc,rfl⟩:=hy;unfold dZ at hx;rw [E2,FY,hc] at hx;cases hx;exact⟨e1,jo⟩
 stop:=λG H' s1 s2=>by
  show z.cps.size<=_
  simp [dZ]
theorem eV {K:ES} {F1:Hp} {lo:Int} {n:Nat}:jW K (zh lo n) F1 (aX lo n) where
 go:=λi G H' s1 s2 hi=>by
  have:i < n:=by simpa [aX] using hi
  exact this
 yld:=λi G H' y H'' x s1 s2 hx hy=>by
  obtain⟨e1,e2⟩:=hy
  have hi:i < n:=by
   have:=(EO.mp hx).1
   simpa [aX] using this
  have:(aX lo n)[i]?=some (D.int (lo + (i:Int))):=by simp [aX,hi]
  rw [this] at hx;cases hx;exact⟨e1,by rw [e2];exact br⟩
 stop:=λG H' s1 s2=>by
  have:(aX lo n).length=n:=by simp [aX]
  rw [this];exact E3 n
def comps (tt:TB) (te:TD) (bW:En) (Q:List D->Prop):List D->List D->Prop
 | [],acc=>Q acc
 | x :: xs,acc=>tt (bW.set 0 (some (.d x))) λok=>if ok=true then te (bW.set 0 (some (.d x))) λy=>acc.length < sizeLine/\comps tt te bW Q xs (acc ++ [y]) else comps tt te bW Q xs acc
structure jV (X:Cx) (ifs:List Expr) (t:TB):Prop where
 of ::
 run:∀(B:Base) (σ:St) (F H:Hp) (env:En) (Q:Bool->Prop),Rep X.K B F H σ env->t env Q->tN X ifs σ H (RB X B σ env F Q)
instance {X:Cx} {ifs:List Expr} {t:TB}:CoeFun (jV X ifs t) (λ_=>∀(B:Base) (σ:St) (F H:Hp) (env:En) (Q:Bool->Prop),Rep X.K B F H σ env->t env Q->tN X ifs σ H (RB X B σ env F Q)):=⟨jV.run⟩
def bU:TB:=λ_ Q=>Q true
section
variable {X:Cx}
theorem cO:jV X [] bU:=⟨λB σ F H env Q rp h pins s I=>wpAny_tests_nil ⟨H,I,F,rp,ao.refl _,h⟩⟩
theorem ma {c:Expr} {t:TB} (hx:X.xe=λ_ _=>False) (h:QT X c t):jV X [c] t:=by
 refine⟨λB σ F H env Q rp hq pins s I=>wpAny_tests_one ?_⟩;have:=h B σ F H env Q rp hq pins s I;rw [hx] at this;exact this
variable {N':List Str} {nt:Nat} {ix:List Nat} {scope:Scope} {elt iter a b:Expr} {ifs:List Expr} {x:Str} {px pos:Pos} {tt:TB} {te ti:TD} {ts:dS}
theorem nv (hN:N'.Nodup) (h0:N'[0]?=some x) (hL:Loc (relabel scope X.env) x) (hF:(scope.names.lookup x == some .cell)=true\/(relabel scope X.env).names.lookup x=some .local)
  (ht:∀C s H fp pins,jV (aH X N' scope C s H fp pins) ifs tt) (he:∀C s H fp pins,QE (aH X N' scope C s H fp pins) elt te)
  {B:Base} {σ:St} {F F1 H1:Hp} {env:En} {Q:List D->Prop} {J:It} {xs:List D} (sF:ao F F1) (r1:Rep X.K B F1 H1 σ env) (S:jW X.K J F1 xs) (q1:comps tt te (bc 1 ix env) Q xs []) :
  ∀(a C:Addr) (s:Shared) (fp:List Addr) (pins:List (Addr×Obj)),H1 a=none ->
   ∃W:Nat->Nat->St->Hp->Prop,(∃m,W 0 m (nM 1 ix σ) (upd H1 a (.lst [])))/\∀i m σ' H',W i m σ' H'->(J.stop i H'/\RF X B σ env F Q (.ref a) H')\/(J.go i H'/\∀y H2,J.yld i H' y H2 ->
    wG (aH X N' scope C s (upd H1 a (.lst [])) fp pins) (.Name x px) y σ' H2 λσ2 H3=>tN (aH X N' scope C s (upd H1 a (.lst [])) fp pins) ifs σ2 H3 λok H4=>if ok=true then
     wE (aH X N' scope C s (upd H1 a (.lst [])) fp pins) elt σ2 H4 λy H5=>∃ys,H5 a=some (.lst ys)/\ys.length < sizeLine/\∃m',m' < m/\W (i + 1) m' σ2 (upd H5 a (.lst (ys ++ [y])))
     else ∃m',m' < m/\W (i + 1) m' σ2 H4):=by
 intro a C s fp pins ha;have hF1a:F1 a=none:=r1.lX ha
 refine⟨λi m σ' H'=>m=xs.length - i/\i<=xs.length/\∃(F':Hp) (acc:List D) (ys:List V),Rep X.K (Base.here F1 H1) F' H' σ' (bc 1 ix env)/\H' a=some (.lst ys)/\F' a=none/\aq X.K F' acc ys/\comps tt te (bc 1 ix env) Q (xs.drop i) acc,
  ⟨xs.length,by simp,FC _,F1,[],[],uA r1 ha,av,hF1a,aT,by simpa using q1⟩,?_⟩
 rintro i m σ2 H2 ⟨rfl,hi2,F2,acc,ys,r2,hys,hFa,hd,q2⟩;have sH:ao H1 H2:=r2.h0
 by_cases hlt:i < xs.length
 ·have hxi:xs[i]?=some xs[i]:=by simp [hlt]
  rw [drop_cons hxi] at q2;refine .inr ⟨S.go i F2 H2 r2.f0 r2.fh hlt,λy H3 hy=>?_⟩;obtain⟨eH,dy⟩:=S.yld i F2 H2 y H3 xs[i] r2.f0 r2.fh hxi hy;subst eH;have r2':=r2.here bM bL;have g:=aC (X:=aH X N' scope C s (upd H1 a (.lst [])) fp pins) (pos:=px) 0 hN h0 hL hF;refine hG (g (Base.here F2 H3) σ2 F2 H3 (bc 1 ix env) (λe=>e=(bc 1 ix env).set 0 (some (.d xs[i]))) xs[i] y r2' dy rfl) λσ3 H4 hq0=>?_
  obtain⟨F4,env4,r4,s4,q4⟩:=hq0;subst q4;intro pins' s' I';refine Fo (ht C s (upd H1 a (.lst [])) fp pins (Base.here F2 H3) σ3 F4 H4 _ _ r4 q2 pins' s' I') (λok s5 ⟨H5,I5,F5,r5,s5',q5⟩=>⟨H5,I5,?_⟩) λ_ _ e=>e
  have weak':∀(j:Nat) l,(bc 1 ix env)[j]?=some (some l)->((bc 1 ix env).set 0 (some (.d xs[i])))[j]?=some (some l):=λj l hj=>by
   have hj0:j≠0:=λz=>by
    subst z;simp [bc] at hj
   rw [EU (Ne.symm hj0)];exact hj
  cases ok with
  | false =>
   have q5':comps tt te (bc 1 ix env) Q (xs.drop (i + 1)) acc:=q5
   refine⟨xs.length - (i + 1),by omega,rfl,by omega,F5,acc,ys,r5.there r2.f0 sH (λp hp=>r2.nf p hp) weak' bM bL,r5.h0 _ _ hys,r5.nf a ⟨by rw [hys];simp,hFa⟩,aq.mono r5.f0 _ _ hd,q5'⟩
  | true =>
   have q5':te ((bc 1 ix env).set 0 (some (.d xs[i]))) λy=>acc.length < sizeLine/\comps tt te (bc 1 ix env) Q (xs.drop (i + 1)) (acc ++ [y]):=q5;refine aE (he C s (upd H1 a (.lst [])) fp pins (Base.here F2 H3) σ3 F5 H5 _ _ r5 q5') λz H6 hq0=>?_;obtain⟨F6,d,r6,s6,d6,hl,q6⟩:=hq0;have ha6:H6 a=some (.lst ys):=r6.h0 _ _ hys;have hF6:F6 a=none:=r6.nf a ⟨by rw [hys];simp,hFa⟩;refine⟨ys,ha6,by rw [<- hd.length];exact hl,xs.length - (i + 1),by omega,rfl,by omega,F6,acc ++ [d],ys ++ [z],?_,av,hF6,(aq.mono r6.f0 _ _ hd).append (aM d6 aT),q6⟩
   have r7:Rep X.K (Base.here F1 H1) F6 H6 σ3 (bc 1 ix env):=r6.there r2.f0 sH (λp hp=>r2.nf p hp) weak' bM bL;refine⟨r7.f0,λb o hb=>?_,λb o hb=>?_,r7.nf,r7.dv,λj zs q=>(bM j zs q).elim,r7.ne,λj zs q=>(bL j zs q).elim,r7.nm⟩
   ·have:b≠a:=λw=>by subst w;rw [hF6] at hb;cases hb
    rw [au this];exact r7.fh _ _ hb
   ·have:b≠a:=λw=>by subst w;have hb':H1 b=some o:=hb;rw [ha] at hb';cases hb'
    rw [au this];exact r7.h0 _ _ hb
 ·have e:i=xs.length:=by omega
  subst e;rw [FP (E3 _)] at q2;refine .inl ⟨S.stop F2 H2 r2.f0 r2.fh,F2,λb=>if b=a then none else H2 b,a,ys,acc,rfl,if_pos rfl,?_,?_,sF.trans r2.f0,hd,q2⟩
  ·funext b;unfold upd
   by_cases z:b=a
   ·rw [if_pos z,z];exact hys
   ·rw [if_neg z];show H2 b=if b=a then none else H2 b
    rw [if_neg z]
  ·refine r1.ext r2.f0 (λb o hb=>?_) (λb o hb=>?_) λp h1 h2=>r2.nf p ⟨h1,h2⟩
   ·have:b≠a:=λw=>by subst w;rw [hFa] at hb;cases hb
    show (if b=a then none else H2 b)=_
    rw [if_neg this];exact r2.fh _ _ hb
   ·have:b≠a:=λw=>by subst w;rw [ha] at hb;cases hb
    show (if b=a then none else H2 b)=_
    rw [if_neg this];exact sH _ _ hb
theorem fK (hN:N'.Nodup) (h0:N'[0]?=some x) (hx:(relabel scope X.env).names.lookup x=some .local)
  (ht:∀C s H fp pins,jV (aH X N' scope C s H fp pins) ifs tt) (he:∀C s H fp pins,QE (aH X N' scope C s H fp pins) elt te)
  {B:Base} {σ:St} {F F1 H1:Hp} {env:En} {Q:List D->Prop} {J:It} {xs:List D} (sF:ao F F1) (r1:Rep X.K B F1 H1 σ env) (S:jW X.K J F1 xs) (q1:comps tt te (bc 1 ix env) Q xs []) :
  ∀(a C:Addr) (s:Shared) (fp:List Addr) (pins:List (Addr×Obj)),H1 a=none ->
   ∃W:Nat->Nat->St->Hp->Prop,(∃m,W 0 m (nM 1 ix σ) (upd H1 a (.lst [])))/\∀i m σ' H',W i m σ' H'->(J.stop i H'/\RF X B σ env F Q (.ref a) H')\/(J.go i H'/\∀y H2,J.yld i H' y H2 ->
    wG (aH X N' scope C s (upd H1 a (.lst [])) fp pins) (.Name x px) y σ' H2 λσ2 H3=>tN (aH X N' scope C s (upd H1 a (.lst [])) fp pins) ifs σ2 H3 λok H4=>if ok=true then
     wE (aH X N' scope C s (upd H1 a (.lst [])) fp pins) elt σ2 H4 λy H5=>∃ys,H5 a=some (.lst ys)/\ys.length < sizeLine/\∃m',m' < m/\W (i + 1) m' σ2 (upd H5 a (.lst (ys ++ [y])))
     else ∃m',m' < m/\W (i + 1) m' σ2 H4) :=
 nv hN h0 (.inl hx) (.inr hx) ht he sF r1 S q1
theorem RF.rv {B:Base} {σ:St} {env:En} {F:Hp} {Q:D->Prop} {v:V} {H:Hp} (h:RF X B σ env F (λds=>Q (.lst ds)) v H):RV X B σ env F Q v H:=by
 obtain⟨F',H1,p,vs,ds,rfl,hp,rfl,r,s,hd,q⟩:=h;exact (RV.vG r hd q p hp).weaken s
def a8 (ts:dS):TD:=λenv Q=>ts env λds=>Q (.lst ds)
theorem QF.e {e:Expr} {ts:dS} (h:QF X e ts):QE X e (a8 ts):=⟨λB σ F H env Q rp hq=>aE (h B σ F H env _ rp hq) λv H' z=>z.rv⟩
def dR (ix:List Nat) (ti:TD) (tt:TB) (te:TD):dS:=λenv Q=>ti env λd=>∃xs,bA d=some xs/\comps tt te (bc 1 ix env) Q xs []
theorem nB {B:Base} {σ:St} {F H:Hp} {env:En} {P:List D->Prop} {R:It->Hp->Prop} (hi:QE X iter ti) (rp:Rep X.K B F H σ env) (h:ti env λd=>∃xs,bA d=some xs/\P xs)
  (hR:∀(J:It) (F1 H1:Hp) (xs:List D),Rep X.K B F1 H1 σ env->ao F F1->jW X.K J F1 xs->P xs->R J H1):B8 X.K (wE X iter) σ H R:=by
 refine aE (hi B σ F H env _ rp h) λv H1 hq0=>?_;obtain⟨F1,d,r1,s1,d1,xs,hx,q1⟩:=hq0
 cases d with
 | lst ys =>
  simp only [bA] at hx;cases hx;simp only [Den] at d1;obtain⟨a,vs,rfl,q,r⟩:=d1
  exact .inl ⟨a,rfl,.inl ⟨⟨vs,r1.fh.seq q⟩,hR _ F1 H1 _ r1 s1 (tw q r) q1⟩⟩
 | tup ys =>
  simp only [bA] at hx;cases hx;simp only [Den] at d1;obtain⟨a,vs,rfl,q,r⟩:=d1
  exact .inl ⟨a,rfl,.inr ⟨⟨vs,ao.bS r1.fh q⟩,hR _ F1 H1 _ r1 s1 (vy q r) q1⟩⟩
 | str z =>
  simp only [bA] at hx;cases hx;simp only [Den] at d1;subst d1
  exact .inr ⟨z,rfl,hR _ F1 H1 _ r1 s1 vp q1⟩
 | _=>simp only [bA] at hx;cases hx
theorem lG (hc:X.calm=true) (O:aS X N' 1 ix scope) (hN:N'.Nodup) (h0:N'[0]?=some x) (hx:(relabel scope X.env).names.lookup x=some .local) (hi:QE X iter ti)
  (ht:∀C s H fp pins,jV (aH X N' scope C s H fp pins) ifs tt) (he:∀C s H fp pins,QE (aH X N' scope C s H fp pins) elt te) (hs:∀x,FD iter X.env x=pure x:=by intro _;rfl) :
  QF X (.ListComp elt [⟨.Name x px,iter,ifs,0⟩] scope pos) (dR ix ti tt te):=by
 refine⟨?_⟩;intro B σ F H env Q rp h;refine bN (jS hc (qu bz) O hs) ?_;exact nB hi rp h λJ F1 H1 xs r1 s1 S q=>fK hN h0 hx ht he s1 r1 S q
theorem qE (hc:X.calm=true) (O:aS X N' 1 ix scope) (hN:N'.Nodup) (h0:N'[0]?=some x) (hx:(relabel scope X.env).names.lookup x=some .cell) (hx2:(scope.names.lookup x == some .cell)=true) (hi:QE X iter ti)
  (ht:∀C s H fp pins,jV (aH X N' scope C s H fp pins) ifs tt) (he:∀C s H fp pins,QE (aH X N' scope C s H fp pins) elt te) (hs:∀x,FD iter X.env x=pure x:=by intro _;rfl) :
  QF X (.ListComp elt [⟨.Name x px,iter,ifs,0⟩] scope pos) (dR ix ti tt te):=by
 refine⟨?_⟩;intro B σ F H env Q rp h;refine bN (jS hc (qu bz) O hs) ?_;exact nB hi rp h λJ F1 H1 xs r1 s1 S q=>nv hN h0 (.inr hx) (.inl hx2) ht he s1 r1 S q
def dk (f:List D->(Int->Nat->Prop)->Prop) (ix:List Nat) (ts:dS) (tt:TB) (te:TD):dS:=λenv Q=>ts env λxs=>f xs λlo n=>comps tt te (bc 1 ix env) Q (aX lo n) []
theorem vq {p pos2:Pos} (hc:X.calm=true) (O:aS X N' 1 ix scope) (hN:N'.Nodup) (h0:N'[0]?=some x) (hx:(relabel scope X.env).names.lookup x=some .local) (hgl:Gl X "range") (hm:X.mg "range" = none) (ha:QA X [a] ts)
  (ht:∀C s H fp pins,jV (aH X N' scope C s H fp pins) ifs tt) (he:∀C s H fp pins,QE (aH X N' scope C s H fp pins) elt te) (hst:starEach [a] X.env=[(false,eval a X.env)]:=by rfl)
  (hs:∀x,FD (.Call (.Name "range" p) [a] [] pos2) X.env x=pure x:=by intro _;rfl) :
  QF X (.ListComp elt [⟨.Name x px,.Call (.Name "range" p) [a] [] pos2,ifs,0⟩] scope pos) (dk jy ix ts tt te):=by
 refine⟨?_⟩;intro B σ F H env Q rp h;refine bN (jS hc (km hgl hm iV hst) O hs) ?_;refine cu (ha B σ F H env _ rp h) λvs H1 hq0=>?_;obtain⟨F1,ds,r1,s1,d1,q1⟩:=hq0
 (try dsimp only at q1);unfold jy at q1
 split at q1
 ·simp only [aq,Den] at d1;obtain⟨v,r,rfl,rfl,rfl⟩:=d1;exact⟨_,rfl,q1.1.1,q1.1.2,fK hN h0 hx ht he s1 r1 eV q1.2⟩
 ·exact q1.elim
theorem vn {p pos2:Pos} (hc:X.calm=true) (O:aS X N' 1 ix scope) (hN:N'.Nodup) (h0:N'[0]?=some x) (hx:(relabel scope X.env).names.lookup x=some .local) (hgl:Gl X "range") (hm:X.mg "range" = none) (ha:QA X [a,b] ts)
  (ht:∀C s H fp pins,jV (aH X N' scope C s H fp pins) ifs tt) (he:∀C s H fp pins,QE (aH X N' scope C s H fp pins) elt te) (hst:starEach [a,b] X.env=[(false,eval a X.env),(false,eval b X.env)]:=by rfl)
  (hst2:starEach [b] X.env=[(false,eval b X.env)]:=by rfl) (hs:∀x,FD (.Call (.Name "range" p) [a,b] [] pos2) X.env x=pure x:=by intro _;rfl) :
  QF X (.ListComp elt [⟨.Name x px,.Call (.Name "range" p) [a,b] [] pos2,ifs,0⟩] scope pos) (dk tY ix ts tt te):=by
 refine⟨?_⟩;intro B σ F H env Q rp h;refine bN (jS hc (oo hgl hm iV hst hst2) O hs) ?_;refine cu (ha B σ F H env _ rp h) λvs H1 hq0=>?_;obtain⟨F1,ds,r1,s1,d1,q1⟩:=hq0
 (try dsimp only at q1);unfold tY at q1
 split at q1
 ·simp only [aq,Den] at d1;obtain⟨v,r,rfl,rfl,v',r',rfl,rfl,rfl⟩:=d1;exact⟨_,_,rfl,q1.1,fK hN h0 hx ht he s1 r1 eV q1.2⟩
 ·exact q1.elim
end
section
variable {X:Cx} {a b c e:Expr} {es:List Expr} {ta tb tc:TD} {tA tB':TB} {ts:dS} {p p2 pos:Pos} {rest:List Expr}
theorem xB (hm:X.mg "abs" = none) (ha:QA X [e] ts) (hg:Gl X "abs":=by rfl) (he:starEach [e] X.env=(false,eval e X.env) :: starEach [] X.env:=by exact aV rfl):QE X (.Call (.Name "abs" p) [e] [] pos) (az tu ts) :=
 fX xC AO hg hm vk ha (he:=he)
theorem ow (hm:X.mg "len" = none) (ha:QA X [e] ts) (hg:Gl X "len":=by rfl) (he:starEach [e] X.env=(false,eval e X.env) :: starEach [] X.env:=by exact aV rfl):QE X (.Call (.Name "len" p) [e] [] pos) (az lA ts) :=
 fX (jT.or pq) Bm hg hm o3 ha (he:=he)
theorem Cz (hm:X.mg "min" = none) (ha:QA X [a,b] ts) (hg:Gl X "min":=by rfl) (hc:X.calm=true:=by rfl) (he:starEach [a,b] X.env=(false,eval a X.env) :: starEach [b] X.env:=by exact aV rfl) (hpl:(backTo pos (starEach [b] X.env)).any (·.1)=false:=by rfl):QE X (.Call (.Name "min" p) [a,b] [] pos) (az xR ts) :=
 fX (vx hc) Bi hg hm oK ha (he:=he) (hpl:=hpl)
theorem zr (hm:X.mg "all" = none) (ha:QA X [e] ts) (hg:Gl X "all":=by rfl) (hc:X.calm=true:=by rfl) (he:starEach [e] X.env=(false,eval e X.env) :: starEach [] X.env:=by exact aV rfl):QE X (.Call (.Name "all" p) [e] [] pos) (az xj ts) :=
 fX (v5 hc) A0 hg hm uR ha (he:=he)
theorem eD (hm:X.mg "tuple" = none) (ha:QA X [e] ts) (hg:Gl X "tuple":=by rfl) (he:starEach [e] X.env=(false,eval e X.env) :: starEach [] X.env:=by exact aV rfl):QE X (.Call (.Name "tuple" p) [e] [] pos) (az eJ ts) :=
 wU nN xZ hg hm gB ha (he:=he)
def DP (n:String) (x:D) (Q:D->Prop):Prop:=∃k,yK (Eg x) n=some k/\Q (.bl k)
def mT (n:String) (ta:TD):TD:=λenv Q=>ta env λx=>DP n x Q
theorem uB {n:Str} {m:String} (hm:X.mg "isinstance" = none) (ht:X.mg n=none) (hb:bootBuiltins n=some (.type m)) (ha:QE X a ta) (hg:Gl X "isinstance":=by rfl) (hg2:Gl X n:=by rfl) (hn:n≠"__name__":=by decide) (hd:(n == ("__debug__" : Str))=false:=by decide)
  (he:starEach [a,.Name n p2] X.env=(false,eval a X.env) :: starEach [.Name n p2] X.env:=by exact aV rfl) (hpl:(backTo pos (starEach [.Name n p2] X.env)).any (·.1)=false:=by rfl)
  (he2:starEach [.Name n p2] X.env=(false,eval (.Name n p2) X.env) :: starEach [] X.env:=by exact aV rfl):QE X (.Call (.Name "isinstance" p) [a,.Name n p2] [] pos) (mT m ta):=by
 have h:=fX (p:=p) (pos:=pos) wX Ab hg hm oz (ae ha (ae (Eo hg2 ht hb hn hd) ah he2) he) (he:=he) (hpl:=hpl);exact⟨λB σ F H env Q rp hq=>h B σ F H env Q rp hq⟩
variable {N':List Str} {nt:Nat} {ix:List Nat} {scope:Scope} {elt iter:Expr} {ifs:List Expr} {x:Str} {px py spos:Pos} {tt:TB} {te ti:TD}
theorem aS.of (sc:Scope) (hsc:X.env.scope=sc) (kind:scope.kind=.function) (nocell:∀x∈scope.names,x.2≠.cell) (names:∀x∈scope.names,x.2=.local->scope.names.lookup x.1=some .local)
  (free:∀x∈scope.names,x.2=.free->sc.names.lookup x.1=some .cell)
  (caps:∀(j:Nat) (i:Nat),ix[j]?=some i->∃x,N'[nt + j]?=some x/\X.N[i]?=some x/\(x,NameKind.free)∈scope.names/\(relabel scope X.env).names.lookup x=some .cell) (len:N'.length=nt + ix.length):aS X N' nt ix scope :=
 ⟨kind,λx _ z=>nocell _ z rfl,names,by rw [hsc];exact λx h1 h2=>.inl (free x h1 h2),λj i h=>let ⟨x,a,b,c,d⟩:=caps j i h;⟨x,a,b,c,.inl d⟩,len⟩
theorem aS.Ej (sc:Scope) (hsc:X.env.scope=sc) (kind:scope.kind=.function) (apart:∀x∈scope.names,x.2=.free->(x.1,NameKind.cell)∉scope.names) (names:∀x∈scope.names,x.2=.local->scope.names.lookup x.1=some .local)
  (free:∀x∈scope.names,x.2=.free->sc.names.lookup x.1=some .cell)
  (caps:∀(j:Nat) (i:Nat),ix[j]?=some i->∃x,N'[nt + j]?=some x/\X.N[i]?=some x/\(x,NameKind.free)∈scope.names/\(relabel scope X.env).names.lookup x=some .cell) (len:N'.length=nt + ix.length):aS X N' nt ix scope :=
 ⟨kind,λx hx=>apart (x,.free) hx rfl,names,by rw [hsc];exact λx h1 h2=>.inl (free x h1 h2),λj i h=>let ⟨x,a,b,c,d⟩:=caps j i h;⟨x,a,b,c,.inl d⟩,len⟩
theorem aS.ED (sc:Scope) (hsc:X.env.scope=sc) (kind:scope.kind=.function) (nocell:∀x∈scope.names,x.2≠.cell) (names:∀x∈scope.names,x.2=.local->scope.names.lookup x.1=some .local)
  (free:∀x∈scope.names,x.2=.free->sc.names.lookup x.1=some .cell\/sc.names.lookup x.1=some .free)
  (caps:∀(j:Nat) (i:Nat),ix[j]?=some i->∃x,N'[nt + j]?=some x/\X.N[i]?=some x/\(x,NameKind.free)∈scope.names/\((relabel scope X.env).names.lookup x=some .cell\/(relabel scope X.env).names.lookup x=some .free)) (len:N'.length=nt + ix.length):aS X N' nt ix scope :=
 ⟨kind,λx _ z=>nocell _ z rfl,names,by rw [hsc];exact free,caps,len⟩
end
def Base.guard (B:Base) (p:Addr) (o:HO):Base:=⟨B.F,upd B.H p o,λa=>a=p\/B.N a,λa h=>by
 by_cases e:a=p
 ·subst e;rw [av];simp
 ·rw [au e];exact B.nb a (h.resolve_left e)⟩
section
variable {K:ES} {B:Base} {F H:Hp} {σ:St} {env:En} {p:Addr} {o o':HO}
theorem Rep.guarded (r:Rep K B F H σ env) (hp:H p=none):Rep K (B.guard p o) F (upd H p o) σ env where
 f0:=r.f0
 fh:=r.fh.trans (a9 hp)
 h0:=λb u q=>by
  by_cases e:b=p
  ·subst e;rw [av];have q':upd B.H b o b=some u:=q;rw [av] at q';exact q'
  ·rw [au e];have q':upd B.H p o b=some u:=q;rw [au e] at q';exact r.h0 _ _ q'
 nf:=λa h=>by
  rcases h with rfl|h
  ·exact r.lX hp
  ·exact r.nf a h
 dv:=r.dv
 ov:=λi xs h=>by
  obtain⟨q,vs,h1,h2,h3,h4,h5⟩:=r.ov i xs h;have ne:q≠p:=λe=>by subst e;rw [hp] at h2;cases h2
  exact⟨q,vs,h1,by rw [au ne];exact h2,h3,by show upd B.H p o q=none;rw [au ne];exact h4,h5⟩
 ne:=r.ne
 mv:=λi xs h=>by
  obtain⟨q,ep,us,vs,h1,h2,h3,h4,h5⟩:=r.mv i xs h;have ne:q≠p:=λe=>by subst e;rw [hp] at h2;cases h2
  exact⟨q,ep,us,vs,h1,by rw [au ne];exact h2,h3,by show upd B.H p o q=none;rw [au ne];exact h4,h5⟩
 nm:=r.nm
theorem Rep.pN (r:Rep K (B.guard p o) F H σ env) (hb:B.H p=none):Rep K B F H σ env/\H p=some o/\F p=none:=by
 refine⟨⟨r.f0,r.fh,λb u q=>r.h0 b u ?_,λa h=>r.nf a (.inr h),r.dv,λi xs h=>?_,r.ne,λi xs h=>?_,r.nm⟩,r.h0 p o av,r.nf p (.inl rfl)⟩
 ·show upd B.H p o b=some u
  have:b≠p:=λe=>by subst e;rw [hb] at q;cases q
  rw [au this];exact q
 ·obtain⟨q,vs,h1,h2,h3,h4,h5⟩:=r.ov i xs h;have h4':upd B.H p o q=none:=h4;have ne:q≠p:=λe=>by subst e;rw [av] at h4';cases h4'
  rw [au ne] at h4';exact⟨q,vs,h1,h2,h3,h4',h5⟩
 ·obtain⟨q,ep,us,vs,h1,h2,h3,h4,h5⟩:=r.mv i xs h;have h4':upd B.H p o q=none:=h4;have ne:q≠p:=λe=>by subst e;rw [av] at h4';cases h4'
  rw [au ne] at h4';exact⟨q,ep,us,vs,h1,h2,h3,h4',h5⟩
theorem Rep.settle (r:Rep K B F H σ env) (hp:H p=some o) (hf:F p=none) (hb:B.H p=none) (hk:∀vs,o≠.lst vs) (hx:∀φ,o≠.ext φ:=by intro φ e;cases e):Rep K B (upd F p o') (upd H p o') σ env/\ao F (upd F p o'):=by
 have s1:ao F (upd F p o'):=a9 hf;refine⟨⟨r.f0.trans s1,oj r.fh,λb u q=>?_,λa h=>?_,λi x h=>?_,λi xs h=>?_,r.ne,λi xs h=>?_,r.nm⟩,s1⟩
 ·have:b≠p:=λe=>by subst e;rw [hb] at q;cases q
  rw [au this];exact r.h0 _ _ q
 ·have:a≠p:=λe=>by subst e;exact B.nb a h hb
  rw [au this];exact r.nf a h
 ·obtain⟨v,h1,h2⟩:=r.dv i x h;exact⟨v,h1,Den.mono s1 _ _ h2⟩
 ·obtain⟨q,vs,h1,h2,h3,h4,h5⟩:=r.ov i xs h;have ne:q≠p:=λe=>by subst e;rw [hp] at h2;cases h2;exact hk vs rfl
  exact⟨q,vs,h1,by rw [au ne];exact h2,by rw [au ne];exact h3,h4,aq.mono s1 _ _ h5⟩
 ·obtain⟨q,ep,us,vs,h1,h2,h3,h4,h5,h6⟩:=r.mv i xs h;have ne:q≠p:=λe=>by subst e;rw [hp] at h2;cases h2;exact hx _ rfl
  exact⟨q,ep,us,vs,h1,by rw [au ne];exact h2,by rw [au ne];exact h3,h4,aq.mono s1 _ _ h5,aq.mono s1 _ _ h6⟩
end
def rD (ks:List Key) (xs:List D) (k:Key):Option D:=match ks,xs with
 | k' :: ks,x :: xs=>if k'=k then some x else rD ks xs k
 | _,_=>none
theorem ou {K:ES} {F:Hp}:∀{ks:List Key} {xs:List D} {vs:List V} {k:Key} {d:D},aq K F xs vs->rD ks xs k=some d->∃v,jG (ks.zip vs) k=some v/\Den K F d v
 | [],xs,vs,k,d,h,e=>by cases xs <;> cases e
 | k' :: ks,[],vs,k,d,h,e=>by cases e
 | k' :: ks,x :: xs,vs,k,d,h,e=>by
  simp only [aq] at h;obtain⟨v,r,rfl,a,b⟩:=h;unfold rD at e;rw [List.zip_cons_cons]
  split at e
  ·rename_i z;cases e;exact⟨v,jJ (p:=(k',v)) z,a⟩
  ·rename_i z;rw [ju (p:=(k',v)) z];exact ou b e
theorem jL:∀(kvs acc:List (Key×V)),(acc ++ kvs).map (·.1) |>.Nodup->fv acc kvs=acc ++ kvs
 | [],acc,_=>by simp [fv]
 | (k,v) :: r,acc,h=>by
  have hn:jG acc k=none:=by
   rw [<- Option.not_isSome_iff_eq_none,<- ny];intro z;rw [List.any_eq_true] at z;obtain⟨x,hx,e⟩:=z;have e':x.1=k:=by simpa using e
   rw [List.map_append,Gf] at h;exact h.2.2 k (by rw [<- e'];exact List.mem_map_of_mem hx) k (by simp) rfl
  show fv (putK acc k v) r=_
  rw [xu v hn,jL r (acc ++ [(k,v)]) (by simpa using h)];simp
section
variable {X:Cx} {a b:Expr} {ta tb:TD} {pos:Pos}
structure QD (X:Cx) (pos:Pos) (ks:List Key) (keys:List (Option Expr)) (values:List Expr) (t:dS):Prop where
 of ::
 run:∃trs,Cj X pos keys values trs/\∀(B:Base) (σ:St) (F H:Hp) (env:En) (Q:List D->Prop) (Z:List (V×V)->Hp->Prop),Rep X.K B F H σ env->t env Q ->
  (∀F' H' vs ds,Rep X.K B F' H' σ env->ao F F'->aq X.K F' ds vs->vs.length=ks.length->Q ds->Z ((ks.zip vs).map λkv=>(kV kv.1,kv.2)) H')->kC trs σ H Z
theorem Af:QD X pos [] [] [] aw:=⟨[],pG,λB σ F H env Q Z r h k=>k F H [] [] r (ao.refl _) aT rfl h⟩
theorem yd {k:Key} {ke v:Expr} {ks:List Key} {keys:List (Option Expr)} {values:List Expr} {tv:TD} {ts:dS} (hk:PE X ke (tC (kV k))) (hv:QE X v tv) (hr:QD X pos ks keys values ts):QD X pos (k :: ks) (some ke :: keys) (v :: values) (af tv ts):=by
 obtain⟨trs,hp,hq⟩:=hr.run;refine⟨(tC (kV k),wE X v) :: trs,mE hk bz hp,λB σ F H env Q Z r h z=>?_⟩;show tC (kV k) σ H λx H1=>wE X v σ H1 λy H2=>kC trs σ H2 λps H3=>Z ((x,y) :: ps) H3
 show wE X v σ H λy H2=>kC trs σ H2 λps H3=>Z ((kV k,y) :: ps) H3
 refine aE (hv B σ F H env _ r h) λy H1 hq0=>?_;obtain⟨F1,d,r1,s1,d1,q1⟩:=hq0;refine hq B σ F1 H1 env _ _ r1 q1 λF' H' vs ds r' s' dl hl q=>?_;exact z F' H' (y :: vs) (d :: ds) r' (s1.trans s') (aM (Den.mono s' _ _ d1) dl) (by simp [hl]) q
theorem Az {x:Str} {j:Nat} {p:Pos} {v:Expr} {ks:List Key} {keys:List (Option Expr)} {values:List Expr} {tv:TD} {ts:dS} (hv:QE X v tv) (hr:QD X pos ks keys values ts):QD X pos (.inr x :: ks) (some (.Constant (.str x) j p) :: keys) (v :: values) (af tv ts):=yd wc hv hr
def kR (ks:List Key) (ts:dS):TD:=λenv Q=>ts env λxs=>Q (.dct ks xs)
theorem A7 {ks:List Key} {keys:List (Option Expr)} {values:List Expr} {ts:dS} (h:QD X pos ks keys values ts) (hall:keys.all (·.isSome)=true:=by rfl) (hl:keys.length=values.length:=by rfl) (h0:keys≠[]:=by simp) (h15:keys.length<=15:=by decide)
  (hkl:ks.length=keys.length:=by rfl) (nd:ks.Nodup:=by decide +kernel):QE X (.Dict keys values pos) (kR ks ts):=by
 obtain⟨trs,hp,hq⟩:=h.run;refine⟨λB σ F H env Q r hh=>bN (uH hp hall hl h0 h15) λp hpn=>?_⟩;have hb:B.H p=none:=r.h0.free hpn;refine hq (B.guard p (.dK [])) σ F _ env _ _ (r.guarded hpn) hh λF' H' vs ds r' s' dl hlen q=>?_;obtain⟨r2,e2,f2⟩:=r'.pN hb;refine⟨e2,ks.zip vs,rfl,by rw [List.length_zip,hlen,Nat.min_self,hkl];exact h15,?_⟩
 have em:fv [] (ks.zip vs)=ks.zip vs:=by
  rw [jL]
  ·simp
  ·rw [List.nil_append,List.map_fst_zip (by omega)];exact nd
 rw [em];obtain⟨r3,s3⟩:=r2.settle (o':=.dK (ks.zip vs)) e2 f2 hb (λvs z=>by cases z);refine⟨_,.dct ks ds,r3,s'.trans s3,?_,q⟩;simp only [Den];exact⟨p,vs,rfl,av,hlen,aq.mono s3 _ _ dl⟩
def yI:D->Option Key
 | .str x=>some (.inr x)
 | .int i=>some (.inl i)
 | _=>none
theorem xg {K:ES} {F:Hp} {d:D} {v:V} {k:Key} (h:Den K F d v) (e:yI d=some k):v=kV k:=by
 cases d <;> simp only [yI,Option.some.injEq] at e <;> first|cases e|skip
 all_goals (simp only [Den] at h;subst h;rfl)
def Dc (x y:D) (Q:D->Prop):Prop:=match x with
 | .dct ks xs=>∃k v,yI y=some k/\rD ks xs k=some v/\Q v
 | _=>False
theorem Ce (hu:X.A.units + 64 < cLine) (ha:QE X a ta) (hb:QE X b tb) (hs:xb b):QE X (.Subscript a b pos) (aF Dc ta tb):=by
 refine⟨λB σ F H env Q r h=>bN (yA (by omega) bz bz hs) ?_⟩;refine aE (ha B σ F H env _ r h) λx H1 hq0=>?_;obtain⟨F1,d,r1,s1,d1,q1⟩:=hq0;refine aE (hb B σ F1 H1 env _ r1 q1) λy H2 hq0=>?_;obtain⟨F2,d',r2,s2,d2,q2⟩:=hq0;have d1':=Den.mono s2 _ _ d1;unfold Dc at q2
 split at q2
 ·obtain⟨k,v,hk,hv,q⟩:=q2;simp only [Den] at d1';obtain⟨p,vs,rfl,hp,hl,dl⟩:=d1';obtain⟨w,hw,dw⟩:=ou dl hv;have:=xg d2 hk;subst this;exact⟨p,w,rfl,by rw [<- hw];exact .k (r2.fh _ _ hp),F2,v,r2,s1.trans s2,dw,q⟩
 ·exact q2.elim
end
theorem bo.at {P:Program} {w:World} {H:Hp} {h:Heap} {a:Addr} {o:HO} (x:bo P w H h a o):∃ob,h.get? a=some ob:=by
 cases o with
 | lst xs=>obtain⟨_,_,_,_,e⟩:=x;exact⟨_,e⟩
 | tup xs=>obtain⟨_,_,_,ob,e,_⟩:=x;exact⟨_,e⟩
 | dK kvs=>obtain⟨_,_,_,_,o,_,_,e,_⟩:=x;exact⟨_,e⟩
 | dT kvs=>obtain⟨_,_,_,_,o,_,_,e,_⟩:=x;exact⟨_,e⟩
 | set S n=>obtain⟨o,_,_,_,e,_⟩:=x;exact⟨_,e⟩
 | ins C dx fs=>obtain⟨_,_,_,e,_⟩:=x;exact⟨_,e⟩
 | own y=>exact x
 | xd fs=>obtain⟨_,⟨_,_,_,e,_⟩,_⟩:=x;exact⟨_,e⟩
 | rng lo hi=>obtain⟨_,_,_,e⟩:=x;exact⟨_,e⟩
 | frz ob u=>obtain⟨e,_⟩:=x;exact⟨_,e⟩
 | oG ps=>obtain⟨_,e,_⟩:=x;exact⟨_,e⟩
 | cdr c q=>exact x.1
 | met f y=>exact⟨_,(show h.get? a=some _ from x)⟩
 | ext φ=>obtain⟨_,⟨_,e⟩,_⟩:=x;exact⟨_,e⟩
def gL (H:Hp) (h0 h:Heap) (a:Addr) (cls:Value) (dd:Option Addr):Prop:=h0.get? a=none/\H a=none/\∃oe vs,h.get? a=some oe/\oe.cls=cls/\oe.dict=dd/\oe.data=.fields vs /\
 (vs[1]?=some .none\/∃T oT ts,vs[1]?=some (.ref T)/\h0.get? T=none/\H T=none/\T≠a/\h.get? T=some oT/\oT.data=.fields ts/\ts[3]?=some .none)
abbrev xG (H:Hp) (h0 h:Heap) (a:Addr) (cls:Value):Prop:=gL H h0 h a cls none
theorem gL.zz {H:Hp} {g h0 h:Heap} {a:Addr} {cls:Value} {dd:Option Addr} (x:gL H h0 h a cls dd) (k:∀b o,g.get? b=some o->∃o',h0.get? b=some o'):gL H g h a cls dd:=by
 have none_:∀b,h0.get? b=none->g.get? b=none:=λb e=>by
  cases q:g.get? b with
  | none=>rfl
  | some o=>obtain⟨o',e'⟩:=k b o q;rw [e] at e';cases e'
 obtain⟨n,f,oe,vs,he,hc,hdc,hd,z⟩:=x;refine⟨none_ a n,f,oe,vs,he,hc,hdc,hd,?_⟩;rcases z with z|⟨T,oT,ts,h1,h2,h3⟩
 ·exact .inl z
 ·exact .inr ⟨T,oT,ts,h1,none_ T h2,h3⟩
def zL (P:Program) (w:World):xT:=λouter H s E e s'=>∃(a:Addr) (C:Value) (dd:Option Addr) (H':Hp),e=.ref a/\s'.os=s.os/\AllBare s'.gens/\Un (ji outer) [] H H' s.heap s'.heap/\iC P w H' s'.heap/\gL H' s.heap s'.heap a C dd/\E C dd H'
theorem mY {M:Model} {A:Around} {E:Value->Shared->Prop} {s:Shared} {base:Heap} {env:Env} {outer:List Env} {L x:Addr} {ox:Obj} {fs:Array Value} {hd0:Value} {nx0:Bool} {Q:Unit->Shared->Prop}
  (hA:A.frames=some (env :: outer)) (ff:s.heap.FunFrames base (env :: outer)) (hL:env.frame=some L) (hx:s.heap.get? x=some ox) (hdx:ox.data=.fields fs) (h2:1 < fs.size)
  (k:∀h' T oT ts,(∀b o,s.heap.get? b=some o->b≠x->b∉ji (env :: outer)->h'.get? b=some o)->(∀b o,s.heap.get? b=some o->b∈ji (env :: outer)->∃sl,h'.get? b=some { o with slots:=sl }) ->
   h'.get? x=some (ox.mapFields (·.setIfInBounds 1 (.ref T)))->s.heap.get? T=none->T≠x->h'.get? T=some oT->oT.data=.fields ts->ts[3]?=some .none->Q () { s with heap:=h' }) :
  wpAny M A (do let a <- frameOf env;let pl <- entryPlaceOf L nx0;let b <- EntryCells.newEntry hd0 a .none (rawInt L) .none pl;setField (.ref x) 1 b) (λ_ s'=>wpAny M A (setFlight (.ref x) none) Q E s') E s:=by
 have xnf:x∉ji (env :: outer):=λz=>by
  obtain⟨_,o,e,nf⟩:=ff.mem z;rw [hx] at e;cases e;exact nf fs hdx
 refine ER (wpAny_frameOf_fun hA ff hL λg so=>?_);refine ER (wpAny_entryPlaceOf λpl ipl=>?_);unfold EntryCells.newEntry newFields;refine ER (wpAny_newObj_type ?_ (ipl.sizeOk5 _ _ _ _ _));have gx:g.get? x=some ox:=(so.2.1 x xnf).trans hx;generalize hno:({ cls:=.type "traceback",dict:=none,data:=.fields ([hd0,.ref L,.none,rawInt L,.none] ++ (if pl.isEmpty then List.replicate 6 Value.none else pl)).toArray }:Obj)=no
 have nod:no.data=.fields ([hd0,.ref L,.none,rawInt L,.none] ++ (if pl.isEmpty then List.replicate 6 Value.none else pl)).toArray:=by rw [<- hno]
 have nofree:no.isFreed=false:=Obj.isFreed_of_fields nod;have gx1:(g.push no).get? x=some ox:=EZ no gx;have gT1:(g.push no).get? g.objs.size=some no:=Fh g nofree;have Tx:g.objs.size≠x:=λz=>absurd (E7 gx) (by rw [z];exact Nat.lt_irrefl _);refine wpAny_setField gx1 hdx h2 ?_;have dx2:=Obj.data_mapFields hdx (·.setIfInBounds 1 (Value.ref g.objs.size));have gx2:=Heap.get?_update_self (Obj.mapFields (·.setIfInBounds 1 (Value.ref g.objs.size))) gx1 (Obj.isFreed_of_fields dx2)
 have gT2:((g.push no).update x (Obj.mapFields (·.setIfInBounds 1 (Value.ref g.objs.size)))).get? g.objs.size=some no:=(Heap.get?_update_other _ _ (Ne.symm Tx)).trans gT1;unfold setFlight;refine ER (wpAny_field gx2 dx2 (x:=.ref g.objs.size) (by simp [h2]) ?_);rw [if_pos (show (Value.ref g.objs.size != Value.none)=true from by simp)]
 have sz3:3 < ([hd0,.ref L,.none,rawInt L,.none] ++ (if pl.isEmpty then List.replicate 6 Value.none else pl)).toArray.size:=by
  simp only [Fd,Ft,FA,FN];omega
 refine wpAny_setField gT2 nod sz3 ?_
 have oth:∀b,b≠x->b≠g.objs.size->(((g.push no).update x (Obj.mapFields (·.setIfInBounds 1 (Value.ref g.objs.size)))).update g.objs.size (Obj.mapFields (·.setIfInBounds 3 ((none:Option Addr).elim Value.none λf=>rawInt f)))).get? b=(g.push no).get? b:=λb b1 b2=>by
  rw [Heap.get?_update_other _ _ (Ne.symm b2),Heap.get?_update_other _ _ (Ne.symm b1)]
 have ne_g:∀b o,g.get? b=some o->b≠g.objs.size:=λb o e z=>absurd (E7 e) (by rw [z];exact Nat.lt_irrefl _);have Tn:s.heap.get? g.objs.size=none:=Heap.get?_none_of_le (by rw [so.1];exact E3 _);refine k _ g.objs.size _ _ (λb o e b1 b2=>?_) (λb o e b2=>?_) ?_ Tn Tx (Heap.get?_update_self _ gT2 (Obj.isFreed_of_fields (Obj.data_mapFields nod _))) (Obj.data_mapFields nod _) ?_
 ·have e1:g.get? b=some o:=(so.2.1 b b2).trans e;rw [oth b b1 (ne_g b o e1)];exact EZ no e1
 ·obtain⟨sl,e1⟩:=so.2.2 b o e;have b1:b≠x:=λz=>xnf (z▸b2);exact⟨sl,by rw [oth b b1 (ne_g b _ e1)];exact EZ no e1⟩
 ·rw [Heap.get?_update_other _ _ Tx];exact gx2
 ·simp [Array.getElem?_setIfInBounds]
theorem m5 (o:Obj) (f:Array Value->Array Value):(o.mapFields f).dict=o.dict:=by
 obtain⟨c,d,dt,sl⟩:=o;cases dt <;> rfl
theorem wx {M:Model} {P:Program} {w:World} {A:Around} {env:Env} {outer:List Env} {base:Heap} {H0 H1:Hp} {h0:Heap} {s1:Shared} {a:Addr} {C:Value} {dd:Option Addr} {L:Addr} {Q:Unit->Shared->Prop} {E:Value->Shared->Prop}
  (hfr:A.frames=some (env :: outer)) (hf:env.frame=some L) (FF:s1.heap.FunFrames base (env :: outer)) (ff:∀b∈ji (env :: outer),H1 b=none) (hok:iC P w H1 s1.heap)
  (un:Un (ji (env :: outer)) [] H0 H1 h0 s1.heap) (Fl:gL H1 h0 s1.heap a C dd)
  (h:∀h',Un (ji (env :: outer)) [] H0 H1 h0 h'->iC P w H1 h'->gL H1 h0 h' a C dd->Q () { s1 with heap:=h' }) :
  wpAny M A (noteFrame (.ref a) env) (λ_ s'=>wpAny M A (setFlight (.ref a) none) Q E s') E s1:=by
 obtain⟨n0,na,oe,vs,he,hc,hdc,hd,z⟩:=Fl
 have hsz:1 < vs.size:=by
  rcases z with z|⟨T,oT,ts,h1,_⟩
  ·exact (FJ.mp z).1
  ·exact (FJ.mp h1).1
 have core:∀(hid:List Addr) (h1:Heap),a∈hid->(∀b∈hid,h0.get? b=none/\H1 b=none)->(∀b o,s1.heap.get? b=some o->b∉hid->h1.get? b=some o)->(∀b,h1.get? b=none->s1.heap.get? b=none) ->
   ∀h' T oT ts,(∀b o,h1.get? b=some o->b≠a->b∉ji (env :: outer)->h'.get? b=some o)->(∀b o,h1.get? b=some o->b∈ji (env :: outer)->∃sl,h'.get? b=some { o with slots:=sl }) ->
   h'.get? a=some (oe.mapFields (·.setIfInBounds 1 (.ref T)))->h1.get? T=none->T≠a->h'.get? T=some oT->oT.data=.fields ts->ts[3]?=some .none->Q () { s1 with heap:=h' }:=by
  intro hid h1 ha hids hkeep hnone h' T oT ts k1 k2 k3 hTn hTa hT hdT h3;have keepN:∀b o,s1.heap.get? b=some o->b∉hid->b∉ji (env :: outer)->h'.get? b=some o:=λb o e nb nf=>k1 b o (hkeep b o e nb) (λz=>nb (z▸ha)) nf;have frn:∀b∈ji (env :: outer),∀o,h0.get? b=some o->b∉hid:=λb _ o e z=>by rw [(hids b z).1] at e;cases e
  have hs:=hnone T hTn;refine h h' ⟨λb o e n hb hx=>?_,λb o e n hb hx=>?_,un.free,λb o e hx=>?_,un.i4,un.frzs,un.tbls⟩ (λb u e=>?_) ?_
  ·exact keepN b o (un.keep b o e n hb hx) (λz=>by rw [(hids b z).1] at e;cases e) hb
  ·obtain⟨s2,e2⟩:=un.slot b o e n hb hx;obtain⟨s3,e3⟩:=k2 b _ (hkeep b _ e2 (frn b hb o e)) hb;exact⟨s3,e3⟩
  ·obtain⟨o',e'⟩:=un.there b o e hx;have nb:b∉hid:=λz=>by rw [(hids b z).1] at e;cases e
   by_cases hb:b∈ji (env :: outer)
   ·obtain⟨s3,e3⟩:=k2 b o' (hkeep b o' e' nb) hb;exact⟨_,e3⟩
   ·exact⟨o',keepN b o' e' nb hb⟩
  ·refine (hok b u e).mJ (λc v hc q=>?_) (λ_ q=>q) (λ_ _ q=>q) λ_ _ _ q=>q
   have hcn:H1 c≠none:=by
    rcases hc with z|z
    ·rw [z,e];simp
    ·rw [z];simp
   exact keepN c v q (λz=>hcn (hids c z).2) (λz=>hcn (ff c z))
  ·refine⟨n0,na,_,_,k3,(Obj.cls_mapFields _ _).trans hc,(m5 _ _).trans hdc,Obj.data_mapFields hd _,.inr ⟨T,oT,ts,by simp [hsz],?_,?_,hTa,hT,hdT,h3⟩⟩
   ·cases q:h0.get? T with
    | none=>rfl
    | some o=>obtain⟨o',e'⟩:=un.there T o q (by simp);rw [hs] at e';cases e'
   ·cases q:H1 T with
    | none=>rfl
    | some u=>obtain⟨ob,e'⟩:=bo.at (hok T u q);rw [hs] at e';cases e'
 rcases z with z|⟨T,oT,ts,h1,hT0,hTn,hTa,hT,hdT,h3⟩
 ·
  unfold noteFrame;simp only [hf];refine ER (wpAny_field he hd z ?_);rw [if_neg (by decide)];exact mY hfr FF hf he hd hsz (core [a] s1.heap (by simp) (λb hb=>by rw [Fi.mp hb];exact⟨n0,na⟩) (λb o e _=>e) (λb e=>e))
 ·
  unfold noteFrame;simp only [hf];refine ER (wpAny_field he hd h1 ?_);rw [if_pos (show (Value.ref T != Value.none)=true from by simp)];refine ER (wpAny_field hT hdT h3 ?_);rw [if_neg (show ¬ ((Value.none == rawInt L)=true) from by simp [rawInt])];refine ER (wpAny_setField hT hdT (FJ.mp h3).1 ?_);have other:∀b,b≠T->(s1.heap.update T (Obj.mapFields (·.setIfInBounds 3 Value.none))).get? b=s1.heap.get? b:=λb hb=>Heap.get?_update_other _ _ (Ne.symm hb)
  have noRec:∀b o,s1.heap.get? b=some o->(∀vs,o.data≠.fields vs)->b≠T:=λb o hb hnf q=>by
   subst q;rw [hT] at hb;cases hb;exact hnf ts hdT
  refine mY (s:={ s1 with heap:=s1.heap.update T (Obj.mapFields (·.setIfInBounds 3 Value.none)) }) hfr (FF.of_keeps λb o hb hnf=>⟨o,(other b (noRec b o hb hnf)).trans hb,rfl⟩) hf ((other a (Ne.symm hTa)).trans he) hd hsz ?_;refine core [a,T] _ (by simp) (λb hb=>?_) (λb o e nb=>?_) (λb e=>?_)
  ·rcases Fe.mp hb with z|hb
   ·subst z;exact⟨n0,na⟩
   ·rw [Fi.mp hb];exact⟨hT0,hTn⟩
  ·rwa [other b (λz=>nb (by simp [z]))]
  ·by_cases z:b=T
   ·subst z;have:=Heap.get?_update_self (Obj.mapFields (·.setIfInBounds 3 Value.none)) hT (Obj.isFreed_of_fields (Obj.data_mapFields hdT _));rw [this] at e;cases e
   ·rwa [other b z] at e
def cS (X:Cx) (pins:List (Addr×Obj)) (σ:St) (H':Hp) (a:Addr) (C:Value) (dd:Option Addr) (s':Shared):Prop:=∃(Hc:Hp) (sc:Shared),Inv X pins σ Hc sc/\s'.os=sc.os/\AllBare s'.gens/\Un (ji X.stack) [] Hc H' sc.heap s'.heap/\iC X.prog X.w H' s'.heap/\gL H' sc.heap s'.heap a C dd
abbrev gH (X:Cx) (pins:List (Addr×Obj)) (σ:St) (H':Hp) (a:Addr) (C:Value) (s':Shared):Prop:=cS X pins σ H' a C none s'
section
variable {X:Cx} {pins:List (Addr×Obj)} {σ:St} {H H':Hp} {a:Addr} {C:Value} {dd:Option Addr} {s s':Shared}
theorem cS.inv (t:cS X pins σ H' a C dd s'):Inv X pins σ H' s':=by
 obtain⟨Hc,sc,I,os,bare,un,hok,fl⟩:=t;exact I.wQ os un hok bare λb z=>absurd z (by simp)
theorem gH.made {vs:List Value} {h':Heap} {e:Addr} (I:Inv X pins σ H s) (m:Heap.MadeExcOf s.heap h' e C vs):gH X pins σ H e C { s with heap:=h' }:=by
 obtain⟨t,ht,_⟩:=m.there
 have hn:H e=none:=by
  cases q:H e with
  | none=>rfl
  | some u=>obtain⟨ob,z⟩:=bo.at (I.hok e u q);rw [m.new] at z;cases z
 exact⟨H,s,I,rfl,I.bare,Un.kept m.keeps,I.hok.kept m.keeps,m.new,hn,_,_,ht,rfl,rfl,rfl,.inl rfl⟩
theorem cS.note {Q:Unit->Shared->Prop} {E:Value->Shared->Prop} (t:cS X pins σ H' a C dd s') (hst:X.stack=X.env :: X.outer) (hf:X.env.frame=some X.env.locals)
  (h:∀s'',cS X pins σ H' a C dd s''->Q () s''):wpAny (model X.prog X.w) X.A (noteFrame (.ref a) X.env) (λ_ s=>wpAny (model X.prog X.w) X.A (setFlight (.ref a) none) Q E s) E s':=by
 have I':=t.inv;obtain⟨Hc,sc,I,os,bare,un,hok,fl⟩:=t;have hfr:=I'.ok.frames;have FF:=I'.stack;have ff:=I'.lQ;rw [hst] at hfr FF ff un;refine wx hfr hf FF ff hok un fl λh' un' hok' fl'=>h _ ⟨Hc,sc,I,os,bare,by rw [hst];exact un',hok',fl'⟩
theorem cS.leave {P:Program} {w:World} {K:ES} {mg:Str->Option Value} {base:Heap} {N:List Str} {qual:Str} {scope:Scope} {f:Addr} {cd:Value} {A:Around} {outer:List Env} {s0:Shared} {H0:Hp} {E:XK}
  (t:cS (gj (zL P w) P w K mg base N qual scope f cd A outer s0 H0 E) pins σ H' a C dd s') (q:E C dd H'):(gj (zL P w) P w K mg base N qual scope f cd A outer s0 H0 E).xe (.ref a) s':=by
 show wpAny (model P w) _ (leaving _ (.ref a)) _ _ s'
 unfold leaving;refine ER (t.note rfl rfl λs'' t''=>?_);have I:=t''.inv;obtain⟨Hc,sc,Ic,os,bare,un,hok,fl⟩:=t'';refine⟨a,C,dd,H',rfl,I.os,I.bare,I.base,I.hok,fl.zz λb o e=>?_,q⟩;exact Ic.base.there b o e (by show b∉([]:List Addr);simp)
end
structure rh extends Ends3 where
 xc:Str->Prop
abbrev pS:=rh->En->Prop
def XZ (X:Cx) (B:Base) (xc:Str->Prop):Value->Shared->Prop:=λex s'=>∃(pins:List (Addr×Obj)) (a:Addr) (c:Str) (C:Value) (σ':St) (H' F':Hp) (env':En),ex=.ref a/\gH X pins σ' H' a C s'/\Rep X.K B F' H' σ' env'/\X.mg c=some C/\xc c
structure QZ (X:Cx) (st:Stmt) (t:pS):Prop where
 of ::
 run:∀(B:Base) (σ:St) (F H:Hp) (env:En) (D:rh),Rep X.K B F H σ env->t D env->wS (X.bG (XZ X B D.xc)) st (RS X B D.toEnds3) σ H
structure zp (X:Cx) (st:List Stmt) (t:pS):Prop where
 of ::
 run:∀(B:Base) (σ:St) (F H:Hp) (env:En) (D:rh),Rep X.K B F H σ env->t D env->wSs (X.bG (XZ X B D.xc)) st (RS X B D.toEnds3) σ H
section
variable {X:Cx} {c e:Expr} {es:List Expr} {st:Stmt} {sts xs ys:List Stmt} {t u:cK} {p q:pS} {tc:TB} {te:TD} {ts:dS} {pos:Pos}
theorem SP.t9 {E E':Value->Shared->Prop} {pins:List (Addr×Obj)} {D:Ends} {f:Flow} {s':Shared} (h:SP (X.bG E) pins D f s'):SP (X.bG E') pins D f s':=by
 cases f with
 | next=>obtain⟨σ',H',I,q⟩:=h;exact⟨σ',H',I.aW.bG _,q⟩
 | brk=>obtain⟨σ',H',I,q⟩:=h;exact⟨σ',H',I.aW.bG _,q⟩
 | cont=>obtain⟨σ',H',I,q⟩:=h;exact⟨σ',H',I.aW.bG _,q⟩
 | ret u=>obtain⟨v,σ',H',I,r,q⟩:=h;exact⟨v,σ',H',I.aW.bG _,r,q⟩
theorem Bf {E:Value->Shared->Prop} {D:Ends} {σ:St} {H:Hp} (h:wS X.nK st D σ H):wS (X.bG E) st D σ H:=λpins s I =>
 Fo (h pins s (I.aW.bG _)) (λ_ _ q=>SP.t9 q) λ_ _ z=>False.elim z
theorem yy {E:Value->Shared->Prop} {D:Ends} {σ:St} {H:Hp} (h:wSs X.nK sts D σ H):wSs (X.bG E) sts D σ H:=λpins s I =>
 Fo (h pins s (I.aW.bG _)) (λ_ _ q=>SP.t9 q) λ_ _ z=>False.elim z
theorem vL {E:Value->Shared->Prop} {Q:Bool->Hp->Prop} {σ:St} {H:Hp} (h:wT X.nK c σ H Q):wT (X.bG E) c σ H Q:=λpins s I =>
 Fo (h pins s (I.aW.bG _)) (λ_ _ ⟨H',I',q⟩=>⟨H',I'.aW.bG _,q⟩) λ_ _ z=>False.elim z
theorem xH {E:Value->Shared->Prop} {Q:VK} {σ:St} {H:Hp} (h:wE X.nK e σ H Q):wE (X.bG E) e σ H Q:=λpins s I =>
 Fo (h pins s (I.aW.bG _)) (λ_ _ ⟨v,H',I',r,q⟩=>⟨v,H',I'.aW.bG _,r,q⟩) λ_ _ z=>False.elim z
theorem wI {E:Value->Shared->Prop} {Q:List V->Hp->Prop} {σ:St} {H:Hp} (h:wA X.nK es σ H Q):wA (X.bG E) es σ H Q:=λpos pins s I =>
 Fo (h pos pins s (I.aW.bG _)) (λ_ _ ⟨v,H',I',r,q⟩=>⟨v,H',I'.aW.bG _,r,q⟩) λ_ _ z=>False.elim z
def pW (t:cK):pS:=λD env=>t D.toEnds3 env
theorem gi (h:QS X.nK st t):QZ X st (pW t):=⟨λB σ F H env D r hq=>Bf (h B σ F H env D.toEnds3 r hq)⟩
theorem AQ (h:qx X.nK sts t):zp X sts (pW t):=⟨λB σ F H env D r hq=>yy (h B σ F H env D.toEnds3 r hq)⟩
def gu (t u:pS):pS:=λD env=>t { D with nx:=u D } env
theorem uI (h:QZ X st p):zp X [st] p:=⟨λB σ F H env D rp hq=>i9 (ph vd) (h.run B σ F H env D rp hq)⟩
theorem l8 (h1:QZ X st p) (h2:zp X sts q):zp X (st :: sts) (gu p q):=by
 refine⟨λB σ F H env D rp h=>i9 (jO vd d9) ?_⟩;exact pQ (h1.run B σ F H env { D with nx:=q D } rp h) (λσ' H' ⟨F',env',rp',q⟩=>h2.run B σ' F' H' env' D rp' q) (λ_ _ q=>q) (λ_ _ q=>q) (λ_ _ q=>q)
def BN (c:TB) (t u:pS):pS:=λD env=>c env λk=>if k=true then t D env else u D env
theorem Cb (hc:QT X.nK c tc) (ha:zp X xs p) (hb:zp X ys q):QZ X (.If c xs ys pos) (BN tc p q):=by
 refine⟨λB σ F H env D rp h=>gR (zl n5 d9 d9) ?_⟩;refine eU (vL (hc B σ F H env _ rp h)) λk H1 ⟨F1,r1,s1,q1⟩=>?_
 cases k with
 | true=>exact ha.run B σ F1 H1 env D r1 q1
 | false=>exact hb.run B σ F1 H1 env D r1 q1
theorem zg {K:ES} {h:Heap} {C:Addr} {bmB:List Value} {newId:String} (X:K.In h) (q:PySem.W.excIn K C bmB newId=true) :
  ∃bm N nm qn bs hdct sn sub ab col dd k0 k1 k2 k3 k5 mN,h.get? C=some (excClassObj nm qn C N bs bm hdct sn sub ab col dd k0 k1 k2 k3 k5 newId)/\h.Ns N mN/\mN "__init__" = none/\OwnTail h bmB bm:=by
 unfold PySem.W.excIn at q
 split at q
 ·rename_i dd cd sl ho
  split at q
  ·rename_i C' bm k0 k1 k2 k3 n k5 hm hs;simp only [Bool.and_eq_true,beq_iff_eq,Bool.not_eq_true'] at q;obtain⟨⟨⟨⟨⟨rfl,rfl⟩,hdel⟩,ht⟩,hok⟩,hni⟩:=q;obtain⟨nm,bs,mro,ns,qn,hd,sn,sub,ab,col,del⟩:=cd;dsimp only at hm hdel hok hni;subst hm hdel
   have hsl:sl=#[k0,k1,k2,k3,some (.builtin n),k5]:=by
    obtain⟨l⟩:=sl;simp only at hs;rw [hs]
   subst hsl;exact⟨bm,ns,nm,qn,bs,hd,sn,sub,ab,col,dd,k0,k1,k2,k3,k5,_,X _ _ ho,.of_isNs (PySem.W.isNs_of_in X hok),PySem.W.nsMap_none_of_in X hok hni,PySem.W.tail_of_in X ht⟩
  ·cases q
 ·cases q
abbrev zy (K:ES) (C:Addr):Bool:=PySem.W.excIn K C [.type "ValueError",.type "Exception",.type "BaseException",.type "object"] "ValueError.__new__"
def ja (cx:Str) (ts:dS):pS:=λD env=>ts env λxs=>xs.length<=sizeLine/\D.xc cx
theorem wZ {cx:Str} {C:Addr} {np cpos:Pos} (hC:X.mg cx=some (.ref C)) (hq:zy X.K C=true) (hc:X.calm=true) (ha:QA X.nK [e] ts) (hg:Gl X cx:=by rfl) (hdb:(cx == ("__debug__" : Str))=false:=by decide)
  (he:starEach [e] X.env=(false,eval e X.env) :: starEach [] X.env:=by exact aV rfl) (hplain:(backTo cpos (starEach ([]:List Expr) X.env)).any (·.1)=false:=by rfl) :
  QZ X (.Raise (some (.Call (.Name cx np) [e] [] cpos)) none pos) (ja cx ts):=by
 refine⟨λB σ F H env D rp h pins s I=>?_⟩;have I0:=I.aW;obtain⟨bm,N,nm,qn,bs,hdct,sn,sub,ab,col,dd,k0,k1,k2,k3,k5,mN,hCo,hN,hni,T⟩:=zg I0.ok.mod.kin hq
 refine wpAny_Raise_call_subT (C:=C) (nm:=nm) (q:=qn) (N:=N) (bs:=bs) (bm:=bm) (hdct:=hdct) (sn:=sn) (sub:=sub) (ab:=ab) (col:=col) (dd:=dd) (k0:=k0) (k1:=k1) (k2:=k2) (k3:=k3) (k5:=k5)
  PySem.F.excBase_ValueError (mN:=mN) (T.hasType (by decide +kernel)) (I0.ok.hd hc) (by rw [he];show (false || (backTo cpos (starEach [] X.env)).any (·.1))=false;rw [hplain];rfl) hni (fm I hg hC ⟨rfl,?_⟩ hdb)
 have hw:=wI (E:=XZ X B D.xc) (ha B σ F H env _ rp h) cpos pins s I;rw [he] at hw ⊢;refine Calls.evalArgs_plain (Fo hw (λus s2 ⟨vs,H2,I2,rv,F2,ds,r2,s2',d2,hl,q2⟩=>⟨rfl,?_,?_,?_,?_,λh' e' m=>?_⟩) λ_ _ y=>y)
 ·show us.length<=sizeLine
  rw [<- rv.length,<- d2.length];exact hl
 ·exact I2.bk _ _ hCo
 ·exact hN.keeps I2.bk
 ·exact T.keeps I2.bk
 ·exact⟨pins,e',cx,.ref C,σ,H2,F2,env,rfl,gH.made I2.aW m,r2,hC,q2⟩
end
abbrev ug:=List D->(D->Prop)->(Str->Prop)->Prop
def Dl (K:ES) (mg:Str->Option Value) (f:ug):Sp:=λvs H Q E=>∃(F:Hp) (ds:List D) (P:D->Prop) (R:Str->Prop),ao F H/\aq K F ds vs/\f ds P R /\
 (∀(d:D) (v:V) (F' H':Hp),ao F F'->ao H H'->ao F' H'->(∀p,H p≠none->F p=none->F' p=none)->Den K F' d v->P d->Q v H') /\
 ∀(c:Str) (C:Value) (F' H':Hp),ao F F'->ao H H'->ao F' H'->(∀p,H p≠none->F p=none->F' p=none)->mg c=some C->R c->E C none H'
structure ft (P:Program) (w:World) (K:ES) (mg:Str->Option Value) (base:Heap) (k:Nat) (x:Str) (f:ug):Prop where
 ex:∃(fa:Addr) (fd:FuncData) (ps:List Str),my P w K mg base (zL P w) k fa fd ps (Dl K mg f)/\mg x=some (.ref fa)/\PySem.W.keepIn K (.ref fa)=true/\Binds K fd ps []
abbrev TX:=En->(D->Prop)->(Str->Prop)->Prop
def XX (X:Cx) (pins:List (Addr×Obj)) (σ:St) (B:Base) (env:En) (R:Str->Prop):Value->Shared->Prop:=λex s'=>∃(a:Addr) (c:Str) (C:Value) (H' F':Hp),ex=.ref a/\gH X pins σ H' a C s'/\Rep X.K B F' H' σ env/\X.mg c=some C/\R c
structure QX (X:Cx) (e:Expr) (t:TX):Prop where
 of ::
 run:∀(B:Base) (σ:St) (F H:Hp) (env:En) (Q:D->Prop) (R:Str->Prop),Rep X.K B F H σ env->t env Q R->∀(pins:List (Addr×Obj)) (s:Shared),Inv X pins σ H s ->
  wpAny (model X.prog X.w) X.A (eval e X.env) (EP X pins σ (RV X B σ env F Q)) (XX X pins σ B env R) s
def kF (f:ug) (ts:dS):TX:=λenv Q R=>ts env λxs=>f xs Q R
section
variable {X:Cx} {e:Expr} {es:List Expr} {ts:dS} {tx:TX} {p pos:Pos} {x:Str} {k:Nat} {f:ug}
theorem ze (h:ft X.prog X.w X.K X.mg X.base k x f) (hr:cp k X.A) (ha:QA X.nK (e :: es) ts) (hg:Gl X x:=by rfl) (hdb:(x == ("__debug__" : Str))=false:=by decide)
  (he:starEach (e :: es) X.env=(false,eval e X.env) :: starEach es X.env:=by exact aV rfl) (hpl:(backTo pos (starEach es X.env)).any (·.1)=false:=by rfl):QX X (.Call (.Name x p) (e :: es) [] pos) (kF f ts):=by
 refine⟨λB σ F H env Q R rp hq pins s I=>?_⟩;obtain⟨fa,fd,ps,G,hm,hk,hb⟩:=h.ex;refine wpAny_Call_Name_kw (fm I hg hm ?_ hdb);have hw:=wI (E:=XX X pins σ B env R) (ha B σ F H env _ rp hq) pos pins s (I.bG _);refine PySem.W.callWith_K (h₀:=X.base) I.ok.mod.kin hk (bu hw λus s1 ⟨vs,H1,I1,r,F1,ds,r1,s1',d1,hf⟩=>⟨I1.nI,?_⟩) he hpl;have I1':=I1.aW
 have hsp:Dl X.K X.mg f (vs ++ []) H1 (RV X B σ env F Q) (λC dd H'=>dd=none/\∃(c:Str) (F':Hp),Rep X.K B F' H' σ env/\X.mg c=some C/\R c):=by
  rw [Fz];exact⟨F1,ds,Q,R,r1.fh,d1,hf,λd v F' H' a b c n hd q=>⟨F',d,r1.ext a c b n,s1'.trans a,hd,q⟩,λc C F' H' a b c' n hm hx=>⟨rfl,c,F',r1.ext a c' b n,hm,hx⟩⟩
 have hl:(us ++ []).length=ps.length:=by
  have:=G.len _ _ _ _ hsp;rw [Fz] at this ⊢;rw [<- r.length];exact this
 refine wpAny_call (codeAny_mono (G.run X.A X.stack s1 H1 ⟨us,[]⟩ (us ++ []) (vs ++ []) _ _ hr I1'.bW (hb s1 us I1'.nI hl) (by simpa using r) hsp) λrs s' hq'=>?_)
 cases rs with
 | error ex =>
  obtain⟨a,C,dd,H',rfl,os,bare,un,hok,fl,rfl,c,F',r',hm',hx⟩:=hq'
  exact⟨a,c,C,H',F',rfl,⟨H1,s1,I1',os,bare,un,hok,fl⟩,r',hm',hx⟩
 | ok fl =>
  cases fl with
  | ret u=>exact I1'.after hq'
  | next=>exact False.elim hq'
  | brk=>exact False.elim hq'
  | cont=>exact False.elim hq'
theorem QX.w (h:QX X e tx) {B:Base} {σ:St} {F H:Hp} {env:En} {Q:D->Prop} {R:Str->Prop} (rp:Rep X.K B F H σ env) (hq:tx env Q R):wE (X.bG (XZ X B R)) e σ H (RV X B σ env F Q):=λpins s I =>
 Fo (h.run B σ F H env Q R rp hq pins s I.aW) (λ_ _ ⟨v,H',I',r,q⟩=>⟨v,H',I'.bG _,r,q⟩) λex s' ⟨a,c,C,H',F',e,t,r,m,x⟩=>⟨pins,a,c,C,σ,H',F',env,e,t,r,m,x⟩
def w8 (tx:TX):pS:=λD env=>tx env D.rt D.xc
theorem Bt (h:QX X e tx):QZ X (.Return (some e) pos) (w8 tx):=by
 refine⟨λB σ F H env D rp hq=>gR (wC bz) ?_⟩;exact aE (h.w rp hq) λv H' ⟨F',d,r',s',hd,q⟩=>⟨F',d,r'.bare,hd,q⟩
end
section
variable {X:Cx} {pins:List (Addr×Obj)} {σ:St} {H H':Hp} {a:Addr} {s s':Shared}
theorem xG.ext {a C:Addr} {h:Heap} {H:Hp} {h0:Heap} (f:xG H h0 h a (.ref C)):excAt a C h:=by
 obtain⟨_,_,oe,vs,he,hc,hdc,hdt,_⟩:=f;exact⟨oe,vs,he,hc,hdc,hdt⟩
end
section
variable {X:Cx} {pins:List (Addr×Obj)} {σ:St} {H H':Hp} {a C:Addr} {s s':Shared}
theorem gH.Bl (t:gH X pins σ H' a (.ref C) s'):H' a=none/\Inv X pins σ (upd H' a (.ext (excAt a C))) s':=by
 obtain⟨Hc,sc,I,os,bare,un,hok,fl⟩:=t;have x:=xG.ext fl;obtain⟨n0,na,_⟩:=fl;refine⟨na,I.wQ os ⟨un.keep,un.slot,λb o e n hx=>?_,un.there,λb xs e=>?_,λb o u e=>?_,λb ps e=>?_⟩ (λb u e=>?_) bare λb z=>absurd z (by simp)⟩
 ·have:b≠a:=λz=>by subst z;rw [n0] at e;cases e
  rw [au this];exact un.free b o e n hx
 ·have q:=un.i4 b xs e;rw [au (a0 q na)];exact q
 ·have q:=un.frzs b o u e;rw [au (a0 q na)];exact q
 ·have q:=un.tbls b ps e;rw [au (a0 q na)];exact q
 ·by_cases z:b=a
  ·subst z;rw [av] at e;cases e;obtain⟨o,vs,h1,h2⟩:=x;exact⟨⟨o,vs,h1,h2⟩,⟨o,h1⟩,λh h' ⟨o,vs,h1,h2⟩ k=>⟨o,vs,k o h1,h2⟩⟩
  ·rw [au z] at e;exact (hok b u e).mJ (λ_ _ _ q=>q) (λc q=>by rw [au (a0 q na)];exact q) (λc xs q=>by rw [au (a0 q na)];exact q) λc o xs q=>by rw [au (a0 q na)];exact q
theorem cS.land {M:Model} {A:Around} {C:Value} {dd:Option Addr} {Q:Unit->Shared->Prop} {E:Value->Shared->Prop} (t:cS X pins σ H' a C dd s') (h:∀s'',cS X pins σ H' a C dd s''->Q () s''):wpAny M A (setFlight (.ref a) none) Q E s':=by
 obtain⟨Hc,sc,I,os,bare,un,hok,n0,na,oe,vs,he,hc,hdc,hd,z⟩:=t;rcases z with z|⟨T,oT,ts,h1,hT0,hTn,hTa,hT,hdT,h3⟩
 ·unfold setFlight;refine ER (wpAny_field he hd z ?_);rw [if_neg (by decide)];exact EW (h _ ⟨Hc,sc,I,os,bare,un,hok,n0,na,oe,vs,he,hc,hdc,hd,.inl z⟩)
 ·refine wpAny_setFlight_none he hd h1 hT hdT (FJ.mp h3).1 (h _ ?_);have other:∀b,b≠T->(s'.heap.update T (Obj.mapFields (·.setIfInBounds 3 Value.none))).get? b=s'.heap.get? b:=λb hb=>Heap.get?_update_other _ _ (Ne.symm hb);have old:∀b o,sc.heap.get? b=some o->b≠T:=λb o e z=>by subst z;rw [hT0] at e;cases e
  have zV:∀b u,H' b=some u->b≠T:=λb u e z=>by subst z;rw [hTn] at e;cases e
  refine⟨Hc,sc,I,os,bare,⟨λb o e n hb hx=>(other b (old b o e)).trans (un.keep b o e n hb hx),λb o e n hb hx=>?_,un.free,λb o e hx=>?_,un.i4,un.frzs,un.tbls⟩,λb u e=>?_,n0,na,oe,vs,(other a (Ne.symm hTa)).trans he,hc,hdc,hd,.inr ⟨T,_,_,h1,hT0,hTn,hTa,Heap.get?_update_self _ hT (Obj.isFreed_of_fields (Obj.data_mapFields hdT _)),Obj.data_mapFields hdT _,?_⟩⟩
  ·obtain⟨sl,q⟩:=un.slot b o e n hb hx;exact⟨sl,(other b (old b o e)).trans q⟩
  ·obtain⟨o',q⟩:=un.there b o e hx;exact⟨o',(other b (old b o e)).trans q⟩
  ·refine (hok b u e).mJ (λc v hc q=>?_) (λ_ q=>q) (λ_ _ q=>q) λ_ _ _ q=>q;refine (other c ?_).trans q;rcases hc with z|z
   ·subst z;exact zV c u e
   ·exact zV c _ z
  ·have:=(FJ.mp h3).1;simp [Array.getElem?_setIfInBounds,this]
theorem Inv.DU {h':Heap} {m':Str->Option Value} {t':Nat} (I:Inv X pins σ H s) (hn:h'.Ns X.env.locals m') (hs:Heap.SameBut X.env.locals s.heap h'):Inv X pins (σ.map λ_=>none) H { s with heap:=h',toks:=t' }:=by
 have lo:∀b o,X.s₀.heap.get? b=some o->b≠X.env.locals:=λb o e=>Fp (EY (E7 e) I.ok.above);refine⟨I.ok,I.os,I.bare,⟨λb o e n hb hx=>(hs.2 b (lo b o e)).trans (I.base.keep b o e n hb hx),λb o e n hb hx=>?_,I.base.free,λb o e hx=>?_,I.base.i4,I.base.frzs,I.base.tbls⟩,⟨m',hn,λi x v e1 e2=>?_⟩,λy c e=>?_,I.free,I.freeC,λp hp=>?_,λb ob e=>?_,by simpa using I.len⟩
 ·obtain⟨sl,e1⟩:=I.base.slot b o e n hb hx;exact⟨sl,(hs.2 b (lo b o e)).trans e1⟩
 ·obtain⟨o',e1⟩:=I.base.there b o e hx;exact⟨o',(hs.2 b (lo b o e)).trans e1⟩
 ·rw [E2] at e2
  cases q:σ[i]? with
  | none=>rw [q] at e2;cases e2
  | some u=>rw [q] at e2;cases e2
 ·obtain⟨w',z⟩:=I.cell y c e;exact⟨w',z.sameBut hs (I.y3 y c e)⟩
 ·obtain⟨e,n,ne,nf,d⟩:=I.pin p hp;exact⟨(hs.2 p.1 ne).trans e,n,ne,nf,d⟩
 ·refine (I.hok b ob e).mJ (λc w' hc q=>(hs.2 c ?_).trans q) (λ_ q=>q) (λ_ _ q=>q) λ_ _ _ q=>q;have hfree:=I.free
  rintro rfl;rcases hc with z|hc
  ·rw [<- z,hfree] at e;cases e
  ·rw [hfree] at hc;cases hc
end
abbrev Cx.hand (X:Cx) (a:Addr):Cx:={ X with A:=X.A.mark (some (.ref a)),calm:=false,xe:=λ_ _=>False }
theorem Inv.hand {X:Cx} {pins:List (Addr×Obj)} {σ:St} {H:Hp} {s:Shared} (I:Inv X pins σ H s) (a:Addr):Inv (Cx.hand X a) pins σ H s :=
 ⟨⟨I.ok.mod,I.ok.kind,I.ok.glob,I.ok.blt,I.ok.above,I.ok.inj,I.ok.has,I.ok.cab,(λz=>by cases z),I.ok.frames,I.ok.stk,I.ok.exf,I.ok.bs,I.ok.bsz,I.ok.noex,I.ok.exfs,I.ok.iI,I.ok.frf⟩,I.os,I.bare,I.base,I.loc,I.cell,I.free,I.freeC,I.pin,I.hok,I.len⟩
theorem Inv.Ah {X:Cx} {a:Addr} {pins:List (Addr×Obj)} {σ:St} {H:Hp} {s:Shared} (ok:X.Ok) (I:Inv (Cx.hand X a) pins σ H s):Inv X pins σ H s :=
 ⟨ok,I.os,I.bare,I.base,I.loc,I.cell,I.free,I.freeC,I.pin,I.hok,I.len⟩
structure qV (K:ES) (C:Addr):Prop where
 ga:PySem.W.findIn K (.ref C) "__getattribute__" = some (some (.builtin "BaseException.__getattribute__"))
 hk:PySem.W.findIn K (.ref C) "__getattr__" = some none
 dct:PySem.W.hasDictIn K C=true
 fnd:PySem.W.findIn K (.ref C) "__class__" = some (some (.builtin "object.__class__"))
 gt:PySem.W.specialIn K (.builtin "object.__class__") "__get__" = some (some (.builtin "getset_descriptor.__get__"))
 tk:PySem.W.takesIn K (.builtin "object.__class__")=some true
 mro:PySem.W.mroIn K C (.type "object")=some true
 sub:PySem.W.subIn K (.ref C) (.type "BaseException")=some true
theorem find_none {K:ES} {C:Addr} {name:Str} {a g:Value} (hc:(PySem.W.clsIn K C).isSome=true) (ha:PySem.W.findIn K (.ref C) name=some (some a)) (hg:PySem.W.specialIn K a "__get__" = some (some g)) (ht:PySem.W.takesIn K a=some true) :
  PySem.W.findObj K C none name=some (.bind g a):=by
 obtain⟨cd,hc⟩:=Option.isSome_iff_exists.mp hc;unfold PySem.W.findObj;rw [hc,Option.bind_some,ha,Option.bind_some];simp [hg,ht]
section
variable {prog:Program} {w:World} {A:Around} {E:Value->Shared->Prop} {K:ES} {x C:Addr} {ox:Obj} {h:Heap} {g:Array GenState} {d:Drawn} {t:Nat} {os:OsState}
theorem xm (O:qV K C):PySem.W.findObj K C none "__class__" = some (.bind (.builtin "getset_descriptor.__get__") (.builtin "object.__class__")) :=
 find_none (by obtain⟨cd,hc,_⟩:=PySem.W.any_some O.dct;rw [hc];rfl) O.fnd O.gt O.tk
theorem vX {tk:Tok} {Q:Fin->Shared->Prop} (O:qV K C) (X:K.In h) (I:PySem.W.InstAt h x ox C none) (hq:Q (.done (.ret (.ref C))) ⟨h,g,d,t,os⟩) :
  wpAny (model prog w) A (Builtin.«object.__getattribute__» ⟨[.ref x,.str "__class__" tk],[]⟩) Q E ⟨h,g,d,t,os⟩:=by
 have L0:=I.type (M:=model prog w);have L1:=PySem.W.looks_find (M:=model prog w) X I (xm O);unfold Builtin.«object.__getattribute__»;refine ER (EW (ER (EW (ER (L0.at (ER (L1.at ?_)))))));show wpAny _ _ (Builtin.ObjectAttr.bindTo _ _ _ _) _ _ _
 unfold Builtin.ObjectAttr.bindTo;refine ER (wpAny_holding (wpAny_call (PySem.W.class_get (s:=⟨h,g,d,t,os⟩) (ox:=ox) (od:=none) X I O.mro ?_)));exact EW hq
theorem u5 {nameV:Value} {Q:Unit->Shared->Prop} (O:qV K C) (X:K.In h) (I:PySem.W.InstAt h x ox C none) (hq:Q () ⟨h,g,d,t,os⟩) :
  wpAny (model prog w) A (checkBuiltinCall "BaseException.__getattribute__" ⟨[.ref x,nameV],[]⟩) Q E ⟨h,g,d,t,os⟩:=by
 have hk:builtinKind "BaseException.__getattribute__" = some .slot:=by decide +kernel
 have hsplit:splitId "BaseException.__getattribute__" = some ("BaseException","__getattribute__"):=by decide +kernel
 have ha:=F.args_bexc_ga (.ref x) nameV;have L0:=I.type (M:=model prog w);have L2:PySem.W.Looks (model prog w) h (isInstance (.ref x) (.type "BaseException")) true:=L0.andThen (PySem.W.looks_subIn X O.sub)
 simp only [checkBuiltinCall,hk,hsplit];refine ER (L2.at ?_)
 repeat (first|assumption|wp_step)
theorem vC {Q:Option Value->Shared->Prop} (O:qV K C) (X:K.In h) (I:PySem.W.InstAt h x ox C none) (hq:Q (some (.ref C)) ⟨h,g,d,t + 1,os⟩):wpAny (model prog w) A (getAttr? (.ref x) "__class__") Q E ⟨h,g,d,t,os⟩:=by
 have L0:=I.type (M:=model prog w);have L1:=PySem.W.looks_findIn (M:=model prog w) X O.ga;have L2:=PySem.W.looks_findIn (M:=model prog w) X O.hk;have FB:=PySem.F.attrBase_ValueError;unfold getAttr? getAttrBy? getAttrBy;refine ER (wpAny_mkText (ER (wpAny_attempt (wpAny_holding (ER (L0.at (ER (L1.at ?_))))))))
 have hx1:(onTheHeap (Value.ref C) && Value.builtin "BaseException.__getattribute__" == Value.builtin "object.__getattribute__")=false:=by
  rw [show (Value.builtin "BaseException.__getattribute__" == Value.builtin "object.__getattribute__")=false by decide +kernel];rfl
 show wpAny _ _ (if (onTheHeap (Value.ref C) && Value.builtin "BaseException.__getattribute__" == Value.builtin "object.__getattribute__")=true then _ else _) _ _ _
 rw [hx1,if_neg (by decide)];unfold getAttrByItsOwn;refine ER (L2.at (ER (wpAny_attempt (wpAny_holding ?_))));unfold callGetattribute boundAndCalled;rw [if_neg (by decide),FB.ga.bind];refine ER (EW ?_);refine wpAny_call (codeAny_call_builtin FB.ga.plain F.entry_bexc_ga (u5 O X I (vX O X I ?_)));exact PySem.W.handed_on rfl (EW hq)
end
theorem pw {K:ES} {C:Addr} (h:PySem.W.hasDictIn K C=true):∃c d cd sl,K.lookup C=some ⟨c,d,.cls cd,sl⟩:=by
 obtain⟨_,q,_⟩:=PySem.W.any_some h;unfold PySem.W.clsIn at q
 split at q
 ·exact⟨_,_,_,_,‹_›⟩
 ·cases q
theorem mC {K:ES} {x C:Addr} (O:qV K C):PySem.W.KitX K (.ref x) (.ref C) (λh=>∃ox,PySem.W.InstAt h x ox C none) where
 ty:=λ_ _ _ ⟨_,I⟩=>I.type
 it:=λ_ _ kin _ A Q E s keep q=>let ⟨_,_,_,_,e⟩:=pw O.dct;ER (wpAny_loadPart (keep _ _ (kin _ _ e)) (EW q))
 ne:=λh tp dd its n sl kin e=>by
  obtain⟨_,_,_,_,e1⟩:=pw O.dct
  cases z:(Value.ref C == Value.ref tp) with
  | false=>rfl
  | true =>
   cases eq_of_beq z;cases (kin _ _ e1).symm.trans e
 ca:=λ{prog w A E Q s} X p h=>by
  obtain⟨ox,I⟩:=p;obtain⟨hh,g,d,t,os⟩:=s;exact vC O X I h
theorem jr {X:Cx} {c:Str} {p:Pos} {C:Addr} (ac:PySem.W.nsIn X.K mainGlobals c=some (some (.ref C))) (hg:Gl X c:=by rfl) (hdb:(c == ("__debug__" : Str))=false:=by decide):QE X (.Name c p) (cC (.cls c)):=by
 refine⟨λB σ F H env Q rp hq pins s I=>?_⟩;refine fm I hg (FW I.ok.mod.kin I.ok.mod.glob ac) ?_ hdb;exact⟨.ref C,H,I,rfl,F,.cls c,rp,ao.refl _,by simp only [Den];exact⟨C,rfl,ac⟩,hq⟩
inductive rR (K:ES):List D->List Value->Prop where
 | nil:rR K [] []
 | cons {c:Str} {C:Addr} {ds:List D} {vs:List Value} (h:PySem.W.nsIn K mainGlobals c=some (some (.ref C))) (r:rR K ds vs):rR K (.cls c :: ds) (.ref C :: vs)
inductive wN (K:ES) (C:Addr):D->Bool->Prop where
 | ty {n:String} {b:Bool} (e:PySem.W.kitOne K (.ref C) (.type n)=some b):wN K C (.ty n) b
 | cls {d:Str} {C':Addr} {b:Bool} (h:PySem.W.nsIn K mainGlobals d=some (some (.ref C'))) (e:PySem.W.kitOne K (.ref C) (.ref C')=some b):wN K C (.cls d) b
 | tup {ds:List D} {vs:List Value} {b:Bool} (h:rR K ds vs) (e:PySem.W.kitAny K (.ref C) vs=some b):wN K C (.tup ds) b
theorem rR.vals {K:ES} {F:Hp}:∀{ds:List D} {vs:List Value} {xs:List V} {us:List Value},rR K ds vs->aq K F ds xs->Vals xs us->us=vs
 | _,_,xs,us,.nil,h,r=>by
  simp only [aq] at h;subst h
  cases r;rfl
 | _,_,xs,us,.cons hc rr,h,r=>by
  simp only [aq] at h;obtain⟨v,rs,rfl,hd,hr⟩:=h;simp only [Den] at hd;obtain⟨C',rfl,e⟩:=hd;rw [hc] at e;cases e
  cases r with
  | cons q1 q2 =>
   have e1:=(show _=Value.ref _ from q1);rw [e1,rR.vals rr hr q2]
def fZ (c:Str) (y:D) (b:Bool) (ds:List D) (Q:D->Prop):Prop:=ds=[.exc c,y]/\Q (.bl b)
def CP (K:ES) (C:Addr) (b:Bool):List V->Hp->VK->Prop:=λxs H Q=>∃a y,xs=[.ref a,y]/\H a=some (.ext (excAt a C)) /\
 ((∃n,y=.ty n/\PySem.W.kitOne K (.ref C) (.type n)=some b)\/(∃C',y=.ref C'/\PySem.W.kitOne K (.ref C) (.ref C')=some b)\/∃t zs,y=.ref t/\jg K H t zs/\∀us,Vals zs us->PySem.W.kitAny K (.ref C) us=some b)/\Q (.bl b) H
section
variable {X:Cx} {C:Addr} {b:Bool} {c:Str} {y:D} {a e2:Expr} {ts:dS} {p pos:Pos}
theorem vQ (O:qV X.K C):dr X (.builtin "isinstance") (CP X.K C b):=by
 intro pins s σ H xs us Q I r h;obtain⟨x,y,rfl,hx,hy,q⟩:=h;obtain⟨u,w,rfl,rx,ry⟩:=vals2 r;cases (show u=Value.ref x from rx);have fin:∀tk,EP X pins σ Q (.bool b) { s with toks:=tk }:=λtk=>⟨.bl b,H,I.tok tk,rfl,q⟩
 have at_:∃ox,PySem.W.InstAt s.heap x ox C none:=by
  obtain⟨⟨o,vs,h1,h2,h3,h4⟩,_⟩:=(show bo X.prog X.w H s.heap x (.ext (excAt x C)) from I.hok x _ hx);refine⟨o,h1,h2,?_,?_⟩
  ·unfold PySem.W.notCls;rw [h4]
  ·rw [h3];exact True.intro
 rcases hy with ⟨n,rfl,e⟩|⟨C',rfl,e⟩|⟨t,zs,rfl,hq,e⟩
 ·cases (show w=Value.type n from ry);exact PySem.W.kia_one (mC O) I.nI at_ e (λz=>nomatch z) fin
 ·cases (show w=Value.ref C' from ry);exact PySem.W.kia_one (mC O) I.nI at_ e (λz=>nomatch z) fin
 ·cases (show w=Value.ref t from ry);obtain⟨its,vz,⟨o,h1,h2,n,h3⟩,_⟩:=I.tuple hq;obtain⟨oc,od,odt,osl⟩:=o;cases h2;cases h3;exact PySem.W.kia_tup (mC O) I.nI at_ h1 (e _ vz) (λz=>nomatch z) fin
theorem Bd (ac:PySem.W.nsIn X.K mainGlobals c=some (some (.ref C))) (hk:wN X.K C y b):Call3 X (CP X.K C b) (fZ c y b):=by
 intro B σ F H env Q ds vs Z rp h hz hf;obtain⟨rfl,q⟩:=hf;simp only [aq] at h;obtain⟨v,r,rfl,hd,v',r',rfl,hd',rfl⟩:=h;simp only [Den] at hd;obtain⟨a,C',rfl,e,hF⟩:=hd;rw [ac] at e;cases e;refine⟨a,v',rfl,rp.fh _ _ hF,?_,hz (.bl b) H F (.bl b) rp (ao.refl _) dY q⟩
 cases hk with
 | ty e=>simp only [Den] at hd';subst hd';exact .inl ⟨_,rfl,e⟩
 | cls h e =>
  simp only [Den] at hd';obtain⟨C'',rfl,e'⟩:=hd';rw [h] at e';cases e'
  exact .inr (.inl ⟨_,rfl,e⟩)
 | tup h e =>
  simp only [Den] at hd';obtain⟨t,zs,rfl,hq,hl⟩:=hd';exact .inr (.inr ⟨t,zs,rfl,ao.bS rp.fh hq,λus hu=>by rw [rR.vals h hl hu];exact e⟩)
theorem eQ (c:Str) (y:D) (b:Bool) (hm:X.mg "isinstance" = none) (ac:PySem.W.nsIn X.K mainGlobals c=some (some (.ref C))) (O:qV X.K C) (hk:wN X.K C y b) (ha:QA X [a,e2] ts) (hg:Gl X "isinstance":=by rfl)
  (he:starEach [a,e2] X.env=(false,eval a X.env) :: starEach [e2] X.env:=by exact aV rfl) (hpl:(backTo pos (starEach [e2] X.env)).any (·.1)=false:=by rfl):QE X (.Call (.Name "isinstance" p) [a,e2] [] pos) (az (fZ c y b) ts) :=
 fX (vQ O) (Bd ac hk) hg hm oz ha (he:=he) (hpl:=hpl)
end
section
variable {X:Cx} {a b e:Expr} {ta tb:TD} {ts:dS} {pos:Pos}
theorem uS {cx:Str} {C:Addr} {np cpos:Pos} (ac:PySem.W.nsIn X.K mainGlobals cx=some (some (.ref C))) (hq:zy X.K C=true) (ha:QA X.nK [e] ts) (hc:X.calm=true:=by rfl) (hg:Gl X cx:=by rfl) (hdb:(cx == ("__debug__" : Str))=false:=by decide)
  (he:starEach [e] X.env=(false,eval e X.env) :: starEach [] X.env:=by exact aV rfl) (hplain:(backTo cpos (starEach ([]:List Expr) X.env)).any (·.1)=false:=by rfl) :
  QZ X (.Raise (some (.Call (.Name cx np) [e] [] cpos)) none pos) (ja cx ts) :=
 ⟨λB σ F H env D rp h pins s I=>(wZ (X:=X) (pos:=pos) (np:=np) (cpos:=cpos) (FW I.ok.mod.kin I.ok.mod.glob ac) hq hc ha hg hdb he hplain).run B σ F H env D rp h pins s I⟩
end
theorem yo:bootBuiltins "ValueError" = some (.type "ValueError"):=by decide +kernel
section
variable {X:Cx} {es:List Expr} {pos:Pos}
def DM (K:ES) (n:Nat) (t:xQ):TG:=λv σ H Q=>∃a xs,v=.ref a/\fL K H a xs/\xs.length=n/\t xs σ H Q
theorem Bx {k n:Nat} {t:xQ} (hc:X.calm=true) (h:zW X es t) (hn:(assignEach es X.env).length=n:=by rfl) (hst:(assignEach es X.env).findIdx? (·.1)=none:=by rfl):PG X (.Tuple es k pos) (DM X.K n t):=by
 intro pins s σ H v u Q I r hw;obtain⟨a,xs,e1,hq,hl,hw⟩:=hw;subst e1;cases r;obtain⟨its,rv,ht,hz⟩:=I.list hq;rw [assign_Tuple];refine ER (wpAny_standAt ?_);unfold unpack;have hsz:(assignEach es X.env).length=its.toArray.size:=by simp [hn,<- hl,rv.length]
 rw [hsz,hst];refine ER (wpAny_holding (PySem.W.kun_itemsOf (I.ok.hd hc) ht.isList λh' hx=>?_));have I1:Inv X pins σ H { s with heap:=h' }:=I.kept (t':=s.toks) λb o e=>hx b o (Fp (E7 e)) e;exact h pins _ σ H xs _ Q I1 (by simpa using rv) hw
def rQ (n:Nat) (gs:m7):qX:=λx env Q=>∃xs,x=.lst xs/\xs.length=n/\gs xs env Q
theorem xX {k n:Nat} {gs:m7} (hc:X.calm=true) (h:AX X es gs) (hn:(assignEach es X.env).length=n:=by rfl) (hst:(assignEach es X.env).findIdx? (·.1)=none:=by rfl):QG X (.Tuple es k pos) (rQ n gs):=by
 refine⟨λB σ F H env Q d v rp hd hq=>?_⟩;obtain⟨xs,rfl,hl,q⟩:=hq;simp only [Den] at hd;obtain⟨p,vs,rfl,hs,r⟩:=hd;refine zj (Bx hc vN hn hst) ⟨p,vs,rfl,rp.fh.seq hs,by rw [<- r.length];exact hl,?_⟩;exact h B σ F H env Q xs vs rp r q
end
section
variable {X:Cx} {a b c e:Expr} {ta tb tc:TD} {ts:dS} {pos:Pos}
def gU (f f':D->D->(D->Prop)->Prop) (ta tb tc:TD):TD:=λenv Q=>ta env λx=>tb env λy=>f x y λz=>∃k,z=.bl k/\(if k=true then tc env λw=>f' y w Q else Q (.bl false))
theorem By {r r':R2} {f f':D->D->(D->Prop)->Prop} (hf:sk X r f) (hf':sk X r' f') (ha:QE X a ta) (hb:QE X b tb) (hc:QE X c tc) {B:Base} {σ:St} {F H:Hp} {env:En} {Q:D->Prop} {Z:VK} (rp:Rep X.K B F H σ env) (hz:Kont X B σ env F Q Z) (h:gU f f' ta tb tc env Q) :
  tO r r' (wE X a) (wE X b) (wE X c) σ H Z:=by
 refine aE (ha B σ F H env _ rp h) λx H1 hq0=>?_;obtain⟨F1,d,r1,s1,d1,q1⟩:=hq0;refine aE (hb B σ F1 H1 env _ r1 q1) λy H2 hq0=>?_;obtain⟨F2,d',r2,s2,d2,q2⟩:=hq0;refine hf B σ F2 H2 env _ d d' x y _ r2 (Den.mono s2 _ _ d1) d2 (λv H3 F3 d3 r3 s3 hd3 q3=>?_) q2;obtain⟨k,rfl,q3⟩:=q3;refine⟨k,dH hd3,?_⟩
 cases k with
 | true =>
  rw [if_pos rfl] at q3 ⊢;refine aE (hc B σ F3 H3 env _ r3 q3) λw H4 hq0=>?_;obtain⟨F4,d4,r4,s4,d4',q4⟩:=hq0
  exact hf' B σ F4 H4 env Q d' d4 y w Z r4 (Den.mono (s3.trans s4) _ _ d2) d4' (λv H5 F5 d5 r5 s5 hd q=>hz v H5 F5 d5 r5 ((((s1.trans s2).trans s3).trans s4).trans s5) hd q) q4
 | false =>
  rw [if_neg (by decide)] at q3 ⊢;exact hz _ H3 F3 _ r3 ((s1.trans s2).trans s3) dY q3
theorem yP {op op':CmpOp} {r r':R2} {f f':D->D->(D->Prop)->Prop} (ho:gq X (compareOp op) r) (hf:sk X r f) (ho':gq X (compareOp op') r') (hf':sk X r' f') (ha:QE X a ta) (hb:QE X b tb) (hc:QE X c tc)
  (hm:lastMarks [op,op'] [b,c]=false:=by with_unfolding_all rfl):QT X (.Compare a [op,op'] [b,c] pos) (aL (gU f f' ta tb tc)):=by
 refine⟨λB σ F H env Q rp h=>oq (wj ho ho' bz bz bz hm) ?_⟩;show tO r r' (wE X a) (wE X b) (wE X c) σ H λx H'=>∃k,x=.bl k/\RB X B σ env F Q k H'
 refine By hf hf' ha hb hc rp (λv H' F' d r' s' hd q=>?_) h;obtain⟨k,rfl,q⟩:=q;exact⟨k,dH hd,F',r',s',q⟩
theorem Bc (ha:QE X a ta) (hb:QE X b tb) (hc:QE X c tc) (hm:lastMarks [.LtE,.Lt] [b,c]=false:=by with_unfolding_all rfl):QT X (.Compare a [.LtE,.Lt] [b,c] pos) (aL (gU Ei yW ta tb tc)):=yP CG mG zN mG ha hb hc hm
theorem EJ {x:Str} {n:Int} {t:Tok} {p:Pos} (ac:PySem.W.nsIn X.K mainGlobals x=some (some (.int n t))) (hg:Gl X x:=by rfl) (hdb:(x == ("__debug__" : Str))=false:=by decide):QE X (.Name x p) (cC (.int n)):=by
 refine⟨λB σ F H env Q rp hq pins s I=>?_⟩;refine fm I hg (FW I.ok.mod.kin I.ok.mod.glob ac) ?_ hdb;exact⟨.int n,H,I,⟨t,rfl⟩,F,.int n,rp,ao.refl _,br,hq⟩
end
section
variable {X:Cx} {p pos:Pos}
def bX (i:Nat):TD:=λenv Q=>∃xs,env[i]?=some (some (.own xs))/\Q (.int xs.length)
theorem cL {x:Str} {px:Pos} (i:Nat) (hm:X.mg "len" = none) (hg:Gl X "len":=by rfl) (hN:X.N[i]?=some x:=by rfl) (hv:u9 X.env.scope x:=by first | exact Or.inl rfl | exact Or.inr (Or.inl rfl) | exact Or.inr (Or.inr rfl)) (hd:(x == ("__debug__" : Str))=false:=by decide)
  (hcd:(x == ("__classdict__" : Str))=false:=by decide) (he:starEach [.Name x px] X.env=(false,eval (.Name x px) X.env) :: starEach [] X.env:=by exact aV rfl) (hpl:(backTo pos (starEach ([]:List Expr) X.env)).any (·.1)=false:=by rfl) :
  QE X (.Call (.Name "len" p) [.Name x px] [] pos) (bX i):=by
 refine⟨λB σ F H env Q rp h=>bN (ri jT hg hm o3 (ir (fu hN hv hd hcd) m6 he) (by decide) (by decide) he hpl) ?_⟩;obtain⟨xs,hx,q⟩:=h;obtain⟨p,vs,h1,h2,h3,h4,h5⟩:=rp.ov i xs hx;refine⟨.ref p,h1,p,vs,rfl,.inl (fL.of h2),F,.int xs.length,rp,ao.refl _,?_,q⟩;rw [h5.length];exact br
end
section
variable {X:Cx} {N':List Str} {ix:List Nat} {scope:Scope} {elt a:Expr} {ifs:List Expr} {x:Str} {px py pos spos p pos2:Pos} {tt:TB} {te ta:TD} {ts:dS}
theorem pZ {y:Str} (i:Nat) (hNd:X.N.Nodup) (hc:X.calm=true) (O:aS X N' 1 ix scope) (hN:N'.Nodup) (h0:N'[0]?=some x) (hx:(relabel scope X.env).names.lookup x=some .local) (hgl:Gl X "range") (hm:X.mg "range" = none) (ha:QA X [a] ts)
  (ht:∀C s H fp pins,jV (aH X N' scope C s H fp pins) ifs tt) (he:∀C s H fp pins,QE (aH X N' scope C s H fp pins) elt te) (hy:X.N[i]?=some y:=by rfl) (hl:Loc X.env.scope y:=by first|exact Or.inl rfl|exact Or.inr rfl)
  (hsw:swapsWith (.ListComp elt [⟨.Name x px,.Call (.Name "range" p) [a] [] pos2,ifs,0⟩] scope pos) (some (.Name y py)) spos.line X.env=pure true:=by rfl) (hf:X.fn y=true\/X.env.scope.names.lookup y=some .local:=by first | exact .inl rfl | exact .inr rfl)
  (hst:starEach [a] X.env=[(false,eval a X.env)]:=by rfl) (hs:∀x,FD (.Call (.Name "range" p) [a] [] pos2) X.env x=pure x:=by intro _;rfl) :
  QS X (.Assign [.Name y py] (.ListComp elt [⟨.Name x px,.Call (.Name "range" p) [a] [] pos2,ifs,0⟩] scope pos) spos) (bg i (a8 (dk jy ix ts tt te))):=by
 refine⟨λB σ F H env D rp h pins s I=>?_⟩;refine nz hc (km hgl hm iV hst) O hNd hy hl hsw hf hs pins s σ H _ I ?_;refine cu (ha B σ F H env _ rp h) λvs H1 hq0=>?_;obtain⟨F1,ds,r1,s1,d1,q1⟩:=hq0
 (try dsimp only at q1);unfold jy at q1
 split at q1
 ·simp only [aq,Den] at d1;obtain⟨v,r,rfl,rfl,rfl⟩:=d1;refine⟨_,rfl,q1.1.1,q1.1.2,?_⟩;intro a' C s fp pins ha';obtain⟨W,w0,step⟩:=fK (X:=X) (px:=px) hN h0 hx ht he s1 r1 eV q1.2 a' C s fp pins ha';refine⟨W,w0,λi' m σ' H' w=>?_⟩;rcases step i' m σ' H' w with ⟨st,z⟩|z
  ·refine .inl ⟨st,?_⟩;obtain⟨F',d,r',s',hd,q'⟩:=RF.rv (Q:=λx=>D.nx (env.set i (some (.d x)))) z;refine⟨F',_,r'.set hd ?_,q'⟩;rw [I.len];exact (EO.mp hy).1
  ·exact .inr z
 ·exact q1.elim
end
open PySem
section
variable {Q:D->Prop} {i j:Int} {xs ys:List D} {z z':Str} {C:Int->Int->Prop} {g:Int->Int->D} {k:Bool}
theorem oB:sr C g (.int i) (.int j) Q=(C i j/\Q (g i j)):=rfl
theorem ig:bw (.int i) (.int j) Q=Q (.int (i + j)):=rfl
theorem hJ:bw (.lst xs) (.lst ys) Q=(xs.length + ys.length<=sizeLine/\Q (.lst (xs ++ ys))):=rfl
theorem ib:bw (.tup xs) (.tup ys) Q=(xs.length + ys.length<=sizeLine/\Q (.tup (xs ++ ys))):=rfl
theorem c9:bw (.str z) (.str z') Q=(z.length + z'.length<=sizeLine/\Q (.str (z ++ z'))):=rfl
theorem kI:jE (.int i) Q=Q (.int (-i)):=rfl
theorem i6:iG (.int i) (.int j) Q=Q (.bl (decide (i=j))):=by
 unfold iG iJ;simp only [dep,aQ,FC,and_self,true_and];rw [Bool.beq_eq_decide_eq]
theorem sO:rJ (.int i) (.int j) Q=Q (.bl (!decide (i=j))):=by
 unfold rJ iJ;simp only [dep,aQ,FC,and_self,true_and];rw [Bool.beq_eq_decide_eq]
theorem sM:iG (.str z) (.str z') Q=Q (.bl (z == z')):=by
 unfold iG iJ;simp only [dep,aQ,FC,and_self,true_and]
theorem tX {k':Bool}:iG (.bl k) (.bl k') Q=Q (.bl (k == k')):=by
 unfold iG iJ;simp only [dep,aQ,FC,and_self,true_and]
theorem tI:tu [.int i] Q=Q (.int i.natAbs):=by
 show Q _=Q _
 congr 2
 split <;> omega
theorem j3:lA [.lst xs] Q=Q (.int xs.length):=rfl
theorem g8:lA [.tup xs] Q=Q (.int xs.length):=rfl
theorem kn:lA [.str z] Q=(z.length<=sizeLine/\Q (.int z.length)):=rfl
theorem pX:xR [.int i,.int j] Q=Q (.int (min i j)):=by
 show Q _=Q _
 congr 2
 split <;> omega
theorem eO:eJ [.lst xs] Q=Q (.tup xs):=rfl
theorem fJ:eJ [.tup xs] Q=Q (.tup xs):=rfl
theorem nr:bA (.lst xs)=some xs:=rfl
theorem mF:bA (.tup xs)=some xs:=rfl
theorem ua {R:Int->Nat->Prop}:jy [.int j] R=((-(2 ^ 62)<=j/\j < 2 ^ 62)/\R 0 j.toNat):=rfl
theorem tQ {R:Int->Nat->Prop}:tY [.int i,.int j] R=((-(2 ^ 62)<=i/\i < 2 ^ 62/\-(2 ^ 62)<=j/\j < 2 ^ 62)/\R i (j - i).toNat):=rfl
theorem o6 (bs:List Bool):boolsOf (bs.map D.bl)=some bs:=qJ bs
end
def Be (xs:List D) (R:D->D->Prop):Prop:=match xs with|[x,y]=>R x y|_=>False
theorem qj {x y:D} {R:D->D->Prop}:Be [x,y] R=R x y:=rfl
theorem pL (i j:Nat) (ts:dS) (Z:Ends3) (env:En):yB i j ts Z env=ts env λxs=>Be xs λx y=>Z.nx ((env.set i (some (.d x))).set j (some (.d y))):=by
 unfold yB Be
 congr 1;funext xs;apply propext
 constructor
 ·rintro⟨x,y,rfl,h⟩;exact h
 ·intro h;split at h
  ·exact⟨_,_,rfl,h⟩
  ·exact h.elim
def oN (xs:List D) (R:D->List D->Prop):Prop:=match xs with|x :: r=>R x r|_=>False
theorem lY {x:D} {r:List D} {R:D->List D->Prop}:oN (x :: r) R=R x r:=rfl
theorem l4 (g:qX) (gs:m7) (xs:List D) (env:En) (Q:En->Prop):bf g gs xs env Q=oN xs λx r=>g x env λenv'=>gs r env' Q:=by
 unfold bf oN;apply propext
 constructor
 ·rintro⟨x,y,rfl,h⟩;exact h
 ·intro h;split at h
  ·exact⟨_,_,rfl,h⟩
  ·exact h.elim
theorem b9 {g:qX} {tb:cK} {Z:Ends3} {xs:List D} (I:Nat->En->Prop)
  (step:∀(i:Nat) (x:D) (env:En) (N:En->Prop),xs[i]?=some x->I i env->(∀e,I (i + 1) e->N e)->g x env λe=>tb { Z with nx:=N,ct:=N,bk:=Z.nx } e)
  (done:∀env,I xs.length env->Z.nx env) {env:En} (h0:I 0 env):turns g tb Z xs env:=by
 have go:∀(n k:Nat) (env:En),k + n=xs.length->I k env->turns g tb Z (xs.drop k) env:=by
  intro n
  induction n with
  | zero =>
   intro k env hk h;rw [FP (by omega)]
   exact done env (by rw [<- hk];exact h)
  | succ n ih =>
   intro k env hk h;have hx:xs[k]?=some (xs[k]'(by omega)):=by simp
   rw [drop_cons hx];exact step k _ env _ hx h λe he=>ih (k + 1) e (by omega) he
 simpa using go xs.length 0 env (by omega) h0
theorem qb {α:Type} {xs:List α} {i:Int} (h0:0<=i) (h1:i < xs.length):lx xs i=xs[i.toNat]?:=by
 unfold L2.lx zG;rw [if_pos h0,if_pos h1];rfl
theorem AK {Q:D->Prop} {xs:List D} {i:Int} (h0:0<=i) (h1:i < xs.length) (q:∀v,v∈xs->Q v):gT (.lst xs) (.int i) Q:=by
 have hl:i.toNat < xs.length:=by omega
 exact⟨xs[i.toNat],by rw [qb h0 h1];simp,q _ (FZ hl)⟩
theorem eR {a b:Int} (h:0 < b):0<=a.fmod b/\a.fmod b < b:=⟨Int.fmod_nonneg_of_pos a h,Int.fmod_lt_of_pos a h⟩
def xw (n:Nat) (a:Int):Prop:=a.natAbs < 2 ^ n
theorem bits_le {n m:Nat} {a:Int} (h:xw n a) (hm:n<=m):xw m a:=EY h (Nat.pow_le_pow_right (by decide) hm)
theorem wO {n:Nat} {a b:Int} (hb:xw n b) (h0:b≠0) (hn:n<=9000):sg a b:=by
 refine⟨h0,?_⟩;have:b.natAbs≠0:=by omega
 exact EY ((Nat.log2_lt this).mpr hb) hn
theorem bV {a b:Int} (h1:-(2 ^ 64) < a) (h2:a < 2 ^ 64):IntMulOk a b:=.of_left (intBits_le_64 h1 h2)
theorem mw {a b:Int} (h1:-(2 ^ 64) < b) (h2:b < 2 ^ 64):IntMulOk a b:=.of_right (intBits_le_64 h1 h2)
theorem yj {c:Int} (j:Int) (h:j≠0/\j.natAbs < 2 ^ 256):sg c j:=wO (n:=256) h.2 h.1 (by decide)
theorem DW (i j:Int) (h:0<=j/\j<=1000000/\i.natAbs < 2 ^ 64):Aw i j:=h
theorem fy {c:Int} (j:Int) (h:j≠0):oS c j:=h
theorem Cc (n:Nat) (a:Int) (h:a.natAbs < 2 ^ n):xw n a:=h
def Ae (m:Nat) (b:Int) (d:D):Prop:=∃xs:List Int,d=.lst (xs.map D.int)/\xs.length=m/\∀x∈xs,0<=x/\x < b
theorem wq {m:Nat} {b:Int} {d:D} (h:Ae m b d) {i:Int} {Q:D->Prop} (h0:0<=i) (h1:i < m) (q:∀x:Int,0<=x->x < b->Q (.int x)):gT d (.int i) Q:=by
 obtain⟨xs,rfl,hl,hb⟩:=h;refine AK h0 (by simpa [hl] using h1) λv hv=>?_;obtain⟨x,hx,rfl⟩:=Fj.mp hv;exact q x (hb x hx).1 (hb x hx).2
def Co (i:Nat) (e:En):Nat:=match e[i]? with|some (some (.own xs))=>xs.length|_=>0
def uU (i:Nat) (e:En):Nat:=match e[i]? with|some (some (.d (.int j)))=>j.toNat|_=>0
end L2.L3
local macro_rules | `(tactic| simp_all_arith only [$ls,*]) => `(tactic| ((try dsimp only [$(⟨ls.elemsAndSeps⟩),*, L2.L3.aN, L2.L3.jj, L2.L3.bT, L2.L3.bC, L2.L3.bg, L2.L3.iD, L2.L3.jI, L2.L3.gh, L2.L3.bO, L2.L3.bP, L2.L3.cQ, L2.L3.ag, L2.L3.cC, L2.L3.aF, L2.L3.pM, L2.L3.aL, L2.L3.j7, L2.L3.o9, L2.L3.tJ, L2.L3.iQ, L2.L3.qL, L2.L3.zB, L2.L3.az, L2.L3.af, L2.L3.aw, L2.L3.c8, L2.L3.iF, L2.L3.mT, L2.L3.a8, L2.L3.iH, L2.L3.de, L2.L3.aR, L2.L3.j4, L2.L3.kR, L2.L3.iE, L2.L3.bU, L2.L3.aA, Fm, List.map_nil, FA, FN, List.cons_append, List.nil_append, Fs, Fq, List.set_cons_zero, List.set_cons_succ, L2.L3.dR, L2.L3.dk, L2.L3.oB, L2.L3.ig, L2.L3.hJ, L2.L3.ib, L2.L3.c9, L2.L3.kI, L2.L3.j3, L2.L3.g8, L2.L3.kn, L2.L3.eO, L2.L3.fJ]); (try simp only [$ls,*, L2.L3.aN, L2.L3.jj, L2.L3.bT, L2.L3.bC, L2.L3.bg, L2.L3.iD, L2.L3.pL, L2.L3.qj, L2.L3.jI, L2.L3.gh, L2.L3.bO, L2.L3.bP, L2.L3.cQ, L2.L3.ag, L2.L3.cC, L2.L3.aF, L2.L3.pM, L2.L3.aL, L2.L3.j7, L2.L3.o9, L2.L3.tJ, L2.L3.iQ, L2.L3.qL, L2.L3.zB, L2.L3.az, L2.L3.af, L2.L3.aw, L2.L3.c8, L2.L3.iF, L2.L3.mT, L2.L3.a8, L2.L3.iH, L2.L3.de, L2.L3.aR, L2.L3.j4, L2.L3.l4, L2.L3.lY, L2.L3.kR, L2.L3.iE, L2.L3.bU, L2.L3.aA, Fm, List.map_nil, FA, FN, List.cons_append, List.nil_append, Fz, Fs, Fq, List.getElem?_nil, List.set_cons_zero, List.set_cons_succ, Option.some.injEq, L2.L3.Lo.d.injEq, L2.L3.Lo.own.injEq, L2.L3.D.bl.injEq, L2.L3.D.int.injEq, exists_eq_left', exists_eq_left, Nat.reduceAdd, Nat.reduceSub, Nat.sub_self, Nat.add_one_sub_one, List.replicate_succ, List.replicate_zero, L2.L3.D.tup.injEq, List.cons.injEq, and_assoc, L2.L3.dR, L2.L3.dk, L2.L3.oB, L2.L3.ig, L2.L3.hJ, L2.L3.ib, L2.L3.c9, L2.L3.kI, L2.L3.i6, L2.L3.sO, L2.L3.sM, L2.L3.tX, L2.L3.tI, L2.L3.j3, L2.L3.g8, L2.L3.kn, L2.L3.pX, L2.L3.eO, L2.L3.fJ, L2.L3.nr, L2.L3.mF, L2.L3.ua, L2.L3.tQ, decide_eq_true_eq, true_and, and_true, if_true, if_false, EV, Bool.not_eq_true', decide_eq_false_iff_not, Fb, Int.reduceToNat, Int.reducePow, Int.reduceMul, Int.reduceAdd, Int.reduceNeg, Int.reduceSub, Int.reduceLT, Int.reduceLE, Int.reduceEq, Nat.reduceEqDiff, decide_true, decide_false, Nat.reduceLeDiff, Nat.reduceLT, Bool.true_eq_false, Bool.not_true, Bool.not_false, Bool.not_not])))
local macro_rules | `(tactic| simp_arith! only [$ls,*] $[$loc]?) => `(tactic| ((try dsimp only [$(⟨ls.elemsAndSeps⟩),*, L2.L3.aN, L2.L3.jj, L2.L3.bT, L2.L3.bC, L2.L3.bg, L2.L3.iD, L2.L3.jI, L2.L3.gh, L2.L3.bO, L2.L3.bP, L2.L3.cQ, L2.L3.ag, L2.L3.cC, L2.L3.aF, L2.L3.pM, L2.L3.aL, L2.L3.j7, L2.L3.o9, L2.L3.tJ, L2.L3.iQ, L2.L3.qL, L2.L3.zB, L2.L3.az, L2.L3.af, L2.L3.aw, L2.L3.c8, L2.L3.iF, L2.L3.mT, L2.L3.a8, L2.L3.iH, L2.L3.de, L2.L3.aR, L2.L3.j4, L2.L3.kR, L2.L3.iE, L2.L3.bU, L2.L3.aA, Fm, List.map_nil, FA, FN, List.cons_append, List.nil_append, Fs, Fq, List.set_cons_zero, List.set_cons_succ, L2.L3.dR, L2.L3.dk, L2.L3.oB, L2.L3.ig, L2.L3.hJ, L2.L3.ib, L2.L3.c9, L2.L3.kI, L2.L3.j3, L2.L3.g8, L2.L3.kn, L2.L3.eO, L2.L3.fJ, L2.L3.kF, L2.L3.ja, L2.L3.BN, L2.L3.pW, L2.L3.gu, L2.L3.w8, L2.L3.rQ, L2.L3.gU, L2.L3.bX] $[$loc]?); (try simp only [$ls,*, L2.L3.aN, L2.L3.jj, L2.L3.bT, L2.L3.bC, L2.L3.bg, L2.L3.iD, L2.L3.pL, L2.L3.qj, L2.L3.jI, L2.L3.gh, L2.L3.bO, L2.L3.bP, L2.L3.cQ, L2.L3.ag, L2.L3.cC, L2.L3.aF, L2.L3.pM, L2.L3.aL, L2.L3.j7, L2.L3.o9, L2.L3.tJ, L2.L3.iQ, L2.L3.qL, L2.L3.zB, L2.L3.az, L2.L3.af, L2.L3.aw, L2.L3.c8, L2.L3.iF, L2.L3.mT, L2.L3.a8, L2.L3.iH, L2.L3.de, L2.L3.aR, L2.L3.j4, L2.L3.l4, L2.L3.lY, L2.L3.kR, L2.L3.iE, L2.L3.bU, L2.L3.aA, Fm, List.map_nil, FA, FN, List.cons_append, List.nil_append, Fz, Fs, Fq, List.getElem?_nil, List.set_cons_zero, List.set_cons_succ, Option.some.injEq, L2.L3.Lo.d.injEq, L2.L3.Lo.own.injEq, L2.L3.D.bl.injEq, L2.L3.D.int.injEq, exists_eq_left', exists_eq_left, Nat.reduceAdd, Nat.reduceSub, Nat.sub_self, Nat.add_one_sub_one, List.replicate_succ, List.replicate_zero, L2.L3.D.tup.injEq, List.cons.injEq, and_assoc, L2.L3.dR, L2.L3.dk, L2.L3.oB, L2.L3.ig, L2.L3.hJ, L2.L3.ib, L2.L3.c9, L2.L3.kI, L2.L3.i6, L2.L3.sO, L2.L3.sM, L2.L3.tX, L2.L3.tI, L2.L3.j3, L2.L3.g8, L2.L3.kn, L2.L3.pX, L2.L3.eO, L2.L3.fJ, L2.L3.nr, L2.L3.mF, L2.L3.ua, L2.L3.tQ, decide_eq_true_eq, true_and, and_true, if_true, if_false, EV, Bool.not_eq_true', decide_eq_false_iff_not, Fb, Int.reduceToNat, Int.reducePow, Int.reduceMul, Int.reduceAdd, Int.reduceNeg, Int.reduceSub, Int.reduceLT, Int.reduceLE, Int.reduceEq, Nat.reduceEqDiff, decide_true, decide_false, Nat.reduceLeDiff, Nat.reduceLT, Bool.true_eq_false, Bool.not_true, Bool.not_false, Bool.not_not, L2.L3.kF, L2.L3.ja, L2.L3.BN, L2.L3.pW, L2.L3.gu, L2.L3.w8, L2.L3.fZ, L2.L3.rQ, L2.L3.D.lst.injEq, L2.L3.gU, L2.L3.bX] $[$loc]?)))
namespace L2.L3
open PySem
def F1 (P:D->(D->Prop)->Prop):Fw:=λds Q=>∃x,ds=[x]/\P x Q
def F2 (P:D->D->(D->Prop)->Prop):Fw:=λds Q=>∃x y,ds=[x,y]/\P x y Q
def F3 (P:D->D->D->(D->Prop)->Prop):Fw:=λds Q=>∃x y z,ds=[x,y,z]/\P x y z Q
theorem vF {P}:∀ds Q,F1 P ds Q->ds.length=1:=by rintro ds Q ⟨x,rfl,_⟩;rfl
theorem kJ {P}:∀ds Q,F2 P ds Q->ds.length=2:=by rintro ds Q ⟨x,y,rfl,_⟩;rfl
theorem nh {P}:∀ds Q,F3 P ds Q->ds.length=3:=by rintro ds Q ⟨x,y,z,rfl,_⟩;rfl
theorem vH {P} {x:D} {Q}:F1 P [x] Q=P x Q:=by
 unfold F1;apply propext;constructor
 ·rintro⟨x',e,h⟩;cases e;exact h
 ·intro h;exact⟨_,rfl,h⟩
theorem iK {P} {x y:D} {Q}:F2 P [x,y] Q=P x y Q:=by
 unfold F2;apply propext;constructor
 ·rintro⟨x',y',e,h⟩;cases e;exact h
 ·intro h;exact⟨_,_,rfl,h⟩
theorem qF {P} {x y z:D} {Q}:F3 P [x,y,z] Q=P x y z Q:=by
 unfold F3;apply propext;constructor
 ·rintro⟨x',y',z',e,h⟩;cases e;exact h
 ·intro h;exact⟨_,_,_,rfl,h⟩
def A6 (x y:D) (Q:D->Prop):Prop:=∃p q:Int,x=.int p/\y=.int q/\Q (.int (Int.gcd p q))
theorem wH (h l:Int) (h0:0<=h) (l0:0 < l):Int.gcd l (h.fmod l)=Int.gcd h l:=by
 rw [Int.fmod_eq_emod_of_nonneg h (by omega),Int.gcd_comm l,Int.emod_def,Int.gcd_comm h l];rw [Int.gcd_comm];exact Int.gcd_sub_mul_left_right ..
def cb:Fw:=F2 A6
def fw:cK:=(aN (bg 2 (az tu (af (ag 0) aw))) (aN (bg 3 (az tu (af (ag 1) aw))) (aN (fP (aL (aF rJ (ag 3) (cC (.int 0)))) (yB 2 3 (af (ag 3) (af (aF dm (ag 2) (ag 3)) aw)))) (bT (ag 2)))))
theorem lD:∀ds Q,cb ds Q->ds.length=2:=kJ
theorem m4:∀ds (Q:D->Prop),cb ds Q->fw { nx:=λ_=>Q .non,rt:=Q } (aA ["p","q","high","low"] ds):=by
 rintro ds Q ⟨x,y,rfl,p,q,rfl,rfl,h⟩
 simp_all_arith only [fw,fP]
 refine⟨λe=>∃a b:Int,e=[some (.d (.int p)),some (.d (.int q)),some (.d (.int a)),some (.d (.int b))]/\0<=a/\0<=b/\Int.gcd a b=Int.gcd p q,
  λe=>match e with|[_,_,_,some (.d (.int b))]=>b.toNat|_=>0,⟨_,_,rfl,by omega,by omega,by simp [Int.gcd]⟩,?_⟩
 rintro env ⟨a,b,rfl,ha,hb,hg⟩
 simp_all_arith only [and_true]
 by_cases hz:b=0
 ·subst hz
  simp_all_arith only [not_true,decide_true]
  have:((Int.gcd p q:Nat):Int)=a:=by rw [<- hg];simp;omega
  rw [this] at h;exact h
 ·have f:=eR (a:=a) (b:=b) (by omega)
  simp_all_arith only [hz,not_false_eq_true,oS,ne_eq]
  refine⟨⟨_,_,rfl,rfl,hb,f.1,?_⟩,by show (a.fmod b).toNat < b.toNat;omega⟩;rw [<- hg];exact wH a b ha (by omega)
def ur (ns:List Int) (k:Int):Int:=if k < ns.length then ns.getD k.toNat 0 else 0
def CW (x y:D) (Q:D->Prop):Prop:=∃(ns:List Int) (k:Int),x=.lst (ns.map D.int)/\y=.int k/\0<=k/\Q (.int (ur ns k))
def cA:Fw:=F2 CW
def jd:cK:=(aN (jj (aL (aF yW (ag 1) (az lA (af (ag 0) aw)))) (bT (aF gT (ag 0) (ag 1))) bC) (bT (cC (.int 0))))
theorem qC:∀ds Q,cA ds Q->ds.length=2:=kJ
theorem qZ:∀ds (Q:D->Prop),cA ds Q->jd { nx:=λ_=>Q .non,rt:=Q } (aA ["_law_script","_law_k"] ds):=by
 rintro ds Q ⟨x,y,rfl,ns,k,rfl,rfl,hk,h⟩
 simp_all_arith only [jd,Ff]
 unfold ur at h
 by_cases hl:k < ns.length
 ·rw [if_pos hl] at h ⊢;have hn:k.toNat < ns.length:=by omega
  refine⟨.int (ns.getD k.toNat 0),?_,h⟩;rw [qb hk (by simpa using hl)];simp [hn]
 ·rw [if_neg hl] at h ⊢;exact h
def wF (x y z:D) (Q:D->Prop):Prop:=∃(c b:Int) (m:Nat),x=.int c/\y=.int b/\z=.int m/\0 < b/\xw 9000 b/\m<=100000/\∀d,Ae m b d->Q d
def cH:Fw:=F3 wF
def fW:cK:=(aN (bO 3 (iH aw)) (aN (gh jy (af (ag 2) aw) (aR 4) (aN (bP 3 (aF dm (ag 0) (ag 1))) (bg 0 (aF kQ (ag 0) (ag 1))))) (cQ 3 (bT (ag 3)))))
theorem mz:∀ds Q,cH ds Q->ds.length=3:=nh
theorem nW:∀ds (Q:D->Prop),cH ds Q->fW { nx:=λ_=>Q .non,rt:=Q } (aA ["_law_cell_here","_law_base","_law_many","_law_row_here","_law_k"] ds):=by
 rintro ds Q ⟨x,y,z,rfl,c,b,m,rfl,rfl,rfl,hb,hbb,hm,h⟩
 simp_all_arith only [fW]
 refine⟨by omega,by omega,?_⟩;refine b9 (λi e=>∃(c':Int) (xs:List Int) (k:Option Lo),e=[some (.d (.int c')),some (.d (.int b)),some (.d (.int m)),some (.own (xs.map D.int)),k]/\xs.length=i/\∀x∈xs,0<=x/\x < b) ?_ ?_ ⟨c,[],none,rfl,rfl,by simp⟩
 ·rintro i x env N hx ⟨c',xs,k,rfl,hl,hxs⟩ hN;have hi:i < m:=by have:=(EO.mp hx).1;simpa [aX] using this
  simp_all_arith only [Ff]
  refine⟨by omega,?_,wO hbb (by omega) (by omega),?_⟩
  ·show b≠0;omega
  ·refine hN _ ⟨c'.fdiv b,xs ++ [c'.fmod b],some (.d x),by simp,by simp [hl],?_⟩;intro y hy;rcases Fy.mp hy with hy|hy
   ·exact hxs y hy
   ·rw [Fi.mp hy];exact eR hb
 ·rintro env ⟨c',xs,k,rfl,hl,hxs⟩
  simp_all_arith only [and_true]
  exact h _ ⟨xs,rfl,by simpa [aX] using hl,hxs⟩
def cX:Fw:=F3 wF
def gJ:cK:=(aN (bO 3 (iH aw)) (aN (gh jy (af (ag 2) aw) (aR 4) (aN (bg 5 (aF dm (aF dN (aF bw (aF bw (aF bw (aF dm (ag 0) (cC (.int 998244353))) (aF dN (aF dN (cC (.int 31)) (ag 4)) (ag 4))) (aF dN (cC (.int 1013)) (ag 4))) (cC (.int 1))) (cC (.int 48271))) (cC (.int 2147483647)))) (aN (bg 6 (aF dm (aF dN (aF bw (aF bw (aF kQ (ag 5) (cC (.int 7))) (aF dN (aF dm (aF kQ (ag 0) (cC (.int 1009))) (cC (.int 10007))) (cC (.int 17)))) (ag 4)) (cC (.int 69621))) (cC (.int 2147483629)))) (bP 3 (aF dm (aF kQ (ag 6) (cC (.int 11))) (ag 1)))))) (cQ 3 (bT (ag 3)))))
theorem nQ:∀ds Q,cX ds Q->ds.length=3:=nh
theorem qA:∀ds (Q:D->Prop),cX ds Q->gJ { nx:=λ_=>Q .non,rt:=Q } (aA ["_law_cell_here","_law_base","_law_many","_law_row_here","_law_k","_law_one","_law_two"] ds):=by
 rintro ds Q ⟨x,y,z,rfl,c,b,m,rfl,rfl,rfl,hb,hbb,hm,h⟩
 simp_all_arith only [gJ]
 refine⟨by omega,by omega,?_⟩;refine b9 (λi e=>∃(xs:List Int) (k1 k2 k3:Option Lo),e=[some (.d (.int c)),some (.d (.int b)),some (.d (.int m)),some (.own (xs.map D.int)),k1,k2,k3]/\xs.length=i/\∀x∈xs,0<=x/\x < b) ?_ ?_ ⟨[],none,none,none,rfl,rfl,by simp⟩
 ·rintro i x env N hx ⟨xs,k1,k2,k3,rfl,hl,hxs⟩ hN;have hi:i < m:=by have:=(EO.mp hx).1;simpa [aX] using this
  have hxe:x=.int (i:Int):=by
   have:(aX 0 m)[i]?=some (.int (0 + (i:Int))):=by simp [aX,hi]
   rw [show ((m:Int).toNat)=m by omega] at hx;rw [this] at hx;cases hx;simp
  subst hxe;have r1:=eR (a:=c) (b:=998244353) (by decide);have r2:=eR (a:=c.fdiv 1009) (b:=10007) (by decide)
  simp_all_arith only [Ff,oS]
  and_intros
  all_goals first
   | decide
   | omega
   | exact bV (by decide) (by decide)
   | exact mw (by decide) (by decide)
   | exact mw (by omega) (by omega)
   | skip
  refine hN _ ⟨xs ++ [_],_,_,_,by rw [List.map_append];rfl,by simp [hl],?_⟩;intro y hy;rcases Fy.mp hy with hy|hy
  ·exact hxs y hy
  ·rw [Fi.mp hy];exact eR hb
 ·rintro env ⟨xs,k1,k2,k3,rfl,hl,hxs⟩
  simp_all_arith only [and_true]
  exact h _ ⟨xs,rfl,by simpa [aX] using hl,hxs⟩
def eG:Fw:=F3 wF
def jZ:cK:=(aN (jj (aL (aF Em (az tu (af (ag 0) aw)) (aF CJ (cC (.int 10)) (cC (.int 18))))) (bT (az cH (af (ag 0) (af (ag 1) (af (ag 2) aw))))) bC) (bT (az cX (af (ag 0) (af (ag 1) (af (ag 2) aw))))))
theorem qM:∀ds Q,eG ds Q->ds.length=3:=nh
theorem tU:∀ds (Q:D->Prop),eG ds Q->jZ { nx:=λ_=>Q .non,rt:=Q } (aA ["_law_cell_here","_law_base","_law_many"] ds):=by
 rintro ds Q ⟨x,y,z,rfl,c,b,m,rfl,rfl,rfl,hb,hbb,hm,h⟩
 simp_all_arith only [jZ,cH,cX,qF]
 refine⟨by (first|exact yj _ (by decide)|exact DW _ _ (by decide)|exact fy _ (by first|decide|omega)|exact bV (by decide) (by decide)|exact mw (by decide) (by decide)|omega|decide),?_⟩
 split <;> exact⟨c,b,m,rfl,rfl,rfl,hb,hbb,hm,h⟩
open PySem PySem.Spec PyProof.Rows
structure wg (K:ES) (J:It) (F1:Hp) (xs:List D):Prop where
 go:∀(i:Nat) (G H':Hp),ao F1 G->ao G H'->i < xs.length->J.go i H'
 yld:∀(i:Nat) (G H':Hp) (y:V) (H'':Hp) (x:D) (B:Base) (σ:St) (env:En),ao F1 G->Rep K B G H' σ env->xs[i]?=some x->J.yld i H' y H''->∃G',Rep K B G' H'' σ env/\ao G G'/\Den K G' x y
 stop:∀(G H':Hp),ao F1 G->ao G H'->J.stop xs.length H'
theorem jW.new {K:ES} {J:It} {F1:Hp} {xs:List D} (S:jW K J F1 xs):wg K J F1 xs :=
 ⟨S.go,λi G H' y H'' x B σ env s1 r hx hy=>by
  obtain⟨e,d⟩:=S.yld i G H' y H'' x s1 r.fh hx hy;subst e
  exact⟨G,r,ao.refl _,d⟩,S.stop⟩
def eL (tt:TB) (te:TD) (bW:En) (Q:List D->Prop):List D->List D->Prop
 | [],acc=>Q acc
 | x :: xs,acc=>∃a b,x=.tup [a,b]/\tt ((bW.set 0 (some (.d a))).set 1 (some (.d b))) λok=>if ok=true then te ((bW.set 0 (some (.d a))).set 1 (some (.d b))) λy=>acc.length < sizeLine/\eL tt te bW Q xs (acc ++ [y]) else eL tt te bW Q xs acc
section
variable {X:Cx} {N':List Str} {ix:List Nat} {scope:Scope} {elt iter a b:Expr} {ifs:List Expr} {x y:Str} {px py tp pos:Pos} {c:Nat} {tt:TB} {te ti:TD} {ts:dS}
theorem sI (hc:X.calm=true) (hN:N'.Nodup) (h0:N'[0]?=some x) (h1:N'[1]?=some y) (hx:(relabel scope X.env).names.lookup x=some .local) (hy:(relabel scope X.env).names.lookup y=some .local)
  (ht:∀C s H fp pins,jV (aH X N' scope C s H fp pins) ifs tt) (he:∀C s H fp pins,QE (aH X N' scope C s H fp pins) elt te)
  {B:Base} {σ:St} {F F1 H1:Hp} {env:En} {Q:List D->Prop} {J:It} {xs:List D} (sF:ao F F1) (r1:Rep X.K B F1 H1 σ env) (S:wg X.K J F1 xs) (q1:eL tt te (bc 2 ix env) Q xs []) :
  ∀(a C:Addr) (s:Shared) (fp:List Addr) (pins:List (Addr×Obj)),H1 a=none ->
   ∃W:Nat->Nat->St->Hp->Prop,(∃m,W 0 m (nM 2 ix σ) (upd H1 a (.lst [])))/\∀i m σ' H',W i m σ' H'->(J.stop i H'/\RF X B σ env F Q (.ref a) H')\/(J.go i H'/\∀z H2,J.yld i H' z H2 ->
    wG (aH X N' scope C s (upd H1 a (.lst [])) fp pins) (.Tuple [.Name x px,.Name y py] c tp) z σ' H2 λσ2 H3=>tN (aH X N' scope C s (upd H1 a (.lst [])) fp pins) ifs σ2 H3 λok H4=>if ok=true then
     wE (aH X N' scope C s (upd H1 a (.lst [])) fp pins) elt σ2 H4 λy H5=>∃ys,H5 a=some (.lst ys)/\ys.length < sizeLine/\∃m',m' < m/\W (i + 1) m' σ2 (upd H5 a (.lst (ys ++ [y])))
     else ∃m',m' < m/\W (i + 1) m' σ2 H4):=by
 intro a C s fp pins ha;have hF1a:F1 a=none:=r1.lX ha
 refine⟨λi m σ' H'=>m=xs.length - i/\i<=xs.length/\∃(F':Hp) (acc:List D) (ys:List V),Rep X.K (Base.here F1 H1) F' H' σ' (bc 2 ix env)/\H' a=some (.lst ys)/\F' a=none/\aq X.K F' acc ys/\eL tt te (bc 2 ix env) Q (xs.drop i) acc,
  ⟨xs.length,by simp,FC _,F1,[],[],uA r1 ha,av,hF1a,aT,by simpa using q1⟩,?_⟩
 rintro i m σ2 H2 ⟨rfl,hi2,F2,acc,ys,r2,hys,hFa,hd,q2⟩;have sH:ao H1 H2:=r2.h0
 by_cases hlt:i < xs.length
 ·have hxi:xs[i]?=some xs[i]:=by simp [hlt]
  rw [drop_cons hxi] at q2;refine .inr ⟨S.go i F2 H2 r2.f0 r2.fh hlt,λz H3 hz=>?_⟩;obtain⟨da,db,exy,q2⟩:=q2;obtain⟨G,rG,sG,dz⟩:=S.yld i F2 H2 z H3 xs[i] (Base.here F2 H2) σ2 (bc 2 ix env) r2.f0 (r2.here bM bL) hxi hz;rw [exy] at dz;have g1:=aC (X:=aH X N' scope C s (upd H1 a (.lst [])) fp pins) (pos:=px) 0 hN h0 (.inl hx) (.inr hx);have g2:=aC (X:=aH X N' scope C s (upd H1 a (.lst [])) fp pins) (pos:=py) 1 hN h1 (.inl hy) (.inr hy)
  have g:=iU (X:=aH X N' scope C s (upd H1 a (.lst [])) fp pins) (pos:=tp) (k:=c) (n:=2) hc (aJ g1 (aJ g2 eB));refine hG (g (Base.here F2 H2) σ2 G H3 (bc 2 ix env) (λe=>e=((bc 2 ix env).set 0 (some (.d da))).set 1 (some (.d db))) (.tup [da,db]) z rG dz ⟨_,rfl,rfl,_,_,rfl,_,_,rfl,rfl,rfl⟩) λσ3 H4 hq0=>?_;obtain⟨F4,env4,r4,s4,q4⟩:=hq0;subst q4;intro pins' s' I';refine Fo (ht C s (upd H1 a (.lst [])) fp pins (Base.here F2 H2) σ3 F4 H4 _ _ r4 q2 pins' s' I') (λok s5 ⟨H5,I5,F5,r5,s5',q5⟩=>⟨H5,I5,?_⟩) λ_ _ e=>e
  have weak':∀(j:Nat) l,(bc 2 ix env)[j]?=some (some l)->(((bc 2 ix env).set 0 (some (.d da))).set 1 (some (.d db)))[j]?=some (some l):=λj l hj=>by
   have hj0:j≠0:=λw=>by
    subst w;simp [bc] at hj
   have hj1:j≠1:=λw=>by
    subst w;simp [bc] at hj
   rw [EU (Ne.symm hj1),EU (Ne.symm hj0)];exact hj
  cases ok with
  | false =>
   have q5':eL tt te (bc 2 ix env) Q (xs.drop (i + 1)) acc:=q5
   refine⟨xs.length - (i + 1),by omega,rfl,by omega,F5,acc,ys,r5.there r2.f0 sH (λp hp=>r2.nf p hp) weak' bM bL,r5.h0 _ _ hys,r5.nf a ⟨by rw [hys];simp,hFa⟩,aq.mono r5.f0 _ _ hd,q5'⟩
  | true =>
   have q5':te (((bc 2 ix env).set 0 (some (.d da))).set 1 (some (.d db))) λy=>acc.length < sizeLine/\eL tt te (bc 2 ix env) Q (xs.drop (i + 1)) (acc ++ [y]):=q5;refine aE (he C s (upd H1 a (.lst [])) fp pins (Base.here F2 H2) σ3 F5 H5 _ _ r5 q5') λu H6 hq0=>?_;obtain⟨F6,d,r6,s6,d6,hl,q6⟩:=hq0;have ha6:H6 a=some (.lst ys):=r6.h0 _ _ hys;have hF6:F6 a=none:=r6.nf a ⟨by rw [hys];simp,hFa⟩;refine⟨ys,ha6,by rw [<- hd.length];exact hl,xs.length - (i + 1),by omega,rfl,by omega,F6,acc ++ [d],ys ++ [u],?_,av,hF6,(aq.mono r6.f0 _ _ hd).append (aM d6 aT),q6⟩
   have r7:Rep X.K (Base.here F1 H1) F6 H6 σ3 (bc 2 ix env):=r6.there r2.f0 sH (λp hp=>r2.nf p hp) weak' bM bL;refine⟨r7.f0,λb o hb=>?_,λb o hb=>?_,r7.nf,r7.dv,λj zs q=>(bM j zs q).elim,r7.ne,λj zs q=>(bL j zs q).elim,r7.nm⟩
   ·have:b≠a:=λw=>by subst w;rw [hF6] at hb;cases hb
    rw [au this];exact r7.fh _ _ hb
   ·have:b≠a:=λw=>by subst w;have hb':H1 b=some o:=hb;rw [ha] at hb';cases hb'
    rw [au this];exact r7.h0 _ _ hb
 ·have e:i=xs.length:=by omega
  subst e;rw [FP (E3 _)] at q2;refine .inl ⟨S.stop F2 H2 r2.f0 r2.fh,F2,λb=>if b=a then none else H2 b,a,ys,acc,rfl,if_pos rfl,?_,?_,sF.trans r2.f0,hd,q2⟩
  ·funext b;unfold upd
   by_cases z:b=a
   ·rw [if_pos z,z];exact hys
   ·rw [if_neg z];show H2 b=if b=a then none else H2 b
    rw [if_neg z]
  ·refine r1.ext r2.f0 (λb o hb=>?_) (λb o hb=>?_) λp h1 h2=>r2.nf p ⟨h1,h2⟩
   ·have:b≠a:=λw=>by subst w;rw [hFa] at hb;cases hb
    show (if b=a then none else H2 b)=_
    rw [if_neg this];exact r2.fh _ _ hb
   ·have:b≠a:=λw=>by subst w;rw [ha] at hb;cases hb
    show (if b=a then none else H2 b)=_
    rw [if_neg this];exact sH _ _ hb
def kg (ix:List Nat) (ti:TD) (tt:TB) (te:TD):dS:=λenv Q=>ti env λd=>∃xs,bA d=some xs/\eL tt te (bc 2 ix env) Q xs []
theorem mI (hc:X.calm=true) (O:aS X N' 2 ix scope) (hN:N'.Nodup) (h0:N'[0]?=some x) (h1:N'[1]?=some y) (hx:(relabel scope X.env).names.lookup x=some .local) (hy:(relabel scope X.env).names.lookup y=some .local) (hi:QE X iter ti)
  (ht:∀C s H fp pins,jV (aH X N' scope C s H fp pins) ifs tt) (he:∀C s H fp pins,QE (aH X N' scope C s H fp pins) elt te) (hs:∀x,FD iter X.env x=pure x:=by intro _;rfl) :
  QF X (.ListComp elt [⟨.Tuple [.Name x px,.Name y py] c tp,iter,ifs,0⟩] scope pos) (kg ix ti tt te):=by
 refine⟨λB σ F H env Q rp h=>bN (jS hc (qu bz) O hs) ?_⟩;exact nB hi rp h λJ F1 H1 xs r1 s1 S q=>sI hc hN h0 h1 hx hy ht he s1 r1 S.new q
def BK (d:D):Option (List D):=match d with|.lst xs=>some xs|.tup xs=>some xs|_=>none
end
mutual
theorem ue:∀(a b c:D),aQ a b=true->aQ a c=aQ b c:=by
 intro a b c h;cases a <;> cases b <;> first|(simp only [aQ,EV] at h;done)|skip
 all_goals cases c <;> first|rfl|(simp only [aQ,beq_iff_eq] at h ⊢;subst h;rfl)|skip
 all_goals first
  | (simp only [aQ] at h ⊢;exact rN _ _ _ h)
  | (simp only [aQ,beq_iff_eq] at h ⊢;rw [Bool.eq_iff_iff];simp only [beq_iff_eq];split at h <;> split <;> simp_all <;> omega)
  | (simp only [aQ,beq_iff_eq] at h ⊢;rw [Bool.eq_iff_iff];simp only [beq_iff_eq];split at h <;> simp_all)
  | (simp only [aQ,beq_iff_eq] at h ⊢;subst h;rw [Bool.eq_iff_iff];simp only [beq_iff_eq];split <;> simp_all)
  | (simp only [aQ,beq_iff_eq] at h ⊢;subst h;split <;> simp_all)
theorem rN:∀(a b c:List D),bQ a b=true->bQ a c=bQ b c:=by
 intro a b c h
 cases a with
 | nil=>cases b with
  | nil=>rfl
  | cons y r=>simp only [bQ,EV] at h
 | cons x r=>cases b with
  | nil=>simp only [bQ,EV] at h
  | cons y t =>
   simp only [bQ,Bool.and_eq_true] at h
   cases c with
   | nil=>rfl
   | cons z u=>simp only [bQ];rw [ue x y z h.1,rN r t u h.2]
end
section
variable {X:Cx} {pins:List (Addr×Obj)} {σ:St} {H F:Hp} {s:Shared}
open Classical in
noncomputable def gv (us:List Value) (ds:List D) (d:D) (u:Value):Bool:=decide (∃(i:Nat) (x:D),us[i]?=some u/\ds[i]?=some x/\aQ x d=true)
open Classical in
theorem lL (I:Inv X pins σ H s) (fh:ao F H) {ds:List D} {vs:List V} {us:List Value} {d:D} (hd:bJ ds < 1000) (dl:aq X.K F ds vs) (rv:Vals vs us) {j:Nat} {x:D} {u:Value} (hx:ds[j]?=some x) (hu:us[j]?=some u):gv us ds d u=aQ x d:=by
 unfold gv
 have dle:∀(k:Nat) (y:D),ds[k]?=some y->dep y < 1000:=λk y hy=>by
  clear dl rv hx hu
  induction ds generalizing k with
  | nil=>simp at hy
  | cons z r ih =>
   simp only [bJ] at hd
   cases k with
   | zero=>simp at hy;subst hy;omega
   | succ k=>exact ih (by omega) k (by simpa using hy)
 cases hb:aQ x d with
 | true=>exact decide_eq_true ⟨j,x,hu,hx,hb⟩
 | false =>
  refine decide_eq_false λhq0=>?_;obtain⟨i,y,h1,h2,h3⟩:=hq0;obtain⟨v1,e1,d1⟩:=dl.get hx;obtain⟨v2,e2,d2⟩:=dl.get h2;obtain⟨w1,g1,r1⟩:=rv.get e1;obtain⟨w2,g2,r2⟩:=rv.get e2;rw [hu] at g1;cases g1;rw [h1] at g2;cases g2;have:=r1.inj r2;subst this;have k:=lN I fh y x _ (dle _ _ h2) (dle _ _ hx) d2 d1;rw [ue y x d k,hb] at h3;cases h3
theorem jl (I:Inv X pins σ H s) (fh:ao F H) {ds:List D} {vs:List V} {us:List Value} {d:D} (hd:bJ ds < 1000) (dl:aq X.K F ds vs) (rv:Vals vs us):us.map (gv us ds d)=ds.map λx=>aQ x d:=by
 have l1:=dl.length;have l2:=rv.length;apply List.ext_getElem?
 intro i;rw [E2,E2]
 by_cases hi:i < ds.length
 ·have h1:ds[i]?=some ds[i]:=by simp [hi]
  have h2:us[i]?=some (us[i]'(by omega)):=ET _;rw [h1,h2];simp only [Option.map_some];rw [lL I fh hd dl rv h1 h2]
 ·rw [Fg (by omega),Fg (by omega)];rfl
end
section
variable {X:Cx} {a b:Expr} {ta tb:TD} {pos:Pos}
def C4 (X:Cx) (neg:Bool):R2:=λx y H Q=>∃(F:Hp) (d:D) (ds:List D) (vs:List V) (p:Addr),ao F H/\Den X.K F d x/\y=.ref p/\(fL X.K F p vs\/jg X.K F p vs)/\aq X.K F ds vs/\X.A.units + 64 < cLine/\bJ ds<=60/\dep d<=60/\Q (.bl (if neg then !ds.any (λe=>aQ e d) else ds.any λe=>aQ e d)) H
theorem any_map' {α:Type} (f:α->Bool) (l:List α):l.any f=(l.map f).any id:=by rw [List.any_map];rfl
theorem ni {X:Cx} {pins:List (Addr×Obj)} {σ:St} {H F:Hp} {s:Shared} (I:Inv X pins σ H s) (fh:ao F H) {ds:List D} {vs:List V} {us:List Value} {d:D} {x:V} {v:Value} (hu:X.A.units + 64 < cLine) (hds:bJ ds<=60) (hd:dep d<=60) (dl:aq X.K F ds vs) (rv:Vals vs us) (dx:Den X.K F d x) (rx:RelV x v) :
  ∀u∈us,SeqAt.EqAt X.A.in1 s u v (gv us ds d u):=by
 intro u hu';obtain⟨j,hj,e⟩:=List.getElem_of_mem hu';have h2:us[j]?=some u:=by rw [<- e];simp [hj]
 have l1:=dl.length;have l2:=rv.length;have h1:ds[j]?=some (ds[j]'(by omega)):=ET _;rw [lL I fh (by omega) dl rv h1 h2];obtain⟨w,g1,g2⟩:=dl.get h1;obtain⟨u',g3,g4⟩:=rv.get g1;rw [h2] at g3;cases g3
 have dle:dep (ds[j]'(by omega))<=60:=by
  have go:∀(l:List D) (n:Nat),bJ l<=n->∀y∈l,dep y<=n:=by
   intro l
   induction l with
   | nil=>intro n _ y hy;cases hy
   | cons z r ih =>
    intro n hn y hy;simp only [bJ] at hn;rcases Fe.mp hy with rfl|hy
    ·omega
    ·exact ih n (by omega) y hy
  exact go ds 60 hds _ (FZ _)
 exact jw I fh _ d X.A.in1 _ x u v (by rw [units_in1];omega) (by omega) (by omega) g2 dx g4 rx
theorem yN:gq X (compareOp .NotIn) (C4 X true):=by
 intro pins s σ H x y v u Q I rx ry h;obtain⟨F,d,ds,vs,p,fh,dx,rfl,hq,dl,hu,h1,h2,q⟩:=h;cases ry;rcases hq with hq|hq
 ·obtain⟨its,r,pl,hz⟩:=I.list (fh.seq hq);refine SeqAt.notIn_listAt (gv its ds d) pl.isList (λw hw=>ni I fh hu h1 h2 dl r dx rx w (by simpa using hw)) ⟨.bl _,H,I,rfl,?_⟩;rw [show its.toArray.any (gv its ds d)=its.any (gv its ds d) by simp,any_map',jl I fh (by omega) dl r,<- any_map'];exact q
 ·obtain⟨its,r,pl,hz⟩:=I.tuple (ao.bS fh hq);refine SeqAt.notIn_tupleAt (gv its ds d) pl (λw hw=>ni I fh hu h1 h2 dl r dx rx w (by simpa using hw)) ⟨.bl _,H,I,rfl,?_⟩;rw [show its.toArray.any (gv its ds d)=its.any (gv its ds d) by simp,any_map',jl I fh (by omega) dl r,<- any_map'];exact q
def yg (neg:Bool) (x y:D) (Q:D->Prop):Prop:=∃ds,BK y=some ds/\bJ ds<=60/\dep x<=60/\Q (.bl (if neg then !ds.any (λe=>aQ e x) else ds.any λe=>aQ e x))
theorem zS (hu:X.A.units + 64 < cLine) (neg:Bool):sk X (C4 X neg) (yg neg):=by
 intro B σ F H env Q d d' x y Z rp h1 h2 hz hf;obtain⟨ds,e,l1,l2,q⟩:=hf
 cases d' with
 | lst xs =>
  simp only [BK] at e;cases e;simp only [Den] at h2;obtain⟨p,vs,rfl,hq,dl⟩:=h2
  exact⟨F,d,_,vs,p,rp.fh,h1,rfl,.inl hq,dl,hu,l1,l2,hz _ H F _ rp (ao.refl _) dY q⟩
 | tup xs =>
  simp only [BK] at e;cases e;simp only [Den] at h2;obtain⟨p,vs,rfl,hq,dl⟩:=h2
  exact⟨F,d,_,vs,p,rp.fh,h1,rfl,.inr hq,dl,hu,l1,l2,hz _ H F _ rp (ao.refl _) dY q⟩
 | _=>simp only [BK] at e;cases e
theorem BF (hu:X.A.units + 64 < cLine) (ha:QE X a ta) (hb:QE X b tb) (hm:behindInMarks .NotIn b=false:=by rfl):QT X (.Compare a [.NotIn] [b] pos) (aL (aF (yg true) ta tb)):=j5 yN (zS hu true) ha hb hm
end
end L2.L3
namespace L2.L3
open PySem PySem.Spec PyProof.Rows
section
variable {X:Cx} {e f:Expr} {te tf:TD} {ts:dS} {pos:Pos}
theorem uW {a:Expr} {ta:TA} {p:Pos} (hg:Gl X "range") (hm:X.mg "range" = none) (ha:PA X [a] ta) (hs:starEach [a] X.env=[(false,eval a X.env)]:=by rfl) :
  PE X (.Call (.Name "range" p) [a] [] pos) (λσ H Q=>ta σ H λvs H1=>∃n:Int,vs=[.int n]/\∀r,H1 r=none->Q (.ref r) (upd H1 r (.rng 0 n))):=by
 intro pins s σ H Q I h;refine Call_ (jX I hg hm boot_range (PyProof.Rows.callWith_type1 (bu (ha pos pins s σ H _ I h) λus s1 ⟨vs,H1,I1,r1,q1⟩=>?_) hs rfl));obtain⟨n,rfl,q⟩:=q1;obtain⟨u,rfl,ru⟩:=r1.one;obtain⟨t,rfl⟩:=ru;refine call_range_1 ⟨.ref s1.heap.objs.size,_,I1.laid (λb o e=>EZ _ e) (E3 _) (show bo X.prog X.w _ _ _ (.rng 0 n) from ⟨_,_,_,Fh _ rfl⟩),rfl,q _ (I1.hok.fresh (E3 _))⟩
theorem iB {n:Nat} {acc:Array Value} (h:ItemsOf (λi v=>∃t,v=.int ((0:Int) + i * 1) t) acc n):Vals ((List.range n).map λ(i:Nat)=>V.int (i:Int)) acc.toList:=by
 have hl:acc.toList.length=n:=by simpa using h.1
 have go:∀(l:List Value) (k:Nat),(∀(j:Nat) (v:Value),l[j]?=some v->∃t,v=.int ((k + j:Nat):Int) t)->Vals ((List.range' k l.length).map λ(i:Nat)=>V.int (i:Int)) l:=by
  intro l
  induction l with
  | nil=>intro k _;exact .nil
  | cons v r ih =>
   intro k hk;obtain⟨t,e⟩:=hk 0 v rfl;refine .cons ⟨t,by simpa using e⟩ (ih (k + 1) λj w hw=>?_);obtain⟨t',e'⟩:=hk (j + 1) w (by simpa using hw);exact⟨t',by rw [e'];congr 1;omega⟩
 have:=go acc.toList 0 λj v hv=>by
  obtain⟨t,e⟩:=h.2 j v (by simpa using hv);exact⟨t,by rw [e];congr 1;omega⟩
 rw [hl,<- List.range_eq_range'] at this;exact this
theorem tP (hc:X.calm=true):dr X (.type "list") (λxs H Q=>∃r n,xs=[.ref r]/\H r=some (.rng 0 n)/\(-(2 ^ 62)<=n/\n<=16777216)/\∀l,H l=none->Q (.ref l) (upd H l (.lst ((List.range n.toNat).map λ(i:Nat)=>V.int (i:Int))))):=by
 intro pins s σ H xs us Q I r h;obtain⟨a,n,rfl,hr,⟨n1,n2⟩,q⟩:=h;obtain⟨u,rfl,rx⟩:=vals1 r;cases rx;obtain⟨t,u,v,e⟩:=(show bo X.prog X.w H s.heap a (.rng 0 n) from I.hok a _ hr);have hsz:Builtin.Range.rangeSize 0 n 1=(n.toNat:Int):=by rw [rangeSize_one];split <;> omega
 refine call_list_range (I.ok.hd hc) e (small_one (by decide) (by decide) n1 (by omega)) hsz (by omega) λh' tk acc c kp e' it=>?_;refine⟨.ref s.heap.objs.size,_,I.laid (t':=tk) kp (E3 _) (show bo X.prog X.w _ h' _ (.lst ((List.range n.toNat).map λ(i:Nat)=>V.int (i:Int))) from ⟨by simp [Fb];omega,acc.toList,c,iB it,by simpa using e'⟩),rfl,q _ (I.hok.fresh (E3 _))⟩
def qp (ts:dS):dS:=λenv Q=>ts env λds=>∃n:Int,ds=[.int n]/\(-(2 ^ 62)<=n/\n<=16777216)/\Q (aX 0 n.toNat)
theorem sJ {K:ES} {F:Hp} (n:Nat):aq K F (aX 0 n) ((List.range n).map λ(i:Nat)=>V.int (i:Int)):=by
 have e:aX 0 n=((List.range n).map λ(i:Nat)=>(i:Int)).map D.int:=by unfold aX;rw [List.map_map];congr 1;funext i;simp
 have e2:((List.range n).map λ(i:Nat)=>V.int (i:Int))=((List.range n).map λ(i:Nat)=>(i:Int)).map V.int:=by rw [List.map_map];rfl
 rw [e,e2];exact oy _
theorem wb {a:Expr} {p p2 pos2:Pos} (hm:X.mg "list" = none) (hm2:X.mg "range" = none) (ha:QA X [a] ts) (hc:X.calm=true:=by rfl) (hg:Gl X "list":=by rfl) (hg2:Gl X "range":=by rfl) (hs:starEach [a] X.env=[(false,eval a X.env)]:=by rfl)
  (he:starEach [.Call (.Name "range" p2) [a] [] pos2] X.env=(false,eval (.Call (.Name "range" p2) [a] [] pos2) X.env) :: starEach [] X.env:=by exact aV rfl) (hpl:(backTo pos (starEach ([]:List Expr) X.env)).any (·.1)=false:=by rfl) :
  QF X (.Call (.Name "list" p) [.Call (.Name "range" p2) [a] [] pos2] [] pos) (qp ts):=by
 refine⟨λB σ F H env Q rp h=>bN (ot (tP hc) hg hm ub (ir (uW hg2 hm2 iV hs) m6 he) (by decide) (by decide) he hpl) ?_⟩;refine cu (ha B σ F H env _ rp h) λvs H1 hq0=>?_;obtain⟨F1,ds,r1,s1,d1,n,e1,hn,q1⟩:=hq0;subst e1;simp only [aq,Den] at d1;obtain⟨v,r,rfl,rfl,rfl⟩:=d1;refine⟨n,rfl,λr hr=>?_⟩;obtain⟨r2,s2⟩:=r1.laid (o:=.rng 0 n) hr;exact⟨r,n,rfl,av,hn,λw hw=>⟨_,_,w,_,_,rfl,hw,rfl,r2,s1.trans s2,sJ _,q1⟩⟩
end
section
variable {X:Cx} {o e:Expr} {to te:TD} {apos cpos:Pos}
theorem oH {X:Cx} {pins:List (Addr×Obj)} {σ:St} {H F:Hp} {s:Shared} (I:Inv X pins σ H s) (fh:ao F H) {ds:List D} {vs:List V} {us:List Value} {d:D} {x:V} {v:Value} (A:Around) (hu:A.units + 62 < cLine) (hds:bJ ds<=60) (hd:dep d<=60) (dl:aq X.K F ds vs) (rv:Vals vs us) (dx:Den X.K F d x) (rx:RelV x v) :
  ∀u∈us,SeqAt.EqAt A s u v (gv us ds d u):=by
 intro u hu';obtain⟨j,hj,e⟩:=List.getElem_of_mem hu';have h2:us[j]?=some u:=by rw [<- e];simp [hj]
 have l1:=dl.length;have l2:=rv.length;have h1:ds[j]?=some (ds[j]'(by omega)):=ET _;rw [lL I fh (by omega) dl rv h1 h2];obtain⟨w,g1,g2⟩:=dl.get h1;obtain⟨u',g3,g4⟩:=rv.get g1;rw [h2] at g3;cases g3
 have dle:dep (ds[j]'(by omega))<=60:=by
  have go:∀(l:List D) (n:Nat),bJ l<=n->∀y∈l,dep y<=n:=by
   intro l
   induction l with
   | nil=>intro n _ y hy;cases hy
   | cons z r ih =>
    intro n hn y hy;simp only [bJ] at hn;rcases Fe.mp hy with rfl|hy
    ·omega
    ·exact ih n (by omega) y hy
  exact go ds 60 hds _ (FZ _)
 exact jw I fh _ d A _ x u v (by omega) (by omega) (by omega) g2 dx g4 rx
theorem kT {α:Type} (f:α->Bool) (l:List α):l.countP f=(l.map f).countP id:=by rw [List.countP_map];rfl
end
end L2.L3
local macro_rules | `(tactic| simp_arith only [$ls,*] $[$loc]?) => `(tactic| ((try dsimp only [$(⟨ls.elemsAndSeps⟩),*, L2.L3.aN, L2.L3.jj, L2.L3.bT, L2.L3.bC, L2.L3.bg, L2.L3.iD, L2.L3.jI, L2.L3.gh, L2.L3.bO, L2.L3.bP, L2.L3.cQ, L2.L3.ag, L2.L3.cC, L2.L3.aF, L2.L3.pM, L2.L3.aL, L2.L3.j7, L2.L3.o9, L2.L3.tJ, L2.L3.iQ, L2.L3.qL, L2.L3.zB, L2.L3.az, L2.L3.af, L2.L3.aw, L2.L3.c8, L2.L3.iF, L2.L3.mT, L2.L3.a8, L2.L3.iH, L2.L3.de, L2.L3.aR, L2.L3.j4, L2.L3.kR, L2.L3.iE, L2.L3.bU, L2.L3.aA, Fm, List.map_nil, FA, FN, List.cons_append, List.nil_append, Fs, Fq, List.set_cons_zero, List.set_cons_succ, L2.L3.dR, L2.L3.dk, L2.L3.oB, L2.L3.ig, L2.L3.hJ, L2.L3.ib, L2.L3.c9, L2.L3.kI, L2.L3.j3, L2.L3.g8, L2.L3.kn, L2.L3.eO, L2.L3.fJ, L2.L3.kF, L2.L3.ja, L2.L3.BN, L2.L3.pW, L2.L3.gu, L2.L3.w8, L2.L3.rQ, L2.L3.gU, L2.L3.bX, L2.L3.qp, L2.L3.kg] $[$loc]?); (try simp only [$ls,*, L2.L3.aN, L2.L3.jj, L2.L3.bT, L2.L3.bC, L2.L3.bg, L2.L3.iD, L2.L3.pL, L2.L3.qj, L2.L3.jI, L2.L3.gh, L2.L3.bO, L2.L3.bP, L2.L3.cQ, L2.L3.ag, L2.L3.cC, L2.L3.aF, L2.L3.pM, L2.L3.aL, L2.L3.j7, L2.L3.o9, L2.L3.tJ, L2.L3.iQ, L2.L3.qL, L2.L3.zB, L2.L3.az, L2.L3.af, L2.L3.aw, L2.L3.c8, L2.L3.iF, L2.L3.mT, L2.L3.a8, L2.L3.iH, L2.L3.de, L2.L3.aR, L2.L3.j4, L2.L3.l4, L2.L3.lY, L2.L3.kR, L2.L3.iE, L2.L3.bU, L2.L3.aA, Fm, List.map_nil, FA, FN, List.cons_append, List.nil_append, Fz, Fs, Fq, List.getElem?_nil, List.set_cons_zero, List.set_cons_succ, Option.some.injEq, L2.L3.Lo.d.injEq, L2.L3.Lo.own.injEq, L2.L3.D.bl.injEq, L2.L3.D.int.injEq, exists_eq_left', exists_eq_left, Nat.reduceAdd, Nat.reduceSub, Nat.sub_self, Nat.add_one_sub_one, List.replicate_succ, List.replicate_zero, L2.L3.D.tup.injEq, List.cons.injEq, and_assoc, L2.L3.dR, L2.L3.dk, L2.L3.oB, L2.L3.ig, L2.L3.hJ, L2.L3.ib, L2.L3.c9, L2.L3.kI, L2.L3.i6, L2.L3.sO, L2.L3.sM, L2.L3.tX, L2.L3.tI, L2.L3.j3, L2.L3.g8, L2.L3.kn, L2.L3.pX, L2.L3.eO, L2.L3.fJ, L2.L3.nr, L2.L3.mF, L2.L3.ua, L2.L3.tQ, decide_eq_true_eq, true_and, and_true, if_true, if_false, EV, Bool.not_eq_true', decide_eq_false_iff_not, Fb, Int.reduceToNat, Int.reducePow, Int.reduceMul, Int.reduceAdd, Int.reduceNeg, Int.reduceSub, Int.reduceLT, Int.reduceLE, Int.reduceEq, Nat.reduceEqDiff, decide_true, decide_false, Nat.reduceLeDiff, Nat.reduceLT, Bool.true_eq_false, Bool.not_true, Bool.not_false, Bool.not_not, L2.L3.kF, L2.L3.ja, L2.L3.BN, L2.L3.pW, L2.L3.gu, L2.L3.w8, L2.L3.fZ, L2.L3.rQ, L2.L3.D.lst.injEq, L2.L3.gU, L2.L3.bX, L2.L3.qp, L2.L3.BK, L2.L3.kg] $[$loc]?)))
namespace L2.L3
open PySem PySem.Spec PyProof.Rows
def XY (X:Cx) (B:Base) (xc:Str->Prop):Value->Shared->Prop:=λe s'=>wpAny (model X.prog X.w) X.A (noteFrame e X.env) (λ_ s2=>wpAny (model X.prog X.w) X.A (setFlight e none) (λ_ s3=>XZ X B xc e s3) (λ_ _=>False) s2) (λ_ _=>False) s'
theorem XZ.EF {X:Cx} {B:Base} {xc:Str->Prop} {e:Value} {s':Shared} (hst:X.stack=X.env :: X.outer) (hf:X.env.frame=some X.env.locals) (h:XZ X B xc e s'):XY X B xc e s':=by
 obtain⟨pins,a,c,C,σ',H',F',env',rfl,th,r,hm,hx⟩:=h;exact th.note hst hf λs'' t''=>⟨pins,a,c,C,σ',H',F',env',rfl,t'',r,hm,hx⟩
structure QY (X:Cx) (st:Stmt) (t:pS):Prop where
 of ::
 run:∀(B:Base) (σ:St) (F H:Hp) (env:En) (D:rh),Rep X.K B F H σ env->t D env->wS (X.bG (XY X B D.xc)) st (RS X B D.toEnds3) σ H
structure BM (X:Cx) (st:List Stmt) (t:pS):Prop where
 of ::
 run:∀(B:Base) (σ:St) (F H:Hp) (env:En) (D:rh),Rep X.K B F H σ env->t D env->wSs (X.bG (XY X B D.xc)) st (RS X B D.toEnds3) σ H
section
variable {X:Cx} {c e:Expr} {es:List Expr} {st:Stmt} {sts xs ys body:List Stmt} {p q:pS} {tc:TB} {pos:Pos}
theorem iM (h:QZ X st p) (hst:X.stack=X.env :: X.outer:=by rfl) (hf:X.env.frame=some X.env.locals:=by rfl):QY X st p:=⟨λB σ F H env D rp hq pins s I =>
 Fo (h.run B σ F H env D rp hq pins s (I.aW.bG _)) (λ_ _ q=>SP.t9 q) λ_ _ z=>XZ.EF hst hf z⟩
theorem uC (h:QY X st p):BM X [st] p:=⟨λB σ F H env D rp hq=>i9 (ph vd) (h.run B σ F H env D rp hq)⟩
theorem df (h1:QY X st p) (h2:BM X sts q):BM X (st :: sts) (gu p q):=by
 refine⟨λB σ F H env D rp h=>i9 (jO vd d9) ?_⟩;exact pQ (h1.run B σ F H env { D with nx:=q D } rp h) (λσ' H' ⟨F',env',rp',q⟩=>h2.run B σ' F' H' env' D rp' q) (λ_ _ q=>q) (λ_ _ q=>q) (λ_ _ q=>q)
def sP (c:TB) (tb:pS):pS:=λD env=>∃(I:En->Prop) (μ:En->Nat),I env/\∀env,I env->c env λk=>if k=true then tb { D with nx:=λe'=>I e'/\μ e' < μ env,ct:=λe'=>I e'/\μ e' < μ env,bk:=D.nx } env else D.nx env
theorem vV (hc:QT X.nK c tc) (hb:BM X body p):QY X (.While c body [] pos) (sP tc p):=by
 refine⟨λB σ F H env D rp h=>?_⟩;obtain⟨I,μ,i0,turn⟩:=h;refine gR (rY (X:=X.bG (XY X B D.xc)) PassesOwn.looking n5 d9) ?_;refine⟨λm σ H=>∃F env,Rep X.K B F H σ env/\I env/\μ env=m,⟨_,F,env,rp,i0,rfl⟩,?_⟩
 rintro m σ1 H1 ⟨F1,env1,r1,i1,rfl⟩;refine eU (vL (hc B σ1 F1 H1 env1 _ r1 (turn env1 i1))) λk H2 ⟨F2,r2,s2,q2⟩=>?_
 cases k with
 | false=>exact⟨F2,env1,r2,q2⟩
 | true =>
  refine⟨λσ' H'=>∃F' env',Rep X.K B F' H' σ' env'/\I env'/\μ env' < μ env1,λσ' H' ⟨F',env',r',i',l⟩=>⟨_,l,F',env',r',i',rfl⟩,?_⟩;exact hb.run B σ1 F2 H2 env1 _ r2 q2
end
section
variable {P:Program} {w:World} {K:ES} {mg:Str->Option Value} {base:Heap}
theorem XY.leave {N:List Str} {qual:Str} {scope:Scope} {f:Addr} {cd:Value} {A:Around} {outer:List Env} {s0:Shared} {H0:Hp} {E:XK} {B:Base} {xc:Str->Prop} {e:Value} {s':Shared}
  (t:XY (gj (zL P w) P w K mg base N qual scope f cd A outer s0 H0 E) B xc e s') (q:∀(c:Str) (C:Value) (σ':St) (H' F':Hp) (env':En),Rep K B F' H' σ' env'->mg c=some C->xc c->E C none H') :
  (gj (zL P w) P w K mg base N qual scope f cd A outer s0 H0 E).xe e s':=by
 show wpAny (model P w) _ (leaving _ e) _ _ s'
 unfold leaving;refine ER (Fo t (λ_ s2 z=>Fo z (λ_ s3 y=>?_) λ_ _ y=>y.elim) λ_ _ y=>y.elim);obtain⟨pins,a,c,C,σ',H',F',env',rfl,t'',r,hm,hx⟩:=y;have I:=t''.inv;obtain⟨Hc,sc,Ic,os,bare,un,hok,fl⟩:=t'';refine⟨a,C,none,H',rfl,I.os,I.bare,I.base,I.hok,fl.zz λb o e=>?_,q c C σ' H' F' env' r hm hx⟩;exact Ic.base.there b o e (by show b∉([]:List Addr);simp)
theorem nJ.sT {x qual:Str} {st:Stmt} {fa:Addr} {fd:FuncData} {N ps:List Str} {k:Nat} {f:ug} (F:nJ K x qual st fa fd) (S:aI N ps (aj st)) (hmg:mg x=some (.ref fa)) (hb:Binds K fd ps [])
  (hl:∀ds Q R,f ds Q R->ds.length=ps.length)
  (hbody:∀(cdv:Value) (A:Around) (outer:List Env) (s:Shared) (H:Hp) (E:XK),cp k (A.deeper (envOfC qual (aj st) s.heap.objs.size fa cdv)) ->
   ∃t,BM (gj (zL P w) P w K mg base N qual (aj st) fa cdv A outer s H E) (a6 st) t/\∀ds (Q:D->Prop) (R:Str->Prop),f ds Q R->t { nx:=λ_=>Q .non,rt:=Q,xc:=R } (aA N ds)) :
  ft P w K mg base (k + 1) x f:=by
 refine⟨fa,fd,ps,?_,hmg,F.kp,hb⟩;obtain⟨oc,od,kV,doc,pm,an,cdv,ct,osl,rfl,lk,hcd⟩:=F.ex;refine vJ lk hcd S (λvs H Q E h=>?_) λA outer s H vs Q E hr h=>?_
 ·obtain⟨F0,ds,P,R,_,hd,hf,_⟩:=h;rw [<- hd.length];exact hl ds _ _ hf
 ·obtain⟨F0,ds,P',R,fh,hd,hf,kk,kx⟩:=h;obtain⟨t,ht,hq⟩:=hbody cdv A outer s H E hr;refine⟨_,d9,?_⟩;have core:=ht.run _ (start N vs) F0 H (aA N ds) _ (eS fh hd) (hq ds P' R hf);intro pins s1 I;refine Fo (core pins s1 (I.bG _)) (λfl s2 z=>?_) λex s2 z=>?_
  ·refine lJ (SP.aW z) (λσ' H' ⟨F',env',r,q⟩=>?_) (λv H' ⟨F',d',r,dd,q⟩=>?_) (λ_ _ ⟨_,_,_,q⟩=>q) (λ_ _ ⟨_,_,_,q⟩=>q)
   ·exact kk .non .non F' H' r.f0 r.h0 r.fh (λp h1 h2=>r.nf p ⟨h1,h2⟩) jm q
   ·exact kk d' v F' H' r.f0 r.h0 r.fh (λp h1 h2=>r.nf p ⟨h1,h2⟩) dd q
  ·exact XY.leave z λc C σ' H' F' env' r hm hx=>kx c C F' H' r.f0 r.h0 r.fh (λp h1 h2=>r.nf p ⟨h1,h2⟩) hm hx
end
section
variable {prog:Program} {w:World} {A:Around} {E:Value->Shared->Prop} {s:Shared}
def ia (prog:Program) (w:World) (A:Around) (s:Shared) (v:Value):Prop:=∀(E:Value->Shared->Prop) (Q:Bool->Shared->Prop),Q true s->wpAny (model prog w) A (eqIsQuiet 8 v) Q E s
def fB (prog:Program) (w:World) (A:Around) (s:Shared) (v:Value) (h:Int) (n:Nat):Prop:=∀(E:Value->Shared->Prop) (Q:Int->Shared->Prop),Q h { s with toks:=s.toks + n }->wpAny (model prog w) A (PySem.pyHash v) Q E s
theorem rS {key:Value} {stored:List Value} {Q:Bool->Shared->Prop} (hkey:ia prog w A s key)
  (hst:∀v∈stored,ia prog w A s v) (h:Q false s):wpAny (model prog w) A (tableMayTell key stored) Q E s:=by
 unfold tableMayTell
 split
 ·exact EW h
 ·refine ER (hkey _ _ ?_);simp only [Bool.not_true,EV,if_false];refine ER ?_;refine wpAny_forIn_list _ (λrest r s'=>s'=s/\r=(none,())/\∀v∈rest,ia prog w A s v) _ ?_ ?_ _ _ ⟨rfl,rfl,hst⟩
  ·rintro x rest r s' ⟨rfl,rfl,hr⟩;refine ER (hr x Fc _ _ ?_);simp only [Bool.not_true,EV,if_false];exact EW ⟨rfl,rfl,λv hv=>hr v (E4 _ hv)⟩
  ·rintro r s' ⟨rfl,rfl,_⟩;exact EW h
structure iZ (prog:Program) (w:World) (A:Around) (s:Shared) (es:Array DictEntry) (key:Value) (h:Int) (m:Nat->Bool):Prop where
 eq:∀(j:Nat) (hj:j < es.size),SeqAt.EqAt A s es[j].key key (m j)
 mh:∀(j:Nat) (hj:j < es.size),m j=true->es[j].hash=h
 mu:∀(i j:Nat),i < es.size->j < es.size->m i=true->m j=true->i=j
 same:∀(j:Nat) (hj:j < es.size),es[j].key=key->es[j].hash=h
 qk:ia prog w A s key
 qs:∀(j:Nat) (hj:j < es.size),ia prog w A s es[j].key
 ns:(∃i t,key=.int i t)\/(∃a,key=.ref a)\/key=.none
theorem vb {M:Model} {A:Around} {E:Value->Shared->Prop} {s:Shared} {α β:Type} {c:Prop} [Decidable c] {t1 t2:Sem β} {k:β->Sem α} {v:β} {Q:α->Shared->Prop} (h1:∀{R:β->Shared->Prop},R v s->wpAny M A t1 R E s) (h2:∀{R:β->Shared->Prop},R v s->wpAny M A t2 R E s)
  (h:wpAny M A (k v) Q E s):wpAny M A (if c then t1 >>= k else t2 >>= k) Q E s:=by
 split
 ·exact ER (h1 h)
 ·exact ER (h2 h)
theorem oU {d:Addr} {o:Obj} {es:Array DictEntry} {ep} {key:Value} {h:Int} {m:Nat->Bool} {Q:Option Nat->Shared->Prop} (f:iZ prog w A s es key h m)
  (ho:s.heap.get? d=some o) (hd:o.data=.dict es ep)
  (hnone:(∀j,j < es.size->m j=false)->Q none s) (hsome:∀j,j < es.size->m j=true->Q (some j) s) :
  wpAny (model prog w) A (dictFind d key h) Q E s:=by
 have hask:∀(j:Nat),j < es.size->m j=true->((es[j]?.map (·.hash)) == some h)=true:=by
  intro j hj hm;rw [Array.getElem?_eq_getElem hj,Option.map_some,f.mh j hj hm];simp
 have hst:∀v∈(placesWithHash es.size (λi=>es[i]?.map (·.hash)) h).filterMap (λi=>es[i]?.map (·.key)),ia prog w A s v:=by
  intro v hv;obtain⟨i,_,hi⟩:=List.mem_filterMap.mp hv
  cases hei:es[i]? with
  | none=>rw [hei] at hi;cases hi
  | some e =>
   rw [hei] at hi;obtain rfl:e.key=v:=by simpa using hi
   obtain⟨hl,rfl⟩:=FJ.mp hei;exact f.qs i hl
 have hany:¬ (es.any λe=>e.key == key && e.hash != h)=true:=by
  rw [<- Array.any_toList,List.any_eq_true]
  rintro⟨e,hin,hc⟩;obtain⟨i,hi,rfl⟩:=Array.mem_iff_getElem.mp (Array.mem_toList_iff.mp hin);simp only [Bool.and_eq_true,beq_iff_eq,bne_iff_ne,ne_eq] at hc;exact hc.2 (f.same i hi hc.1)
 have plain:wpAny (model prog w) A (dictWalkPlain d key h es (placesWithHash es.size (λi=>es[i]?.map (·.hash)) h)) Q E s:=by
  refine ER ?_
  refine wpAny_forIn_list _
   (λrest b s'=>s'=s/\b=(none,())/\∃i,rest=(List.range' i (es.size - i)).filter (λi=>(es[i]?.map (·.hash)) == some h)/\i<=es.size /\
    ∀j,j < i->m j=false) _ ?_ ?_ _ _
   ⟨rfl,rfl,0,by rw [placesWithHash,List.range_eq_range',Nat.sub_zero],FC _,λ_ h=>absurd h (FU _)⟩
  ·rintro x rest b s' ⟨rfl,rfl,i,hr,hi,hno⟩;obtain⟨hix,hxn,hpx,hskip,hrest⟩:=filter_range'_cons _ _ _ _ _ hr.symm;have hlt:x < es.size:=by omega
   have before:∀j,j < x->m j=false:=λj hjx=>by
    rcases FQ j i with c|c
    ·exact hno j c
    ·cases hmj:m j with
     | false=>rfl
     | true=>have q:=hskip j c hjx;rw [hask j (by omega) hmj] at q;cases q
   have hnext:m x=false->∃i,rest=(List.range' i (es.size - i)).filter (λi=>(es[i]?.map (·.hash)) == some h)/\i<=es.size/\∀j,j < i->m j=false:=λhne =>
    ⟨x + 1,by rw [hrest];congr 2;omega,hlt,λj hji=>by
     rcases FQ j x with c|c
     ·exact before j c
     ·have:j=x:=by omega
      subst this;exact hne⟩
   simp only [Array.getElem?_eq_getElem hlt]
   by_cases hh:(es[x].hash == h)=true
   ·rw [if_pos hh];refine ER (wpAny_dictEpoch ho hd (ER (f.eq x hlt prog w _ _ (ER (wpAny_dictEpoch ho hd ?_)))));show wpAny _ _ (if (ep != ep)=true then _ else _) _ E _
    rw [if_neg (by simp)]
    cases hm:m x with
    | true=>exact ER (wpAny_rule (EW (EW (hsome x hlt hm))))
    | false=>exact ER (wpAny_rule (EW ⟨rfl,rfl,hnext hm⟩))
   ·rw [if_neg hh];refine EW ⟨rfl,rfl,hnext ?_⟩
    cases hm:m x with
    | false=>rfl
    | true=>exact absurd (beq_iff_eq.mpr (f.mh x hlt hm)) hh
  ·rintro b s' ⟨rfl,rfl,i,hr,hi,hno⟩;refine EW (hnone λj hj=>?_);rcases FQ j i with c|c
   ·exact hno j c
   ·have:=List.filter_eq_nil_iff.mp hr.symm j (List.mem_range'_1.mpr ⟨c,by omega⟩)
    cases hmj:m j with
    | false=>rfl
    | true=>rw [hask j hj hmj] at this;exact absurd rfl this
 have ns:=f.ns;unfold dictFind
 try with_reducible refine wpAny_holding ?_
 refine ER (wpAny_dictEntries ho hd ?_)
 extract_lets places stored hit jp2 jp1 jp0
 have h1:wpAny (model prog w) A (jp1 ()) Q E s:=by
  refine vb (v:=false) (λq=>EW q) (λq=>rS f.qk hst q) ?_;dsimp only [jp2,stored,places,hit]
  (
   rw [if_neg (by simp)];refine ER ?_
   refine wpAny_forIn_list _
    (λrest b s'=>s'=s/\∃i hit,b=(none,hit)/\rest=(List.range' i (es.size - i)).filter (λi=>(es[i]?.map (·.hash)) == some h)/\i<=es.size /\
     ((hit=none/\∀j,j < i->m j=false)\/∃j,hit=some j/\j < i/\m j=true)) _ ?_ ?_ _ _
    ⟨rfl,0,none,rfl,by rw [placesWithHash,List.range_eq_range',Nat.sub_zero],FC _,.inl ⟨rfl,λ_ h=>absurd h (FU _)⟩⟩
   ·rintro x rest b s' ⟨rfl,i,hit,rfl,hr,hi,hH⟩;obtain⟨hix,hxn,hpx,hskip,hrest⟩:=filter_range'_cons _ _ _ _ _ hr.symm;have hlt:x < es.size:=by omega
    have hrest':rest=(List.range' (x + 1) (es.size - (x + 1))).filter (λi=>(es[i]?.map (·.hash)) == some h):=by rw [hrest];congr 2;omega
    have hHx:(hit=none/\∀j,j < x->m j=false)\/∃j,hit=some j/\j < x/\m j=true:=by
     rcases hH with ⟨h0,hno⟩|⟨j,h1,hji,hj⟩
     ·refine .inl ⟨h0,λj hjx=>?_⟩;rcases FQ j i with c|c
      ·exact hno j c
      ·cases hmj:m j with
       | false=>rfl
       | true=>have q:=hskip j c hjx;rw [hask j (by omega) hmj] at q;cases q
     ·exact .inr ⟨j,h1,by omega,hj⟩
    have hstay:m x=false->((hit=none/\∀j,j < x + 1->m j=false)\/∃j,hit=some j/\j < x + 1/\m j=true):=by
     intro hne;rcases hHx with ⟨h0,hno⟩|⟨j,h1,hjx,hj⟩
     ·refine .inl ⟨h0,λj hjx=>?_⟩;rcases FQ j x with c|c
      ·exact hno j c
      ·have:j=x:=by omega
       subst this;exact hne
     ·exact .inr ⟨j,h1,by omega,hj⟩
    rw [Array.getElem?_eq_getElem hlt];dsimp only
    by_cases hh:(es[x].hash == h)=true
    ·rw [if_pos hh];refine ER (wpAny_dictEpoch ho hd (ER (f.eq x hlt prog w _ _ (ER (wpAny_dictEpoch ho hd ?_)))));show wpAny _ _ (if (ep != ep)=true then _ else _) _ E _
     rw [if_neg (by simp)]
     cases hm:m x with
     | true =>
      rcases hHx with ⟨rfl,_⟩|⟨j,_,hjx,hj⟩
      ·first|rw [if_pos rfl]|skip
       simp only [Option.isSome_none,EV,if_false]
       first|refine ER (EW ?_)|skip
       refine ER (wpAny_rule ?_)
       split
       ·exact EW (EW (hsome x hlt hm))
       ·exact EW ⟨rfl,x + 1,some x,rfl,hrest',hlt,.inr ⟨x,rfl,Nat.lt_succ_self x,hm⟩⟩
      ·exact absurd (f.mu j x (by omega) hlt hj hm) (by omega)
     | false =>
      simp only [EV,if_false];refine ER (wpAny_rule ?_)
      first|rw [if_neg (by simp)]|skip
      first
       | exact EW ⟨rfl,x + 1,hit,rfl,hrest',hlt,hstay hm⟩
       | exact ER (EW (EW ⟨rfl,x + 1,hit,rfl,hrest',hlt,hstay hm⟩))
    ·rw [if_neg hh];refine EW ⟨rfl,x + 1,hit,rfl,hrest',hlt,hstay ?_⟩
     cases hm:m x with
     | false=>rfl
     | true=>exact absurd (beq_iff_eq.mpr (f.mh x hlt hm)) hh
   ·rintro b s' ⟨rfl,i,hit,rfl,hr,hi,hH⟩;rcases hH with ⟨rfl,hno⟩|⟨j,rfl,hji,hj⟩
    ·refine EW (hnone λj hj=>?_);rcases FQ j i with c|c
     ·exact hno j c
     ·have:=List.filter_eq_nil_iff.mp hr.symm j (List.mem_range'_1.mpr ⟨c,by omega⟩)
      cases hmj:m j with
      | false=>rfl
      | true=>rw [hask j hj hmj] at this;exact absurd rfl this
    ·exact EW (hsome j (by omega) hj))
 rcases ns with ⟨ki,kt,rfl⟩|⟨ka,rfl⟩|rfl
 ·exact wpAny_ite_split (λ_=>plain) λ_=>h1
 ·exact wpAny_ite_split (λ_=>plain) λ_=>wpAny_ite_split (λz=>absurd z hany) λ_=>h1
 ·exact wpAny_ite_split (λ_=>plain) λ_=>h1
theorem bE.typeIs {d:Addr} {es:Array DictEntry} {ep:Nat} (x:bE s.heap d es ep):s.TypeIs (.ref d) "dict":=let ⟨o,ho,hc,_⟩:=x;⟨o,ho,hc.1⟩
theorem bE.new (h:Heap):bE (h.push { cls:=.type "dict",data:=.dict #[] }) h.objs.size #[] 0:=⟨_,Fh _ rfl,⟨rfl,rfl,rfl⟩,rfl⟩
theorem rX {d:Addr} {es:Array DictEntry} {ep:Nat} {key:Value} {h:Int} {n:Nat} {m:Nat->Bool} {Q:Option Value->Shared->Prop} (hh:fB prog w A s key h n) (f:iZ prog w A { s with toks:=s.toks + n } es key h m) (x:bE s.heap d es ep)
  (hnone:(∀j,j < es.size->m j=false)->Q none { s with toks:=s.toks + n }) (hsome:∀j (hj:j < es.size),m j=true->Q (some es[j].val) { s with toks:=s.toks + n }) :
  wpAny (model prog w) A (dictGet d key) Q E s:=by
 obtain⟨o,ho,_,hd⟩:=x;unfold dictGet
 try with_reducible refine wpAny_holding ?_
 refine ER (hh _ _ (ER (oU (s:={ s with toks:=s.toks + n }) f ho hd ?_ ?_)))
 ·intro hno;exact EW (hnone hno)
 ·intro j hj hm;refine ER (wpAny_dictEntries (s:={ s with toks:=s.toks + n }) ho hd ?_);rw [Array.getElem?_eq_getElem hj];exact EW (hsome j hj hm)
theorem rA {d:Addr} {es:Array DictEntry} {ep:Nat} {key v:Value} {h:Int} {n:Nat} {m:Nat->Bool} {Q:Unit->Shared->Prop} (hh:fB prog w A s key h n) (f:iZ prog w A { s with toks:=s.toks + n } es key h m) (x:bE s.heap d es ep) (hz:es.size<=sizeLine)
  (hnone:(∀j,j < es.size->m j=false)->∀h',bE h' d (es.push ⟨h,key,v⟩) (ep + 1)->Heap.SameBut d s.heap h'->Q () { s with heap:=h',toks:=s.toks + n })
  (hsome:∀j (hj:j < es.size),m j=true->∀h',bE h' d (es.modify j λe=>{ e with val:=v }) ep->Heap.SameBut d s.heap h'->Q () { s with heap:=h',toks:=s.toks + n }) :
  wpAny (model prog w) A (dictSet d key v) Q E s:=by
 obtain⟨o,ho,hc,hd⟩:=x;unfold dictSet
 try with_reducible refine wpAny_holding ?_
 refine ER (hh _ _ ?_);unfold dictSetHashed
 try with_reducible refine wpAny_holding ?_
 refine ER (oU (s:={ s with toks:=s.toks + n }) f ho hd ?_ ?_)
 ·intro hno;exact ER (wpAny_rule (wpAny_updateDictKeys (hz:=hz) (s:={ s with toks:=s.toks + n }) ho hd (hnone hno _ ⟨_,Heap.get?_update_self _ ho (Obj.isFreed_of_dict (Obj.data_mapDictKeys hd _)),hc.mapDictKeys _,Obj.data_mapDictKeys hd _⟩ (Heap.SameBut.update ..))))
 ·intro j hj hm;exact ER (wpAny_rule (ER (wpAny_updateDict (s:={ s with toks:=s.toks + n }) ho hd (wpAny_point (hsome j hj hm _ ⟨_,Heap.get?_update_self _ ho (Obj.isFreed_of_dict (Obj.data_mapDict hd _)),hc.mapDict _,Obj.data_mapDict hd _⟩ (Heap.SameBut.update ..))))))
theorem rB {d:Addr} {es:Array DictEntry} {ep:Nat} {key:Value} {h:Int} {n j:Nat} {m:Nat->Bool} {Q:Value->Shared->Prop} (hh:fB prog w A.in1 s key h n) (f:iZ prog w A.in1 { s with toks:=s.toks + n } es key h m) (x:bE s.heap d es ep)
  (hj:j < es.size) (hm:m j=true) (hq:Q es[j].val { s with toks:=s.toks + n }):wpAny (model prog w) A (getItem (.ref d) key) Q E s:=by
 unfold getItem
 try with_reducible refine wpAny_holding ?_
 refine ER (wpAny_sequenceKey x.typeIs (by decide) ?_)
 refine ER (Gg (name:=Str.ofString "__getitem__") x.typeIs slot_dict_getitem
  (wpAny_call_entry slot_dict_getitem x.typeIs entry_dict_getitem ?_ (args_dict_getitem _ _)))
 show wpAny _ _ (dictGet d key >>= _) _ _ s
 refine ER (rX hh f x (λhno=>by rw [hno j hj] at hm;cases hm) λi hi hmi=>?_);have:=f.mu i j hi hj hmi hm;subst this;exact EW ⟨_,rfl,EW hq⟩
theorem sa {d:Addr} {es:Array DictEntry} {ep:Nat} {key v:Value} {h:Int} {n:Nat} {m:Nat->Bool} {Q:Unit->Shared->Prop} (hh:fB prog w A.in1 s key h n) (f:iZ prog w A.in1 { s with toks:=s.toks + n } es key h m) (x:bE s.heap d es ep) (hz:es.size<=sizeLine)
  (hnone:(∀j,j < es.size->m j=false)->∀h',bE h' d (es.push ⟨h,key,v⟩) (ep + 1)->Heap.SameBut d s.heap h'->Q () { s with heap:=h',toks:=s.toks + n })
  (hsome:∀j (hj:j < es.size),m j=true->∀h',bE h' d (es.modify j λe=>{ e with val:=v }) ep->Heap.SameBut d s.heap h'->Q () { s with heap:=h',toks:=s.toks + n }) :
  wpAny (model prog w) A (setItem (.ref d) key v) Q E s:=by
 unfold setItem
 try with_reducible refine wpAny_holding ?_
 refine ER (wpAny_sequenceKey x.typeIs (by decide) ?_)
 refine ER (Gg (name:=Str.ofString "__setitem__") x.typeIs slot_dict_setitem
  (wpAny_call_entry slot_dict_setitem x.typeIs entry_dict_setitem ?_ (args_dict_setitem _ _ _)))
 show wpAny _ _ (Builtin.Dict.notOrdered "__setitem__" ⟨[.ref d,key,v],[]⟩ >>= _) _ _ s
 refine ER (wpAny_notOrdered_dict x.typeIs ?_);show wpAny _ _ (dictSet d key v >>= _) _ _ s
 exact ER (rA hh f x hz (λhno h' a b=>EW ⟨.none,rfl,EW (hnone hno h' a b)⟩) (λj hj hm h' a b=>EW ⟨.none,rfl,EW (hsome j hj hm h' a b)⟩))
theorem qw {d:Addr} {es:Array DictEntry} {ep:Nat} {key:Value} {h:Int} {n:Nat} {m:Nat->Bool} {Q:Bool->Shared->Prop} (hh:fB prog w A.in1 s key h n) (f:iZ prog w A.in1 { s with toks:=s.toks + n } es key h m) (x:bE s.heap d es ep) (hs:(d == sysModules)=false)
  (hnone:(∀j,j < es.size->m j=false)->Q false { s with toks:=s.toks + n }) (hsome:∀j (hj:j < es.size),m j=true->Q true { s with toks:=s.toks + n }):wpAny (model prog w) A (contains (.ref d) key) Q E s:=by
 unfold contains
 try with_reducible refine wpAny_holding ?_
 refine ER (wpAny_specialOf x.typeIs slot_dict_contains.lookup ?_);show wpAny _ _ (if (some (Value.builtin "dict.__contains__") == some Value.none)=true then _ else _) _ E s
 rw [if_neg (by rw [beq_builtin_none];exact Bool.false_ne_true)]
 refine ER (wpAny_callSpecialUnlessNone?_slot (name:=Str.ofString "__contains__") x.typeIs slot_dict_contains
  (wpAny_call_entry slot_dict_contains x.typeIs entry_dict_contains ?_ (args_dict_contains _ _)))
 show wpAny _ _ (dictGet d key >>= _) _ _ s
 refine ER (rX hh f x (λhno=>?_) λi hi hmi=>?_)
 ·show wpAny _ _ (Builtin.Dict.pendingKey? d key >>= _) _ _ _
  exact ER (wpAny_pendingKey_other hs (EW ⟨_,rfl,wpAny_truthy_bool (hnone hno)⟩))
 ·show wpAny _ _ (ret (.bool true)) _ _ _
  exact EW ⟨_,rfl,wpAny_truthy_bool (hsome i hi hmi)⟩
end
mutual
def aP:D->Bool
 | .int _=>true
 | .non=>true
 | .tup ds=>fI ds
 | _=>false
def fI:List D->Bool
 | []=>true
 | d :: ds=>aP d && fI ds
end
mutual
def x6:D->Nat
 | .int _=>1
 | .non=>1
 | .tup ds=>qi ds + 1
 | _=>0
def qi:List D->Nat
 | []=>0
 | d :: ds=>x6 d + qi ds
end
theorem j0 (d:D):∀ds:List D,mH (ds ++ [d])=mH ds ++ [um d]
 | []=>rfl
 | x :: ds=>by show um x :: mH (ds ++ [d])=_;rw [j0 d ds];rfl
theorem kD (d:D):∀ds:List D,qi (ds ++ [d])=qi ds + x6 d
 | []=>by simp [qi]
 | x :: ds=>by show x6 x + qi (ds ++ [d])=_;rw [kD d ds];simp only [qi];omega
mutual
theorem cP:∀(a b:D),aP a=true->aQ a b=true->aP b=true->a=b
 | .int i,b,h,e,k=>by cases b <;> simp only [aQ,aP,beq_iff_eq,EV] at e k;rw [e]
 | .tup ds,b,h,e,k=>by
  cases b <;> simp only [aQ,aP,EV] at e k
  rw [rm _ _ (by simpa only [aP] using h) e k]
 | .non,b,h,e,k=>by cases b <;> simp only [aQ,EV] at e;rfl
 | .bl _,b,h,e,k=>by simp only [aP,EV] at h
 | .str _,b,h,e,k=>by simp only [aP,EV] at h
 | .lst _,b,h,e,k=>by simp only [aP,EV] at h
 | .dct _ _,b,h,e,k=>by simp only [aP,EV] at h
 | .ty _,b,h,e,k=>by simp only [aP,EV] at h
 | .exc _,b,h,e,k=>by simp only [aP,EV] at h
 | .cls _,b,h,e,k=>by simp only [aP,EV] at h
 | .obj _,b,h,e,k=>by simp only [aP,EV] at h
theorem rm:∀(a b:List D),fI a=true->bQ a b=true->fI b=true->a=b
 | [],b,h,e,k=>by cases b <;> simp only [bQ,EV] at e;rfl
 | x :: a,b,h,e,k=>by
  cases b with
  | nil=>simp only [bQ,EV] at e
  | cons y b =>
   simp only [bQ,fI,Bool.and_eq_true] at e h k;rw [cP x y h.1 e.1 k.1,rm a b h.2 e.2 k.2]
end
mutual
theorem iz:∀(a:D),aP a=true->aQ a a=true
 | .int i,h=>by simp only [aQ,beq_self_eq_true]
 | .tup ds,h=>by simp only [aQ];exact mr ds (by simpa only [aP] using h)
 | .non,h=>by simp only [aQ]
 | .bl _,h=>by simp only [aP,EV] at h
 | .str _,h=>by simp only [aP,EV] at h
 | .lst _,h=>by simp only [aP,EV] at h
 | .dct _ _,h=>by simp only [aP,EV] at h
 | .ty _,h=>by simp only [aP,EV] at h
 | .exc _,h=>by simp only [aP,EV] at h
 | .cls _,h=>by simp only [aP,EV] at h
 | .obj _,h=>by simp only [aP,EV] at h
theorem mr:∀(a:List D),fI a=true->bQ a a=true
 | [],h=>rfl
 | x :: a,h=>by
  simp only [fI,Bool.and_eq_true] at h;simp only [bQ,Bool.and_eq_true];exact⟨iz x h.1,mr a h.2⟩
end
section
variable {X:Cx} {pins:List (Addr×Obj)} {σ:St} {H F:Hp}
theorem xO {s:Shared} {a:Addr} {items:List Value} {A:Around} {ds:List D} {vs:List V} (hu:A.units < cLine) (hT:IsTup s.heap a items.toArray) (rv:Vals vs items) (dl:aq X.K F ds vs)
  (rec:∀(d:D) (v:V) (u:Value) (n:Nat),d∈ds->Den X.K F d v->RelV v u->fB X.prog X.w A.in1 { s with toks:=s.toks + n } u (um d) (x6 d)) :
  fB X.prog X.w A s (.ref a) (reduceHash (Builtin.Tuple.tupleHashOf (mH ds))) (qi ds + 1):=by
 intro E Q h;obtain⟨o,ho,hc,n,hd⟩:=hT;have hT:s.TypeIs (.ref a) "tuple":=⟨o,ho,hc⟩
 unfold PySem.pyHash
 first|unfold pyHashByItsType|skip
 first|refine ER (wpAny_cRoomFor_or (.inr hu) ?_)|skip
 refine ER (wpAny_specialOf hT PySem.F.slot_tuple_hash.lookup ?_);show wpAny _ _ (if (some (Value.builtin "tuple.__hash__") == some Value.none)=true then _ else _) Q E s
 rw [if_neg (by rw [beq_builtin_none];exact Bool.false_ne_true)];refine ER (wpAny_specialOf hT PySem.F.slot_tuple_hash.lookup ?_);show wpAny _ _ (callSpecialIfBoundUnlessNone? (.ref a) "__hash__" _ >>= _) Q E s
 refine ER (wpAny_callSpecialIfBoundUnlessNone?_slot hT PySem.F.slot_tuple_hash (wpAny_call_entry PySem.F.slot_tuple_hash hT PySem.F.entry_tuple_hash ?_ (PySem.F.args_tuple_hash_1 _)));show wpAny _ _ (Builtin.Tuple.tupleItemsOf (.ref a) >>= _) _ _ s
 refine ER (wpAny_tupleItemsOf ho hd ?_);refine ER ?_;rw [<- Array.forIn_toList]
 refine wpAny_forIn_list _
  (λrest (b:Array Int) s'=>∃done left vl,ds=done ++ left/\aq X.K F left vl/\Vals vl rest/\b.toList=mH done/\s'={ s with toks:=s.toks + qi done })
  _ ?_ ?_ _ _ ⟨[],ds,vs,rfl,dl,by simpa using rv,rfl,rfl⟩
 ·rintro x rest b s' ⟨done,left,vl,rfl,hl,hv,hb,rfl⟩
  cases hv with
  | @cons v _ vl' _ r1 hv' =>
   cases left with
   | nil=>simp only [aq] at hl;cases hl
   | cons d left' =>
    simp only [aq] at hl;obtain⟨v',r',e,hd',hl'⟩:=hl;cases e;refine ER (rec d v x _ (by simp) hd' r1 _ _ ?_)
    first
     | exact EW ⟨done ++ [d],left',vl',by simp,hl',hv',by simp [hb,j0],by simp [kD,Nat.add_assoc]⟩
     | exact ER (EW (EW ⟨done ++ [d],left',vl',by simp,hl',hv',by simp [hb,j0],by simp [kD,Nat.add_assoc]⟩))
 ·rintro b s' ⟨done,left,vl,rfl,hl,hv,hb,rfl⟩;cases hv
  cases left with
  | cons d left'=>simp only [aq] at hl;obtain⟨_,_,e,_⟩:=hl;cases e
  | nil =>
  rw [Fz] at h;show wpAny _ _ (retInt (Builtin.Tuple.tupleHashOf b.toList)) _ _ _
  rw [hb];refine wpAny_ret_mkInt ?_;show wpAny _ _ (if (decide (-(2:Int) ^ 63<=Builtin.Tuple.tupleHashOf (mH done)) && decide (Builtin.Tuple.tupleHashOf (mH done) < 2 ^ 63))=true then _ else _) Q E _
  unfold reduceHash at h
  by_cases hr:(decide (-(2:Int) ^ 63<=Builtin.Tuple.tupleHashOf (mH done)) && decide (Builtin.Tuple.tupleHashOf (mH done) < 2 ^ 63))=true
  ·rw [if_pos hr];rw [if_pos hr] at h;exact EW (by simpa [Nat.add_assoc] using h)
  ·rw [if_neg hr];rw [if_neg hr] at h;exact ER (wpAny_rule (EW (by simpa [Nat.add_assoc] using h)))
theorem wm {s:Shared} {A:Around} (hu:A.units < cLine):fB X.prog X.w A s .none 4238894112 1:=by
 intro E Q h;have hT:s.TypeIs .none "NoneType":=rfl
 unfold PySem.pyHash
 first|unfold pyHashByItsType|skip
 first|refine ER (wpAny_cRoomFor_or (.inr hu) ?_)|skip
 refine ER (wpAny_specialOf hT PySem.F.slot_NoneType_hash.lookup ?_);show wpAny _ _ (if (some (Value.builtin "NoneType.__hash__") == some Value.none)=true then _ else _) Q E s
 rw [if_neg (by rw [beq_builtin_none];exact Bool.false_ne_true)];refine ER (wpAny_specialOf hT PySem.F.slot_NoneType_hash.lookup ?_);show wpAny _ _ (callSpecialIfBoundUnlessNone? .none "__hash__" _ >>= _) Q E s
 refine ER (wpAny_callSpecialIfBoundUnlessNone?_slot hT PySem.F.slot_NoneType_hash (wpAny_call_entry PySem.F.slot_NoneType_hash hT PySem.F.entry_NoneType_hash ?_ (PySem.F.args_NoneType_hash_1 _)));show wpAny _ _ (retInt 4238894112) _ _ _
 refine wpAny_ret_mkInt ?_;exact EW h
mutual
theorem gF (fh:ao F H):∀(d:D) (s:Shared) (A:Around) (v:V) (u:Value),Inv X pins σ H s->aP d=true->A.units + dep d < cLine->Den X.K F d v->RelV v u->fB X.prog X.w A s u (um d) (x6 d)
 | .int i,s,A,v,u,I,hk,hu,hd,r=>by
  simp only [Den] at hd;subst hd;obtain⟨t,rfl⟩:=r;intro E Q h
  exact (bD X.prog X.w).pyHash (k:=.inl i) (oC i t) h
 | .tup ds,s,A,v,u,I,hk,hu,hd,r=>by
  simp only [Den] at hd;obtain⟨a,vs,rfl,q,dl⟩:=hd;cases r;obtain⟨its,rv,ht,hz⟩:=I.tuple (ao.bS fh q);simp only [dep] at hu
  exact xO (by omega) ht rv dl λd v u n hm hd' r'=>oR fh ds d { s with toks:=s.toks + n } A.in1 v u (I.tok _) (by simpa only [aP] using hk) (by rw [units_in1];omega) hm hd' r'
 | .non,s,A,v,u,I,hk,hu,hd,r=>by
  simp only [Den] at hd;subst hd;cases r
  exact wm (by simp only [dep] at hu;omega)
 | .bl _,_,_,_,_,_,hk,_,_,_=>by simp only [aP,EV] at hk
 | .str _,_,_,_,_,_,hk,_,_,_=>by simp only [aP,EV] at hk
 | .lst _,_,_,_,_,_,hk,_,_,_=>by simp only [aP,EV] at hk
 | .dct _ _,_,_,_,_,_,hk,_,_,_=>by simp only [aP,EV] at hk
 | .ty _,_,_,_,_,_,hk,_,_,_=>by simp only [aP,EV] at hk
 | .exc _,_,_,_,_,_,hk,_,_,_=>by simp only [aP,EV] at hk
 | .cls _,_,_,_,_,_,hk,_,_,_=>by simp only [aP,EV] at hk
 | .obj _,_,_,_,_,_,hk,_,_,_=>by simp only [aP,EV] at hk
theorem oR (fh:ao F H):∀(ds:List D) (d:D) (s:Shared) (A:Around) (v:V) (u:Value),Inv X pins σ H s->fI ds=true->A.units + bJ ds < cLine->d∈ds->Den X.K F d v->RelV v u->fB X.prog X.w A s u (um d) (x6 d)
 | [],d,s,A,v,u,I,hk,hu,hm,hd,r=>by cases hm
 | x :: ds,d,s,A,v,u,I,hk,hu,hm,hd,r=>by
  simp only [fI,Bool.and_eq_true] at hk;simp only [bJ] at hu
  by_cases c:d∈ds
  ·exact oR fh ds d s A v u I hk.2 (by omega) c hd r
  ·have:d=x:=(Fe.mp hm).elim id (λe=>absurd e c);rw [this] at hd ⊢;exact gF fh x s A v u I hk.1 (by omega) hd r
end
def m8 (prog:Program) (w:World) (A:Around) (s:Shared) (n:Nat) (v:Value):Prop:=∀(E:Value->Shared->Prop) (Q:Bool->Shared->Prop),Q true s->wpAny (model prog w) A (eqIsQuiet n v) Q E s
theorem vB {s:Shared} {a:Addr} {items:List Value} {A:Around} {n:Nat} (hT:IsTup s.heap a items.toArray)
  (rec:∀u∈items,m8 X.prog X.w A s n u):m8 X.prog X.w A s (n + 1) (.ref a):=by
 intro E Q h;obtain⟨o,ho,hc,k,hd⟩:=hT;have hT:s.TypeIs (.ref a) "tuple":=⟨o,ho,hc⟩
 unfold eqIsQuiet;refine ER (wpAny_specialOf hT PySem.F.slot_tuple_eq.lookup ?_);show wpAny _ _ (isInstance (.ref a) (.type "tuple") >>= _) _ _ s
 refine ER (wpAny_isInstance hT isSubtype_tuple_tuple ?_);simp only [Bool.not_true,EV,if_false];refine ER (wpAny_seqItems ho hd ?_);refine ER ?_;show wpAny _ _ (forIn items.toArray _ _) _ _ s
 rw [<- Array.forIn_toList];refine wpAny_forIn_list _ (λrest r s'=>r.1=none/\s'=s/\∀v∈rest,m8 X.prog X.w A s n v) _ ?_ ?_ _ _ ⟨rfl,rfl,by simpa using rec⟩
 ·rintro v rest r s' ⟨hr,rfl,hall⟩;refine ER (hall v Fc _ _ ?_);simp only [Bool.not_true,EV,if_false];exact EW ⟨rfl,rfl,λu hu'=>hall u (E4 _ hu')⟩
 ·rintro⟨r1,r2⟩ s' ⟨hr,rfl,_⟩;simp only at hr;subst hr;exact EW h
mutual
theorem kj (fh:ao F H):∀(d:D) (s:Shared) (A:Around) (n:Nat) (v:V) (u:Value),Inv X pins σ H s->aP d=true->dep d<=n->Den X.K F d v->RelV v u->m8 X.prog X.w A s n u
 | .int i,s,A,n,v,u,I,hk,hu,hd,r=>by
  simp only [Den] at hd;subst hd;obtain⟨t,rfl⟩:=r;intro E Q h;rw [eqIsQuiet_byValue n (v:=.int i t) rfl]
  exact EW h
 | .tup ds,s,A,n,v,u,I,hk,hu,hd,r=>by
  simp only [Den] at hd;obtain⟨a,vs,rfl,q,dl⟩:=hd;cases r;obtain⟨its,rv,ht,hz⟩:=I.tuple (ao.bS fh q);simp only [dep] at hu
  cases n with
  | zero=>omega
  | succ n=>exact vB ht (nD fh ds s A n vs its I (by simpa only [aP] using hk) (by omega) dl rv)
 | .non,s,A,n,v,u,I,hk,hu,hd,r=>by
  simp only [Den] at hd;subst hd;cases r;intro E Q h;rw [eqIsQuiet_byValue n (v:=.none) rfl]
  exact EW h
 | .bl _,_,_,_,_,_,_,hk,_,_,_=>by simp only [aP,EV] at hk
 | .str _,_,_,_,_,_,_,hk,_,_,_=>by simp only [aP,EV] at hk
 | .lst _,_,_,_,_,_,_,hk,_,_,_=>by simp only [aP,EV] at hk
 | .dct _ _,_,_,_,_,_,_,hk,_,_,_=>by simp only [aP,EV] at hk
 | .ty _,_,_,_,_,_,_,hk,_,_,_=>by simp only [aP,EV] at hk
 | .exc _,_,_,_,_,_,_,hk,_,_,_=>by simp only [aP,EV] at hk
 | .cls _,_,_,_,_,_,_,hk,_,_,_=>by simp only [aP,EV] at hk
 | .obj _,_,_,_,_,_,_,hk,_,_,_=>by simp only [aP,EV] at hk
theorem nD (fh:ao F H):∀(ds:List D) (s:Shared) (A:Around) (n:Nat) (vs:List V) (us:List Value),Inv X pins σ H s->fI ds=true->bJ ds<=n->aq X.K F ds vs->Vals vs us->∀u∈us,m8 X.prog X.w A s n u
 | [],s,A,n,vs,us,I,hk,hu,dl,rv,u,hm=>by
  simp only [aq] at dl;subst dl
  cases rv;cases hm
 | d :: ds,s,A,n,vs,us,I,hk,hu,dl,rv,u,hm=>by
  simp only [aq] at dl;obtain⟨v,r,rfl,a,b⟩:=dl;simp only [fI,Bool.and_eq_true] at hk;simp only [bJ] at hu
  cases rv with
  | @cons _ x _ xs r1 rv' =>
   by_cases c:u∈xs
   ·exact nD fh ds s A n r xs I hk.2 (by omega) b rv' u c
   ·have:u=x:=(Fe.mp hm).elim id (λe=>absurd e c);rw [this];exact kj fh d s A n v x I hk.1 (by omega) a r1
end
end
end L2.L3
namespace L2.L3
open PySem PySem.Spec PyProof.Rows
structure cE (kvs:List (D×D)):Prop where
 key:∀kv∈kvs,aP kv.1=true/\dep kv.1<=8
 dif:∀(i j:Nat) (x y:D×D),kvs[i]?=some x->kvs[j]?=some y->x.1=y.1->i=j
def ra (kvs:List (D×D)) (d:D) (j:Nat):Bool:=match kvs[j]? with
 | some kv=>aQ kv.1 d
 | none=>false
section
variable {X:Cx} {pins:List (Addr×Obj)} {σ:St} {H F:Hp} {s:Shared} {kvs:List (D×D)} {us vs:List V} {p:Addr} {A:Around} {d:D} {v:V} {u:Value}
theorem mi (I:Inv X pins σ H s) {ep:Nat} {rows:List (Int×V×V)} (e:H p=some (iY p ep rows)):rows.length<=sizeLine/\(p == sysModules)=false/\∃es,bE s.heap p es ep/\Paired u4 rows es.toList:=(I.hok p _ e).1
theorem gW {α β:Type} {R:α->β->Prop}:∀{xs:List α} {ys:List β} {i:Nat} {y:β},Paired R xs ys->ys[i]?=some y->∃x,xs[i]?=some x/\R x y
 | _,_,_,_,.nil,e=>by simp at e
 | _,_,0,_,.cons r _,e=>by simp at e;subst e;exact⟨_,rfl,r⟩
 | _,_,i + 1,y,.cons _ t,e=>by
  obtain⟨x,h1,h2⟩:=gW (i:=i) (y:=y) t (by simpa using e);exact⟨x,by simpa using h1,h2⟩
theorem dO (d1:aq X.K F (kvs.map (·.1)) us) (d2:aq X.K F (kvs.map (·.2)) vs):(cM kvs us vs).length=kvs.length:=by
 have l1:=d1.length;have l2:=d2.length;simp only [Ff] at l1 l2;unfold cM;simp only [List.length_zip,Ff,<- l1,<- l2,Nat.min_self]
theorem sY (d1:aq X.K F (kvs.map (·.1)) us) (d2:aq X.K F (kvs.map (·.2)) vs) {es:Array DictEntry} (pr:Paired u4 (cM kvs us vs) es.toList) {j:Nat} (hj:j < es.size) :
  ∃kv a b,kvs[j]?=some kv/\us[j]?=some a/\vs[j]?=some b/\Den X.K F kv.1 a/\Den X.K F kv.2 b/\es[j].hash=um kv.1/\RelV a es[j].key/\RelV b es[j].val:=by
 have l:=dO d1 d2;have lp:=Paired.length pr;have hk:j < kvs.length:=by rw [<- l,lp];simpa using hj
 obtain⟨row,hr,e1,e2,e3⟩:=gW pr (y:=es[j]) (i:=j) (by simp [hj]);have g0:kvs[j]?=some kvs[j]:=ET hk;obtain⟨a,ha,da⟩:=d1.get (i:=j) (d:=kvs[j].1) (by rw [E2,g0];rfl);obtain⟨b,hb,db⟩:=d2.get (i:=j) (d:=kvs[j].2) (by rw [E2,g0];rfl)
 have:row=(um kvs[j].1,a,b):=by
  unfold cM at hr;rw [List.getElem?_zip_eq_some,List.getElem?_zip_eq_some,E2,g0] at hr;obtain⟨h1,h2,h3⟩:=hr;rw [ha] at h2;rw [hb] at h3;exact Gh (E9 h1).symm (Gh (E9 h2).symm (E9 h3).symm)
 subst this;exact⟨_,a,b,g0,ha,hb,da,db,e1,e2,e3⟩
theorem lM (I:Inv X pins σ H s) (fh:ao F H) (ok:cE kvs) (d1:aq X.K F (kvs.map (·.1)) us) (d2:aq X.K F (kvs.map (·.2)) vs) {es:Array DictEntry} (pr:Paired u4 (cM kvs us vs) es.toList)
  (hk:aP d=true) (hd:dep d<=8) (hu:A.units + 8 < cLine) (dd:Den X.K F d v) (rv:RelV v u):iZ X.prog X.w A s es u (um d) (ra kvs d):=by
 have at_:=λj hj=>sY d1 d2 pr (j:=j) hj;have mat:∀j kv,kvs[j]?=some kv->ra kvs d j=aQ kv.1 d:=λj kv e=>by unfold ra;rw [e]
 have kk:∀(j:Nat) (kv:D×D),kvs[j]?=some kv->aP kv.1=true/\dep kv.1<=8:=λj kv e=>ok.key kv (E6 e);refine⟨λj hj=>?_,λj hj hm=>?_,λi j hi hj h1 h2=>?_,λj hj he=>?_,?_,λj hj=>?_,?_⟩
 ·obtain⟨kv,a,b,g0,g1,g2,da,db,e1,e2,e3⟩:=at_ j hj;rw [mat j kv g0];have:=(kk j kv g0).2;exact jw I fh kv.1 d A a v _ _ (by omega) (by omega) (by omega) da dd e2 rv
 ·obtain⟨kv,a,b,g0,g1,g2,da,db,e1,e2,e3⟩:=at_ j hj;rw [mat j kv g0] at hm;rw [e1,cP kv.1 d (kk j kv g0).1 hm hk]
 ·obtain⟨kv,_,_,g0,_⟩:=at_ i hi;obtain⟨kw,_,_,f0,_⟩:=at_ j hj;rw [mat i kv g0] at h1;rw [mat j kw f0] at h2;exact ok.dif i j kv kw g0 f0 (by rw [cP kv.1 d (kk i kv g0).1 h1 hk,cP kw.1 d (kk j kw f0).1 h2 hk])
 ·obtain⟨kv,a,b,g0,g1,g2,da,db,e1,e2,e3⟩:=at_ j hj;rw [he] at e2;have:=e2.inj rv;subst this;have k1:=(kk j kv g0).2;rw [e1,cP kv.1 d (kk j kv g0).1 (lN I fh kv.1 d a (by omega) (by omega) da dd) hk]
 ·exact kj fh d s A 8 v u I hk hd dd rv
 ·obtain⟨kv,a,b,g0,g1,g2,da,db,e1,e2,e3⟩:=at_ j hj;exact kj fh kv.1 s A 8 a _ I (kk j kv g0).1 (kk j kv g0).2 da e2
 ·cases d with
  | int i=>simp only [Den] at dd;subst dd;obtain⟨t,rfl⟩:=rv;exact .inl ⟨i,t,rfl⟩
  | tup ds=>simp only [Den] at dd;obtain⟨a,_,rfl,_⟩:=dd;cases rv;exact .inr (.inl ⟨a,rfl⟩)
  | non=>simp only [Den] at dd;subst dd;cases rv;exact .inr (.inr rfl)
  | _=>simp only [aP,EV] at hk
def fV (kvs:List (D×D)) (d:D):Option D:=(kvs.find? λkv=>aQ kv.1 d).map (·.2)
def putN (kvs:List (D×D)) (d x:D):List (D×D):=if (kvs.any λkv=>aQ kv.1 d)=true then kvs.map (λkv=>if aQ kv.1 d=true then (kv.1,x) else kv) else kvs ++ [(d,x)]
theorem yt (ok:cE kvs) (hk:aP d=true) {x:D} (h:fV kvs d=some x):∃(j:Nat) (kv:D×D),kvs[j]?=some kv/\aQ kv.1 d=true/\kv.2=x:=by
 unfold fV at h;obtain⟨kv,h1,h2⟩:=Fv.mp h;obtain⟨j,hj⟩:=FI (List.mem_of_find?_eq_some h1);have m:=List.find?_some (p:=λkv:D×D=>aQ kv.1 d) h1;exact⟨j,kv,hj,m,h2⟩
theorem Bk (hu:A.units + 9 < cLine) (I:Inv X pins σ H s) (fh:ao F H) (ok:cE kvs) (d1:aq X.K F (kvs.map (·.1)) us) (d2:aq X.K F (kvs.map (·.2)) vs) {ep:Nat} (e:H p=some (iY p ep (cM kvs us vs)))
  (hk:aP d=true) (hd:dep d<=8) (dd:Den X.K F d v) (rv:RelV v u) {x:D} (hx:fV kvs d=some x) {E:Value->Shared->Prop} {Q:Value->Shared->Prop}
  (h:∀w' u' s',Inv X pins σ H s'->Den X.K F x w'->RelV w' u'->Q u' s'):wpAny (model X.prog X.w) A (getItem (.ref p) u) Q E s:=by
 obtain⟨hz,hs,es,dh,pr⟩:=mi I e;obtain⟨j,kv,g0,m0,rfl⟩:=yt ok hk hx;have lp:=Paired.length pr;rw [dO d1 d2] at lp;have hj:j < es.size:=by have:=(EO.mp g0).1;simp at lp;omega
 obtain⟨kv',a,b,g0',g1,g2,da,db,e1,e2,e3⟩:=sY d1 d2 pr hj;rw [g0] at g0';cases g0';refine rB (j:=j) (gF fh d s A.in1 v u I hk (by rw [units_in1];omega) dd rv) (lM (I.tok _) fh ok d1 d2 pr hk hd (by rw [units_in1];omega) dd rv) dh hj (by unfold ra;rw [g0];exact m0) ?_;exact h b _ _ (I.tok _) db e3
theorem BP (hu:A.units + 9 < cLine) (I:Inv X pins σ H s) (fh:ao F H) (ok:cE kvs) (d1:aq X.K F (kvs.map (·.1)) us) (d2:aq X.K F (kvs.map (·.2)) vs) {ep:Nat} (e:H p=some (iY p ep (cM kvs us vs)))
  (hk:aP d=true) (hd:dep d<=8) (dd:Den X.K F d v) (rv:RelV v u) {E:Value->Shared->Prop} {Q:Bool->Shared->Prop}
  (h:∀s',Inv X pins σ H s'->Q (kvs.any λkv=>aQ kv.1 d) s'):wpAny (model X.prog X.w) A (contains (.ref p) u) Q E s:=by
 obtain⟨hz,hs,es,dh,pr⟩:=mi I e;have lp:=Paired.length pr;rw [dO d1 d2] at lp;refine qw (gF fh d s A.in1 v u I hk (by rw [units_in1];omega) dd rv) (lM (I.tok _) fh ok d1 d2 pr hk hd (by rw [units_in1];omega) dd rv) dh hs (λhno=>?_) λj hj hm=>?_
 ·have:(kvs.any λkv=>aQ kv.1 d)=false:=by
   rw [List.any_eq_false];intro kv hm;obtain⟨j,hj⟩:=FI hm;have:=hno j (by have:=(EO.mp hj).1;simp at lp;omega);unfold ra at this;rw [hj] at this
   simpa using this
  have q:=h { s with toks:=s.toks + x6 d } (I.tok _);rw [this] at q;exact q
 ·have:(kvs.any λkv=>aQ kv.1 d)=true:=by
   rw [List.any_eq_true];unfold ra at hm
   cases g:kvs[j]? with
   | none=>rw [g] at hm;cases hm
   | some kv=>rw [g] at hm;exact⟨kv,E6 g,hm⟩
  have q:=h { s with toks:=s.toks + x6 d } (I.tok _);rw [this] at q;exact q
end
theorem kz {α β:Type} {R:α->β->Prop}:∀{xs:List α} {ys:List β},xs.length=ys.length->(∀(i:Nat) x y,xs[i]?=some x->ys[i]?=some y->R x y)->Paired R xs ys
 | [],[],_,_=>.nil
 | [],_ :: _,h,_=>by simp at h
 | _ :: _,[],h,_=>by simp at h
 | x :: xs,y :: ys,h,f=>.cons (f 0 x y rfl rfl) (kz (by simpa using h) λi a b h1 h2=>f (i + 1) a b (by simpa using h1) (by simpa using h2))
theorem jN {kvs:List (D×D)} {us vs:List V} {i:Nat} {row:Int×V×V} (h:(cM kvs us vs)[i]?=some row):∃kv,kvs[i]?=some kv/\row.1=um kv.1/\us[i]?=some row.2.1/\vs[i]?=some row.2.2:=by
 unfold cM at h;rw [List.getElem?_zip_eq_some,List.getElem?_zip_eq_some,E2] at h;obtain⟨h1,h2,h3⟩:=h;obtain⟨kv,a,b⟩:=Fv.mp h1;exact⟨kv,a,b.symm,h2,h3⟩
theorem yC {kvs:List (D×D)} {d x:D} {j:Nat} {kv:D×D} (ok:cE kvs) (hk:aP d=true) (hj:kvs[j]?=some kv) (hm:aQ kv.1 d=true):kvs.map (λkv=>if aQ kv.1 d=true then (kv.1,x) else kv)=kvs.set j (kv.1,x):=by
 apply List.ext_getElem?
 intro i;rw [E2]
 by_cases e:j=i
 ·subst e;rw [E1 (EO.mp hj).1,hj];simp only [Option.map_some,if_pos hm]
 ·rw [EU e]
  cases g:kvs[i]? with
  | none=>rfl
  | some kw =>
   simp only [Option.map_some];rw [if_neg];intro hw;exact e (ok.dif j i kv kw hj g (by rw [cP kv.1 d (ok.key kv (E6 hj)).1 hm hk,cP kw.1 d (ok.key kw (E6 g)).1 hw hk]))
theorem rg {kvs:List (D×D)} {j:Nat} {kv:D×D} {x:D} (hj:kvs[j]?=some kv):(kvs.set j (kv.1,x)).map (·.1)=kvs.map (·.1):=by
 apply List.ext_getElem?
 intro i;rw [E2,E2]
 by_cases e:j=i
 ·subst e;rw [E1 (EO.mp hj).1,hj];rfl
 ·rw [EU e]
theorem qW {kvs:List (D×D)} {j:Nat} {y x:D}:(kvs.set j (y,x)).map (·.2)=(kvs.map (·.2)).set j x:=by
 rw [List.map_set]
section
variable {X:Cx} {pins:List (Addr×Obj)} {σ:St} {H F:Hp} {s:Shared} {kvs:List (D×D)} {us vs:List V} {p:Addr} {A:Around} {d x:D} {v w:V} {u r:Value}
theorem AH (hu:A.units + 9 < cLine) (I:Inv X pins σ H s) (fh:ao F H) (ok:cE kvs) (d1:aq X.K F (kvs.map (·.1)) us) (d2:aq X.K F (kvs.map (·.2)) vs) {ep:Nat} (e:H p=some (iY p ep (cM kvs us vs)))
  (hk:aP d=true) (hd:dep d<=8) (dd:Den X.K F d v) (rv:RelV v u) (dx:Den X.K F x w) (rw':RelV w r) (hl:kvs.length < sizeLine) {E:Value->Shared->Prop} {Q:Unit->Shared->Prop}
  (h:∀ep' us' vs' s',aq X.K F ((putN kvs d x).map (·.1)) us'->aq X.K F ((putN kvs d x).map (·.2)) vs'->Inv X pins σ (upd H p (iY p ep' (cM (putN kvs d x) us' vs'))) s'->Q () s'):wpAny (model X.prog X.w) A (setItem (.ref p) u r) Q E s:=by
 obtain⟨hz,hs,es,dh,pr⟩:=mi I e;have lp:=Paired.length pr;have l0:=dO d1 d2;rw [l0] at lp hz;have lp':kvs.length=es.size:=by simpa using lp
 have l1:=d1.length;have l2:=d2.length;simp only [Ff] at l1 l2
 have ext:∀(ep':Nat) (rows:List (Int×V×V)) (h':Heap) (es':Array DictEntry),rows.length<=sizeLine->bE h' p es' ep'->Paired u4 rows es'.toList->bo X.prog X.w (upd H p (iY p ep' rows)) h' p (iY p ep' rows):=λep' rows h' es' z dh' pr'=>by
  refine⟨⟨z,hs,es',dh',pr'⟩,?_,?_⟩
  ·obtain⟨o,ho,_⟩:=dh';exact⟨o,ho⟩
  ·rintro h1 h2 ⟨z,hs,es,⟨o,ho,c,dd⟩,pr⟩ k;exact⟨z,hs,es,⟨o,k _ ho,c,dd⟩,pr⟩
 have hash:=gF fh d s A.in1 v u I hk (by rw [units_in1];omega) dd rv;have find:=lM (I.tok (s.toks + x6 d)) fh ok d1 d2 pr hk hd (A:=A.in1) (by rw [units_in1];omega) dd rv;refine sa hash find dh (by omega) (λhno h' dh' sb=>?_) λj hj hm h' dh' sb=>?_
 ·have any:(kvs.any λkv=>aQ kv.1 d)=false:=by
   rw [List.any_eq_false];intro kv hm;obtain⟨j,hj⟩:=FI hm;have:=hno j (by have:=(EO.mp hj).1;omega);unfold ra at this;rw [hj] at this
   simpa using this
  have pe:putN kvs d x=kvs ++ [(d,x)]:=by unfold putN;rw [any];rfl
  have q1:aq X.K F ((putN kvs d x).map (·.1)) (us ++ [v]):=by rw [pe,List.map_append];exact d1.append (aM dd aT)
  have q2:aq X.K F ((putN kvs d x).map (·.2)) (vs ++ [w]):=by rw [pe,List.map_append];exact d2.append (aM dx aT)
  refine h _ _ _ _ q1 q2 (jD I (by rw [e];exact True.intro) sb (let ⟨o,ho,_⟩:=dh';⟨o,ho⟩) (ext _ _ h' _ ?_ dh' ?_))
  ·rw [dO q1 q2,pe];simp;omega
  ·refine kz (by rw [dO q1 q2,pe];simp;omega) λi row en h1 h2=>?_;obtain⟨kv,k1,k2,k3,k4⟩:=jN h1;rw [pe] at k1;simp only [Array.toList_push] at h2
   by_cases c:i < kvs.length
   ·rw [E5 c] at k1;rw [E5 (by omega)] at k3 k4;rw [E5 (by simp;omega)] at h2;obtain⟨row',g1,g2⟩:=gW pr h2;obtain⟨kv',f1,f2,f3,f4⟩:=jN g1;rw [f1] at k1;cases k1;rw [f3] at k3;rw [f4] at k4;have:row'=row:=Gh (by rw [f2,k2]) (Gh (E9 k3) (E9 k4));rw [<- this];exact g2
   ·have hi:i=kvs.length:=by
     have:=(EO.mp k1).1;simp at this;omega
    rw [hi,E8 (E3 _),Nat.sub_self] at k1;rw [show i=us.length by omega,E8 (E3 _),Nat.sub_self] at k3;rw [show i=vs.length by omega,E8 (E3 _),Nat.sub_self] at k4;rw [show i=es.toList.length by simp;omega,E8 (E3 _),Nat.sub_self] at h2;cases k1;cases h2;have a3:v=row.2.1:=E9 k3;have a4:w=row.2.2:=E9 k4;exact⟨k2.symm,by rw [<- a3];exact rv,by rw [<- a4];exact rw'⟩
 ·obtain⟨kv,a,b,g0,g1,g2,da,db,e1,e2,e3⟩:=sY d1 d2 pr hj;unfold ra at hm;rw [g0] at hm;have any:(kvs.any λkv=>aQ kv.1 d)=true:=List.any_eq_true.mpr ⟨kv,E6 g0,hm⟩;have pe:putN kvs d x=kvs.set j (kv.1,x):=by unfold putN;rw [any,if_pos rfl];exact yC ok hk g0 hm
  have q1:aq X.K F ((putN kvs d x).map (·.1)) us:=by rw [pe,rg g0];exact d1
  have q2:aq X.K F ((putN kvs d x).map (·.2)) (vs.set j w):=by rw [pe,qW];exact aq.set dx j d2
  refine h _ _ _ _ q1 q2 (jD I (by rw [e];exact True.intro) sb (let ⟨o,ho,_⟩:=dh';⟨o,ho⟩) (ext _ _ h' _ ?_ dh' ?_))
  ·rw [dO q1 q2,pe];simp;omega
  ·refine kz (by rw [dO q1 q2,pe];simp;omega) λi row en h1 h2=>?_;obtain⟨kw,k1,k2,k3,k4⟩:=jN h1;rw [pe] at k1;rw [FY,Array.getElem?_modify] at h2
   by_cases c:j=i
   ·subst c;rw [if_pos rfl,Array.getElem?_eq_getElem hj] at h2;rw [E1 (by omega)] at k1 k4;cases k1;cases h2;rw [g1] at k3;have a3:a=row.2.1:=E9 k3;have a4:w=row.2.2:=E9 k4;exact⟨by rw [k2];exact e1,by rw [<- a3];exact e2,by rw [<- a4];exact rw'⟩
   ·rw [if_neg c,<- FY] at h2;rw [EU c] at k1 k4;obtain⟨row',f0,f1⟩:=gW pr h2;obtain⟨kv',t1,t2,t3,t4⟩:=jN f0;rw [t1] at k1;cases k1;rw [t3] at k3;rw [t4] at k4;have:row'=row:=Gh (by rw [t2,k2]) (Gh (E9 k3) (E9 k4));rw [<- this];exact f1
end
section
variable {K:ES} {B:Base} {F H F' H':Hp} {σ:St} {e:En}
theorem dF {e:En} {i j:Nat} {l:Lo} {xs:List D} (hl:∀z,l≠.own z) (q:(e.set i (some l))[j]?=some (some (.own xs))):i≠j:=λz=>by
 subst z
 by_cases w:i < e.length
 ·rw [E1 w] at q;cases q;exact hl _ rfl
 ·rw [Fg (by simpa using w)] at q;cases q
theorem rd {e:En} {i j:Nat} {l:Lo} {x:D} (hl:∀z,l≠.d z) (q:(e.set i (some l))[j]?=some (some (.d x))):i≠j:=λz=>by
 subst z
 by_cases w:i < e.length
 ·rw [E1 w] at q;cases q;exact hl _ rfl
 ·rw [Fg (by simpa using w)] at q;cases q
theorem Rep.va (r:Rep K B F H σ e) {i:Nat} {p:Addr} (ep:Nat) {us vs:List V} {xs ys:List (D×D)} (h:e[i]?=some (some (.dic xs))) (hp:σ[i]?=some (some (.ref p))) (hd:aq K F (ys.map (·.1)) us) (hd':aq K F (ys.map (·.2)) vs) :
  Rep K B F (upd H p (iY p ep (cM ys us vs))) σ (e.set i (some (.dic ys))):=by
 obtain⟨p',_,_,_,h1,h2,h3,h4,_⟩:=r.mv i xs h;rw [hp] at h1;cases h1;have wl:i < e.length:=(EO.mp h).1;have fk:∀q o,F q=some o->q≠p:=λq o z w=>by subst w;rw [h3] at z;cases z
 have bk:∀q o,B.H q=some o->q≠p:=λq o z w=>by subst w;rw [h4] at z;cases z
 have dicAt:∀(j:Nat) (zs:List (D×D)),(e.set i (some (.dic ys)))[j]?=some (some (.dic zs))->∃ws,e[j]?=some (some (.dic ws)):=λj zs q=>by
  by_cases z:i=j
  ·subst z;exact⟨xs,h⟩
  ·rw [EU z] at q;exact⟨zs,q⟩
 refine⟨r.f0,λb o z=>by rw [au (fk b o z)];exact r.fh _ _ z,λb o z=>by rw [au (bk b o z)];exact r.h0 _ _ z,r.nf,λj y q=>?_,λj y q=>?_,λj k as bs q hjk q1 q2 q3 q4=>?_,λj y q=>?_,λj k as bs q hjk q1 q2 q3 q4=>?_⟩
 ·have z:=rd (λ_ w=>by cases w) q;rw [EU z] at q;exact r.dv j y q
 ·have z:=dF (λ_ w=>by cases w) q;rw [EU z] at q;obtain⟨p2,us,g1,g2,g3,g4,g5⟩:=r.ov j y q;have:p2≠p:=λw=>by subst w;rw [h2] at g2;cases g2
  exact⟨p2,us,g1,by rw [au this];exact g2,g3,g4,g5⟩
 ·have z1:=dF (λ_ w=>by cases w) q1;have z2:=dF (λ_ w=>by cases w) q2;rw [EU z1] at q1;rw [EU z2] at q2;exact r.ne j k as bs q hjk q1 q2 q3 q4
 ·by_cases z:i=j
  ·subst z;rw [E1 wl] at q;cases q;exact⟨p,ep,us,vs,hp,av,h3,h4,hd,hd'⟩
  ·rw [EU z] at q;obtain⟨p2,ep2,as,bs,g1,g2,g3,g4,g5⟩:=r.mv j y q;have:p2≠p:=λw=>by subst w;exact r.nm j i y xs p2 (Ne.symm z) q h g1 hp
   exact⟨p2,ep2,as,bs,g1,by rw [au this];exact g2,g3,g4,g5⟩
 ·obtain⟨as',w1⟩:=dicAt j as q1;obtain⟨bs',w2⟩:=dicAt k bs q2;exact r.nm j k as' bs' q hjk w1 w2 q3 q4
end
theorem uX {P:Program} {w:World} {H:Hp} (h:Heap) (hb:sysModules < h.objs.size):bo P w H (h.push { cls:=.type "dict",data:=.dict #[] }) h.objs.size (iY h.objs.size 0 []):=by
 have dh:=bE.new h;refine⟨⟨FC _,beq_eq_false_iff_ne.mpr (Ne.symm (Fp hb)),#[],dh,.nil⟩,?_,?_⟩
 ·obtain⟨o,ho,_⟩:=dh;exact⟨o,ho⟩
 ·rintro h1 h2 ⟨z,hs,es,⟨o,ho,c,dd⟩,pr⟩ k;exact⟨z,hs,es,⟨o,k _ ho,c,dd⟩,pr⟩
def Cf (X:Cx) (td ty tv:TE):TS:=λD σ H=>tv σ H λv H1=>td σ H1 λx H2=>ty σ H2 λy H3=>∃p ep F kvs us vs d z,x=.ref p/\ao F H3/\cE kvs/\aq X.K F (kvs.map (·.1)) us/\aq X.K F (kvs.map (·.2)) vs/\H3 p=some (iY p ep (cM kvs us vs)) /\
 aP d=true/\dep d<=8/\Den X.K F d y/\Den X.K F z v/\kvs.length < sizeLine/\∀ep' us' vs',aq X.K F ((putN kvs d z).map (·.1)) us'->aq X.K F ((putN kvs d z).map (·.2)) vs'->D.nx σ (upd H3 p (iY p ep' (cM (putN kvs d z) us' vs')))
def Cw (X:Cx) (td ty:TE):TE:=λσ H Q=>td σ H λx H1=>ty σ H1 λy H2=>∃p ep F kvs us vs d z,x=.ref p/\ao F H2/\cE kvs/\aq X.K F (kvs.map (·.1)) us/\aq X.K F (kvs.map (·.2)) vs/\H2 p=some (iY p ep (cM kvs us vs)) /\
 aP d=true/\dep d<=8/\Den X.K F d y/\fV kvs d=some z/\∀w,Den X.K F z w->Q w H2
section
variable {X:Cx} {o i e value a b:Expr} {pos pos' tpos:Pos} {td ty tv:TE} {ta tb:TD}
theorem yb (hu:X.A.units + 64 < cLine) (ho:PE X o td) (hi:PE X i ty) (hv:PE X value tv) (hs:swapsWith value (some (.Subscript o i pos')) pos.line X.env=pure false) :
  PS X (.Assign [.Subscript o i pos'] value pos) (Cf X td ty tv):=by
 intro pins s σ H D I h;refine wpAny_Assign_Subscript (bu (hv pins s σ H _ I h) λr s1 ⟨v,H1,I1,rv,q1⟩=>bu (ho pins s1 σ H1 _ I1 q1) λu s2 ⟨x,H2,I2,rx,q2⟩=>bu (hi pins s2 σ H2 _ I2 q2) λiv s3 hq=>?_) hs;obtain⟨y,H3,I3,ry,p,ep,F,kvs,us,vs,d,z,ex,fh,ok,d1,d2,e,hk,hd,dd,dz,hl,q3⟩:=hq;subst ex;obtain rfl:u=Value.ref p:=rx;exact AH (by omega) I3 fh ok d1 d2 e hk hd dd ry dz rv hl λep' us' vs' s4 e1 e2 I4=>⟨σ,_,I4,q3 ep' us' vs' e1 e2⟩
theorem yV (hu:X.A.units + 64 < cLine) (ho:PE X a td) (hi:PE X b ty) (hs:xb b):PE X (.Subscript a b pos) (Cw X td ty):=by
 intro pins s σ H Q I h;refine uv PySem.F.slot_dict_getitem.lookup hs (bu (ho pins s σ H _ I h) λu s1 ⟨x,H1,I1,rx,q1⟩=>bu (hi pins s1 σ H1 _ I1 q1) λiv s2 hq=>?_);obtain⟨y,H2,I2,ry,p,ep,F,kvs,us,vs,d,z,ex,fh,ok,d1,d2,e,hk,hd,dd,hz,q2⟩:=hq;subst ex;obtain rfl:u=Value.ref p:=rx;refine⟨?_,Bk (by omega) I2 fh ok d1 d2 e hk hd dd ry hz λw' u' s3 I3 dw rw'=>⟨w',H2,I3,rw',q2 w' dw⟩⟩;obtain⟨_,_,es,dh,_⟩:=mi I2 e
 exact dh.typeIs
def jC (i:Nat) (tk tv:TD):cK:=λZ env=>tv env λv=>∃kvs,env[i]?=some (some (.dic kvs))/\tk env λk=>aP k=true/\dep k<=8/\cE kvs/\kvs.length < sizeLine/\Z.nx (env.set i (some (.dic (putN kvs k v))))
theorem oE {x:Str} {px p2:Pos} (i:Nat) (hu:X.A.units + 64 < cLine) (hb:QE X b tb) (he:QE X e ta) (hN:X.N[i]?=some x:=by rfl) (hv:u9 X.env.scope x:=by first | exact Or.inl rfl | exact Or.inr (Or.inl rfl) | exact Or.inr (Or.inr rfl)) (hd:(x == ("__debug__" : Str))=false:=by decide)
  (hcd:(x == ("__classdict__" : Str))=false:=by decide) (hs:swapsWith e (some (.Subscript (.Name x px) b p2)) pos.line X.env=pure false:=by rfl):QS X (.Assign [.Subscript (.Name x px) b p2] e pos) (jC i tb ta):=by
 refine⟨λB σ F H env Z rp h=>?_⟩;refine gR (yb hu (fu hN hv hd hcd) bz bz hs) ?_;refine aE (he B σ F H env _ rp h) λy H1 hq0=>?_;obtain⟨F1,d,r1,s1,d1,kvs,hx,q1⟩:=hq0;obtain⟨p,ep,us,vs,g1,g2,g3,g4,g5,g6⟩:=r1.mv i kvs hx;refine⟨.ref p,g1,?_⟩;refine aE (hb B σ F1 H1 env _ r1 q1) λz H2 hq0=>?_;obtain⟨F2,d2,r2,s2,dd2,hk,hdp,ok,hl,q2⟩:=hq0;obtain⟨p',ep',us',vs',e1,e2,e3,e4,e5,e6⟩:=r2.mv i kvs hx
 rw [g1] at e1;cases e1;exact⟨p,ep',F2,kvs,us',vs',d2,d,rfl,r2.fh,ok,e5,e6,e2,hk,hdp,dd2,Den.mono s2 _ _ d1,hl,λep2 as bs f1 f2=>⟨F2,_,r2.va ep2 hx g1 f1 f2,q2⟩⟩
def fb (i:Nat) (tk:TD):TD:=λenv Q=>∃kvs,env[i]?=some (some (.dic kvs))/\tk env λk=>∃v,aP k=true/\dep k<=8/\cE kvs/\fV kvs k=some v/\Q v
theorem jA {x:Str} {px:Pos} (i:Nat) (hu:X.A.units + 64 < cLine) (hb:QE X b tb) (hs:xb b) (hN:X.N[i]?=some x:=by rfl) (hv:u9 X.env.scope x:=by first | exact Or.inl rfl | exact Or.inr (Or.inl rfl) | exact Or.inr (Or.inr rfl)) (hd:(x == ("__debug__" : Str))=false:=by decide)
  (hcd:(x == ("__classdict__" : Str))=false:=by decide):QE X (.Subscript (.Name x px) b pos) (fb i tb):=by
 refine⟨λB σ F H env Q rp h=>?_⟩;refine bN (yV hu (fu hN hv hd hcd) bz hs) ?_;obtain⟨kvs,hx,h⟩:=h;obtain⟨p,ep,us,vs,g1,g2,g3,g4,g5,g6⟩:=rp.mv i kvs hx;refine⟨.ref p,g1,?_⟩;refine aE (hb B σ F H env _ rp h) λz H2 hq0=>?_;obtain⟨F2,d2,r2,s2,dd2,v,hk,hdp,ok,hl,q2⟩:=hq0;obtain⟨p',ep',us',vs',e1,e2,e3,e4,e5,e6⟩:=r2.mv i kvs hx;rw [g1] at e1;cases e1;exact⟨p,ep',F2,kvs,us',vs',d2,v,rfl,r2.fh,ok,e5,e6,e2,hk,hdp,dd2,hl,λw dw=>⟨F2,v,r2,s2,dw,q2⟩⟩
end
section
variable {X:Cx} {a b:Expr} {ta tb:TD} {pos:Pos} {t:cK}
def DY (X:Cx) (neg:Bool):R2:=λy x H Q=>∃p ep F kvs us vs d,x=.ref p/\ao F H/\cE kvs/\aq X.K F (kvs.map (·.1)) us/\aq X.K F (kvs.map (·.2)) vs/\H p=some (iY p ep (cM kvs us vs)) /\
 aP d=true/\dep d<=8/\Den X.K F d y/\Q (.bl (if neg then !(kvs.any λkv=>aQ kv.1 d) else kvs.any λkv=>aQ kv.1 d)) H
theorem y1 (hu:X.A.units + 64 < cLine):gq X (compareOp .NotIn) (DY X true):=by
 intro pins s σ H x y v u Q I rx ry h;obtain⟨p,ep,F,kvs,us,vs,d,rfl,fh,ok,d1,d2,e,hk,hd,dd,h⟩:=h;cases ry;show wpAny _ _ ((do return Value.bool (!(<- contains (.ref p) v))):Sem Value) _ _ s
 exact ER (BP (by omega) I fh ok d1 d2 e hk hd dd rx λs' I'=>EW ⟨.bl _,H,I',rfl,h⟩)
end
theorem cE.nil:cE []:=⟨λ_ h=>absurd h FH,λi j x y h=>by simp at h⟩
theorem cE.put {kvs:List (D×D)} {k v:D} (h:cE kvs) (hk:aP k=true) (hd:dep k<=8):cE (putN kvs k v):=by
 unfold putN
 by_cases c:(kvs.any λkv=>aQ kv.1 k)=true
 ·rw [if_pos c];refine⟨λkv m=>?_,λi j x y hx hy e=>?_⟩
  ·obtain⟨kw,m',rfl⟩:=Fj.mp m
   split
   ·exact h.key kw m'
   ·exact h.key kw m'
  ·rw [E2] at hx hy;obtain⟨x',hx',rfl⟩:=Fv.mp hx;obtain⟨y',hy',rfl⟩:=Fv.mp hy;refine h.dif i j x' y' hx' hy' ?_
   split at e <;> split at e <;> exact e
 ·rw [if_neg c];have no:∀(i:Nat) (x:D×D),kvs[i]?=some x->x.1≠k:=λi x hx e=>c (List.any_eq_true.mpr ⟨x,E6 hx,by rw [e];exact iz k hk⟩);refine⟨λkv m=>?_,λi j x y hx hy e=>?_⟩
  ·rcases Fy.mp m with m|m
   ·exact h.key kv m
   ·rw [Fi] at m;subst m;exact⟨hk,hd⟩
  ·have at_:∀(i:Nat) (x:D×D),(kvs ++ [(k,v)])[i]?=some x->kvs[i]?=some x\/(i=kvs.length/\x.1=k):=λi x hx=>by
    by_cases l:i < kvs.length
    ·rw [E5 l] at hx;exact .inl hx
    ·have:=(EO.mp hx).1;have e:i=kvs.length:=by simp at this;omega
     subst e;rw [E8 (E3 _),Nat.sub_self] at hx;cases hx;exact .inr ⟨rfl,rfl⟩
   rcases at_ i x hx with a|⟨a,a'⟩ <;> rcases at_ j y hy with b|⟨b,b'⟩
   ·exact h.dif i j x y a b e
   ·exact absurd (e.trans b') (no i x a)
   ·exact absurd (e.symm.trans a') (no j y b)
   ·omega
theorem l9 {kvs:List (D×D)} {k k' v:D} (h:cE kvs) (hk:aP k=true) (hk':aP k'=true):fV (putN kvs k v) k'=if aQ k k'=true then some v else fV kvs k':=by
 have find:∀(l:List (D×D)),(∀kv∈l,aP kv.1=true)->fV (l.map (λkv=>if aQ kv.1 k=true then (kv.1,v) else kv)) k'=if aQ k k'=true/\(l.any λkv=>aQ kv.1 k)=true then some v else fV l k':=λl=>by
  induction l with
  | nil=>intro _;simp [fV]
  | cons x r ih =>
   intro hl;have ih':=ih λkv m=>hl kv (E4 _ m);have hx:=hl x (Fc ..);unfold fV at ih' ⊢;rw [Fm,List.find?_cons,List.find?_cons]
   by_cases c1:aQ x.1 k=true
   ·rw [if_pos c1];have e:=cP _ _ hx c1 hk
    by_cases c2:aQ x.1 k'=true
    ·simp only [c2,Option.map_some];rw [if_pos ⟨e▸c2,by rw [List.any_cons,c1];rfl⟩]
    ·have c3:¬ aQ k k'=true:=λq=>c2 (e▸q);simp only [c2];rw [ih',if_neg (λq=>c3 q.1),if_neg (λq=>c3 q.1)]
   ·rw [if_neg c1]
    by_cases c2:aQ x.1 k'=true
    ·have c3:¬ aQ k k'=true:=λq=>c1 (by
      have e1:=cP _ _ hx c2 hk';have e2:=cP _ _ hk q hk'
      rw [e1,<- e2];exact iz k hk)
     simp only [c2,Option.map_some];rw [if_neg (λq=>c3 q.1)]
    ·simp only [c2];rw [ih',List.any_cons];have:aQ x.1 k=false:=by simpa using c1
     rw [this,Bool.false_or]
 unfold putN
 by_cases c:(kvs.any λkv=>aQ kv.1 k)=true
 ·rw [if_pos c,find kvs λkv m=>(h.key kv m).1];simp only [c,and_true]
 ·rw [if_neg c];unfold fV;rw [List.find?_append]
  by_cases c2:aQ k k'=true
  ·rw [if_pos c2]
   have none:kvs.find? (λkv=>aQ kv.1 k')=none:=by
    rw [List.find?_eq_none];intro kv m q;refine c (List.any_eq_true.mpr ⟨kv,m,?_⟩);have e1:=cP _ _ (h.key kv m).1 q hk';have e2:=cP _ _ hk c2 hk';rw [e1,<- e2];exact iz k hk
   rw [none];simp [c2]
  ·rw [if_neg c2]
   cases kvs.find? (λkv=>aQ kv.1 k') with
   | some z=>rfl
   | none=>simp [c2]
theorem nj {kvs:List (D×D)} {k:D}:(kvs.any λkv=>aQ kv.1 k)=(fV kvs k).isSome:=by
 unfold fV;rw [Option.isSome_map,Bool.eq_iff_iff,List.find?_isSome,List.any_eq_true]
section
variable {X:Cx} {a e o:Expr} {ta te to:TD} {pos apos cpos:Pos}
def DI (X:Cx) (neg:Bool):R2:=λx y H Q=>∃(F:Hp) (d:D) (ds:List D) (vs:List V) (p:Addr),ao F H/\Den X.K F d x/\y=.ref p/\fL X.K H p vs/\aq X.K F ds vs/\X.A.units + 64 < cLine/\bJ ds<=60/\dep d<=60/\Q (.bl (if neg then !ds.any (λe=>aQ e d) else ds.any λe=>aQ e d)) H
theorem yi:gq X (compareOp .NotIn) (DI X true):=by
 intro pins s σ H x y v u Q I rx ry h;obtain⟨F,d,ds,vs,p,fh,dx,rfl,hq,dl,hu,h1,h2,q⟩:=h;cases ry;obtain⟨its,r,pl,hz⟩:=I.list hq;refine SeqAt.notIn_listAt (gv its ds d) pl.isList (λw hw=>ni I fh hu h1 h2 dl r dx rx w (by simpa using hw)) ⟨.bl _,H,I,rfl,?_⟩;rw [show its.toArray.any (gv its ds d)=its.any (gv its ds d) by simp,any_map',jl I fh (by omega) dl r,<- any_map'];exact q
def l7 (neg:Bool) (i:Nat) (ta:TD):TB:=λenv Q=>ta env λx=>∃xs,env[i]?=some (some (.own xs))/\bJ xs<=60/\dep x<=60/\Q (if neg then !xs.any (λe=>aQ e x) else xs.any λe=>aQ e x)
theorem sd {x:Str} {px:Pos} (i:Nat) (hu:X.A.units + 64 < cLine) (ha:QE X a ta) (hN:X.N[i]?=some x:=by rfl) (hv:u9 X.env.scope x:=by first | exact Or.inl rfl | exact Or.inr (Or.inl rfl) | exact Or.inr (Or.inr rfl)) (hd:(x == ("__debug__" : Str))=false:=by decide)
  (hcd:(x == ("__classdict__" : Str))=false:=by decide) (hm:behindInMarks .NotIn (.Name x px)=false:=by rfl):QT X (.Compare a [.NotIn] [.Name x px] pos) (l7 true i ta):=by
 refine⟨λB σ F H env Q rp h=>oq (p4 yi bz (fu hN hv hd hcd) hm) ?_⟩;refine aE (ha B σ F H env _ rp h) λy H1 hq0=>?_;obtain⟨F1,d,r1,s1,d1,xs,hx,l1,l2,q1⟩:=hq0;obtain⟨p,vs,g1,g2,g3,g4,g5⟩:=r1.ov i xs hx;exact⟨.ref p,g1,F1,d,xs,vs,p,r1.fh,d1,rfl,fL.of g2,g5,hu,l1,l2,_,rfl,F1,r1,s1,q1⟩
def t6 (to te:TD):TD:=λenv Q=>to env λx=>∃ds,x=.lst ds/\bJ ds<=60/\te env λy=>dep y<=60/\∃j:Nat,(ds[j]?.map λd=>aQ d y)=some true/\(∀m,m < j->(ds[m]?.map λd=>aQ d y)=some false)/\Q (.int j)
theorem yU (hu:X.A.units + 64 < cLine) (ho:QE X o to) (he:QE X e te) (m:M1 X o "index" apos e cpos:=by exact⟨rfl,rfl,rfl,rfl⟩):QE X (.Call (.Attribute o "index" apos) [e] [] cpos) (t6 to te):=by
 refine⟨λB σ F H env Q rp h pins s I=>?_⟩;refine wpAny_Call_method m.base m.few m.line PySem.F.plainAttrs_list PySem.F.slot_list_index PySem.F.type_list_index (bu (ho B σ F H env _ rp h pins s I) λu s1 hq0=>?_);obtain⟨x,H1,I1,rx,F1,d,r1,z1,d1,ds,e1,hds,q1⟩:=hq0;subst e1;simp only [Den] at d1;obtain⟨p,vs,rfl,hq,dl⟩:=d1;cases rx;obtain⟨its0,_,⟨o0,n0,g0,c0,nd0,_⟩,_⟩:=I1.list (r1.fh.seq hq);refine⟨⟨o0,g0,c0⟩,λb eb=>by cases eb;exact⟨o0,g0,nd0⟩,?_⟩
 rw [m.trees];refine Calls.callWith_builtin rfl (Calls.evalArgs_plain (FX (bu (he B σ F1 H1 env _ r1 q1 pins s1 I1) λiv s2 ⟨y,H2,I2,ry,F2,d',r2,z2,d2,hy,j,hj,hno,q2⟩=>Calls.spliced_nil ?_)));have hq2:=z2.seq hq;have dl2:=aq.mono z2 _ _ dl;obtain⟨its,rv,⟨⟨oc,od,odt,osl⟩,n,g,c,nd,dd⟩,hz⟩:=I2.list (r2.fh.seq hq2)
 replace c:oc=.type "list":=c
 replace dd:odt=.seq its.toArray n:=dd
 subst c dd;have l1:=dl2.length;have l2:=rv.length
 have at_:∀(k:Nat) (b:Bool),(ds[k]?.map λd=>aQ d d')=some b->∃hk:k < its.length,gv its ds d' its[k]=b:=λk b hb=>by
  obtain⟨w,hw,rfl⟩:=Fv.mp hb;have hk:k < its.length:=by have:=(EO.mp hw).1;omega
  exact⟨hk,lL I2 r2.fh (by omega) dl2 rv hw (ET hk)⟩
 obtain⟨hjl,hit⟩:=at_ j true hj
 have hsz:(j:Int) < 2 ^ 63 - 1:=by
  have:j < sizeLine:=by omega
  rw [Fb] at this;omega
 refine call_meets PySem.F.slot_list_index ⟨_,g,rfl⟩ PySem.F.entry_list_index (PySem.F.args_list_index_2 _ _) (SeqAt.list_indexAt p its.toArray n od osl iv (gv its ds d') j (by simpa using hjl) hsz (by simpa using hit) (λk hk hkj=>by
  obtain⟨hkl,z⟩:=at_ k false (hno k hkj)
  simpa using z)) ⟨g,λw hw=>oH I2 r2.fh _ (by simp only [units_in1];omega) hds hy dl2 rv d2 ry w (by simpa using hw),?_⟩
 exact⟨.int _,H2,I2.tok _,⟨_,rfl⟩,F2,_,r2,z1.trans z2,br,q2⟩
end
section
variable {X:Cx} {a e:Expr} {es:List Expr} {ta te:TD} {ts:dS} {p pos apos cpos:Pos}
def mX (neg:Bool) (i:Nat) (ta:TD):TB:=λenv Q=>ta env λx=>∃kvs,env[i]?=some (some (.dic kvs))/\aP x=true/\dep x<=8/\cE kvs/\Q (if neg then !(kvs.any λkv=>aQ kv.1 x) else kvs.any λkv=>aQ kv.1 x)
theorem rE {x:Str} {px:Pos} (i:Nat) (hu:X.A.units + 64 < cLine) (ha:QE X a ta) (hN:X.N[i]?=some x:=by rfl) (hv:u9 X.env.scope x:=by first | exact Or.inl rfl | exact Or.inr (Or.inl rfl) | exact Or.inr (Or.inr rfl)) (hd:(x == ("__debug__" : Str))=false:=by decide)
  (hcd:(x == ("__classdict__" : Str))=false:=by decide) (hm:behindInMarks .NotIn (.Name x px)=false:=by rfl):QT X (.Compare a [.NotIn] [.Name x px] pos) (mX true i ta):=by
 refine⟨λB σ F H env Q rp h=>oq (p4 (y1 hu) bz (fu hN hv hd hcd) hm) ?_⟩;refine aE (ha B σ F H env _ rp h) λy H1 hq0=>?_;obtain⟨F1,d,r1,s1,d1,kvs,hx,l1,l2,ok,q1⟩:=hq0;obtain⟨p,ep,us,vs,g1,g2,g3,g4,g5,g6⟩:=r1.mv i kvs hx;exact⟨.ref p,g1,p,ep,F1,kvs,us,vs,d,rfl,r1.fh,ok,g5,g6,g2,l1,l2,d1,_,rfl,F1,r1,s1,q1⟩
end
section
variable {X:Cx} {a b:Expr} {ta tb:TD} {p pos:Pos}
theorem BB {pins : List (Addr × Obj)} {σ : St} {H : Hp} {s : Shared} {p : Addr} {n : Int} {v : V} (I : Inv X pins σ H s) (e : H p = some (.dK [(.inl n, v)])) : ∃ ep, Inv X pins σ (upd H p (iY p ep [(hashInt n, .int n, v)])) s := by
  obtain ⟨z, hs, vs, rel, o, es, ep, g, c, dd, kk, pp, nd⟩ := (show bo X.prog X.w H s.heap p (.dK [(.inl n, v)]) from I.hok p _ e);have rel' : KV [((.inl n : Key), v)] vs := rel
  cases rel' with
  | @cons x y xs ys h t =>
    have : ys = [] := by cases t; rfl
    subst this
    have hes : ∃ en, es.toList = [en] /\ (bD X.prog X.w).is y.1 en.key = true /\ en.val = y.2 := by
      cases hh : es.toList with
      | nil => rw [hh] at pp; cases pp
      | cons en r =>
        rw [hh] at pp
        cases pp with
        | cons h1 h2 h3 => cases h3; exact ⟨en, rfl, h1, h2⟩
    obtain ⟨en, he, h1, h2⟩ := hes;have hy : y.1 = .inl n := h.1.symm
    obtain ⟨k, k1, k2⟩ := kk en (by have : en ∈ es.toList := by rw [he]; simp
                                    simpa using this)
    have ek : k = y.1 := (bD X.prog X.w).inj _ _ _ k1 h1;rw [hy] at ek h1;subst ek
    have kv : ∃ t, en.key = Value.int n t := by
      have h1' : Value.isInt n en.key = true := h1
      cases hh : en.key with
      | int a t =>
        rw [hh] at h1';have : a = n := by simp only [Value.isInt, beq_iff_eq] at h1'; first|exact h1'|exact h1'.symm
        subst this; exact ⟨t, rfl⟩
      | _ => rw [hh] at h1'; simp [Value.isInt] at h1'
    have pr : Paired u4 [(hashInt n, V.int n, v)] es.toList := by
      rw [he];exact .cons ⟨k2, kv, by rw [h2]; exact h.2⟩ .nil
    refine ⟨ep, ?_⟩;have := jD (h' := s.heap) (t' := s.toks) (ob := iY p ep [(hashInt n, V.int n, v)]) I (by rw [e]; exact True.intro) (.refl ..) ⟨o, g⟩ ⟨⟨by simp [Fb], hs, es, ⟨o, g, c, dd⟩, pr⟩, ⟨o, g⟩, ?_⟩
    · exact this
    · rintro h1 h2 ⟨z, hs, es, ⟨o, ho, c, dd⟩, pr⟩ k
      exact ⟨z, hs, es, ⟨o, k _ ho, c, dd⟩, pr⟩
theorem Rep.oJ {K:ES} {B:Base} {F H:Hp} {σ:St} {e:En} (r:Rep K B F H σ e) {i:Nat} {p:Addr} (ep:Nat) {kvs:List (D×D)} {us vs:List V} (h:H p=none) (hl:i < σ.length) (hd1:aq K F (kvs.map (·.1)) us) (hd2:aq K F (kvs.map (·.2)) vs) :
  Rep K B F (upd H p (iY p ep (cM kvs us vs))) (σ.set i (some (.ref p))) (e.set i (some (.dic kvs))):=by
 have r1:=r.loose (o:=iY p ep (cM kvs us vs)) h;have hb:B.H p=none:=r.h0.free h
 have old:∀(j:Nat) (ys:List (D×D)),e[j]?=some (some (.dic ys))->σ[j]?≠some (some (.ref p)):=λj ys q z=>by
  obtain⟨q1,_,_,_,h1,h2,_⟩:=r.mv j ys q;rw [z] at h1;cases h1;rw [h] at h2;cases h2
 refine⟨r1.f0,r1.fh,r1.h0,r1.nf,λj y q=>?_,λj y q=>?_,λj k ys zs q hjk q1 q2 q3 q4=>?_,λj y q=>?_,λj k ys zs q hjk q1 q2 q3 q4=>?_⟩
 ·have z:=rd (λ_ w=>by cases w) q;rw [EU z] at q ⊢;exact r1.dv j y q
 ·have z:=dF (λ_ w=>by cases w) q;rw [EU z] at q ⊢;exact r1.ov j y q
 ·have z1:=dF (λ_ w=>by cases w) q1;have z2:=dF (λ_ w=>by cases w) q2;rw [EU z1] at q1 q3;rw [EU z2] at q2 q4;exact r.ne j k ys zs q hjk q1 q2 q3 q4
 ·by_cases z:i=j
  ·subst z
   by_cases w:i < e.length
   ·rw [E1 w] at q;cases q;exact⟨p,ep,us,vs,E1 hl,av,r.lX h,hb,hd1,hd2⟩
   ·rw [Fg (by simpa using w)] at q;cases q
  ·rw [EU z] at q ⊢;exact r1.mv j y q
 ·by_cases z1:i=j
  ·subst z1;rw [EU hjk] at q2 q4;rw [E1 hl] at q3;cases q3;exact old k zs q2 q4
  ·rw [EU z1] at q1 q3
   by_cases z2:i=k
   ·subst z2;rw [E1 hl] at q4;cases q4;exact old j ys q1 q3
   ·rw [EU z2] at q2 q4;exact r.nm j k ys zs q hjk q1 q2 q3 q4
def pK (i:Nat) (tk tv:TD):cK:=λZ env=>tk env λk=>∃n:Int,k=.int n/\tv env λv=>Z.nx (env.set i (some (.dic [(.int n,v)])))
theorem uN {x:Str} {pos' pd:Pos} (i:Nat) (hN:X.N.Nodup) (ha:QE X a ta) (hb:QE X b tb) (hi:X.N[i]?=some x:=by rfl) (hx:Loc X.env.scope x:=by first|exact Or.inl rfl|exact Or.inr rfl) (hs:swapsWith (.Dict [some a] [b] pd) (some (.Name x pos')) pos.line X.env=pure false:=by rfl)
  (hf:X.fn x=true\/X.env.scope.names.lookup x=some .local:=by first|exact .inl rfl|exact .inr rfl):QS X (.Assign [.Name x pos'] (.Dict [some a] [b] pd) pos) (pK i ta tb):=by
 refine⟨λB σ F H env Z rp h pins s I=>?_⟩;have hl:i < σ.length:=by rw [I.len];exact (EO.mp hi).1
 refine bu (p7 (i:=i) hN hi hx (uH (mE bz bz pG) rfl rfl (by simp) (by simp)) hs hf pins s σ H
  { nx:=λσ' H'=>∃p n v F' d,σ'=σ.set i (some (.ref p))/\H' p=some (.dK [(.inl n,v)])/\Rep X.K B F' (λb=>if b=p then none else H' b) σ env/\Den X.K F' d v/\Z.nx (env.set i (some (.dic [(.int n,d)]))),rt:=λ_ _=>False,bk:=λ_ _=>False,ct:=λ_ _=>False } I λp hp=>?_) λf s' q=>?_
 ·have hb0:B.H p=none:=rp.h0.free hp;refine aE (ha (B.guard p (.dK [])) σ F (upd H p (.dK [])) env _ (rp.guarded hp) h) λk H1 hq0=>?_;obtain⟨F1,d1,r1,s1,e1,n,ed,q1⟩:=hq0;subst ed;simp only [Den] at e1;subst e1;refine aE (hb _ σ F1 H1 env _ r1 q1) λv H2 hq0=>?_;obtain⟨F2,d2,r2,s2,e2,q2⟩:=hq0;obtain⟨r3,hp2,hf2⟩:=r2.pN hb0;refine⟨hp2,[(.inl n,v)],rfl,by simp,p,n,v,F2,d2,rfl,av,?_,e2,q2⟩
  have e:(λb=>if b=p then none else upd H2 p (.dK (fv [] [(.inl n,v)])) b)=λb=>if b=p then none else H2 b:=by
   funext b
   by_cases z:b=p
   ·rw [if_pos z,if_pos z]
   ·rw [if_neg z,if_neg z,au z]
  rw [e];refine⟨r3.f0,λb o z=>?_,λb o z=>?_,r3.nf,r3.dv,λj xs hj=>?_,r3.ne,λj xs hj=>?_,r3.nm⟩
  ·have:b≠p:=λw=>by subst w;rw [hf2] at z;cases z
   rw [if_neg this];exact r3.fh _ _ z
  ·have:b≠p:=λw=>by subst w;rw [hb0] at z;cases z
   rw [if_neg this];exact r3.h0 _ _ z
  ·obtain⟨p2,us,g1,g2,g3,g4,g5⟩:=r3.ov j xs hj;have:p2≠p:=λw=>by subst w;rw [hp2] at g2;cases g2
   exact⟨p2,us,g1,by rw [if_neg this];exact g2,g3,g4,g5⟩
  ·obtain⟨p2,ep,us,vs,g1,g2,g3,g4,g5,g6⟩:=r3.mv j xs hj;have:p2≠p:=λw=>by subst w;rw [hp2] at g2;cases g2
   exact⟨p2,ep,us,vs,g1,by rw [if_neg this];exact g2,g3,g4,g5,g6⟩
 ·cases f with
  | next =>
   obtain⟨σ',H',I',p,n,v,F',d,rfl,hp,r,dd,q⟩:=q;obtain⟨ep,I2⟩:=BB I' hp;refine⟨_,_,I2,F',_,?_,q⟩;have h0:(λb=>if b=p then none else H' b) p=none:=if_pos rfl
   have e:upd H' p (iY p ep [(hashInt n,V.int n,v)])=upd (λb=>if b=p then none else H' b) p (iY p ep (cM [(D.int n,d)] [V.int n] [v])):=by
    funext b
    by_cases z:b=p
    ·subst z;rw [av,av];rfl
    ·rw [au z,au z,if_neg z]
   rw [e]
   exact r.oJ (i:=i) ep h0 hl (aM br aT) (aM dd aT)
  | brk=>obtain⟨_,_,_,q⟩:=q;exact q.elim
  | cont=>obtain⟨_,_,_,q⟩:=q;exact q.elim
  | ret u=>obtain⟨_,_,_,_,_,q⟩:=q;exact q.elim
end
variable {T:Type}
end L2.L3
namespace L2.L3
open PySem PySem.Spec PyProof.Rows
section
variable {X:Cx} {a e o:Expr} {ta te to:TD} {pos apos cpos:Pos}
def qt (to te:TD):TD:=λenv Q=>to env λx=>∃ds,x=.lst ds/\bJ ds<=60/\te env λy=>dep y<=60/\Q (.int (ds.countP λd=>aQ d y))
theorem xP (hu:X.A.units + 64 < cLine) (ho:QE X o to) (he:QE X e te) (m:M1 X o "count" apos e cpos:=by exact⟨rfl,rfl,rfl,rfl⟩):QE X (.Call (.Attribute o "count" apos) [e] [] cpos) (qt to te):=by
 refine⟨λB σ F H env Q rp h pins s I=>?_⟩;refine wpAny_Call_method m.base m.few m.line PySem.F.plainAttrs_list PySem.F.slot_list_count PySem.F.type_list_count (bu (ho B σ F H env _ rp h pins s I) λu s1 hq0=>?_);obtain⟨x,H1,I1,rx,F1,d,r1,z1,d1,ds,e1,hds,q1⟩:=hq0;subst e1;simp only [Den] at d1;obtain⟨p,vs,rfl,hq,dl⟩:=d1;cases rx;obtain⟨its0,_,⟨o0,n0,g0,c0,nd0,_⟩,_⟩:=I1.list (r1.fh.seq hq);refine⟨⟨o0,g0,c0⟩,λb eb=>by cases eb;exact⟨o0,g0,nd0⟩,?_⟩
 rw [m.trees];refine Calls.callWith_builtin rfl (Calls.evalArgs_plain (FX (bu (he B σ F1 H1 env _ r1 q1 pins s1 I1) λiv s2 ⟨y,H2,I2,ry,F2,d',r2,z2,d2,hy,q2⟩=>Calls.spliced_nil ?_)));have hq2:=z2.seq hq;have dl2:=aq.mono z2 _ _ dl;obtain⟨its,rv,⟨⟨oc,od,odt,osl⟩,n,g,c,nd,dd⟩,hz⟩:=I2.list (r2.fh.seq hq2)
 replace c:oc=.type "list":=c
 replace dd:odt=.seq its.toArray n:=dd
 subst c dd;refine call_meets PySem.F.slot_list_count ⟨_,g,rfl⟩ PySem.F.entry_list_count (PySem.F.args_list_count_2 _ _) (SeqAt.list_countAt p its.toArray n od osl iv (gv its ds d')) ⟨g,λw hw=>oH I2 r2.fh _ (by simp only [units_in1];omega) hds hy dl2 rv d2 ry w (by simpa using hw),?_⟩;refine⟨.int _,H2,I2.tok _,⟨_,rfl⟩,F2,_,r2,z1.trans z2,?_,q2⟩
 rw [show its.toArray.toList.countP (gv its ds d')=ds.countP λd=>aQ d d' by
  rw [show its.toArray.toList=its by simp,kT,jl I2 r2.fh (by omega) dl2 rv,<- kT]]
 exact br
end
structure xD (K:ES) (C S:Addr):Prop where
 ty:PySem.W.typeIn K (.ref S)=some (.type "type")
 dct:PySem.W.hasDictIn K S=true
 be:PySem.W.subIn K (.ref S) (.type "BaseException")=some true
 sub:PySem.W.subIn K (.ref C) (.ref S)=some true
theorem oa {K:ES}:PySem.W.subIn K (.type "type") (.type "tuple")=some false:=by
 show Option.map (λx=>x.contains (Value.type "tuple")) (fastBuiltinMro "type")=some false
 decide +kernel
theorem vW {M:Model} {A:Around} {E:Value->Shared->Prop} {K:ES} {h:Heap} {g:Array GenState} {d:Drawn} {t:Nat} {os:OsState} {e C S:Addr} {Q:Bool->Shared->Prop} (X:K.In h) (O:xD K C S)
  (ht:PySem.W.Looks M h (typeOf (.ref e)) (.ref C)) (hq:Q true ⟨h,g,d,t,os⟩):wpAny M A (excMatches (.ref e) (.ref S)) Q E ⟨h,g,d,t,os⟩:=by
 have L1:PySem.W.Looks M h (isInstance (.ref S) (.type "tuple")) false:=(PySem.W.looks_typeIn X O.ty).andThen (PySem.W.looks_subIn X oa)
 have L2:=PySem.W.looks_subIn (M:=M) X O.be;have L3:=PySem.W.looks_subIn (M:=M) X O.sub;obtain⟨c,dd,cd,sl,lk⟩:=pw O.dct;have hS:=X _ _ lk;have LT:PySem.W.Looks M h (isType (.ref S)) true:=λA Q E s keep q=>ER (wpAny_loadPart (keep _ _ hS) (EW q));have LE:PySem.W.Looks M h (isExcClass (.ref S)) true:=LT.andThen L2;unfold excMatches;refine ER (L1.at ?_);rw [if_neg (by decide)];refine ER (EW ?_);simp only [List.forIn_cons,List.forIn_nil]
 refine ER (ER (ER (LE.at (EW (EW ?_)))));refine ER (ht.at (ER (ER (ER (L3.at (EW (EW ?_)))))));exact EW hq
def v9 (i:Nat) (cls:Str) (tx:TX) (tb:cK):cK:=λD env=>tx env D.rt λc=>c=cls/\tb { nx:=λ_=>False,rt:=D.rt } (env.set i (some (.d (.exc cls))))
section
variable {X:Cx} {e:Expr} {tx:TX} {cls sup n:Str} {C S:Addr} {np epos hpos pos:Pos} {b0:Stmt} {body:List Stmt} {tb:cK}
theorem y2 (i:Nat) (hN:X.N.Nodup) (hst:X.stack=X.env :: X.outer) (hf:X.env.frame=some X.env.locals) (as:PySem.W.nsIn X.K mainGlobals sup=some (some (.ref S))) (ac:PySem.W.nsIn X.K mainGlobals cls=some (some (.ref C))) (O:xD X.K C S)
  (h:QX X e tx) (hb:∀x,qx (Cx.hand X x) (b0 :: body) tb) (hg:Gl X sup:=by rfl) (hdb:(sup == ("__debug__" : Str))=false:=by decide) (hi:X.N[i]?=some n:=by rfl)
  (hx:X.env.scope.names.lookup n=some .local:=by rfl) :
  QS X (.Try [.Return (some e) epos] [.ExceptHandler (some (.Name sup np)) (some n) (b0 :: body) hpos] [] [] pos) (v9 i cls tx tb):=by
 refine⟨λB σ F H env D rp ht pins s I=>?_⟩;have hcls:(X.env.scope.kind == .class || (X.env.scope.kind == .module && X.env.locals != X.env.globals))=false:=by rw [I.ok.kind];rfl
 have hmg:X.mg cls=some (.ref C):=FW I.ok.mod.kin I.ok.mod.glob ac;have hms:X.mg sup=some (.ref S):=FW I.ok.mod.kin I.ok.mod.glob as;have core:=h.run B σ F H env _ _ rp ht pins s I;refine wpAny_Try_except (wpAny_execs_cons (wpAny_Return_some (Fo core (λv s1 ⟨x,H1,I1,r1,F1,d1,rp1,_,hd1,q1⟩=>?_) λex s1 z=>?_)))
 ·exact⟨x,σ,H1,I1,r1,F1,d1,rp1.bare,hd1,q1⟩
 ·obtain⟨a,c,C',H1,F1,rfl,th,r1,hm,hce,hq1⟩:=z;rw [hce,hmg] at hm;cases hm;refine th.note hst hf λs2 th2=>?_;have I2:=Inv.hand th2.inv a;refine wpAny_handleBy_cons (codeAny_handlers_test (fm (X:=Cx.hand X a) I2 hg hms ?_ hdb)) (by intro q;cases q)
  have flc:∃ox,PySem.W.InstAt s2.heap a ox C none:=by
   obtain⟨_,_,_,_,_,_,_,_,_,oe,vs,he,hc,hdc,hd,_⟩:=th2;refine⟨oe,he,hc,?_,?_⟩
   ·unfold PySem.W.notCls;rw [hd]
   ·rw [hdc];exact True.intro
  obtain⟨ob,hob⟩:=flc;have kin:=I2.nI;obtain⟨h2,g2,d2,t2,o2⟩:=s2;refine vW kin O hob.type (codeAny_handlers_suite_as ?_);refine cS.land th2 λs3 th3=>?_;obtain⟨na,I3⟩:=gH.Bl th3;obtain⟨rp3,sm⟩:=r1.laid (o:=.ext (excAt a C)) na;refine fD (X:=Cx.hand X a) (i:=i) (v:=.ref a) (Inv.hand I3 a) hN hi (.inl hx) rfl (λs4 I4=>?_) (.inr hx)
  have hden:Den X.K (upd F1 a (.ext (excAt a C))) (.exc cls) (.ref a):=by
   simp only [Den];exact⟨a,C,rfl,ac,av⟩
  have run:=(hb a).run B _ _ _ _ { nx:=λ_=>False,rt:=D.rt } (rp3.set hden (by rw [I3.len];exact (EO.mp hi).1)) hq1 pins s4 I4;refine Fo run (λf s5 z=>?_) λ_ _ z=>False.elim z
  cases f with
  | next=>obtain⟨σ',H',_,F',env',_,q⟩:=z;exact q.elim
  | brk=>obtain⟨σ',H',_,F',env',_,q⟩:=z;exact q.elim
  | cont=>obtain⟨σ',H',_,F',env',_,q⟩:=z;exact q.elim
  | ret u =>
   obtain⟨v,σ',H',I5,rv,q⟩:=z;have I5':=Inv.Ah I.ok I5;obtain⟨m,hn,_⟩:=I5'.loc;refine wpAny_nameGoes (show X.env.kindOf n=some .local from hx) hn hcls λh' m' hn' hs'=>?_;exact⟨v,_,H',Inv.DU I5' hn' hs',rv,q⟩
end
structure e7 (k:Nat) (A:Around):Prop where
 dp:A.depth + 3 * k + 5 < recursionLimit
 un:A.units + 16 * k + 200 < cLine
theorem e7.deeper {k:Nat} {A:Around} (r:e7 (k + 1) A) (env:Env):e7 k (A.deeper env) :=
 ⟨by have:=r.dp;show A.depth + 1 + 3 * k + 5 < _;omega,by have:=r.un;show A.units + 3 + 16 * k + 200 < _;omega⟩
theorem e7.depth {k:Nat} {A:Around} (r:e7 k A):A.depth < recursionLimit:=by have:=r.dp;omega
theorem e7.units {k:Nat} {A:Around} (r:e7 k A):A.units + 64 < cLine:=by have:=r.un;omega
theorem _root_.L2.cp.hand {k:Nat} {A:Around} (r:cp k A) (v:Option Value):e7 k (A.mark v):=⟨r.dp,r.un⟩
structure Ds (P:Program) (w:World) (K:ES) (mg:Str->Option Value) (base:Heap) (k:Nat) (f:Addr) (fd:FuncData) (ps:List Str) (sp:Sp):Prop where
 len:∀vs H Q E,sp vs H Q E->vs.length=ps.length
 run:∀(A:Around) (outer:List Env) (s:Shared) (H:Hp) (args:Args) (us:List Value) (vs:List V) (Q:VK) (E:XK),e7 k A->qy P w K mg base A outer s H->BindsTo s fd args (ps.zip us)->Vals vs us->sp vs H Q E ->
  codeAny (model P w) A (.call (.ref f) args) (CR sq outer P w H s Q E) s
def BH (P:Program) (w:World) (K:ES) (mg:Str->Option Value) (base:Heap) (N:List Str) (qual:Str) (scope:Scope) (f:Addr) (cd:Value) (A:Around) (outer:List Env) (s:Shared) (H:Hp) (E:XK):Cx :=
 { gj sq P w K mg base N qual scope f cd A outer s H E with calm:=false,xe:=λ_ _=>False }
section
variable {P:Program} {w:World} {K:ES} {mg:Str->Option Value} {base:Heap}
theorem sD {N ps:List Str} {qual:Str} {scope:Scope} {f:Addr} {cd:Value} {A:Around} {outer:List Env} {s s1:Shared} {H:Hp} {E:XK} {us:List Value} {vs:List V}
  (S:aI N ps scope) (e0:qy P w K mg base A outer s H) (hl:vs.length=ps.length) (r:Vals vs us)
  (x:InCallC s s.heap.objs.size (bindL (envOfC qual scope s.heap.objs.size f cd).kindOf (ps.zip us) λ_=>none) (cellsFrom (s.heap.objs.size + 1) scope.names []) (bindC (envOfC qual scope s.heap.objs.size f cd).kindOf (ps.zip us) λ_=>none) s1) :
  Inv (BH P w K mg base N qual scope f cd A outer s H E) [] (start N vs) H s1:=by
 have I:Inv (gj sq P w K mg base N qual scope f cd { A with handled:=none } outer s H E) [] (start N vs) H s1 :=
  om S rfl ⟨e0.frames,e0.mod,e0.bs,e0.bsz,e0.iI,e0.frf,e0.hok,e0.bare⟩ hl r x
 exact⟨⟨I.ok.mod,I.ok.kind,I.ok.glob,I.ok.blt,I.ok.above,I.ok.inj,I.ok.has,I.ok.cab,(λz=>by cases z),I.ok.frames,I.ok.stk,I.ok.exf,I.ok.bs,I.ok.bsz,I.ok.noex,I.ok.exfs,I.ok.iI,I.ok.frf⟩,I.os,I.bare,I.base,I.loc,I.cell,I.free,I.freeC,I.pin,I.hok,I.len⟩
theorem Ai {k:Nat} {f:Addr} {name qual:Str} {params:Arguments} {body:List Stmt} {scope:Scope} {dV kV doc pm cdv ct oc:Value} {an od:Option Addr}
  {osl:Array (Option Value)} {N ps:List Str} {sp:Sp} (lk:K.lookup f=some ⟨oc,od,.func (PySem.W.fnOf name qual params body scope dV kV doc pm an cdv ct),osl⟩) (hcd:PySem.W.codeIn K cdv qual=true) (S:aI N ps scope)
  (len:∀vs H Q E,sp vs H Q E->vs.length=ps.length)
  (hbody:∀(A:Around) (outer:List Env) (s:Shared) (H:Hp) (vs:List V) (Q:VK) (E:XK),e7 k (A.deeper (envOfC qual scope s.heap.objs.size f cdv))->sp vs H Q E ->
   ∃t,sv (BH P w K mg base N qual scope f cdv A outer s H E) body t/\t { nx:=λ_ H'=>Q .non H',rt:=Q } (start N vs) H) :
  Ds P w K mg base (k + 1) f (PySem.W.fnOf name qual params body scope dV kV doc pm an cdv ct) ps sp:=by
 refine⟨len,λA outer s H args us vs Q E hr e0 hb r hsp=>?_⟩;have hl:=len _ _ _ _ hsp;have KX:K.In s.heap:=e0.mod.kin.keeps λb o e=>(e0.bs b o e).1;have lim:s.heap.NoLimit:=e0.mod.nolimit.keeps λb o e=>(e0.bs b o e).1
 have hkind:∀y∈ps.zip us,scope.names.lookup y.1=some .local\/(scope.names.lookup y.1=some .cell/\((cellsFrom (s.heap.objs.size + 1) scope.names []).lookup y.1).isSome=true):=fun⟨n,v⟩ hy=>by
  rcases S.par n (List.of_mem_zip hy).1 with q|q
  ·exact .inl q
  ·exact .inr ⟨q,PySem.W.cellsFrom_some _ _ _ (.inl q)⟩
 refine codeAny_call_function hr.depth (KX _ _ lk) rfl S.co S.gen rfl (PySem.W.codeRec_of KX hcd) (hb _ _ _ _ ?_);refine wpAny_newFunctionEnv_cells S.kind hkind λenv he s1 x=>?_;subst he;refine⟨lim.keeps x.toInCall.keep,codeAny_func ?_⟩;obtain⟨t,ht,hq⟩:=hbody A outer s H vs Q E (hr.deeper _) hsp;have I:Inv (BH P w K mg base N qual scope f cdv A outer s H E) [] (start N vs) H s1:=sD S e0 hl r x;refine Fo (ht [] s1 (start N vs) H _ I hq) (λfl s' hs=>?_) λe s' hs=>False.elim hs
 have fin:∀{σ':St} {H':Hp} {v:V} {u:Value},Inv (BH P w K mg base N qual scope f cdv A outer s H E) [] σ' H' s'->RelV v u->Q v H'->CE outer P w H s Q u s' :=
  λ{σ' H' v u} J rv q=>⟨v,H',J.os,J.bare,J.base,J.hok,rv,q⟩
 cases fl with
 | ret u =>
  obtain⟨v,σ',H',J,rv,q⟩:=hs
  exact fin J rv q
 | next =>
  obtain⟨σ',H',J,q⟩:=hs
  exact fin (v:=V.non) (u:=Value.none) J rfl q
 | brk =>
  obtain⟨_,_,_,q⟩:=hs
  exact False.elim q
 | cont =>
  obtain⟨_,_,_,q⟩:=hs;exact False.elim q
structure nG (P:Program) (w:World) (K:ES) (mg:Str->Option Value) (base:Heap) (k:Nat) (x:Str) (f:Fw):Prop where
 ex:∃(fa:Addr) (fd:FuncData) (ps:List Str),Ds P w K mg base k fa fd ps (Bo K f)/\mg x=some (.ref fa)/\PySem.W.keepIn K (.ref fa)=true/\Binds K fd ps []
theorem nJ.tD {x qual:Str} {st:Stmt} {fa:Addr} {fd:FuncData} {N ps:List Str} {k:Nat} {f:Fw} (F:nJ K x qual st fa fd) (S:aI N ps (aj st)) (hmg:mg x=some (.ref fa)) (hb:Binds K fd ps [])
  (hl:∀ds Q,f ds Q->ds.length=ps.length)
  (hbody:∀(cdv:Value) (A:Around) (outer:List Env) (s:Shared) (H:Hp) (E:XK),e7 k (A.deeper (envOfC qual (aj st) s.heap.objs.size fa cdv)) ->
   ∃t,qx (BH P w K mg base N qual (aj st) fa cdv A outer s H E) (a6 st) t/\∀ds (Q:D->Prop),f ds Q->t { nx:=λ_=>Q .non,rt:=Q } (aA N ds)) :
  nG P w K mg base (k + 1) x f:=by
 refine⟨fa,fd,ps,?_,hmg,F.kp,hb⟩;obtain⟨oc,od,kV,doc,pm,an,cdv,ct,osl,rfl,lk,hcd⟩:=F.ex;refine Ai lk hcd S (λvs H Q E h=>?_) λA outer s H vs Q E hr h=>?_
 ·obtain⟨F0,ds,P,_,hd,hf,_⟩:=h;rw [<- hd.length];exact hl ds _ hf
 ·obtain⟨F0,ds,P,fh,hd,hf,kk⟩:=h;obtain⟨t,ht,hq⟩:=hbody cdv A outer s H E hr;refine⟨_,d9,?_⟩;have core:=ht _ (start N vs) F0 H (aA N ds) _ (eS fh hd) (hq ds P hf);refine jt core (λσ' H' ⟨F',env',r,q⟩=>?_) (λv H' ⟨F',d',r,dd,q⟩=>?_) (λ_ _ ⟨_,_,_,q⟩=>q) (λ_ _ ⟨_,_,_,q⟩=>q)
  ·exact kk .non .non F' H' r.f0 r.h0 r.fh (λp h1 h2=>r.nf p ⟨h1,h2⟩) jm q
  ·exact kk d' v F' H' r.f0 r.h0 r.fh (λp h1 h2=>r.nf p ⟨h1,h2⟩) dd q
end
section
variable {X:Cx} {e:Expr} {es:List Expr} {t:TA} {ts:dS} {p pos:Pos} {x:Str} {k:Nat} {f:Fw} {fa:Addr} {fd:FuncData} {ps:List Str} {sp:Sp} {E:XK}
theorem xq (F:Ds X.prog X.w X.K X.mg X.base k fa fd ps sp) (hr:e7 k X.A) (hg:Gl X x) (hm:X.mg x=some (.ref fa)) (hk:PySem.W.keepIn X.K (.ref fa)=true) (hb:Binds X.K fd ps []) (hx:Passes sq X E)
  (ha:PA X (e :: es) t) (hdb:(x == ("__debug__" : Str))=false:=by decide) (he:starEach (e :: es) X.env=(false,eval e X.env) :: starEach es X.env:=by rfl) (hpl:(backTo pos (starEach es X.env)).any (·.1)=false:=by rfl) :
  PE X (.Call (.Name x p) (e :: es) [] pos) (zF sp [] E t):=by
 intro pins s σ H Q I h;refine wpAny_Call_Name_kw (fm I hg hm ?_ hdb);refine PySem.W.callWith_K (h₀:=X.base) I.ok.mod.kin hk (bu (ha pos pins s σ H _ I h) λus s1 ⟨vs,H1,I1,r,q⟩=>⟨I1.nI,?_⟩) he hpl;have r2:Vals (vs ++ []) (us ++ []):=r.append .nil;have hl:(us ++ []).length=ps.length:=by rw [<- r2.length];exact F.len _ _ _ _ q
 refine wpAny_call (codeAny_mono (F.run X.A X.stack s1 H1 ⟨us,[]⟩ (us ++ []) (vs ++ []) Q E hr I1.bW (hb s1 us I1.nI hl) r2 q) λr s' hq=>?_)
 cases r with
 | error e=>exact hx pins σ H1 s1 e s' I1 hq
 | ok fl =>
  cases fl with
  | ret u=>exact I1.after hq
  | next=>exact False.elim hq
  | brk=>exact False.elim hq
  | cont=>exact False.elim hq
theorem yQ (h:nG X.prog X.w X.K X.mg X.base k x f) (hr:e7 k X.A) (ha:QA X (e :: es) ts) (hg:Gl X x:=by rfl) (hdb:(x == ("__debug__" : Str))=false:=by decide)
  (he:starEach (e :: es) X.env=(false,eval e X.env) :: starEach es X.env:=by exact aV rfl) (hpl:(backTo pos (starEach es X.env)).any (·.1)=false:=by rfl):QE X (.Call (.Name x p) (e :: es) [] pos) (az f ts):=by
 refine⟨?_⟩;intro B σ F H env Q rp hq;obtain⟨fa,fd,ps,G,hm,hk,hb⟩:=h.ex;refine bN (xq G hr hg hm hk hb zI iV hdb he hpl) ?_;refine cu (ha B σ F H env _ rp hq) λvs H1 hq0=>?_;obtain⟨F1,ds,r1,s1,d1,hf⟩:=hq0;rw [Fz];exact⟨F1,ds,Q,r1.fh,d1,hf,λd v F' H' a b c n hd q=>⟨F',d,r1.ext a c b n,s1.trans a,hd,q⟩⟩
end
theorem nV {N P:List Str} {sc:Scope} (a:sc.kind=.function:=by rfl) (b:sc.isCoroutine=false:=by rfl) (c:sc.isGenerator=false:=by rfl) (d:N.Nodup:=by decide +kernel) (e:N.take P.length=P:=by rfl) (f:∀x∈P,sc.names.lookup x=some .local\/sc.names.lookup x=some .cell:=by decide +kernel) (g:∀y∈sc.names,y.2≠.free:=by decide +kernel):aI N P sc:=⟨a,b,c,d,e,f,g⟩
theorem _root_.L2.cp.md {j k:Nat} {A:Around} (r:cp k A) (h:j<=k:=by decide):cp j A:=r.mono h
structure cw (K:ES) (x:Str) (st:Stmt):Prop where
 ex:∃(f:Addr) (oc:Value) (od an:Option Addr) (sl:Array (Option Value)) (kV dc pm cd ct:Value),PySem.W.nsIn K mainGlobals x=some (some (.ref f)) /\
  K.lookup f=some ⟨oc,od,.func (PySem.W.fnOf x x (dj st) (a6 st) (aj st) .none kV dc pm an cd ct),sl⟩/\PySem.W.codeIn K cd x=true/\PySem.W.keepIn K (.ref f)=true
section
variable {K:ES} {h:Heap} {mg:Str->Option Value} {x:Str} {st:Stmt} {i:Int}
theorem cw.get {ps:List Str} (D:cw K x st) (X:K.In h) (G:h.Ns mainGlobals mg)
  (hb:∀(kV doc pm:Value) (an:Option Addr) (cdv ct:Value) (us:List Value),us.length=ps.length->bindArgs (PySem.W.fnOf x x (dj st) (a6 st) (aj st) .none kV doc pm an cdv ct) ⟨us,[]⟩=pure (ps.zip us)) :
  ∃fa fd,nJ K x x st fa fd/\mg x=some (.ref fa)/\Binds K fd ps []:=by
 obtain⟨f,oc,od,an,sl,kV,dc,pm,cd,ct,a,l,c,k⟩:=D.ex;have F:=sR l c k;exact⟨f,_,F,FW X G a,F.binds hb⟩
theorem cw.Eu {fa:Addr} {p:Str} (D:cw K x st) (X:K.In h) (G:h.Ns mainGlobals mg) (hfa:mg x=some (.ref fa))
  (hb:∀(kV doc pm:Value) (an:Option Addr) (cdv ct:Value) (v:Value),bindArgs (PySem.W.fnOf x x (dj st) (a6 st) (aj st) .none kV doc pm an cdv ct) ⟨[v],[]⟩=pure [(p,v)]) :
  ∃fd,nJ K x x st fa fd/\∀(s:Shared) (v:Value),BindsTo s fd ⟨[v],[]⟩ [(p,v)]:=by
 obtain⟨f,oc,od,an,sl,kV,dc,pm,cd,ct,a,l,c,k⟩:=D.ex;have e:=hfa.symm.trans (FW X G a);cases e;exact⟨_,sR l c k,λs v=>.of_eq (hb kV dc pm an cd ct v)⟩
end
theorem Ew {P:List Value->Prop} (h:P []) (us:List Value) (hu:us.length=0):P us:=by
 cases us with
 | nil=>exact h
 | cons a l=>simp at hu
theorem Cp {P:List Value->Prop} (h:∀a,P [a]) (us:List Value) (hu:us.length=1):P us:=by
 cases us with
 | nil=>simp at hu
 | cons a l=>exact Ew (P:=λl=>P (a :: l)) (h a) l (by simpa using hu)
theorem xx {P:List Value->Prop} (h:∀a b,P [a,b]) (us:List Value) (hu:us.length=2):P us:=by
 cases us with
 | nil=>simp at hu
 | cons a l=>exact Cp (P:=λl=>P (a :: l)) (h a) l (by simpa using hu)
theorem AF {P:List Value->Prop} (h:∀a b c,P [a,b,c]) (us:List Value) (hu:us.length=3):P us:=by
 cases us with
 | nil=>simp at hu
 | cons a l=>exact xx (P:=λl=>P (a :: l)) (h a) l (by simpa using hu)
structure Df (K:ES) (mg:Str->Option Value) (x:Str) (st:Stmt) (ps:List Str):Prop where
 ex:∃fa fd,nJ K x x st fa fd/\mg x=some (.ref fa)/\Binds K fd ps []
section
variable {P:Program} {w:World} {K:ES} {mg:Str->Option Value} {base:Heap} {x:Str} {st:Stmt} {N ps:List Str} {k:Nat} {f:Fw} {fx:ug} {i:Int}
theorem Df.known (F:Df K mg x st ps) (S:aI N ps (aj st)) (hl:∀ds Q,f ds Q->ds.length=ps.length)
  (hbody:∀(fa:Addr) (cdv:Value) (A:Around) (outer:List Env) (s:Shared) (H:Hp) (E:XK),cp k (A.deeper (envOfC x (aj st) s.heap.objs.size fa cdv)) ->
   ∃t,qx (gj sq P w K mg base N x (aj st) fa cdv A outer s H E).nK (a6 st) t/\∀ds (Q:D->Prop),f ds Q->t { nx:=λ_=>Q .non,rt:=Q } (aA N ds)):Known P w K mg base (k + 1) x f :=
 let ⟨fa,_,F,m,b⟩:=F.ex;nJ.known F S m b hl (hbody fa)
theorem Df.tD (F:Df K mg x st ps) (S:aI N ps (aj st)) (hl:∀ds Q,f ds Q->ds.length=ps.length)
  (hbody:∀(fa:Addr) (cdv:Value) (A:Around) (outer:List Env) (s:Shared) (H:Hp) (E:XK),e7 k (A.deeper (envOfC x (aj st) s.heap.objs.size fa cdv)) ->
   ∃t,qx (BH P w K mg base N x (aj st) fa cdv A outer s H E) (a6 st) t/\∀ds (Q:D->Prop),f ds Q->t { nx:=λ_=>Q .non,rt:=Q } (aA N ds)):nG P w K mg base (k + 1) x f :=
 let ⟨fa,_,F,m,b⟩:=F.ex;nJ.tD F S m b hl (hbody fa)
theorem Df.sT (F:Df K mg x st ps) (S:aI N ps (aj st)) (hl:∀ds Q R,fx ds Q R->ds.length=ps.length)
  (hbody:∀(fa:Addr) (cdv:Value) (A:Around) (outer:List Env) (s:Shared) (H:Hp) (E:XK),cp k (A.deeper (envOfC x (aj st) s.heap.objs.size fa cdv)) ->
   ∃t,BM (gj (zL P w) P w K mg base N x (aj st) fa cdv A outer s H E) (a6 st) t/\∀ds (Q:D->Prop) (R:Str->Prop),fx ds Q R->t { nx:=λ_=>Q .non,rt:=Q,xc:=R } (aA N ds)):ft P w K mg base (k + 1) x fx :=
 let ⟨fa,_,F,m,b⟩:=F.ex;nJ.sT F S m b hl (hbody fa)
end
def xW (ta:TD) (tx:TX):TX:=λenv Q R=>ta env λd=>tx env (λy=>Q (.tup [d,y])) R
section
variable {X:Cx} {a e:Expr} {ta:TD} {tx:TX} {pos:Pos}
theorem AR {x1} (ha:QE X.nK a ta) (hx:QX X e tx) (he:starEach [a,e] X.env=(false,eval a X.env) :: starEach [e] X.env:=by exact aV rfl) (he2:starEach [e] X.env=(false,eval e X.env) :: starEach [] X.env:=by exact aV rfl) :
  QX X (.Tuple [a,e] x1 pos) (xW ta tx):=by
 refine⟨λB σ F H env Q R rp hq pins s I=>?_⟩;refine wpAny_Tuple_spliced ?_;rw [he];show wpAny _ _ (spliced ((false,eval a X.env) :: backTo pos (starEach [e] X.env))) _ _ s
 refine FX (bu (xH (E:=XX X pins σ B env R) (ha B σ F H env _ rp hq) pins s (I.bG _)) λu s1 hq0=>?_);obtain⟨x,H1,I1,rx,F1,d,r1,z1,d1,q1⟩:=hq0;rw [he2];show wpAny _ _ (spliced ((false,eval e X.env) :: backTo pos (starEach [] X.env))) _ _ s1
 refine FX (bu (hx.run B σ F1 H1 env _ R r1 q1 pins s1 I1.aW) λu2 s2 hq0=>?_);obtain⟨y,H2,I2,ry,F2,d',r2,z2,d2,q2⟩:=hq0;refine Calls.spliced_nil ⟨by simp [Fb],?_⟩;have hf:H2 s2.heap.objs.size=none:=I2.hok.fresh (E3 _);have rv:Vals [x,y] [u,u2]:=.cons rx (.cons ry .nil);refine⟨.ref s2.heap.objs.size,upd H2 s2.heap.objs.size (.tup [x,y]),I2.laid (t':=s2.toks) (λb u e=>EZ _ e) (E3 _) ?_,rfl,?_⟩
 ·exact⟨by simp [Fb],[u,u2],rv,⟨_,Fh _ rfl,rfl,⟨_,rfl⟩,rfl⟩⟩
 ·exact (RV.xU r2 (aM (Den.mono z2 _ _ d1) (aM d2 aT)) q2 _ hf).weaken (z1.trans z2)
end
open PySem PySem.Spec PyProof.Rows PySem.W
theorem pR {a b:Int} {t u:Tok} {c:Value}:∀(l:List Value),TriplesOk l->TriplesOk (l ++ [.int a t,.int b u,c]):=by
 intro l
 fun_induction TriplesOk l with
 | case1=>intro _;trivial
 | case2 i t j u c rest ih=>intro h;exact ih h
 | case3 l h1 h2=>intro h;exact h.elim
theorem tK {pos:Pos} {a b:Int} {t u:Tok} {c cv:Value}:∀(l:List Value),TriplesOk l->codeAmong pos (l ++ [.int a t,.int b u,c])=some cv->codeAmong pos l=some cv\/cv=c:=by
 intro l
 fun_induction TriplesOk l with
 | case1 =>
  intro _ h;simp only [List.nil_append,codeAmong] at h
  split at h
  ·cases h;exact .inr rfl
  ·cases h
 | case2 i t j u c rest ih =>
  intro h z;simp only [List.cons_append,codeAmong] at z ⊢
  split at z
  ·rename_i q;rw [if_pos q];exact .inl z
  ·rename_i q;rw [if_neg q];exact ih h z
 | case3 l h1 h2=>intro h;exact h.elim
def jB (oc:Obj) (q:Str):Prop:=∃vs t,oc.data=.fields vs/\vs[1]?=some (.str q t)
theorem jB.rec {h:Heap} {c:Addr} {oc:Obj} {q:Str} (x:jB oc q) (e:h.get? c=some oc):h.CodeRec (.ref c) q:=let ⟨vs,t,d,v⟩:=x;⟨c,oc,vs,t,rfl,e,d,v⟩
section
variable {X:Cx} {pins:List (Addr×Obj)} {σ:St} {H:Hp} {s:Shared} {c P:Addr} {qual:Str}
def Made (H:Hp) (q:Str) (f c':Addr) (oc fo:Obj) (H':Hp):Prop:=H f=none/\H' f=some (.frz fo (.cdr c' q))/\H' c'=some (.frz oc (.own c'))/\jB oc q/\ao H H'
theorem _root_.L2.Inv.CF (I:Inv X pins σ H s) (hP:H P=some (.oG qual)) {ps:Array Value} (hps:s.heap.get? P=some (tabObj ps)) (htr:TriplesOk ps.toList) (hcs:∀pos cv,codeAmong pos ps.toList=some cv->∃c oc vs t,cv=.ref c/\H c=some (.frz oc (.own c))/\oc.data=.fields vs/\vs[1]?=some (.str qual t))
  {a b:Int} {t u:Tok} {c':Addr} {h':Heap} {fo:Obj} {tk:Nat} (hx:Heap.ExtBut P s.heap h') (hge:s.heap.objs.size<=c') (hlt:c' < h'.objs.size) (hrec:h'.CodeRec (.ref c') qual) (htb:h'.get? P=some (tabObj (ps ++ #[.int a t,.int b u,.ref c'])))
  (hfo:Obj.isFreed fo=false) :
  ∃oc H',Made H qual h'.objs.size c' oc fo H'/\Inv X pins σ H' { s with heap:=h'.push fo,toks:=tk }:=by
 obtain⟨c2,oc,vs,tt,e2,hoc,hd,hv⟩:=hrec;cases e2;have sz:s.heap.objs.size<=h'.objs.size:=FV hge (Gb hlt);have nc:H c'=none:=I.hok.fresh hge;have nf:H h'.objs.size=none:=I.hok.fresh sz;have fc:h'.objs.size≠c':=Nat.ne_of_gt hlt
 let H1:Hp:=upd H c' (.frz oc (.own c'))
 have nf1:H1 h'.objs.size=none:=by show upd H c' _ _=none;rw [au fc];exact nf
 let H2:Hp:=upd H1 h'.objs.size (.frz fo (.cdr c' qual))
 have s1:ao H H1:=a9 nc;have s2:ao H1 H2:=a9 nf1;have s12:=s1.trans s2;have hcP:c'≠P:=λz=>by rw [z] at nc;rw [nc] at hP;cases hP
 have hfP:h'.objs.size≠P:=λz=>by rw [z] at nf;rw [nf] at hP;cases hP
 have nP:∀x,H x=none->x≠P:=λx z w=>by rw [w,hP] at z;cases z
 have keep:∀x o,x≠P->s.heap.get? x=some o->(h'.push fo).get? x=some o:=λx o n e=>EZ _ (hx x o n e);have gP:(h'.push fo).get? P=some (tabObj (ps ++ #[.int a t,.int b u,.ref c'])):=EZ _ htb;have gc:(h'.push fo).get? c'=some oc:=EZ _ hoc;have gf:(h'.push fo).get? h'.objs.size=some fo:=Fh _ hfo;have other:∀x,x≠c'->x≠h'.objs.size->H2 x=H x:=λx n1 n2=>by show upd H1 _ _ _=_;rw [au n2];show upd H _ _ _=_;rw [au n1]
 refine⟨oc,H2,⟨nf,av,s2 _ _ av,⟨vs,tt,hd,hv⟩,s12⟩,I.un (t':=tk) ⟨λx o e n _ _=>keep x o (nP x n) e,λx o e n _ _=>⟨o.slots,keep x o (nP x n) e⟩,λx o e n _=>?_,λx o e _=>?_,λx xs q=>s12 _ _ q,λx o xs q=>s12 _ _ q,λx q e=>s12 _ _ e⟩ λx o e=>?_⟩
 ·have hl:=E7 e;rw [other x (Fp (EY hl hge)) (Fp (EY hl sz))];exact n
 ·by_cases z:x=P
  ·exact⟨_,by rw [z];exact gP⟩
  ·exact⟨o,keep x o z e⟩
 ·by_cases z1:x=h'.objs.size
  ·subst z1;have e':some (HO.frz fo (.cdr c' qual))=some o:=av.symm.trans e;cases e';exact⟨gf,⟨fo,gf⟩,oc,vs,tt,s2 _ _ av,hd,hv⟩
  ·by_cases z2:x=c'
   ·subst z2;have e':some (HO.frz oc (.own x))=some o:=(s2 _ _ av).symm.trans e;cases e';exact⟨gc,oc,gc⟩
   ·rw [other x z2 z1] at e
    by_cases z:x=P
    ·subst z;rw [hP] at e;cases e;refine⟨_,gP,?_,λpos cv hc=>?_⟩
     ·have:=pR (a:=a) (b:=b) (t:=t) (u:=u) (c:=.ref c') ps.toList htr
      simpa using this
     ·have hc':codeAmong pos (ps.toList ++ [.int a t,.int b u,.ref c'])=some cv:=by simpa using hc
      rcases tK ps.toList htr hc' with q|q
      ·obtain⟨c,oc',vs',t',e1,e3,e4⟩:=hcs pos cv q;exact⟨c,oc',vs',t',e1,s12 _ _ e3,e4⟩
      ·exact⟨c',oc,vs,tt,q,s2 _ _ av,hd,hv⟩
    ·refine (I.hok x o e).mJ (λy v hy q=>keep y v (λw=>?_) q) (λy q=>s12 _ _ q) (λy xs q=>s12 _ _ q) λy o' xs q=>s12 _ _ q;rcases hy with w'|w'
     ·exact z (w'.symm.trans w)
     ·rw [w,hP] at w';cases w'
theorem _root_.L2.Inv.CC (I:Inv X pins σ H s) {c':Addr} {oc fo:Obj} {h':Heap} {tk:Nat} (hc:H c'=some (.frz oc (.own c'))) (hq:jB oc qual) (hk:∀b o,s.heap.get? b=some o->h'.get? b=some o) (sz:s.heap.objs.size<=h'.objs.size) (hfo:Obj.isFreed fo=false) :
  ∃H',Made H qual h'.objs.size c' oc fo H'/\Inv X pins σ H' { s with heap:=h'.push fo,toks:=tk }:=by
 have nf:H h'.objs.size=none:=I.hok.fresh sz;have gf:(h'.push fo).get? h'.objs.size=some fo:=Fh _ hfo;obtain⟨vs,tt,hd,hv⟩:=hq;exact⟨_,⟨nf,av,a9 nf _ _ hc,⟨vs,tt,hd,hv⟩,a9 nf⟩,I.laid (a:=h'.objs.size) (o:=.frz fo (.cdr c' qual)) (t':=tk) (λb u e=>EZ _ (hk b u e)) sz ⟨gf,⟨fo,gf⟩,oc,vs,tt,a9 nf _ _ hc,hd,hv⟩⟩
theorem xY {E:Value->Shared->Prop} {Q:Value->Shared->Prop} {M:Model} {A:Around} {name:Str} {params:Arguments} {body:List Stmt} {scope:Scope} {pos:Pos} {line:Nat} {bb:List (Str×Addr)} (I:Inv X pins σ H s) (hcode:X.env.code=.ref c) (C:CodeHd X.base c P) (hq:tq X.K P=some qual)
  (hcl:closureFor scope X.env=pure bb)
  (h:∀f c' pm dc ctv oc H' s',Made H qual f c' oc (fnMade name qual params body scope bb dc pm c' ctv) H'->Inv X pins σ H' s'->Q (.ref f) s') :
  wpAny M A (makeFunction name qual params (.stmts body) scope X.env [] [] [] pos line) Q E s:=by
 have hP:=I.tb P qual hq;obtain⟨ps,hps,htr,hcs⟩:=I.hok P _ hP;obtain⟨bm,ob,b1,b2,b3,b4,b5,b6⟩:=I.mod.bm;have hg:=I.mod.glob.keeps I.bk
 have hgP:mainGlobals≠P:=λz=>by
  obtain⟨o,es,ep,e,hd,_⟩:=I.mod.glob;have n:=(I.bs _ _ e).2;rw [z,hP] at n;cases n
 have hbP:bm≠P:=λz=>by
  have n:=(I.bs _ _ b3).2;rw [z,hP] at n;cases n
 have hbG:bm≠mainGlobals:=λz=>by
  obtain⟨o,es,ep,e,hd,_⟩:=I.mod.glob;rw [z,e] at b3;cases b3;rw [hd] at b6;cases b6
 have hB:s.heap.BuiltinsAt X.mg P:=⟨bm,ob,b1,b2,hbG,hbP,I.bk _ _ b3,b4,b5,b6⟩
 cases ha:codeAmong pos ps.toList with
 | none =>
  refine makeFunction_K hcl I.ok.glob hg hcode (C.keeps I.bk) hps htr ha hgP hB λc' ctv dc h' tk hx hge hlt hrec htb=>?_;obtain⟨oc,H',m,I'⟩:=I.CF (fo:=fnMade name qual params body scope bb dc ((X.mg "__name__").getD .none) c' ctv) (tk:=tk) hP hps htr hcs hx hge hlt hrec htb rfl
  exact h _ c' _ dc ctv oc H' _ m I'
 | some cv =>
  obtain⟨c',oc,vs,t,rfl,hc,hd,hv⟩:=hcs pos cv ha;refine makeFunction_hit hcl I.ok.glob hg hcode (C.keeps I.bk) hps htr ha hB λctv dc h' tk hk hsz=>?_;obtain⟨H',m,I'⟩:=I.CC (fo:=fnMade name qual params body scope bb dc ((X.mg "__name__").getD .none) c' ctv) (tk:=tk) hc ⟨vs,t,hd,hv⟩ hk hsz rfl
  exact h _ c' _ dc ctv oc H' _ m I'
end
structure jh (P:Program) (w:World) (K:Frag) (mg:Str->Option Value) (base:Heap) (k:Nat) (Pf:Frag->Hp->Addr->Prop) (φ:Fw):Prop where
 here:∀(H:Hp) (h:Heap) (a:Addr),Pf K H a->iC P w H h->FnAt a h
 run:∀(F:Hp) (a:Addr) (A:Around) (outer:List Env) (s:Shared) (H:Hp) (us:List Value) (vs:List V) (ds:List D) (Pd:D->Prop) (Q:VK) (E:XK),(∀G,ao F G->Pf K G a)->cp k A->qy P w K mg base A outer s H->ao F H->aq K F ds vs->Vals vs us->φ ds Pd ->
  (∀(d:D) (v:V) (F' H':Hp),ao F F'->ao H H'->ao F' H'->(∀p,H p≠none->F p=none->F' p=none)->Den K F' d v->Pd d->Q v H') ->
  codeAny (model P w) A (.call (.ref a) ⟨us,[]⟩) (CR sq outer P w H s Q E) s
def tW (i:Nat) (Pf:Frag->Hp->Addr->Prop) (φ:Fw) (ts:dS):TD:=λenv Q=>env[i]?=some (some (.d (.obj Pf)))/\ts env λds=>φ ds Q
section
variable {X:Cx} {e:Expr} {es:List Expr} {ts:dS} {p pos:Pos} {x:Str} {k:Nat} {φ:Fw} {Pf:Frag->Hp->Addr->Prop}
theorem yG (i:Nat) (h:jh X.prog X.w X.K X.mg X.base k Pf φ) (hr:cp k X.A) (ha:QA X (e :: es) ts) (hN:X.N[i]?=some x:=by rfl) (hv:u9 X.env.scope x:=by first | exact Or.inl rfl | exact Or.inr (Or.inl rfl) | exact Or.inr (Or.inr rfl)) (hd:(x == ("__debug__" : Str))=false:=by decide)
  (hcd:(x == ("__classdict__" : Str))=false:=by decide)
  (he:starEach (e :: es) X.env=(false,eval e X.env) :: starEach es X.env:=by exact aV rfl) (hpl:(backTo pos (starEach es X.env)).any (·.1)=false:=by rfl):QE X (.Call (.Name x p) (e :: es) [] pos) (tW i Pf φ ts):=by
 refine⟨λB σ F H env Q rp hq pins s I=>?_⟩;obtain⟨hi,hq⟩:=hq;obtain⟨v,hv',hdn⟩:=rp.dv i _ hi;simp only [Den] at hdn;obtain⟨a,rfl,hP⟩:=hdn;refine wpAny_Call_Name_kw (bu (fu (pos:=p) hN hv hd hcd pins s σ H (λv H'=>v=.ref a/\H'=H) I ⟨.ref a,hv',rfl,rfl⟩) λu s1 hq0=>?_);obtain⟨v,H1,I1,r,ev,eH⟩:=hq0;subst ev;subst eH;obtain rfl:u=Value.ref a:=r;refine callWith_F (first:=[]) (h.here H1 _ a (hP H1 rp.fh) I1.hok) (bu (ha B σ F H1 env _ rp hq pos pins s1 I1) λus s2 hq1=>?_) he hpl
 obtain⟨vs,H2,I2,rv,F2,ds,r2,s2',d2,hf⟩:=hq1;have hP2:∀G,ao F2 G->Pf X.K G a:=λG sG=>hP G (s2'.trans sG);refine⟨h.here H2 _ a (hP2 H2 r2.fh) I2.hok,?_⟩;refine wpAny_call (codeAny_mono (h.run F2 a X.A X.stack s2 H2 us vs ds Q (RV X B σ env F Q) E0 hP2 hr I2.bW r2.fh d2 rv hf λd v F' H' a b c n hd q=>⟨F',d,r2.ext a c b n,s2'.trans a,hd,q⟩) λr s' hq=>?_)
 cases r with
 | error e=>exact False.elim hq
 | ok fl =>
  cases fl with
  | ret u=>exact I2.after hq
  | next=>exact False.elim hq
  | brk=>exact False.elim hq
  | cont=>exact False.elim hq
end
structure DV (h:Heap) (bb:List (Str×Addr)) (cn:List Str) (ws:List V):Prop where
 len:ws.length=cn.length
 inj:∀x y c,bb.lookup x=some c->bb.lookup y=some c->x=y
 cell:∀x c,bb.lookup x=some c->∃v,h.IsCell c v
 has:∀(i:Nat) x v,cn[i]?=some x->ws[i]?=some v->∃u c,RelV v u/\bb.lookup x=some c/\h.IsCell c (some u)
structure C6 (scope:Scope) (ps cn:List Str):Prop where
 kind:scope.kind=.function
 co:scope.isCoroutine=false
 gen:scope.isGenerator=false
 cell:∀y∈scope.names,y.2≠.cell
 fr:∀y∈scope.names,y.2=.free->y.1∈cn
 par:∀x∈ps,scope.names.lookup x=some .local
 cap:∀x∈cn,scope.names.lookup x=some .free
 nd:(ps ++ cn).Nodup
theorem EC {scope:Scope} {ps cn:List Str} (a:scope.kind=.function:=by rfl) (b:scope.isCoroutine=false:=by rfl) (c:scope.isGenerator=false:=by rfl) (d:∀y∈scope.names,y.2≠.cell:=by decide +kernel) (e:∀y∈scope.names,y.2=.free->y.1∈cn:=by decide +kernel)
  (f:∀x∈ps,scope.names.lookup x=some .local:=by decide +kernel) (g:∀x∈cn,scope.names.lookup x=some .free:=by decide +kernel) (h:(ps ++ cn).Nodup:=by decide +kernel):C6 scope ps cn:=⟨a,b,c,d,e,f,g,h⟩
abbrev CN (P:Program) (w:World) (K:Frag) (mg:Str->Option Value) (base:Heap) (N:List Str) (qual:Str) (scope:Scope) (f c':Addr) (bb:List (Str×Addr)) (A:Around) (outer:List Env) (s:Shared) (H:Hp):Cx where
 prog:=P
 w:=w
 K:=K
 mg:=mg
 base:=base
 A:=A.deeper (envX qual scope s.heap.objs.size f (.ref c') bb)
 N:=N
 s₀:=s
 H₀:=H
 env:=envX qual scope s.heap.objs.size f (.ref c') bb
 outer:=outer
 stack:=envX qual scope s.heap.objs.size f (.ref c') bb :: outer
 ex:=[]
 calm:=true
 fn:=λ_=>false
 pn:=[]
 xe:=λ_ _=>False
theorem g9:∀{ps:List Str} {us:List Value} {x:Str} {u:Value} {i:Nat},ps.Nodup->ps[i]?=some x->us[i]?=some u->(ps.zip us).reverse.lookup x=some u
 | [],_,_,_,_,_,h,_=>by simp at h
 | _ :: _,[],_,_,_,_,_,h=>by simp at h
 | y :: ps,v :: us,x,u,i,nd,h1,h2=>by
  rw [List.zip_cons_cons,List.reverse_cons,List.lookup_append]
  cases i with
  | zero =>
   simp at h1 h2;subst h1;subst h2
   have:(ps.zip us).reverse.lookup y=none:=by
    rw [List.lookup_eq_none_iff];intro p hp;rw [List.mem_reverse] at hp;obtain⟨a,b⟩:=p;have hm:=(List.of_mem_zip hp).1;simp only [bne_iff_ne,beq_eq_false_iff_ne,ne_eq];exact λw=>(FT.mp nd).1 (by rw [w];exact hm)
   rw [this]
   simp [List.lookup]
  | succ i =>
   rw [g9 (i:=i) (FT.mp nd).2 (by simpa using h1) (by simpa using h2)];rfl
section
variable {P:Program} {w:World} {K:Frag} {mg:Str->Option Value} {base:Heap} {qual:Str} {params:Arguments} {scope:Scope} {bb:List (Str×Addr)} {ps cn:List Str} {ws:List V} {caps:List D} {k:Nat} {A:Around} {outer:List Env} {s:Shared} {H:Hp}
theorem sN {f c':Addr} {us:List Value} {vs:List V} {h1:Heap} {tk:Nat} (S:C6 scope ps cn) (CL:DV base bb cn ws) (hfr:∀x c,bb.lookup x=some c->x∈cn) (hd:A.handled=none) (e0:qy P w K mg base A outer s H) (hl:vs.length=ps.length) (r:Vals vs us)
  (hns:h1.Ns s.heap.objs.size λx=>(ps.zip us).reverse.lookup x) (hk1:∀b o,s.heap.get? b=some o->h1.get? b=some o) :
  Inv (CN P w K mg base (ps ++ cn) qual scope f c' bb A outer s H) [] (start (ps ++ cn) (vs ++ ws)) H { s with heap:=h1,toks:=tk }:=by
 have noA:∀b:Addr,b∉(CN P w K mg base (ps ++ cn) qual scope f c' bb A outer s H).ex:=λb z=>absurd (show b∈([]:List Addr) from z) (by simp);have cellB:∀c v,base.IsCell c v->h1.IsCell c v/\H c=none:=λc v ⟨o,ho,hd⟩=>⟨⟨o,hk1 _ _ (e0.bs c o ho).1,hd⟩,(e0.bs c o ho).2⟩
 have stE:start (ps ++ cn) (vs ++ ws)=(vs ++ ws).map some:=by
  unfold start;rw [show (ps ++ cn).length - (vs ++ ws).length=0 by rw [Ft,Ft,hl,CL.len];omega];simp
 refine⟨⟨e0.mod,S.kind,rfl,rfl,E3 _,λy z c h1 h2=>CL.inj y z c h1 h2,λy hy=>?_,λy c z _=>(by cases z),λ_=>hd,Around.frames_deeper e0.frames,.inr ⟨rfl,rfl⟩,λb z=>absurd z (noA b),e0.bs,e0.bsz,λb _ _=>noA b,λb z=>absurd z (noA b),e0.iI,e0.frf⟩,
  rfl,e0.bare,Un.kept hk1,⟨_,hns,λi y v h1 h2 h3=>?_⟩,λy c h=>?_,e0.hok.fresh (E3 _),λy c h=>?_,λp hp=>absurd (show p∈([]:List (Addr×Obj)) from hp) (by simp),e0.hok.kept hk1,?_⟩
 ·have hy:scope.names.lookup y=some .cell\/scope.names.lookup y=some .free:=hy;rcases hy with hy|hy
  ·exact absurd rfl (S.cell _ (PySem.mem_of_lookup hy))
  ·have hm:=S.fr _ (PySem.mem_of_lookup hy) rfl;obtain⟨i,hi⟩:=List.mem_iff_getElem?.mp hm;have hlt:i < ws.length:=by rw [CL.len];exact (EO.mp hi).1
   obtain⟨u,c,_,e,_⟩:=CL.has i _ _ hi (ET hlt);exact⟨c,e⟩
 ·rw [stE,E2] at h2
  have ha:(vs ++ ws)[i]?=some v:=by
   cases e:(vs ++ ws)[i]? with
   | none=>rw [e] at h2;cases h2
   | some a=>rw [e] at h2;cases h2;rfl
  have h1':(ps ++ cn)[i]?=some y:=h1
  by_cases hi:i < ps.length
  ·rw [E5 hi] at h1';rw [E5 (by omega)] at ha;obtain⟨u,hu,rv⟩:=r.get ha;refine⟨u,rv,.inl ⟨S.par y (E6 h1'),?_⟩⟩;exact g9 (S.nd.sublist (List.sublist_append_left _ _)) h1' hu
  ·rw [E8 (by omega)] at h1';rw [E8 (by omega)] at ha;rw [hl] at ha;obtain⟨u,c,rv,e,z⟩:=CL.has _ _ _ h1' ha;exact⟨u,rv,.inr ⟨.inr (S.cap y (E6 h1')),c,e,(cellB c _ z).1⟩⟩
 ·obtain⟨v,z⟩:=CL.cell y c h;exact⟨v,(cellB c v z).1⟩
 ·obtain⟨v,z⟩:=CL.cell y c h;exact (cellB c v z).2
 ·rw [stE,Ff,Ft,hl,CL.len,<- Ft]
end
def q0 (env:En):List Nat->Option (List D)
 | []=>some []
 | i :: r=>match env[i]? with
  | some (some (.d x))=>(q0 env r).map (x :: ·)
  | _=>none
theorem ro {K:Frag} {B:Base} {F H:Hp} {σ:St} {env:En} (rp:Rep K B F H σ env):∀{ix:List Nat} {caps:List D},q0 env ix=some caps->∃ws:List V,ws.length=ix.length/\aq K F caps ws/\∀(j i:Nat) w,ix[j]?=some i->ws[j]?=some w->σ[i]?=some (some w)
 | [],caps,h=>by cases h;exact⟨[],rfl,aT,λj i w z=>by simp at z⟩
 | i :: r,caps,h=>by
  unfold q0 at h
  split at h
  ·rename_i x hx
   cases e:q0 env r with
   | none=>rw [e] at h;cases h
   | some cs =>
    rw [e] at h;cases h;obtain⟨ws,l,d,f⟩:=ro rp e;obtain⟨v,hv,dv⟩:=rp.dv i x hx;refine⟨v :: ws,by simp [l],aM dv d,λj i' w z1 z2=>?_⟩
    cases j with
    | zero=>simp at z1 z2;subst z1;subst z2;exact hv
    | succ j=>exact f j i' w (by simpa using z1) (by simpa using z2)
  ·cases h
def cellAt (env:Env) (x:Str):Addr:=(env.cells.lookup x).getD 0
def bR (env:Env) (cn:List Str):List (Str×Addr):=cn.map λx=>(x,cellAt env x)
theorem dP {env:Env} {x:Str} {c:Addr}:∀{cn:List Str},(bR env cn).lookup x=some c->x∈cn/\c=cellAt env x
 | [],h=>by cases h
 | y :: cn,h=>by
  have h':((y,cellAt env y) :: bR env cn).lookup x=some c:=h;rw [List.lookup_cons] at h'
  cases e:x == y with
  | true =>
   rw [e] at h';cases h';have:=eq_of_beq e;subst this
   exact⟨Fc,rfl⟩
  | false =>
   rw [e] at h';obtain⟨a,b⟩:=dP (cn:=cn) h';exact⟨E4 _ a,b⟩
theorem oO {env:Env} {x:Str}:∀{cn:List Str},x∈cn->(bR env cn).lookup x=some (cellAt env x)
 | y :: cn,h=>by
  show ((y,cellAt env y) :: bR env cn).lookup x=_
  rw [List.lookup_cons]
  cases e:x == y with
  | true=>have:=eq_of_beq e;subst this;rfl
  | false =>
   rcases Fe.mp h with z|z
   ·subst z;simp at e
   ·exact oO z
def resT (h:Heap) (p:Addr->Bool):Heap:=hideAll h ((List.range h.objs.size).filter λb=>!p b)
theorem ux {h:Heap} {p:Addr->Bool} {b:Addr} {o:Obj} (e:h.get? b=some o) (hp:p b=true):(resT h p).get? b=some o:=hideAll_get _ e (by simp [hp])
theorem xk {h:Heap} {p:Addr->Bool} {b:Addr} {o:Obj} (e:(resT h p).get? b=some o):h.get? b=some o/\p b=true:=by
 have e1:h.get? b=some o:=of_hideAll _ e;refine⟨e1,?_⟩
 cases q:p b with
 | true=>rfl
 | false =>
  have hm:b∈(List.range h.objs.size).filter λb=>!p b:=List.mem_filter.mpr ⟨FG.mpr (E7 e1),by simp [q]⟩;have z:(resT h p).get? b=none:=hideAll_none _ hm;rw [z] at e;cases e
def lT (base h:Heap) (bb:List (Str×Addr)):Heap:=resT h λb=>(base.get? b).isSome || (bb.map (·.2)).contains b
section
variable {X:Cx} {pins:List (Addr×Obj)} {σ:St} {H:Hp} {s:Shared} {cn:List Str}
theorem qO {env:Env} {b:Addr} (h:((bR env cn).map (·.2)).contains b=true):∃x∈cn,b=cellAt env x:=by
 rw [List.contains_iff_mem] at h;obtain⟨p,hp,rfl⟩:=Fj.mp h;obtain⟨x,hx,rfl⟩:=Fj.mp hp;exact⟨x,hx,rfl⟩
theorem iu (I:Inv X pins σ H s) (hck:∀x∈cn,X.env.kindOf x=some .cell) {x:Str} (hx:x∈cn):X.env.cells.lookup x=some (cellAt X.env x):=by
 obtain⟨c,e⟩:=I.ok.has x (.inl (hck x hx));unfold cellAt;rw [e];rfl
theorem _root_.L2.Inv.Dv (I:Inv X pins σ H s) (hck:∀x∈cn,X.env.kindOf x=some .cell) (hfn:∀x∈cn,X.fn x=true):qy X.prog X.w X.K X.mg (lT X.base s.heap (bR X.env cn)) X.A X.stack s H:=by
 have keep:∀b o,X.base.get? b=some o->(lT X.base s.heap (bR X.env cn)).get? b=some o:=λb o e=>ux (I.bk b o e) (by simp [e]);refine⟨I.ok.frames,⟨I.mod.kin.keeps keep,I.mod.glob.keeps keep,let ⟨mb,h1,h2⟩:=I.mod.blt;⟨mb,h1.keeps keep,h2⟩,I.mod.nolimit.keeps keep,let ⟨bm,ob,b1,b2,b3,b4⟩:=I.mod.bm;⟨bm,ob,b1,b2,keep _ _ b3,b4⟩⟩,λb o e=>?_,Nat.le_of_eq (hideAll_size _ _),?_,⟨I.lQ,I.tb⟩,I.hok,I.bare⟩
 ·obtain⟨e1,hp⟩:=xk e;refine⟨e1,?_⟩;rcases Bool.or_eq_true_iff.mp hp with z|z
  ·obtain⟨o',e'⟩:=Option.isSome_iff_exists.mp z;exact (I.bs b o' e').2
  ·obtain⟨x,hx,rfl⟩:=qO z;exact I.freeC x _ (iu I hck hx)
 ·have no:∀L∈ji X.stack,X.base.get? L=none->(lT X.base s.heap (bR X.env cn)).get? L=none:=λL hL hn=>by
   cases e:(lT X.base s.heap (bR X.env cn)).get? L with
   | none=>rfl
   | some o =>
    obtain⟨e1,hp⟩:=xk e;rcases Bool.or_eq_true_iff.mp hp with z|z
    ·rw [hn] at z;cases z
    ·obtain⟨x,hx,rfl⟩:=qO z;have lk:=iu I hck hx;rcases Fe.mp (I.kE _ hL) with w|w
     ·exact absurd w (I.y3 x _ lk)
     ·obtain⟨_,o',ho',_⟩:=I.ok.iI.mem w;exact absurd (EY (E7 ho') (I.ok.cab x _ (hfn x hx) lk)) (Nat.lt_irrefl _)
  have all:∀(l:List Env),(∀b∈ji l,b∈ji X.stack)->s.heap.FunFrames X.base l->s.heap.FunFrames (lT X.base s.heap (bR X.env cn)) l:=by
   intro l
   induction l with
   | nil=>intro _ _;trivial
   | cons env r ih =>
    intro hs hl;obtain⟨hk,⟨L,o,hf,hn,ho,hd⟩,hr⟩:=hl;have hL:L∈ji X.stack:=hs L (by unfold ji;rw [List.filterMap_cons,hf];exact Fc);exact⟨hk,⟨L,o,hf,no L hL hn,ho,hd⟩,ih (λb hb=>hs b (by unfold ji;rw [List.filterMap_cons,hf];exact E4 _ hb)) hr⟩
  exact all X.stack (λ_ h=>h) I.stack
theorem _root_.L2.Inv.Eb (I:Inv X pins σ H s) (hck:∀x∈cn,X.env.kindOf x=some .cell) {ix:List Nat} (hix:ix.map (X.N[·]?)=cn.map some) {ws:List V} (hl:ws.length=ix.length) (hσ:∀(j i:Nat) w,ix[j]?=some i->ws[j]?=some w->σ[i]?=some (some w)) :
  DV (lT X.base s.heap (bR X.env cn)) (bR X.env cn) cn ws:=by
 have put:∀x∈cn,∀v,s.heap.IsCell (cellAt X.env x) v->(lT X.base s.heap (bR X.env cn)).IsCell (cellAt X.env x) v:=λx hx v ⟨o,e,d⟩=>by
  refine⟨o,ux e ?_,d⟩
  have:((bR X.env cn).map (·.2)).contains (cellAt X.env x)=true:=by
   rw [List.contains_iff_mem];exact Fj.mpr ⟨(x,cellAt X.env x),Fj.mpr ⟨x,hx,rfl⟩,rfl⟩
  rw [this,Bool.or_true]
 have len:ix.length=cn.length:=by have:=congrArg List.length hix;simpa using this
 refine⟨hl.trans len,λx y c h1 h2=>?_,λx c h=>?_,λi x v h1 h2=>?_⟩
 ·obtain⟨m1,rfl⟩:=dP h1;obtain⟨m2,e⟩:=dP h2;exact I.ok.inj x y _ (iu I hck m1) (by rw [e];exact iu I hck m2)
 ·obtain⟨m,rfl⟩:=dP h;obtain⟨v,z⟩:=I.cell x _ (iu I hck m);exact⟨v,put x m v z⟩
 ·have m:=E6 h1;have hlt:i < ix.length:=by rw [len];exact (EO.mp h1).1
  have h3:(ix.map (X.N[·]?))[i]?=(cn.map some)[i]?:=by rw [hix]
  rw [E2,E2,h1,ET hlt] at h3;have h3':X.N[ix[i]]?=some x:=by simpa using h3
  have h4:=hσ i _ v (ET hlt) h2;obtain⟨mm,_,hloc⟩:=I.loc;obtain⟨u,r,l⟩:=hloc _ x v h3' h4 (.inr (.inl (hck x m)));rcases l with ⟨k,_⟩|⟨_,c,e,z⟩
  ·rw [hck x m] at k;cases k
  ·have ec:c=cellAt X.env x:=by have:=iu I hck m;rw [e] at this;exact E9 this
   subst ec;exact⟨u,_,r,oO m,put x m _ z⟩
end
def lg (K:Frag) (cdv:Value) (q:Str):Prop:=∃c P o vs file tf flags tg inF text tt,cdv=.ref c/\K.lookup c=some o/\o.cls=.type "code"/\o.data=.fields vs/\vs[11]?=some (.ref P)/\vs.getD 11 .none=.ref P/\vs.getD 18 .none=.str file tf/\vs.getD 7 .none=.int flags tg /\
 vs.getD 9 .none=.bool inF/\vs.getD 10 .none=.int text tt/\c≠P/\tq K P=some q
theorem lg.hd {K:Frag} {cdv:Value} {q:Str} {base:Heap} (x:lg K cdv q) (hb:K.In base):∃c P,cdv=.ref c/\CodeHd base c P/\tq K P=some q:=by
 obtain⟨c,P,o,vs,file,tf,flags,tg,inF,text,tt,e,l,h1,h2,h3,h4,h5,h6,h7,h8,h9,h10⟩:=x;exact⟨c,P,e,⟨o,vs,file,tf,flags,tg,inF,text,tt,hb _ _ l,h1,h2,h3,h4,h5,h6,h7,h8,h9⟩,h10⟩
section
variable {X:Cx} {e body:Expr} {params:Arguments} {scope:Scope} {lpos p pos:Pos} {bb:List (Str×Addr)} {q x:Str} {te t:TD} {ps:List Str}
theorem Made.rep {K:Frag} {B:Base} {F H H':Hp} {σ:St} {env:En} {f c':Addr} {oc fo:Obj} (m:Made H q f c' oc fo H') (r:Rep K B F H σ env):Rep K B (upd F f (.frz fo (.cdr c' q))) H' σ env/\ao F (upd F f (.frz fo (.cdr c' q))):=by
 obtain⟨nf,h1,_,_,sH⟩:=m;have nF:=r.lX nf;refine⟨r.ext (a9 nF) (λb u z=>?_) sH λb h2 h3=>?_,a9 nF⟩
 ·by_cases w:b=f
  ·subst w;rw [av] at z;cases z;exact h1
  ·rw [au w] at z;exact sH _ _ (r.fh _ _ z)
 ·rw [au (λw=>by subst w;exact h2 nf)];exact h3
end
section
variable {X:Cx} {a b:Expr} {ta tb:TD} {p pos:Pos}
theorem wD {prog:Program} {w:World} {A:Around} {E:Value->Shared->Prop} {s:Shared} {env:Env} {k v:Expr} {Q:Value->Shared->Prop}
  (h:wpAny (model prog w) A (evalPairs (pairTrees [some k] [v] env pos)) (λvs s₁=>∃kv vv,vs=[(kv,vv)]/\wpAny (model prog w) A (dictSet s.heap.objs.size kv vv) (λ_ s₂=>Q (.ref s.heap.objs.size) s₂) E s₁) E
   { s with heap:=s.heap.push { cls:=.type "dict",data:=.dict #[] } }) :
  wpAny (model prog w) A (eval (.Dict [some k] [v] pos) env) Q E s:=by
 rw [arm_eval_Dict,zip_pairTrees [some k] [v] env pos rfl rfl,dictDisplay_pairs (pairTrees [some k] [v] env pos) (by intro z;have:=congrArg List.length z;rw [pairTrees_length [some k] [v] env pos rfl rfl] at this;cases this) (by rw [pairTrees_length [some k] [v] env pos rfl rfl];show 1 < 17;decide)];refine ER (wpAny_standAt (ER ?_));unfold subDict;refine ER (wpAny_alloc ?_);refine ER (wpAny_holding ?_)
 rw [if_pos (by rw [pairTrees_length [some k] [v] env pos rfl rfl];show 1<=15;decide)];refine ER (Fo h (λvs s₁ h₁=>?_) λ_ _ e=>e);obtain⟨kv,vv,rfl,h₁⟩:=h₁;refine wpAny_holding ?_;refine ER ?_;rw [List.forIn_cons];refine ER (ER (Fo h₁ (λ_ s₂ h₂=>EW ?_) λ_ _ e=>e));show wpAny _ _ (forIn [] PUnit.unit _) _ _ _
 rw [List.forIn_nil];exact EW (EW (EW (EW h₂)))
def x5 (K:ES) (p:Addr) (Q:VK) (k v:V) (H2:Hp):Prop:=H2 p=some (iY p 0 [])/\∃F d,ao F H2/\Den K F d k/\aP d=true/\dep d<=8/\∀ep,Q (.ref p) (upd H2 p (iY p ep [(um d,k,v)]))
def Ag (K:ES) (p:Addr) (Q:VK):List (V×V)->Hp->Prop
 | [(k,v)],H2=>x5 K p Q k v H2
 | _,_=>False
def AM (ta tb:TE) (K:ES):TE:=λσ H Q=>∀p,H p=none->ta σ (upd H p (iY p 0 [])) λk H1=>tb σ H1 λv H2=>x5 K p Q k v H2
theorem v7 {ta tb:TE} (hu:X.A.units + 9 < cLine) (ha:PE X a ta) (hb:PE X b tb):PE X (.Dict [some a] [b] pos) (AM ta tb X.K):=by
 intro pins s σ H Q I q;have hn:=I.hok.fresh (E3 s.heap.objs.size);have I1:=I.laid (a:=s.heap.objs.size) (o:=iY s.heap.objs.size 0 []) (h':=s.heap.push { cls:=.type "dict",data:=.dict #[] }) (t':=s.toks) (λ_ _ q=>EZ _ q) (E3 _) (uX s.heap I.big)
 refine wD (bu ((mE (pos:=pos) ha hb pG) pins _ σ _ (Ag X.K s.heap.objs.size Q) I1 (q _ hn)) λws s2 hq0=>?_);obtain⟨ps,H2,I2,rel,hq⟩:=hq0
 cases rel with
 | nil=>exact hq.elim
 | @cons x y xs ys r t =>
  cases t with
  | cons _ _=>exact hq.elim
  | nil =>
   obtain⟨k,v⟩:=x;obtain⟨ku,vu⟩:=y;have hq':x5 X.K s.heap.objs.size Q k v H2:=hq;obtain⟨e,F,d,fh,dd,hk,hd,q2⟩:=hq';refine⟨ku,vu,rfl,?_⟩;obtain⟨hz,hs,es,dh,pr⟩:=mi I2 e
   have es0:es=#[]:=by
    have:=Paired.length pr;apply Array.eq_empty_of_size_eq_zero
    simpa using this.symm
   subst es0;have hash:=gF fh d s2 X.A k ku I2 hk (by omega) dd r.1;have find:=lM (kvs:=[]) (us:=[]) (vs:=[]) (I2.tok (s2.toks + x6 d)) fh cE.nil aT aT (es:=#[]) .nil hk hd (A:=X.A) (by omega) dd r.1;refine rA hash find dh (by simp) (λ_ h' dh' sb=>?_) λj hj=>by simp at hj
   obtain⟨o2,g2,c2,dd2⟩:=id dh';refine⟨.ref s.heap.objs.size,_,jD (ob:=iY s.heap.objs.size (0 + 1) [(um d,k,v)]) I2 (by rw [e];exact True.intro) sb ⟨o2,g2⟩ ⟨⟨by simp [Fb],hs,_,dh',.cons ⟨rfl,r.1,r.2⟩ .nil⟩,⟨o2,g2⟩,?_⟩,rfl,q2 _⟩
   rintro h1 h2 ⟨z,hs,es,⟨o,ho,c,dd⟩,pr⟩ k;exact⟨z,hs,es,⟨o,k _ ho,c,dd⟩,pr⟩
def mM (i:Nat) (tk tv:TD):cK:=λZ env=>tk env λk=>aP k=true/\dep k<=8/\tv env λv=>Z.nx (env.set i (some (.dic [(k,v)])))
theorem sV {x:Str} {pos' pd:Pos} (i:Nat) (hN:X.N.Nodup) (hu:X.A.units + 64 < cLine) (ha:QE X a ta) (hb:QE X b tb) (hi:X.N[i]?=some x:=by rfl) (hx:Loc X.env.scope x:=by first|exact Or.inl rfl|exact Or.inr rfl) (hs:swapsWith (.Dict [some a] [b] pd) (some (.Name x pos')) pos.line X.env=pure false:=by rfl)
  (hf:X.fn x=true\/X.env.scope.names.lookup x=some .local:=by first|exact .inl rfl|exact .inr rfl):QS X (.Assign [.Name x pos'] (.Dict [some a] [b] pd) pos) (mM i ta tb):=by
 refine⟨λB σ F H env Z rp h pins s I=>?_⟩;have hl:i < σ.length:=by rw [I.len];exact (EO.mp hi).1
 refine p7 (i:=i) hN hi hx (v7 (by omega) bz bz) hs hf pins s σ H _ I λp hp=>?_;have hb0:B.H p=none:=rp.h0.free hp;refine aE (ha (B.guard p (iY p 0 [])) σ F (upd H p (iY p 0 [])) env _ (rp.guarded hp) h) λk H1 hq0=>?_;obtain⟨F1,d1,r1,s1,e1,hk,hd,q1⟩:=hq0;refine aE (hb _ σ F1 H1 env _ r1 q1) λv H2 hq0=>?_;obtain⟨F3,d2,r3,s2,e2,q3⟩:=hq0;obtain⟨r4,hp2,hf2⟩:=r3.pN hb0;refine⟨hp2,F3,d1,r3.fh,Den.mono s2 _ _ e1,hk,hd,λep=>?_⟩
 have h0:(λb=>if b=p then none else H2 b) p=none:=if_pos rfl
 have ee:upd H2 p (iY p ep [(um d1,k,v)])=upd (λb=>if b=p then none else H2 b) p (iY p ep (cM [(d1,d2)] [k] [v])):=by
  funext b
  by_cases z:b=p
  ·subst z;rw [av,av];rfl
  ·rw [au z,au z,if_neg z]
 have r5:Rep X.K B F3 (λb=>if b=p then none else H2 b) σ env:=by
  refine⟨r4.f0,λb o z=>?_,λb o z=>?_,r4.nf,r4.dv,λj xs hj=>?_,r4.ne,λj xs hj=>?_,r4.nm⟩
  ·have:b≠p:=λw=>by subst w;rw [hf2] at z;cases z
   rw [if_neg this];exact r4.fh _ _ z
  ·have:b≠p:=λw=>by subst w;rw [hb0] at z;cases z
   rw [if_neg this];exact r4.h0 _ _ z
  ·obtain⟨p2,us,g1,g2,g3,g4,g5⟩:=r4.ov j xs hj;have:p2≠p:=λw=>by subst w;rw [hp2] at g2;cases g2
   exact⟨p2,us,g1,by rw [if_neg this];exact g2,g3,g4,g5⟩
  ·obtain⟨p2,ep,us,vs,g1,g2,g3,g4,g5,g6⟩:=r4.mv j xs hj;obtain⟨p3,_,_,_,k1,_,_,k4,_,_⟩:=r3.mv j xs hj;have e3:p3=p2:=by rw [k1] at g1;cases g1;rfl
   subst e3;have:p3≠p:=λw=>by subst w;rw [show (B.guard p3 (iY p3 0 [])).H p3=some (iY p3 0 []) from av] at k4;cases k4
   exact⟨p3,ep,us,vs,g1,by rw [if_neg this];exact g2,g3,g4,g5,g6⟩
 rw [ee];exact⟨F3,_,r5.oJ (i:=i) ep h0 hl (aM (Den.mono s2 _ _ e1) aT) (aM e2 aT),q3⟩
end
theorem CI {K:ES} {cdv:Value} {q:Str} {c P:Addr} {o:Obj} {vs:Array Value} {file:Str} {tf:Tok} {flags:Int} {tg:Tok} {inF:Bool} {text:Int} {tt:Tok} (e:cdv=.ref c) (l:K.lookup c=some o) (h1:o.cls=.type "code") (h2:o.data=.fields vs) (h3:vs[11]?=some (.ref P)) (h4:vs.getD 11 .none=.ref P) (h5:vs.getD 18 .none=.str file tf)
  (h6:vs.getD 7 .none=.int flags tg) (h7:vs.getD 9 .none=.bool inF) (h8:vs.getD 10 .none=.int text tt) (h9:c≠P) (h10:tq K P=some q):lg K cdv q:=⟨c,P,o,vs,file,tf,flags,tg,inF,text,tt,e,l,h1,h2,h3,h4,h5,h6,h7,h8,h9,h10⟩
structure tE (K:ES) (x:Str) (st:Stmt) (q:Str):Prop where
 ex:∃(f:Addr) (oc:Value) (od an:Option Addr) (sl:Array (Option Value)) (kV dc pm cd ct:Value),PySem.W.nsIn K mainGlobals x=some (some (.ref f)) /\
  K.lookup f=some ⟨oc,od,.func (PySem.W.fnOf x x (dj st) (a6 st) (aj st) .none kV dc pm an cd ct),sl⟩/\PySem.W.codeIn K cd x=true/\PySem.W.keepIn K (.ref f)=true/\lg K cd q
structure CO (K:ES) (mg:Str->Option Value) (x:Str) (st:Stmt) (ps:List Str) (q:Str):Prop where
 ex:∃(fa:Addr) (oc:Value) (od:Option Addr) (kV doc pm:Value) (an:Option Addr) (cdv ct:Value) (osl:Array (Option Value)),K.lookup fa=some ⟨oc,od,.func (PySem.W.fnOf x x (dj st) (a6 st) (aj st) .none kV doc pm an cdv ct),osl⟩/\PySem.W.codeIn K cdv x=true/\PySem.W.keepIn K (.ref fa)=true /\
  lg K cdv q/\mg x=some (.ref fa)/\Binds K (PySem.W.fnOf x x (dj st) (a6 st) (aj st) .none kV doc pm an cdv ct) ps []
section
variable {P:Program} {w:World} {K:ES} {mg:Str->Option Value} {base h:Heap} {x q:Str} {st:Stmt} {N ps:List Str} {k:Nat} {fx:ug}
theorem tE.get (D:tE K x st q) (X:K.In h) (G:h.Ns mainGlobals mg)
  (hb:∀(kV doc pm:Value) (an:Option Addr) (cdv ct:Value) (us:List Value),us.length=ps.length->bindArgs (PySem.W.fnOf x x (dj st) (a6 st) (aj st) .none kV doc pm an cdv ct) ⟨us,[]⟩=pure (ps.zip us)):CO K mg x st ps q:=by
 obtain⟨f,oc,od,an,sl,kV,dc,pm,cd,ct,a,l,c,kp,ck⟩:=D.ex;exact⟨f,oc,od,kV,dc,pm,an,cd,ct,sl,l,c,kp,ck,FW X G a,(sR l c kp).binds hb⟩
theorem CO.zY (F:CO K mg x st ps q) (S:aI N ps (aj st)) (hl:∀ds Q R,fx ds Q R->ds.length=ps.length)
  (hbody:∀(fa:Addr) (cdv:Value) (A:Around) (outer:List Env) (s:Shared) (H:Hp) (E:XK),lg K cdv q->cp k (A.deeper (envOfC x (aj st) s.heap.objs.size fa cdv)) ->
   ∃t,zp (gj (zL P w) P w K mg base N x (aj st) fa cdv A outer s H E) (a6 st) t/\∀ds (Q:D->Prop) (R:Str->Prop),fx ds Q R->t { nx:=λ_=>Q .non,rt:=Q,xc:=R } (aA N ds)):ft P w K mg base (k + 1) x fx:=by
 obtain⟨fa,oc,od,kV,doc,pm,an,cdv,ct,osl,lk,hcd,kp,ck,hmg,hb⟩:=F.ex;refine⟨fa,_,ps,?_,hmg,kp,hb⟩;refine vJ lk hcd S (λvs H Q E h=>?_) λA outer s H vs Q E hr h=>?_
 ·obtain⟨F0,ds,P,R,_,hd,hf,_⟩:=h;rw [<- hd.length];exact hl ds _ _ hf
 ·obtain⟨F0,ds,P',R,fh,hd,hf,kk,kx⟩:=h;obtain⟨t,ht,hq⟩:=hbody fa cdv A outer s H E ck hr;refine⟨_,d9,?_⟩;have core:=ht.run _ (start N vs) F0 H (aA N ds) _ (eS fh hd) (hq ds P' R hf);intro pins s1 I;refine Fo (core pins s1 (I.bG _)) (λfl s2 z=>?_) λex s2 z=>?_
  ·refine lJ (SP.aW z) (λσ' H' ⟨F',env',r,q⟩=>?_) (λv H' ⟨F',d',r,dd,q⟩=>?_) (λ_ _ ⟨_,_,_,q⟩=>q) (λ_ _ ⟨_,_,_,q⟩=>q)
   ·exact kk .non .non F' H' r.f0 r.h0 r.fh (λp h1 h2=>r.nf p ⟨h1,h2⟩) jm q
   ·exact kk d' v F' H' r.f0 r.h0 r.fh (λp h1 h2=>r.nf p ⟨h1,h2⟩) dd q
  ·obtain⟨pins',a,c,C,σ',H',F',env',rfl,th,r,hm,hx⟩:=z;exact th.leave (kx c C F' H' r.f0 r.h0 r.fh (λp h1 h2=>r.nf p ⟨h1,h2⟩) hm hx)
theorem Df.at_ (F:Df K mg x st ps):∃fa,mg x=some (.ref fa)/\PySem.W.keepIn K (.ref fa)=true:=let ⟨fa,_,F,m,_⟩:=F.ex;⟨fa,m,F.kp⟩
end
end L2.L3
namespace PySem.SeqAt
def pH (A:Around) (s:Shared) (y x:Value) (b:Bool):Prop :=
 ∀(prog:Program) (w:World) (E:Value->Shared->Prop) (Q:Value->Shared->Prop),Q (.bool b) s->wpAny (model prog w) A (richCompare .Lt y x) Q E s
def lU (e f:Nat->Bool) (z:Bool):List Nat->Bool
 | []=>z
 | i :: r=>if e i then lU e f z r else f i
theorem xN (l b:Addr) (xs ys:Array Value) (n m:Nat) (dx dy:Option Addr) (sx sy:Array (Option Value)) (e f:Nat->Bool) :
  Meets (Builtin.«tuple.__lt__» ⟨[.ref l,.ref b],[]⟩)
   (λA R s=>(s.heap.get? l=some { cls:=.type "tuple",dict:=dx,data:=.seq xs n,slots:=sx }/\s.heap.get? b=some { cls:=.type "tuple",dict:=dy,data:=.seq ys m,slots:=sy }) /\
    (∀j (h1:j < xs.size) (h2:j < ys.size),EqAt A.in1 s xs[j] ys[j] (e j)/\(e j=false->pH A.in1 s xs[j] ys[j] (f j))) /\
    R (.ok (.ret (.bool (lU e f (decide (xs.size < ys.size)) (List.range (min xs.size ys.size)))))) s) :=
 .of_wp λprog w A R s h=>by
  obtain⟨hp,g,d,tk,os⟩:=s;obtain⟨⟨hl,hb⟩,he,h⟩:=h;have f2:=AutoSeq1.sub_tuple_tuple;have hZ:(xs.toList.zip ys.toList).length=min xs.size ys.size:=by simp
  wp_walk using wpAny_loadPart' hl,wpAny_loadPart' hb,wpAny_forIn_list _ (λrest b s'=>b.1=none/\s'=⟨hp,g,d,tk,os⟩/\∃i,rest=(xs.toList.zip ys.toList).drop i /\
   R (.ok (.ret (.bool (lU e f (decide (xs.size < ys.size)) ((List.range (min xs.size ys.size)).drop i))))) ⟨hp,g,d,tk,os⟩) _
  case turn =>
   rintro⟨y,x⟩ rest b s' ⟨hb',rfl,i,hz,hR⟩
   have hlt:i < (xs.toList.zip ys.toList).length:=by
    refine Nat.lt_of_not_le λh'=>?_;rw [List.drop_of_length_le h'] at hz;cases hz
   have hm:i < min xs.size ys.size:=hZ▸hlt;have h1:i < xs.size:=by omega
   have h2:i < ys.size:=by omega
   rw [FR hlt] at hz;injection hz with hyx hrest
   obtain⟨rfl,rfl⟩:y=xs[i]/\x=ys[i]:=⟨by simpa using congrArg Prod.fst hyx,by simpa using congrArg Prod.snd hyx⟩;have hd:(List.range (min xs.size ys.size)).drop i=i :: (List.range (min xs.size ys.size)).drop (i + 1):=by simp [FR,hm]
   rw [hd,lU] at hR;refine ER ((he i h1 h2).1 prog w _ _ ?_)
   cases hy:e i with
   | true =>
    rw [hy] at hR
    wp_walk
    exact⟨rfl,rfl,i + 1,hrest,by simpa using hR⟩
   | false =>
    rw [hy] at hR;have hl2:=(he i h1 h2).2 hy;simp only [Bool.not_false,if_true];refine ER (wpAny_rule (ER (hl2 prog w _ _ ?_)))
    wp_walk
    exact⟨_,rfl,by simpa using hR⟩
  case fin =>
   rintro⟨b1,b2⟩ s' ⟨hb',rfl,i,hz,hR⟩;simp only at hb';subst hb'
   have hge:min xs.size ys.size<=i:=by
    refine Nat.le_of_not_lt λh'=>?_;rw [FR (hZ▸h')] at hz;cases hz
   rw [List.drop_of_length_le (by simpa using hge)] at hR
   wp_walk
   exact⟨_,rfl,by simpa [Builtin.Tuple.tupleCompareSizes,lU] using hR⟩
  case h=>exact⟨rfl,rfl,0,rfl,by simpa using h⟩
theorem pH.ints {A:Around} {s:Shared} (a b:Int) (t u:Tok):pH A s (.int a t) (.int b u) (decide (a < b)):=λprog w E Q h =>
 richCompare_gives (op:=.Lt) (typeIs_int s _ t) (typeIs_int s _ u) F.slot_int_lt F.entry_int_lt (F.args_int_lt_2 _ _) (gives_int_lt _ _ t u) (λx=>nomatch x) h
theorem pH.i4 {A:Around} {s:Shared} {l b:Addr} {xs ys:Array Value} {e f:Nat->Bool} (hl:s.heap.IsTuple l xs) (hb:s.heap.IsTuple b ys) (hu:A.units < cLine)
  (he:∀j (h1:j < xs.size) (h2:j < ys.size),EqAt A.in1 s xs[j] ys[j] (e j)/\(e j=false->pH A.in1 s xs[j] ys[j] (f j))) :
  pH A s (.ref l) (.ref b) (lU e f (decide (xs.size < ys.size)) (List.range (min xs.size ys.size))):=λprog w E Q h=>by
 obtain⟨⟨c1,d1,t1,s1⟩,o1,k1,n1,g1⟩:=hl;obtain⟨⟨c2,d2,t2,s2⟩,o2,k2,n2,g2⟩:=hb;cases k1;cases k2;cases g1;cases g2;exact richCompare_meets_room (op:=.Lt) ⟨_,o1,rfl⟩ ⟨_,o2,rfl⟩ F.slot_tuple_lt F.entry_tuple_lt (F.args_tuple_lt_2 _ _) (xN l b xs ys n1 n2 d1 d2 s1 s2 e f) ⟨⟨o1,o2⟩,he,(λz=>nomatch z),h⟩ hu
end PySem.SeqAt
namespace PySem
section
variable {prog:Program} {w:World} {A:Around} {R:Result->Shared->Prop} {I S:Addr} {fp wr:List Addr} {n:Nat} {P:Nat->Value->Prop} {St:Nat->Heap->Prop} {bt:Nat->Nat->Bool} {K:Shared->Prop}
def Am (prog:Program) (w:World) (A:Around) (P:Nat->Value->Prop) (bt:Nat->Nat->Bool) (K:Shared->Prop):Prop :=
 ∀i j x y (s:Shared) (Q E:Value->Shared->Prop),K s->P i x->P j y->Q (.bool (bt i j)) s->wpAny (model prog w) A (richCompare .Lt x y) Q E s
def Holds (S:Addr) (vs:Array Value) (s:Shared):Prop:=∃c,s.heap.get? S=some { cls:=.type "list",dict:=none,data:=.seq vs c,slots:=#[] }
theorem vt (W:Walks prog w A.in1 I fp wr n P St) (hc:Am prog w A.in1 P bt K) (hS:S∉fp)
  (hK:∀(s:Shared) h' tk,K s->(∀b o,b∉wr->b≠S->s.heap.get? b=some o->h'.get? b=some o)->K { s with heap:=h',toks:=tk }) :
  ∀(k j:Nat) (s:Shared) (x:Value),j + 1 + k=n->St (j + 1) s.heap->P (argBest bt j) x->Holds S #[x,x] s->K s ->
  (∀v h' tk,P (argBest bt (n - 1)) v->(∀b o,b∉wr->b≠S->s.heap.get? b=some o->h'.get? b=some o)->R (.ok (.ret v)) { s with heap:=h',toks:=tk }) ->
  codeAny (model prog w) A (.builtin "min.loop" ⟨[.ref I,.none,.ref S],[]⟩) R s:=by
 have hw:S∉wr:=λh=>hS (W.sub _ h);have nm:(toString "min" ++ toString ".loop" : String) = "min.loop":=by decide
 intro k
 induction k with
 | zero =>
  rintro j s x rfl st px ⟨c,hs⟩ ks hR
  refine codeAny_builtin F.entry_min_loop (by
   rw [Around.under_plainId F.plain_min_loop _];refine ER (wpAny_seqItems hs rfl (ER (wpAny_tryCatch (W.done s _ _ st λh' tk kp=>?_))));refine ER (wpAny_updateSeq (kp S _ hw hs) rfl (ER (wpAny_letGo (EW (hR x _ tk px λb o h1 h2 e=>?_)))))
   rw [Heap.get?_update_other _ _ (Ne.symm h2)];exact kp b o h1 e)
 | succ k ih =>
  rintro j s x hn st px ⟨c,hs⟩ ks hR
  refine codeAny_builtin F.entry_min_loop (by
   rw [Around.under_plainId F.plain_min_loop _];refine ER (wpAny_seqItems hs rfl (ER (wpAny_tryCatch (W.item (j + 1) s _ _ (by omega) st λv h' tk pv st' kp=>?_))));have hs':=kp S _ hw hs
   change wpAny _ _ (tryCatch (holding _ (richCompare .Lt v x >>= _)) _ >>= _) _ _ _;refine ER (wpAny_tryCatch (wpAny_holding (ER (hc (j + 1) (argBest bt j) v x _ _ _ (hK s h' tk ks λb o h1 _ e=>kp b o h1 e) pv px ?_))));refine ER (wpAny_holding (wpAny_truthy_bool (ER (wpAny_letGo (EW ?_)))))
   by_cases hb:bt (j + 1) (argBest bt j)=true
   ·rw [hb,if_pos rfl];refine ER (wpAny_updateSeq hs' rfl (ER (wpAny_letGo ?_)));rw [nm];refine EW ⟨plainId_quiet F.plain_min_loop _,ih (j + 1) _ v (by omega) (W.frame _ _ _ st' λb hf o e=>?_) (by rw [argBest,if_pos hb];exact pv) ⟨_,Heap.get?_update_self _ hs' rfl⟩ (hK _ _ _ (hK s h' tk ks λb o h1 _ e=>kp b o h1 e) λb o _ h2 e=>?_) λy h2 t2 py k2=>hR y h2 t2 py λb o h1 h3 e=>?_⟩
    ·rw [Heap.get?_update_other _ _ (λz:S=b=>hS (z▸hf))];exact e
    ·rw [Heap.get?_update_other _ _ (Ne.symm h2)];exact e
    ·exact k2 b o h1 h3 (by rw [Heap.get?_update_other _ _ (Ne.symm h3)];exact kp b o h1 e)
   ·rw [if_neg hb];refine ER (wpAny_letGo ?_);rw [nm]
    exact (EW ⟨plainId_quiet F.plain_min_loop _,ih (j + 1) _ x (by omega) st' (by rw [argBest,if_neg hb];exact px) ⟨_,hs'⟩ (hK s h' tk ks λb o h1 _ e=>kp b o h1 e) λy h2 t2 py k2=>hR y h2 t2 py λb o h1 h3 e=>k2 b o h1 h3 (kp b o h1 e)⟩))
theorem tT (W:Walks prog w A.in1 I fp wr n P St) (hc:Am prog w A.in1 P bt K) (hS:S∉fp)
  (hK:∀(s:Shared) h' tk,K s->(∀b o,b∉wr->b≠S->s.heap.get? b=some o->h'.get? b=some o)->K { s with heap:=h',toks:=tk }) {s:Shared} (hn:0 < n) (st:St 0 s.heap) (hs:Holds S #[] s) (ks:K s)
  (hR:∀v h' tk,P (argBest bt (n - 1)) v->(∀b o,b∉wr->b≠S->s.heap.get? b=some o->h'.get? b=some o)->R (.ok (.ret v)) { s with heap:=h',toks:=tk }) :
  codeAny (model prog w) A (.builtin "min.loop" ⟨[.ref I,.none,.ref S],[]⟩) R s:=by
 have hw:S∉wr:=λh=>hS (W.sub _ h);have nm:(toString "min" ++ toString ".loop" : String) = "min.loop":=by decide
 obtain⟨c,hs⟩:=hs;refine codeAny_builtin F.entry_min_loop ?_;rw [Around.under_plainId F.plain_min_loop _];refine ER (wpAny_seqItems hs rfl (ER (wpAny_tryCatch (W.item 0 s _ _ hn st λv h' tk pv st' kp=>?_))));have hs':=kp S _ hw hs;have k2:=hK s h' tk ks λb o h1 _ e=>kp b o h1 e
 change wpAny _ _ (updateSeq S (λ_=>#[v,v]) >>= _) _ _ _;refine ER (wpAny_updateSeq hs' rfl ?_);rw [nm];refine EW ⟨plainId_quiet F.plain_min_loop _,vt (K:=K) W hc hS hK (n - 1) 0 _ v (by omega) (W.frame _ _ _ st' λb hf o e=>?_) pv ⟨_,Heap.get?_update_self _ hs' rfl⟩ (hK _ _ _ k2 λb o _ h2 e=>?_) λy h2 t2 py kq=>hR y h2 t2 py λb o h1 h3 e=>kq b o h1 h3 ?_⟩
 ·rw [Heap.get?_update_other _ _ (λz:S=b=>hS (z▸hf))];exact e
 ·rw [Heap.get?_update_other _ _ (Ne.symm h2)];exact e
 ·rw [Heap.get?_update_other _ _ (Ne.symm h3)];exact kp b o h1 e
theorem vc {E:Value->Shared->Prop} {s:Shared} {x:Value} {Q:Value->Shared->Prop}
  (h:wpAny (model prog w) A.in1 (pyIter x) (λit s₂=>∃I fp wr n P St bt K,it=.ref I/\Walks prog w A.in1 I fp wr n P St/\(St 0 s₂.heap/\(∀b∈fp,b < s₂.heap.objs.size)/\0 < n)/\Am prog w A.in1 P bt K/\K s₂ /\
   (∀(s:Shared) h' tk,K s->(∀b o,b∉wr->b≠s₂.heap.objs.size->s.heap.get? b=some o->h'.get? b=some o)->K { s with heap:=h',toks:=tk }) /\
   ∀v h' tk,P (argBest bt (n - 1)) v->(∀b o,b∉wr->s₂.heap.get? b=some o->h'.get? b=some o)->Q v { s₂ with heap:=h',toks:=tk }) E s) :
  wpAny (model prog w) A (call (.builtin "min") [x]) Q E s:=by
 have nm:(toString "min" ++ toString ".loop" : String) = "min.loop":=by decide
 refine call_function_tree F.kind_min F.plain_min F.entry_min (F.args_min1 _) ?_
 change wpAny _ _ (Builtin.Builtins.bindParams "min" _ 0 _ >>= _) _ _ _
 refine ER (wpAny_of_eq (show Builtin.Builtins.bindParams "min" ["key","default"] 0 ⟨[],[]⟩=pure [none,none] from rfl) ?_)
 refine ER (EW (ER (Fo h (λit s₂ h₂=>?_) λ_ _ e=>e)));obtain⟨I,fp,wr,n,P,St,bt,K,rfl,W,⟨st,hfp,hn⟩,hc,ks,hK,hQ⟩:=h₂;have hS:s₂.heap.objs.size∉fp:=λhm=>Nat.lt_irrefl _ (hfp _ hm);refine ER (wpAny_newObj_type ?_);rw [nm];refine EW ⟨plainId_quiet F.plain_min_loop _,tT (K:=K) W hc hS hK hn (W.frame _ _ _ st λb _ o e=>EZ _ e) ⟨_,Fh _ rfl⟩ (hK s₂ _ _ ks λb o _ _ e=>EZ _ e) λv h' tk pv kq=>hQ v h' tk pv λb o h1 e=>?_⟩
 exact kq b o h1 (Fp (E7 e)) (EZ _ e)
end
end PySem
namespace L2.L3
open PySem PySem.Spec PyProof.Rows
def pY:Nat->D->Prop
 | 0,d=>∃n:Int,d=.int n
 | k + 1,d=>∃ds,d=.tup ds/\∀e∈ds,pY k e
def kB (f:D->D->Bool):List D->List D->Bool
 | [],[]=>false
 | [],_ :: _=>true
 | _ :: _,[]=>false
 | x :: xs,y :: ys=>if aQ x y then kB f xs ys else f x y
def lS:Nat->D->D->Bool
 | 0,.int a,.int b=>decide (a < b)
 | k + 1,.tup xs,.tup ys=>kB (lS k) xs ys
 | _,_,_=>false
def oi (k:Nat) (d:D) (ds:List D):D:=ds.foldl (λb x=>if lS k x b then x else b) d
def rV (k:Nat) (ds:List D) (Q:D->Prop):Prop:=match ds with
 | [.lst (d :: xs)]=>k < 8/\(∀x∈d :: xs,pY k x)/\Q (oi k d xs)
 | _=>False
theorem gS:∀(k:Nat) (d:D),pY k d->dep d<=k
 | 0,d,h=>by obtain⟨n,rfl⟩:=h;simp [dep]
 | k + 1,d,h=>by
  obtain⟨ds,rfl,h⟩:=h;simp only [dep]
  suffices ∀ds:List D,(∀e∈ds,pY k e)->bJ ds<=k by have:=this ds h;omega
  intro ds
  induction ds with
  | nil=>intro _;simp [bJ]
  | cons a t ih =>
   intro h;have h1:=gS k a (h a (Fc ..));have h2:=ih λe he=>h e (E4 _ he);simp only [bJ];omega
theorem u3 (f:D->D->Bool) (fe:Nat->Bool):∀(xs ys:List D),(∀j (h1:j < xs.length) (h2:j < ys.length),fe j=f xs[j] ys[j])->∀(e:Nat->Bool),(∀j (h1:j < xs.length) (h2:j < ys.length),e j=aQ xs[j] ys[j]) ->
  SeqAt.lU e fe (decide (xs.length < ys.length)) (List.range (min xs.length ys.length))=kB f xs ys:=by
 suffices ∀(xs ys:List D) (o:Nat) (z:Bool) (e fe:Nat->Bool),(∀j (h1:j < xs.length) (h2:j < ys.length),fe (o + j)=f xs[j] ys[j])->(∀j (h1:j < xs.length) (h2:j < ys.length),e (o + j)=aQ xs[j] ys[j])->z=decide (xs.length < ys.length) ->
   SeqAt.lU e fe z (List.range' o (min xs.length ys.length))=kB f xs ys by
  intro xs ys h e he;have:=this xs ys 0 _ e fe (λj h1 h2=>by rw [Nat.zero_add];exact h j h1 h2) (λj h1 h2=>by rw [Nat.zero_add];exact he j h1 h2) rfl
  rwa [<- List.range_eq_range'] at this
 intro xs
 induction xs with
 | nil=>intro ys o z e fe h1 h2 h3;cases ys <;> simp [SeqAt.lU,kB,h3]
 | cons x xs ih =>
  intro ys o z e fe h1 h2 h3
  cases ys with
  | nil=>simp [SeqAt.lU,kB,h3]
  | cons y ys =>
   have e1:min (x :: xs).length (y :: ys).length=min xs.length ys.length + 1:=by simp [Nat.succ_min_succ]
   rw [e1,List.range'_succ,SeqAt.lU,kB];have a1:=h1 0 (by simp) (by simp);have a2:=h2 0 (by simp) (by simp);simp only [Nat.add_zero,List.getElem_cons_zero] at a1 a2;rw [a2,a1]
   by_cases hq:aQ x y=true
   ·rw [if_pos hq,if_pos hq];exact ih ys (o + 1) z e fe (λj g1 g2=>by have:=h1 (j + 1) (by simpa using g1) (by simpa using g2);simpa [Nat.add_comm,Nat.add_left_comm,Nat.add_assoc] using this) (λj g1 g2=>by have:=h2 (j + 1) (by simpa using g1) (by simpa using g2);simpa [Nat.add_comm,Nat.add_left_comm,Nat.add_assoc] using this) (by rw [h3];simp)
   ·rw [if_neg hq,if_neg hq]
section
variable {X:Cx} {pins:List (Addr×Obj)} {σ:List (Option V)} {H F:Hp} {s:Shared}
theorem ui (I:Inv X pins σ H s) (fh:ao F H):∀(k:Nat) (d d':D) (A:Around) (x y:V) (u v:Value),A.units + k + 1 < cLine->k < 900->pY k d->pY k d'->Den X.K F d x->Den X.K F d' y->RelV x u->RelV y v->SeqAt.pH A s u v (lS k d d')
 | 0,d,d',A,x,y,u,v,hu,hk,h1,h2,e1,e2,r1,r2=>by
  obtain⟨n,rfl⟩:=h1;obtain⟨m,rfl⟩:=h2;simp only [Den] at e1 e2;subst e1;subst e2;obtain⟨t,rfl⟩:=r1;obtain⟨t',rfl⟩:=r2
  exact SeqAt.pH.ints n m t t'
 | k + 1,d,d',A,x,y,u,v,hu,hk,h1,h2,e1,e2,r1,r2=>by
  obtain⟨ds,rfl,o1⟩:=h1;obtain⟨es,rfl,o2⟩:=h2;simp only [Den] at e1 e2;obtain⟨a1,vs1,rfl,q1,g1⟩:=e1;cases r1;obtain⟨a2,vs2,rfl,q2,g2⟩:=e2;cases r2;obtain⟨its1,rv1,ht1,hz1⟩:=I.tuple (ao.bS fh q1);obtain⟨its2,rv2,ht2,hz2⟩:=I.tuple (ao.bS fh q2);have l1:its1.length=ds.length:=by rw [g1.length,rv1.length]
  have l2:its2.length=es.length:=by rw [g2.length,rv2.length]
  have at_:∀(j:Nat) (h1:j < its1.length) (h2:j < its2.length),∃(p1:j < ds.length) (p2:j < es.length) (x y:V),Den X.K F ds[j] x/\Den X.K F es[j] y/\RelV x its1[j]/\RelV y its2[j]:=λj h1 h2=>by
   have j1:j < ds.length:=by omega
   have j2:j < es.length:=by omega
   obtain⟨x,hx,dx⟩:=g1.get (ET j1);obtain⟨y,hy,dy⟩:=g2.get (ET j2);obtain⟨u,hu,ru⟩:=rv1.get hx;obtain⟨v,hv,rv⟩:=rv2.get hy;rw [ET h1] at hu;rw [ET h2] at hv;cases hu;cases hv;exact⟨j1,j2,x,y,dx,dy,ru,rv⟩
  have key:=SeqAt.pH.i4 (A:=A) (e:=λj=>aQ (ds.getD j .non) (es.getD j .non)) (f:=λj=>lS k (ds.getD j .non) (es.getD j .non)) ht1 ht2 (by omega) (λj h1 h2=>by
   obtain⟨p1,p2,x,y,dx,dy,ru,rv⟩:=at_ j (by simpa using h1) (by simpa using h2);have b1:=o1 _ (FZ p1);have b2:=o2 _ (FZ p2);have c1:=gS k _ b1;have c2:=gS k _ b2;have z1:ds.getD j .non=ds[j]:=by simp [Fn,ET p1]
   have z2:es.getD j .non=es[j]:=by simp [Fn,ET p2]
   have w1:=jw I fh ds[j] es[j] A.in1 x y _ _ (by rw [units_in1];omega) (by omega) (by omega) dx dy ru rv;have w2:=ui I fh k ds[j] es[j] A.in1 x y _ _ (by rw [units_in1];omega) (by omega) b1 b2 dx dy ru rv;simp only [z1,z2]
   exact⟨by simpa using w1,λ_=>by simpa using w2⟩)
  rw [Fd,Fd,l1,l2,u3 (lS k) _ ds es (λj h1 h2=>by simp [Fn,ET h1,ET h2]) _ (λj h1 h2=>by simp [Fn,ET h1,ET h2])] at key;exact key
theorem wk (k:Nat):∀(d:D) (xs:List D) (n:Nat),n < (d :: xs).length->(d :: xs)[argBest (λi j=>lS k ((d :: xs).getD i .non) ((d :: xs).getD j .non)) n]?=some (oi k d (xs.take n)):=by
 intro d xs n
 induction n with
 | zero=>intro _;simp [argBest,oi]
 | succ n ih =>
  intro h;have ih':=ih (by omega);have hn:n < xs.length:=by simpa using h
  have e1:xs.take (n + 1)=xs.take n ++ [xs[n]]:=by rw [Gd,ET hn];rfl
  rw [e1,oi,List.foldl_append];simp only [argBest,List.foldl_cons,List.foldl_nil];have e2:(d :: xs).getD (n + 1) .non=xs[n]:=by simp [Fn,ET hn]
  have e3:(d :: xs).getD (argBest (λi j=>lS k ((d :: xs).getD i .non) ((d :: xs).getD j .non)) n) .non=oi k d (xs.take n):=by rw [Fn,ih'];rfl
  by_cases hq:lS k ((d :: xs).getD (n + 1) .non) ((d :: xs).getD (argBest (λi j=>lS k ((d :: xs).getD i .non) ((d :: xs).getD j .non)) n) .non)=true
  ·rw [if_pos hq];rw [e2,e3] at hq;have hq':lS k xs[n] (List.foldl (λb x=>if lS k x b=true then x else b) d (List.take n xs))=true:=hq;rw [if_pos hq'];simp [ET hn]
  ·rw [if_neg hq];rw [e2,e3] at hq;have hq':¬ lS k xs[n] (List.foldl (λb x=>if lS k x b=true then x else b) d (List.take n xs))=true:=hq;rw [if_neg hq'];exact ih'
def zi (X:Cx) (k:Nat) (xs:List V) (H:Hp) (Q:VK):Prop:=∃(p:Addr) (vs:List V) (F:Hp) (d:D) (ds:List D),xs=[.ref p]/\fL X.K H p vs/\ao F H/\aq X.K F (d :: ds) vs/\k < 8/\(∀x∈d :: ds,pY k x)/\∀v,Den X.K F (oi k d ds) v->Q v H
theorem vg (k:Nat) (hc:X.calm=true) (hu:X.A.units + 9 < cLine):dr X (.builtin "min") (zi X k):=by
 intro pins s σ H xs us Q I r h;obtain⟨p,vs,F,d,ds,rfl,hq,fh,dn,hk,ho,q⟩:=h;obtain⟨u,rfl,rx⟩:=vals1 r;cases rx;obtain⟨its,r',pl,hz⟩:=I.list hq;have hl:=pl.isList;have ll:its.length=(d :: ds).length:=by rw [dn.length,r'.length]
 have hlt:p < s.heap.objs.size:=by obtain⟨_,e,_⟩:=hl;exact E7 e
 have psz:(s.heap.push { cls:=.type "list_iterator",data:=.fields #[.ref p,.int 0 0] }).objs.size=s.heap.objs.size + 1:=by simp [Heap.push]
 have at_:∀(i:Nat) (v:Value),its.toArray[i]?=some v->∃(x:V) (e:D),(d :: ds)[i]?=some e/\Den X.K F e x/\RelV x v:=λi v hP=>by
  obtain⟨y,h1,h2⟩:=gW r' (by simpa using hP:its[i]?=some v);obtain⟨e,he,hd⟩:=dn.Ak h1;exact⟨y,e,he,hd,h2⟩
 refine vc (wpAny_pyIter_list hl ?_);have kk:∀(s':Shared),(∃h' tk,s'={ s with heap:=h',toks:=tk }/\∀b o,s.heap.get? b=some o->h'.get? b=some o)->Inv X pins σ H s':=λs' ⟨h',tk,e,k⟩=>e▸I.kept k
 refine⟨s.heap.objs.size,[s.heap.objs.size,p],[s.heap.objs.size],its.toArray.size,_,_,λi j=>lS k ((d :: ds).getD i .non) ((d :: ds).getD j .non),λs'=>∃h' tk,s'={ s with heap:=h',toks:=tk }/\∀b o,s.heap.get? b=some o->h'.get? b=some o,rfl,Walks.list (A:=X.A.in1) (I.ok.hd hc) _ p (Fp hlt) its.toArray,
  ⟨⟨⟨_,Fh _ rfl,rfl,rfl⟩,hl.push _⟩,λb hb=>?_,by rw [Fd,ll];simp⟩,?_,⟨_,_,rfl,λb o e=>EZ _ e⟩,?_,?_⟩
 ·show b < (s.heap.push _).objs.size
  rw [psz];simp only [Fe,FH,or_false] at hb;rcases hb with rfl|rfl
  ·exact Nat.lt_succ_self _
  ·exact Nat.lt_succ_of_lt hlt
 ·intro i j x y s' Q' E' ks hx hy hQ;obtain⟨x',e1,g1,d1,r1⟩:=at_ i x hx;obtain⟨y',e2,g2,d2,r2⟩:=at_ j y hy;have z1:(d :: ds).getD i .non=e1:=by rw [Fn,g1];rfl
  have z2:(d :: ds).getD j .non=e2:=by rw [Fn,g2];rfl
  simp only [z1,z2] at hQ;exact ui (kk s' ks) fh k e1 e2 X.A.in1 x' y' x y (by rw [units_in1];omega) (by omega) (ho _ (E6 g1)) (ho _ (E6 g2)) d1 d2 r1 r2 _ _ _ _ hQ
 ·rintro s' h' tk ⟨h1,t1,rfl,k1⟩ kp;exact⟨h',tk,rfl,λb o e=>kp b o (λhm=>by rw [Fi.mp hm] at e;exact Nat.lt_irrefl _ (E7 e)) (λhm=>by have:=E7 e;rw [hm] at this;change (s.heap.push _).objs.size < _ at this;rw [psz] at this;omega) (k1 b o e)⟩
 ·intro v h' tk hv hk';rw [Fd,ll] at hv;obtain⟨x,e,g,dx,rx⟩:=at_ _ _ hv;rw [wk k d ds _ (by simp)] at g;have ht:ds.take ((d :: ds).length - 1)=ds:=by simp
  rw [ht] at g;cases g;exact⟨x,H,I.kept (t':=tk) (nH hk'),rx,q x dx⟩
theorem yS {k:Nat}:Call3 X (zi X k) (rV k):=by
 intro B σ F H env Q ds vs Z rp h hz hf;unfold rV at hf
 split at hf
 ·next d xs =>
  obtain⟨hk,ho,q⟩:=hf;simp only [aq] at h;obtain⟨v,r,rfl,hv,rfl⟩:=h;simp only [Den] at hv;obtain⟨p,ys,rfl,q',r⟩:=hv;exact⟨p,ys,F,d,xs,rfl,rp.fh.seq q',rp.fh,r,hk,ho,λv hv=>hz _ _ F _ rp (ao.refl _) hv q⟩
 ·exact hf.elim
variable {e:Expr} {ts:dS} {p pos:Pos}
theorem wa (k:Nat) (hu:X.A.units + 64 < cLine) (hm:X.mg "min" = none) (ha:QA X [e] ts) (hg:Gl X "min":=by rfl) (hc:X.calm=true:=by rfl) (he:starEach [e] X.env=(false,eval e X.env) :: starEach [] X.env:=by exact aV rfl):QE X (.Call (.Name "min" p) [e] [] pos) (az (rV k) ts) :=
 fX (vg k hc (by omega)) yS hg hm oK ha (he:=he)
end
open PySem PySem.Spec PyProof.Rows PySem.W
def Bu (name q:Str) (params:Arguments) (body:List Stmt) (scope:Scope) (bb:List (Str×Addr)) (G:Hp) (a:Addr):Prop:=∃c' pm dc ctv,G a=some (.frz (fnMade name q params body scope bb dc pm c' ctv) (.cdr c' q))
def Ad (name q:Str) (params:Arguments) (body:List Stmt) (scope:Scope) (bb:List (Str×Addr)) (caps:List D) (ws:List V):Frag->Hp->Addr->Prop:=λK G a=>Bu name q params body scope bb G a/\aq K G caps ws
section
variable {P:Program} {w:World} {K:Frag} {mg:Str->Option Value} {base:Heap} {name qual:Str} {params:Arguments} {scope:Scope} {bb:List (Str×Addr)} {ps cn:List Str} {ws:List V} {caps:List D} {k:Nat}
theorem xn {ret:Expr} {rpos:Pos} {t:TD} (S:C6 scope ps cn) (CL:DV base bb cn ws) (hfr:∀x c,bb.lookup x=some c->x∈cn)
  (hb:∀dc pm c' ctv (us:List Value),us.length=ps.length->bindArgs (fnX name qual params [.Return (some ret) rpos] scope bb .none .none dc pm none (.ref c') ctv) ⟨us,[]⟩=pure (ps.zip us))
  (hbody:∀(f c':Addr) (A:Around) (outer:List Env) (s:Shared) (H:Hp),cp k (A.deeper (envX qual scope s.heap.objs.size f (.ref c') bb))->QE (CN P w K mg base (ps ++ cn) qual scope f c' bb A outer s H) ret t) :
  jh P w K mg base (k + 1) (Ad name qual params [.Return (some ret) rpos] scope bb caps ws) λds Q=>ds.length=ps.length/\t (aA (ps ++ cn) (ds ++ caps)) Q:=by
 refine⟨λH h a hP hok=>?_,λF a A outer s H us vs ds Pd Q E hP hr e0 fh hd r hf kk=>?_⟩
 ·obtain⟨⟨c',pm,dc,ctv,e1⟩,_⟩:=hP;obtain⟨e,_⟩:=hok a _ e1;exact⟨_,_,_,_,e⟩
 ·obtain⟨⟨c',pm,dc,ctv,e1⟩,hcap⟩:=hP F (ao.refl _);obtain⟨ho,_,oc,vs',tt,e2,hd',hv'⟩:=e0.hok a _ (fh _ _ e1);obtain⟨hoc,_⟩:=e0.hok c' _ e2;have hq:jB oc qual:=⟨vs',tt,hd',hv'⟩;obtain⟨hl,hf⟩:=hf;have lu:us.length=ps.length:=by rw [<- r.length,<- hd.length];exact hl
  refine codeAny_call_function hr.depth ho rfl S.co S.gen rfl (hq.rec hoc) ?_;rw [hb dc pm c' ctv us lu];have lim:s.heap.NoLimit:=e0.mod.nolimit.keeps λb o e=>(e0.bs b o e).1;refine EW (wpAny_newFunctionEnv S.cell (λy hy=>S.par _ (List.of_mem_zip hy).1) (λh1 hns hsb=>?_) S.kind);have hk1:∀b o,s.heap.get? b=some o->h1.get? b=some o:=λb o e=>hsb.extBut b o (Fp (E7 e)) (EZ _ e);refine⟨lim.keeps hk1,codeAny_func ?_⟩
  have I:=sN (qual:=qual) (f:=a) (c':=c') (tk:=s.toks + (ps.zip us).length) S CL hfr hr.hd e0 (by rw [<- hd.length];exact hl) r hns hk1;have hw:=hbody a c' A outer s H (hr.deeper _);have core:=(ar (aU (pos:=rpos) hw)).run _ _ F H _ { nx:=λ_=>False,rt:=Pd,bk:=λ_=>False,ct:=λ_=>False } (eS (N:=ps ++ cn) fh (hd.append hcap)) hf [] _ I;refine Fo core (λfl s' hs=>?_) λe s' z=>False.elim z
  cases fl with
  | ret u =>
   obtain⟨v,σ',H',J,rv,F',d,rp,dd,q⟩:=hs
   exact⟨v,H',J.os,J.bare,J.base,J.hok,rv,kk d v F' H' rp.f0 rp.h0 rp.fh (λp h1 h2=>rp.nf p ⟨h1,h2⟩) dd q⟩
  | next=>obtain⟨_,_,_,_,_,_,q⟩:=hs;exact q.elim
  | brk=>obtain⟨_,_,_,_,_,_,q⟩:=hs;exact q.elim
  | cont=>obtain⟨_,_,_,_,_,_,q⟩:=hs;exact q.elim
end
def CS (i:Nat) (name q:Str) (params:Arguments) (body:List Stmt) (scope:Scope) (bb:List (Str×Addr)):TS:=λD σ H=>∀f c' pm dc ctv oc H',Made H q f c' oc (fnMade name q params body scope bb dc pm c' ctv) H'->D.nx (σ.set i (some (.ref f))) H'
section
variable {X:Cx} {e ret:Expr} {params:Arguments} {body:List Stmt} {scope:Scope} {dpos rpos p p2 pos pos2:Pos} {bb:List (Str×Addr)} {q x g:Str} {te t:TD} {ps:List Str}
theorem Ar (i:Nat) (hN:X.N.Nodup) (hi:X.N[i]?=some g) (hx:Loc X.env.scope g) (hck:lg X.K X.env.code q) (hq:qualnameIn X.env g g=q) (hcl:closureFor scope X.env=pure bb) (hd0:params.defaults=[]) (hk0:params.kw_defaults=[]) (ha:annTrees params none X.env=[])
  (hf:X.fn g=true\/X.env.scope.names.lookup g=some .local):PS X (.FunctionDef g params body [] none [] scope none g dpos) (CS i g q params body scope bb):=by
 intro pins s σ H D I h;obtain⟨c,P,e,C,hP⟩:=hck.hd I.ok.mod.kin;refine nestDef_K hd0 hk0 ha ?_;rw [hq];exact xY I e C hP hcl λf c' pm dc ctv oc H' s' m I'=>fD I' hN hi hx (show RelV (.ref f) (.ref f) from rfl) (λs2 I2=>⟨_,H',I2,h f c' pm dc ctv oc H' m⟩) hf
def ym (i:Nat) (P0:Frag->Hp->Addr->Prop) (fx:Fw->(Frag->Hp->Addr->Prop)->ug) (te:TD) (ix:List Nat) (n:Nat) (N:List Str) (t:TD):TX:=λenv Q R=>env[i]?=some (some (.d (.obj P0)))/\te env λd=>∃caps,q0 env ix=some caps/\∀Pf,fx (λds Q=>ds.length=n/\t (aA N (ds ++ caps)) Q) Pf [d,.obj Pf] Q R
theorem w4 {fx:Fw->(Frag->Hp->Addr->Prop)->ug} {kf k:Nat} (i:Nat) (ix:List Nat) (cn:List Str)
  (h:∀base Pf φ,jh X.prog X.w X.K X.mg base (kf + 1) Pf φ->ft X.prog X.w X.K X.mg base k x (fx φ Pf)) (hfa:∃fa,X.mg x=some (.ref fa)/\keepIn X.K (.ref fa)=true) (hr:cp k X.A) (he:QE X.nK e te) (S:C6 scope ps cn)
  (hb:∀bb dc pm c' ctv (us:List Value),us.length=ps.length->bindArgs (fnX g q params [.Return (some ret) rpos] scope bb .none .none dc pm none (.ref c') ctv) ⟨us,[]⟩=pure (ps.zip us))
  (hbody:∀(base:Heap) (bb:List (Str×Addr)) (f c':Addr) (A:Around) (outer:List Env) (s:Shared) (H:Hp),cp kf (A.deeper (envX q scope s.heap.objs.size f (.ref c') bb))->QE (CN X.prog X.w X.K X.mg base (ps ++ cn) q scope f c' bb A outer s H) ret t)
  (hi:X.N[i]?=some g) (hv:u9 X.env.scope g) (hdg:(g == ("__debug__" : Str))=false) (hcg:(g == ("__classdict__" : Str))=false) (hcell:∀x∈cn,X.env.kindOf x=some .cell) (hfn:∀x∈cn,X.fn x=true) (hix:ix.map (X.N[·]?)=cn.map some)
  (hg:Gl X x) (hdb:(x == ("__debug__" : Str))=false) (hst:starEach [e,.Name g p2] X.env=(false,eval e X.env) :: starEach [.Name g p2] X.env) (hpl:(backTo pos (starEach [.Name g p2] X.env)).any (·.1)=false) :
  QX X (.Call (.Name x p) [e,.Name g p2] [] pos) (ym i (λ_ G a=>Bu g q params [.Return (some ret) rpos] scope (bR X.env cn) G a) fx te ix ps.length (ps ++ cn) t):=by
 refine⟨λB σ F H env Q R rp hq0 pins s I=>?_⟩;obtain⟨fa,hm,hk⟩:=hfa;obtain⟨hi0,hq0⟩:=hq0;obtain⟨w0,hw0,hdn⟩:=rp.dv i _ hi0;simp only [Den] at hdn;obtain⟨f,rfl,hP⟩:=hdn;refine wpAny_Call_Name_kw (fm I hg hm ?_ hdb)
 have hw:=(ir (X:=X.bG (XX X pins σ B env R)) bz (ir (fu (pos:=p2) hi hv hdg hcg) m6 (aV rfl)) hst) pos pins s σ H (λvs H2=>∃v d F2 caps,vs=[v,.ref f]/\Rep X.K B F2 H2 σ env/\ao F F2/\Den X.K F2 d v/\q0 env ix=some caps/\∀Pf,fx (λds Q=>ds.length=ps.length/\t (aA (ps ++ cn) (ds ++ caps)) Q) Pf [d,.obj Pf] Q R) (I.bG _)
  (xH (aE (he B σ F H env _ rp hq0) λv H1 hq1=>by
   obtain⟨F1,d,r1,s1,dd,caps,hc,hf⟩:=hq1
   exact⟨.ref f,hw0,v,d,F1,caps,rfl,r1,s1,dd,hc,hf⟩))
 refine callWith_K (h₀:=X.base) I.ok.mod.kin hk (bu hw λus s1 hq1=>?_) hst hpl;obtain⟨vs,H2,I2w,rv,v,d,F2,caps,rfl,r2,sF,dd,hc,hf⟩:=hq1;have I2:Inv X pins σ H2 s1:=I2w.aW;refine⟨I2.nI,?_⟩;obtain⟨ws,lw,dw,hσ⟩:=ro r2 hc;have CL:=I2.Eb hcell hix lw hσ;have runs:=xn (P:=X.prog) (w:=X.w) (K:=X.K) (mg:=X.mg) (name:=g) (params:=params) (ret:=ret) (rpos:=rpos) (caps:=caps) (k:=kf) S CL (λx c z=>(dP z).1) (hb _) (hbody _ _)
 have KX:=h _ _ _ runs;obtain⟨fa',fd,psx,G,hm',hk',hbd⟩:=KX.ex;obtain rfl:fa'=fa:=by rw [hm] at hm';cases hm';rfl
 have hd2:aq X.K F2 [d,.obj (Ad g q params [.Return (some ret) rpos] scope (bR X.env cn) caps ws)] [v,.ref f]:=aM dd (aM (by
  simp only [Den]
  exact⟨f,rfl,λG sG=>⟨hP G (sF.trans sG),aq.mono sG _ _ dw⟩⟩) aT)
 have hsp:Dl X.K X.mg (fx (λds Q=>ds.length=ps.length/\t (aA (ps ++ cn) (ds ++ caps)) Q) (Ad g q params [.Return (some ret) rpos] scope (bR X.env cn) caps ws)) ([v,.ref f] ++ []) H2 (RV X B σ env F Q) (λC dd H'=>dd=none/\∃(c:Str) (F':Hp),Rep X.K B F' H' σ env/\X.mg c=some C/\R c):=by
  rw [Fz];exact⟨F2,_,Q,R,r2.fh,hd2,hf _,λd v F' H' a b c n hd q=>⟨F',d,r2.ext a c b n,sF.trans a,hd,q⟩,λc C F' H' a b c' n hm hx=>⟨rfl,c,F',r2.ext a c' b n,hm,hx⟩⟩
 have hl:(us ++ []).length=psx.length:=by
  have:=G.len _ _ _ _ hsp;rw [Fz] at this ⊢;rw [<- rv.length];exact this
 refine wpAny_call (codeAny_mono (G.run X.A X.stack s1 H2 ⟨us,[]⟩ (us ++ []) ([v,.ref f] ++ []) _ _ hr (I2.Dv hcell hfn) (hbd s1 us I2.nI hl) (by simpa using rv) hsp) λrs s' hq'=>?_)
 cases rs with
 | error ex =>
  obtain⟨a,C,dd,H',rfl,os,bare,un,hok,fl,rfl,c,F',r',hm',hx⟩:=hq'
  exact⟨a,c,C,H',F',rfl,⟨H2,s1,I2,os,bare,un,hok,fl⟩,r',hm',hx⟩
 | ok fl =>
  cases fl with
  | ret u=>exact I2.after hq'
  | next=>exact False.elim hq'
  | brk=>exact False.elim hq'
  | cont=>exact False.elim hq'
def pC (i:Nat) (fx:Fw->(Frag->Hp->Addr->Prop)->ug) (te:TD) (ix:List Nat) (n:Nat) (N:List Str) (t:TD):pS:=λD env=>i < env.length/\∀Pf0,te (env.set i (some (.d (.obj Pf0)))) λd=>∃caps,q0 (env.set i (some (.d (.obj Pf0)))) ix=some caps/\∀Pf,fx (λds Q=>ds.length=n/\t (aA N (ds ++ caps)) Q) Pf [d,.obj Pf] D.rt D.xc
theorem sL {fx:Fw->(Frag->Hp->Addr->Prop)->ug} {kf k:Nat} (i:Nat) (hN:X.N.Nodup) (ix:List Nat) (cn:List Str)
  (h:∀base Pf φ,jh X.prog X.w X.K X.mg base (kf + 1) Pf φ->ft X.prog X.w X.K X.mg base k x (fx φ Pf)) (hfa:∃fa,X.mg x=some (.ref fa)/\keepIn X.K (.ref fa)=true) (hr:cp k X.A) (he:QE X.nK e te) (hck:lg X.K X.env.code q) (S:C6 scope ps cn)
  (hb:∀bb dc pm c' ctv (us:List Value),us.length=ps.length->bindArgs (fnX g q params [.Return (some ret) rpos] scope bb .none .none dc pm none (.ref c') ctv) ⟨us,[]⟩=pure (ps.zip us))
  (hbody:∀(base:Heap) (bb:List (Str×Addr)) (f c':Addr) (A:Around) (outer:List Env) (s:Shared) (H:Hp),cp kf (A.deeper (envX q scope s.heap.objs.size f (.ref c') bb))->QE (CN X.prog X.w X.K X.mg base (ps ++ cn) q scope f c' bb A outer s H) ret t)
  (hi:X.N[i]?=some g:=by rfl) (hxl:Loc X.env.scope g:=by first|exact Or.inl rfl|exact Or.inr rfl) (hff:X.fn g=true\/X.env.scope.names.lookup g=some .local:=by first|exact .inl rfl|exact .inr rfl)
  (hv:u9 X.env.scope g:=by first | exact Or.inl rfl | exact Or.inr (Or.inl rfl) | exact Or.inr (Or.inr rfl)) (hdg:(g == ("__debug__" : Str))=false:=by decide) (hcg:(g == ("__classdict__" : Str))=false:=by decide)
  (hq:qualnameIn X.env g g=q:=by rfl) (hcell:∀x∈cn,X.env.kindOf x=some .cell:=by decide +kernel) (hfn:∀x∈cn,X.fn x=true:=by exact λ_ _=>rfl) (hix:ix.map (X.N[·]?)=cn.map some:=by rfl) (hcl:closureFor scope X.env=pure (bR X.env cn):=by rfl)
  (hd0:params.defaults=[]:=by rfl) (hk0:params.kw_defaults=[]:=by rfl) (ha:annTrees params none X.env=[]:=by rfl)
  (hg:Gl X x:=by rfl) (hdb:(x == ("__debug__" : Str))=false:=by decide)
  (hst:starEach [e,.Name g p2] X.env=(false,eval e X.env) :: starEach [.Name g p2] X.env:=by exact aV rfl) (hpl:(backTo pos (starEach [.Name g p2] X.env)).any (·.1)=false:=by rfl) :
  zp X [.FunctionDef g params [.Return (some ret) rpos] [] none [] scope none g dpos,.Return (some (.Call (.Name x p) [e,.Name g p2] [] pos)) pos2] (pC i fx te ix ps.length (ps ++ cn) t):=by
 refine⟨λB σ F H env D rp hq0 pins s I=>?_⟩;have li:i < σ.length:=by rw [I.len];exact (EO.mp hi).1
 obtain⟨le,hq0⟩:=hq0;refine (jO (Ar (X:=X.bG (XZ X B D.xc)) i hN hi hxl hck hq hcl hd0 hk0 ha hff) d9) pins s σ H _ I ?_;intro f c' pm dc ctv oc H1 m;obtain⟨r1,sF0⟩:=m.rep rp
 have d0:Den X.K (upd F f (.frz (fnMade g q params [.Return (some ret) rpos] scope (bR X.env cn) dc pm c' ctv) (.cdr c' q))) (.obj λ_ G a=>Bu g q params [.Return (some ret) rpos] scope (bR X.env cn) G a) (.ref f):=by
  simp only [Den];exact⟨f,rfl,λG sG=>⟨c',pm,dc,ctv,sG _ _ av⟩⟩
 refine (uI (Bt (pos:=pos2) (w4 (p:=p) (pos:=pos) (p2:=p2) i ix cn h hfa hr he S hb hbody hi hv hdg hcg hcell hfn hix hg hdb hst hpl))).run B _ _ H1 _ D (r1.set d0 li) ⟨?_,hq0 _⟩;rw [E1 le]
end
def zT (scope sc:Scope):Scope:={ scope with names:=scope.names.map λ(n,k)=>if (k == .free && sc.kind == .function && sc.names.lookup n == some .cell) then (n,.cell) else (n,k) }
theorem aS.Er {X:Cx} {N0 N':List Str} {scope0 scope:Scope} {nt:Nat} {ix:List Nat} {C:Addr} {s:Shared} {H:Hp} {fp:List Addr} {pins:List (Addr×Obj)} (sc:Scope) (hsc:X.env.scope=sc) (kind:scope.kind=.function) (nocell:∀x∈scope.names,x.2≠.cell) (names:∀x∈scope.names,x.2=.local->scope.names.lookup x.1=some .local)
  (free:∀x∈scope.names,x.2=.free->(zT scope0 sc).names.lookup x.1=some .cell)
  (caps:∀(j:Nat) (i:Nat),ix[j]?=some i->∃x,N'[nt + j]?=some x/\N0[i]?=some x/\(x,NameKind.free)∈scope.names/\(zT scope (zT scope0 sc)).names.lookup x=some .cell) (len:N'.length=nt + ix.length):aS (aH X N0 scope0 C s H fp pins) N' nt ix scope:=by
 subst hsc;exact⟨kind,λx _ z=>nocell _ z rfl,names,λx h1 h2=>.inl (free x h1 h2),λj i h=>let ⟨x,a,b,c,d⟩:=caps j i h;⟨x,a,b,c,.inl d⟩,len⟩
section
variable {X:Cx} {N':List Str} {ix:List Nat} {scope:Scope} {elt a b:Expr} {ifs:List Expr} {x:Str} {px py pos spos p pos2:Pos} {tt:TB} {te ta:TD} {ts:dS}
theorem pF {y:Str} (i:Nat) (hNd:X.N.Nodup) (hc:X.calm=true) (O:aS X N' 1 ix scope) (hN:N'.Nodup) (h0:N'[0]?=some x) (hx:(relabel scope X.env).names.lookup x=some .local) (hgl:Gl X "range") (hm:X.mg "range" = none) (ha:QA X [a,b] ts)
  (ht:∀C s H fp pins,jV (aH X N' scope C s H fp pins) ifs tt) (he:∀C s H fp pins,QE (aH X N' scope C s H fp pins) elt te) (hy:X.N[i]?=some y:=by rfl) (hl:Loc X.env.scope y:=by first|exact Or.inl rfl|exact Or.inr rfl)
  (hsw:swapsWith (.ListComp elt [⟨.Name x px,.Call (.Name "range" p) [a,b] [] pos2,ifs,0⟩] scope pos) (some (.Name y py)) spos.line X.env=pure true:=by rfl) (hf:X.fn y=true\/X.env.scope.names.lookup y=some .local:=by first | exact .inl rfl | exact .inr rfl)
  (hst:starEach [a,b] X.env=[(false,eval a X.env),(false,eval b X.env)]:=by rfl) (hst2:starEach [b] X.env=[(false,eval b X.env)]:=by rfl) (hs:∀x,FD (.Call (.Name "range" p) [a,b] [] pos2) X.env x=pure x:=by intro _;rfl) :
  QS X (.Assign [.Name y py] (.ListComp elt [⟨.Name x px,.Call (.Name "range" p) [a,b] [] pos2,ifs,0⟩] scope pos) spos) (bg i (a8 (dk tY ix ts tt te))):=by
 refine⟨λB σ F H env D rp h pins s I=>?_⟩;refine nz hc (oo hgl hm iV hst hst2) O hNd hy hl hsw hf hs pins s σ H _ I ?_;refine cu (ha B σ F H env _ rp h) λvs H1 hq0=>?_;obtain⟨F1,ds,r1,s1,d1,q1⟩:=hq0
 (try dsimp only at q1);unfold tY at q1
 split at q1
 ·simp only [aq,Den] at d1;obtain⟨v,r,rfl,rfl,v',r',rfl,rfl,rfl⟩:=d1;refine⟨_,_,rfl,q1.1,?_⟩;intro a' C s fp pins ha';obtain⟨W,w0,step⟩:=fK (X:=X) (px:=px) hN h0 hx ht he s1 r1 eV q1.2 a' C s fp pins ha';refine⟨W,w0,λi' m σ' H' w=>?_⟩;rcases step i' m σ' H' w with ⟨st,z⟩|z
  ·refine .inl ⟨st,?_⟩;obtain⟨F',d,r',s',hd,q'⟩:=RF.rv (Q:=λx=>D.nx (env.set i (some (.d x)))) z;refine⟨F',_,r'.set hd ?_,q'⟩;rw [I.len];exact (EO.mp hy).1
  ·exact .inr z
 ·exact q1.elim
end
open PySem
structure M4 where
 a:Int
 b:Int
 c:Int
 d:Int
 deriving DecidableEq
namespace M4
def EA (m:M4):Prop:=m.c < 0\/(m.c=0/\m.d < 0)
instance (m:M4):Decidable m.EA:=inferInstanceAs (Decidable (_\/_))
end M4
def isLet (c:Nat):Prop:=c=115\/c=114\/c=113
theorem snoc_ind {α:Type} {P:List α->Prop} (h0:P []) (hs:∀r c,P r->P (r ++ [c])) (xs:List α):P xs:=by
 have h:∀ys:List α,P ys.reverse:=λys=>by
  induction ys with
  | nil=>exact h0
  | cons y r ih=>rw [List.reverse_cons];exact hs _ _ ih
 simpa using h xs.reverse
abbrev Z2:=Int×Int
def DA (x:Z2):Prop:=x.2 < 0\/(x.2=0/\x.1 < 0)
instance (x:Z2):Decidable (DA x):=inferInstanceAs (Decidable (_\/_))
def G2 (P:D->D->(D->Prop)->(Str->Prop)->Prop):ug:=λds Q R=>∃x y,ds=[x,y]/\P x y Q R
theorem CT {P}:∀ds (Q:D->Prop) (R:Str->Prop),G2 P ds Q R->ds.length=2:=by rintro ds Q R ⟨x,y,rfl,_⟩;rfl
theorem Cy {P} {x y:D} {Q R}:G2 P [x,y] Q R=P x y Q R:=by
 unfold G2;apply propext;constructor
 ·rintro⟨x',y',e,h⟩;cases e;exact h
 ·intro h;exact⟨_,_,rfl,h⟩
def DJ (p q:Int):Prop:=(p < 0/\0 < q)\/(q < 0/\0 < p)
instance (p q:Int):Decidable (DJ p q):=inferInstanceAs (Decidable (_\/_))
theorem lK {α:Type} (f:α->D) (l:List α) (i:Nat) (x:α) (h:l[i]?=some x):lx (l.map f) (i:Int)=some (f x):=by
 rw [qb (by omega) (by have:=(EO.mp h).1;simp;omega)];simp [h]
inductive Mk where
 | half|third|gap (j:Nat)
 deriving DecidableEq
def aD (l:List Nat):List D:=l.map λ(i:Nat)=>D.int i
theorem getD_some {α:Type} {l:List α} {i:Nat} {d:α} (h:i < l.length):l[i]?=some (l.getD i d):=by
 rw [Fn,ET h];rfl
open PySem L2
abbrev Es:=Z2×Z2
inductive EN where
 | gap (i:Nat)|edge (e:Es)
 deriving DecidableEq
end L2.L3
namespace K55
open PySem L2 L2.L3
section
variable {a b:D} {Q:D->Prop}
theorem AE:gT (.tup [a,b]) (.int 0) Q=Q a:=propext ⟨fun⟨v,e,q⟩=>by have:some a=some v:=e;cases this;exact q,λq=>⟨a,rfl,q⟩⟩
theorem CQ:gT (.tup [a,b]) (.int 1) Q=Q b:=propext ⟨fun⟨v,e,q⟩=>by have:some b=some v:=e;cases this;exact q,λq=>⟨b,rfl,q⟩⟩
end
theorem Ay {z z':Str} {Q:D->Prop}:rJ (.str z) (.str z') Q=Q (.bl (!(z == z'))):=by
 unfold rJ iJ;simp only [dep,aQ,FC,and_self,true_and]
theorem mq {α:Type} [DecidableEq α]:∀(l m:List α),l.Nodup->(∀x∈l,x∈m)->l.length<=m.length
 | [],m,_,_=>FC _
 | x :: l,m,nd,h=>by
  rw [FT] at nd;have hx:=h x Fc;have ih:=mq l (m.erase x) nd.2 λy hy=>(List.mem_erase_of_ne (a:=y) (b:=x) (λe=>nd.1 (by rw [<- e];exact hy))).mpr (h y (E4 _ hy));rw [List.length_erase_of_mem hx] at ih;have:0 < m.length:=List.length_pos_of_mem hx;simp only [FA];omega
structure uo (a b:List Nat):Prop where
 len:b.length=a.length
 al:∀(i x:Nat),a[i]?=some x->x < a.length
 bl:∀(i x:Nat),b[i]?=some x->x < a.length
 aa:∀(i x:Nat),a[i]?=some x->a[x]?=some i
 bbb:∀(i x y:Nat),b[i]?=some x->b[x]?=some y->b[y]?=some i
end K55
namespace KR
open PySem L2 L2.L3 K55
section
variable {β:Type} [DecidableEq β]
def bh (met:List β) (q:β):List β:=if q∈met then met else met ++ [q]
def zc (ha th:β->β):Nat->Nat->List β->List β
 | 0,_,met=>met
 | n + 1,at_,met=>match met[at_]? with
  | none=>met
  | some p=>zc ha th n (at_ + 1) (bh (bh met (ha p)) (th p))
def dq (met:List β) (g:β->β):List Nat:=met.map λp=>met.idxOf (g p)
structure Code (c:β->D):Prop where
 eq:∀p q,aQ (c p) (c q)=decide (p=q)
 dp:∀p,dep (c p)<=8
structure Sy (ha th:β->β) (f:β) (P:β->Prop) (all:List β):Prop where
 f0:P f
 cl:∀p,P p->P (ha p)/\P (th p)
 al:∀p,P p->p∈all
 few:all.length<=500
structure Me (P:β->Prop) (met:List β):Prop where
 nd:met.Nodup
 inn:∀p∈met,P p
theorem Me.add {P:β->Prop} {met:List β} (m:Me P met) {q:β} (hq:P q):Me P (bh met q):=by
 unfold bh
 by_cases c:q∈met
 ·rw [if_pos c];exact m
 ·rw [if_neg c];refine⟨Gf.mpr ⟨m.nd,by simp,λa ha b hb e=>c (by rw [Fi] at hb;rw [<- hb,<- e];exact ha)⟩,λp hp=>?_⟩;rcases Fy.mp hp with z|z
  ·exact m.inn p z
  ·rw [Fi] at z;rw [z];exact hq
def iT (met l:List β) (i:Nat):List β:=(l.take i).foldl bh met
theorem kc {l met:List β} {i:Nat} {q:β} (h:l[i]?=some q):iT met l (i + 1)=bh (iT met l i) q:=by
 unfold iT;rw [Gd,h,List.foldl_append];rfl
theorem Me.fold {P:β->Prop}:∀(l met:List β),Me P met->(∀q∈l,P q)->Me P (l.foldl bh met)
 | [],met,m,_=>m
 | q :: l,met,m,h=>Me.fold l _ (m.add (h q Fc)) λx hx=>h x (E4 _ hx)
theorem bY {met:List β} {q p:β} {i:Nat} (h:met[i]?=some p):(bh met q)[i]?=some p:=by
 unfold bh
 by_cases c:q∈met
 ·rw [if_pos c];exact h
 ·rw [if_neg c,E5 (EO.mp h).1];exact h
theorem jv {met:List β} {q:β}:q∈bh met q:=by
 unfold bh
 by_cases c:q∈met
 ·rw [if_pos c];exact c
 ·rw [if_neg c];simp
theorem gz {met:List β} {q p:β} (h:p∈met):p∈bh met q:=by
 unfold bh
 by_cases c:q∈met
 ·rw [if_pos c];exact h
 ·rw [if_neg c];exact Fy.mpr (.inl h)
theorem Me.len {ha th:β->β} {f:β} {P:β->Prop} {all met:List β} (s:Sy ha th f P all) (m:Me P met):met.length<=all.length:=mq met all m.nd λp hp=>s.al p (m.inn p hp)
theorem zK {c:β->D} (k:Code c) (met:List β) (q:β):((met.map c).any λe=>aQ e (c q))=decide (q∈met):=by
 rw [Bool.eq_iff_iff,List.any_eq_true,decide_eq_true_eq]
 constructor
 ·rintro⟨e,h1,h2⟩;obtain⟨z,hz,rfl⟩:=Fj.mp h1;rw [k.eq,decide_eq_true_eq] at h2;exact h2▸hz
 ·exact λh=>⟨_,Fj.mpr ⟨q,h,rfl⟩,by rw [k.eq];simp⟩
theorem pO {c:β->D} (k:Code c):∀met:List β,bJ (met.map c)<=8
 | []=>by simp [bJ]
 | a :: l=>by
  have:=pO k l;have:=k.dp a;simp only [Fm,bJ];omega
theorem gb {met:List β} {q:β} (h:q∈met):met[met.idxOf q]?=some q:=by
 rw [ET (List.idxOf_lt_length_iff.mpr h),List.getElem_idxOf]
end
def yR {β:Type} [DecidableEq β] (ha th:β->β) (f:β) (n:Nat):List β:=zc ha th (n + 1) 0 [f]
section
variable {β:Type} [DecidableEq β] {ha th:β->β} {f:β} {P:β->Prop} {all:List β}
structure Full (ha th:β->β) (f:β) (P:β->Prop) (met:List β):Prop where
 me:Me P met
 cl:∀p∈met,ha p∈met/\th p∈met
 head:met[0]?=some f
 num:∀j q,0 < j->met[j]?=some q->∃i p,i < j/\met[i]?=some p/\(ha p=q\/th p=q)
structure Part (ha th:β->β) (f:β) (P:β->Prop) (met:List β) (at_:Nat):Prop where
 me:Me P met
 le:at_<=met.length
 cl:∀i p,i < at_->met[i]?=some p->ha p∈met/\th p∈met
 head:met[0]?=some f
 num:∀j q,0 < j->met[j]?=some q->∃i p,i < j/\i<=at_/\met[i]?=some p/\(ha p=q\/th p=q)
theorem Part.add {met:List β} {at_:Nat} (m:Part ha th f P met at_) {p q:β} (hp:met[at_]?=some p) (hq:P q) (e:ha p=q\/th p=q):Part ha th f P (bh met q) at_:=by
 have hl:=(EO.mp hp).1;refine⟨m.me.add hq,?_,λi x hi hx=>?_,bY m.head,λj x hj hx=>?_⟩
 ·have:=(EO.mp (bY (q:=q) hp)).1;omega
 ·have o:met[i]?=some (met[i]'(by omega)):=ET _;rw [bY o] at hx;cases hx;obtain⟨a,b⟩:=m.cl i _ hi o;exact⟨gz a,gz b⟩
 ·by_cases c:j < met.length
  ·have o:met[j]?=some met[j]:=ET c;rw [bY o] at hx;cases hx;obtain⟨i,y,h1,h2,h3,h4⟩:=m.num j _ hj o;exact⟨i,y,h1,h2,bY h3,h4⟩
  ·have hx':=hx;unfold bh at hx
   by_cases cq:q∈met
   ·rw [if_pos cq,Fg (by omega)] at hx;cases hx
   ·rw [if_neg cq,E8 (by omega)] at hx
    have hj0:j - met.length=0:=by
     have:=(EO.mp hx).1
     simpa using this
    rw [hj0] at hx;have:q=x:=by simpa using hx
    subst this;exact⟨at_,p,by omega,E3 _,bY hp,e⟩
end
structure yT (a b:List Nat):Prop where
 ok:uo a b
 pos:0 < a.length
 num:∀j,0 < j->j < a.length->∃i,i < j/\(a[i]?=some j\/b[i]?=some j)
theorem hV {β:Type} [DecidableEq β] {met:List β} {g:β->β} {i:Nat} {p:β} (h:met[i]?=some p):(dq met g)[i]?=some (met.idxOf (g p)):=by
 unfold dq;rw [E2,h];rfl
theorem fH {β:Type} [DecidableEq β] {met:List β} (nd:met.Nodup) {i:Nat} {p:β} (h:met[i]?=some p):met.idxOf p=i:=by
 have h2:=gb (E6 h);exact (List.getElem?_inj (EO.mp h2).1 nd).mp (h2.trans h.symm)
theorem Full.oG {β:Type} [DecidableEq β] {ha th:β->β} {f:β} {P:β->Prop} {met:List β} (m:Full ha th f P met) (hh:∀p,P p->ha (ha p)=p) (t3:∀p,P p->th (th (th p))=p):yT (dq met ha) (dq met th):=by
 have l1:∀g:β->β,(dq met g).length=met.length:=λg=>by unfold dq;rw [Ff]
 have inv:∀(g:β->β) (i x:Nat),(dq met g)[i]?=some x->∃p,met[i]?=some p/\x=met.idxOf (g p):=λg i x h=>by
  unfold dq at h;rw [E2] at h;obtain⟨p,hp,e⟩:=Fv.mp h;exact⟨p,hp,e.symm⟩
 have nd:=m.me.nd;refine⟨⟨by rw [l1,l1],λi x h=>?_,λi x h=>?_,λi x h=>?_,λi x y h1 h2=>?_⟩,?_,λj hj hl=>?_⟩
 ·obtain⟨p,hp,rfl⟩:=inv _ _ _ h;rw [l1];exact List.idxOf_lt_length_iff.mpr (m.cl p (E6 hp)).1
 ·obtain⟨p,hp,rfl⟩:=inv _ _ _ h;rw [l1];exact List.idxOf_lt_length_iff.mpr (m.cl p (E6 hp)).2
 ·obtain⟨p,hp,rfl⟩:=inv _ _ _ h;have pm:=E6 hp;rw [hV (gb (m.cl p pm).1),hh p (m.me.inn p pm),fH nd hp]
 ·obtain⟨p,hp,rfl⟩:=inv _ _ _ h1;have pm:=E6 hp;have q1:=(m.cl p pm).2;rw [hV (gb q1)] at h2;cases h2;rw [hV (gb (m.cl _ q1).2),t3 p (m.me.inn p pm),fH nd hp]
 ·rw [l1];exact List.length_pos_of_mem (E6 m.head)
 ·rw [l1] at hl;obtain⟨i,p,h1,h2,h3⟩:=m.num j met[j] hj (ET hl);refine⟨i,h1,?_⟩;have ij:met.idxOf met[j]=j:=fH nd (ET hl);rcases h3 with e|e
  ·left;rw [hV h2,e,ij]
  ·right;rw [hV h2,e,ij]
theorem vE {l:List Nat} {i x:Nat} (h:l[i]?=some x) {Q:D->Prop}:gT (.tup (aD l)) (.int (i:Int)) Q=Q (.int (x:Int)):=by
 have hi:i < l.length:=(EO.mp h).1
 have e:lx (aD l) (i:Int)=some (.int (x:Int)):=by
  have e1:zG l.length (i:Int)=some i:=by unfold zG;rw [if_pos (by omega),if_pos (by omega)];simp
  unfold lx aD;rw [Ff,e1];simp [h]
 exact propext ⟨fun⟨v,ev,q⟩=>by rw [e] at ev;cases ev;exact q,λq=>⟨_,e,q⟩⟩
def bH (a:List Nat) (i:Nat):Nat:=a.getD i 0
theorem dU {a:List Nat} {i:Nat} (h:i < a.length):a[i]?=some (bH a i):=by unfold bH;rw [Fn,ET h];rfl
theorem gI:Code (λi:Nat=>D.int (i:Int)):=⟨λp q=>by
 show aQ (.int (p:Int)) (.int (q:Int))=_
 rw [Bool.eq_iff_iff,decide_eq_true_eq];simp [aQ]
 omega,λp=>by simp [dep]⟩
theorem yT.sy {a b:List Nat} (t:yT a b) (hl:a.length<=500) {k:Nat} (hk:k < a.length):Sy (bH a) (bH b) k (λi=>i < a.length) (List.range a.length):=by
 have e:=t.ok.len;refine⟨hk,λp hp=>⟨t.ok.al _ _ (dU hp),t.ok.bl _ _ (dU (by omega))⟩,λp hp=>FG.mpr hp,by simpa using hl⟩
theorem qD {β γ:Type} [DecidableEq β] [DecidableEq γ] {φ:β->γ} {P:β->Prop} (inj:∀p q,P p->P q->φ p=φ q->p=q) {met:List β} {q:β} (hm:∀p∈met,P p) (hq:P q):bh (met.map φ) (φ q)=(bh met q).map φ:=by
 unfold bh
 by_cases c:q∈met
 ·rw [if_pos c,if_pos (Fj.mpr ⟨q,c,rfl⟩)]
 ·rw [if_neg c,if_neg,List.map_append];rfl;intro z;obtain⟨p,hp,e⟩:=Fj.mp z;exact c (inj p q (hm p hp) hq e▸hp)
theorem pz {β:Type} [DecidableEq β] {P:β->Prop} {met:List β} {q:β} (hm:∀p∈met,P p) (hq:P q):∀p∈bh met q,P p:=by
 intro p hp;unfold bh at hp
 by_cases c:q∈met
 ·rw [if_pos c] at hp;exact hm p hp
 ·rw [if_neg c] at hp;rcases Fy.mp hp with z|z
  ·exact hm p z
  ·rw [Fi] at z;rw [z];exact hq
def xl (a b:List Nat):Prop:=yR (bH a) (bH b) 0 a.length=List.range a.length
abbrev cN:Nat->D:=λi=>.int (i:Int)
theorem yT.high {a b:List Nat} (t:yT a b) {met:List Nat} (cl:∀p∈met,bH a p∈met/\bH b p∈met) (h0:0∈met):∀n j,j<=n->j < a.length->j∈met
 | 0,j,h,_=>by rw [show j=0 by omega];exact h0
 | n + 1,j,h,hj=>by
  by_cases c:j=0
  ·rw [c];exact h0
  ·have le:=t.ok.len;obtain⟨i,hi,e⟩:=t.num j (by omega) hj;have ih:=yT.high t cl h0 n i (by omega) (by omega);rcases e with e|e
   ·rw [dU (by omega)] at e;rw [<- E9 e];exact (cl i ih).1
   ·rw [dU (by omega)] at e;rw [<- E9 e];exact (cl i ih).2
abbrev eh (a b:List Nat):D:=.tup [.tup (aD a),.tup (aD b)]
theorem oM:∀a b:List Nat,bQ (aD a) (aD b)=decide (a=b)
 | [],[]=>by simp [aD,bQ]
 | [],_ :: _=>by simp [aD,bQ]
 | _ :: _,[]=>by simp [aD,bQ]
 | x :: a,y :: b=>by
  have e:bQ (aD (x :: a)) (aD (y :: b))=(aQ (cN x) (cN y) && bQ (aD a) (aD b)):=by simp only [aD,Fm,bQ]
  rw [e,oM a b,show aQ (cN x) (cN y)=decide (x=y) from gI.eq x y,Bool.eq_iff_iff];simp
end KR
namespace K55
open PySem L2 L2.L3
theorem getD_at {l:List Nat} {i:Nat} (h:i < l.length):l[i]?=some (l.getD i 0):=by
 rw [Fn,ET h];rfl
def lp (a b:List Nat) (p c:Nat):Nat:=if c=115 then a.getD p 0 else if c=114 then b.getD p 0 else b.getD (b.getD p 0) 0
def lw (a b:List Nat) (cs:List Nat) (p:Nat):Nat:=cs.foldl (lp a b) p
theorem AN (a b u v:List Nat) (p:Nat):lw a b (u ++ v) p=lw a b v (lw a b u p):=List.foldl_append
theorem o8 (a b u:List Nat) (c p:Nat):lw a b (u ++ [c]) p=lp a b (lw a b u p) c:=AN a b u [c] p
section
variable {a b:List Nat} (t:uo a b)
include t
theorem uF {p:Nat} (h:p < a.length):a.getD p 0 < a.length:=t.al _ _ (getD_at h)
theorem iO {p:Nat} (h:p < a.length):b.getD p 0 < a.length:=t.bl _ _ (getD_at (l:=b) (by rw [t.len];exact h))
theorem wV {p:Nat} (h:p < a.length):a.getD (a.getD p 0) 0=p:=by
 have h2:=t.aa _ _ (getD_at h);rw [getD_at (uF t h)] at h2;exact E9 h2
theorem qN {p:Nat} (h:p < a.length):b.getD (b.getD (b.getD p 0) 0) 0=p:=by
 have e:=t.len;have l1:=iO t h;have l2:=iO t l1;have h3:=t.bbb _ _ _ (getD_at (l:=b) (i:=p) (by omega)) (getD_at (l:=b) (by omega));rw [getD_at (l:=b) (by omega)] at h3;exact E9 h3
theorem C7 {p:Nat} (h:p < a.length) (c:Nat):lp a b p c < a.length:=by
 unfold lp;split
 ·exact uF t h
 ·split
  ·exact iO t h
  ·exact iO t (iO t h)
theorem zC {p:Nat} (h:p < a.length) (cs:List Nat):lw a b cs p < a.length:=by
 refine snoc_ind (P:=λcs=>lw a b cs p < a.length) h (λr c ih=>?_) cs;rw [o8];exact C7 t ih c
end
end K55
namespace KR
open PySem L2 L2.L3 K55
structure PP where
 fst:Nat
 snd:Nat
 deriving DecidableEq
theorem qB {a b:List Nat} (t:uo a b) {x:Nat} (h:x < a.length):a[x]?=some (a.getD x 0)/\b[x]?=some (b.getD x 0):=⟨getD_at h,getD_at (l:=b) (by rw [t.len];exact h)⟩
section
variable {β:Type} [DecidableEq β] {ha th:β->β} {f:β} {P:β->Prop}
def aG (ha th:β->β) (f:β):Nat->List β
 | 0=>[f]
 | n + 1=>match (aG ha th f n)[n]? with
  | some p=>bh (bh (aG ha th f n) (ha p)) (th p)
  | none=>aG ha th f n
theorem ie {n:Nat} {p:β} (h:(aG ha th f n)[n]?=some p):aG ha th f (n + 1)=bh (bh (aG ha th f n) (ha p)) (th p):=by
 rw [aG,h]
structure Done (ha th:β->β) (f:β) (n:Nat):Prop where
 le:∀i,i<=n->(aG ha th f i).length<=60
 lt:∀i,i < n->i < (aG ha th f i).length
 fin:(aG ha th f n).length<=n
structure Over (ha th:β->β) (f:β) (n:Nat):Prop where
 le:∀i,i<=n->(aG ha th f i).length<=60
 lt:∀i,i<=n->i < (aG ha th f i).length
 gt:60 < (aG ha th f (n + 1)).length
theorem Done.uniq {n m:Nat} (a:Done ha th f n) (b:Done ha th f m):n=m:=by
 rcases Nat.lt_trichotomy n m with h|h|h
 ·have:=b.lt n h;have:=a.fin;omega
 ·exact h
 ·have:=a.lt m h;have:=b.fin;omega
theorem Done.over {n m:Nat} (a:Done ha th f n) (b:Over ha th f m):False:=by
 rcases FQ m n with h|h
 ·have:=a.le (m + 1) (by omega);have:=b.gt;omega
 ·have:=b.lt n h;have:=a.fin;omega
theorem Part.step {met:List β} {at_:Nat} (m:Part ha th f P met at_) {p:β} (hp:met[at_]?=some p) (c:P (ha p)/\P (th p)):Part ha th f P (bh (bh met (ha p)) (th p)) (at_ + 1):=by
 have m1:=m.add hp c.1 (.inl rfl);have hp1:=bY (q:=ha p) hp;have m2:=m1.add hp1 c.2 (.inr rfl);have hp2:=bY (q:=th p) hp1;refine⟨m2.me,?_,λi x hi hx=>?_,m2.head,λj q hj hq=>?_⟩
 ·have:=(EO.mp hp2).1;omega
 ·by_cases e:i=at_
  ·subst e;rw [hp2] at hx;cases hx;exact⟨gz jv,jv⟩
  ·exact m2.cl i x (by omega) hx
 ·obtain⟨i,y,h1,h2,h3,h4⟩:=m2.num j q hj hq;exact⟨i,y,h1,by omega,h3,h4⟩
theorem eI (hf:P f) (cl:∀p,P p->P (ha p)/\P (th p)):∀n,(∀i,i < n->i < (aG ha th f i).length)->Part ha th f P (aG ha th f n) n
 | 0,_=>⟨⟨by simp [aG],λq hq=>by simp [aG] at hq;rw [hq];exact hf⟩,by simp [aG],λi q hi=>absurd hi (FU _),rfl,λj q hj hq=>by
  have:=(EO.mp hq).1;simp [aG] at this
  omega⟩
 | n + 1,h=>by
  have m:=eI hf cl n λi hi=>h i (by omega);have hl:=h n (by omega);have hp:(aG ha th f n)[n]?=some ((aG ha th f n)[n]):=ET hl;rw [ie hp];exact m.step hp (cl _ (m.me.inn _ (E6 hp)))
theorem Part.full {met:List β} (m:Part ha th f P met met.length):Full ha th f P met:=⟨m.me,λq hq=>by
 obtain⟨i,hi⟩:=FI hq
 exact m.cl i q (EO.mp hi).1 hi,m.head,λj q hj hq=>by
 obtain⟨i,y,h1,_,h3,h4⟩:=m.num j q hj hq
 exact⟨i,y,h1,h3,h4⟩⟩
def gk (met:List β) (g:β->β) (n:Nat):List Nat:=(met.take n).map λp=>met.idxOf (g p)
theorem wJ {met:List β} {p q:β} (h:p∈met):(bh met q).idxOf p=met.idxOf p:=by
 unfold bh
 by_cases c:q∈met
 ·rw [if_pos c]
 ·rw [if_neg c,List.idxOf_append,if_pos h]
theorem sh {met:List β} {q:β} {g:β->β} {n:Nat} (hn:n<=met.length) (h:∀i p,i < n->met[i]?=some p->g p∈met):gk (bh met q) g n=gk met g n:=by
 unfold gk
 have e:(bh met q).take n=met.take n:=by
  unfold bh
  split
  ·rfl
  ·rw [List.take_append_of_le_length hn]
 rw [e];refine List.map_congr_left λp hp=>?_;obtain⟨i,hi⟩:=FI hp;have hin:i < n:=by have:=(EO.mp hi).1;simp at this;omega
 rw [List.getElem?_take_of_lt hin] at hi;exact wJ (h i p hin hi)
theorem uQ {met:List β} {g:β->β} {n:Nat} {p:β} (h:met[n]?=some p):gk met g (n + 1)=gk met g n ++ [met.idxOf (g p)]:=by
 unfold gk;rw [Gd,h];simp
theorem u6 {met:List β} {at_:Nat} (m:Part ha th f P met at_) {p:β} (hp:met[at_]?=some p):∀g:β->β,(g=ha\/g=th)->gk (bh (bh met (ha p)) (th p)) g (at_ + 1)=gk met g at_ ++ [(bh (bh met (ha p)) (th p)).idxOf (g p)]:=λg hg=>by
 have hp1:=bY (q:=ha p) hp;have hp2:=bY (q:=th p) hp1
 have hm:∀i q,i < at_->met[i]?=some q->g q∈met:=λi q hi hq=>by
  obtain⟨a,b⟩:=m.cl i q hi hq;rcases hg with rfl|rfl
  ·exact a
  ·exact b
 have le:=(EO.mp hp).1;rw [uQ hp2,sh (by have:=(EO.mp hp1).1;omega) (λi x hi hx=>?_),sh (by omega) hm];have o:met[i]?=some (met[i]'(by omega)):=ET _;rw [bY o] at hx;cases hx;exact gz (hm i _ hi o)
structure x9 (cd:β->D) (kvs:List (D×D)) (l:List β):Prop where
 ok:cE kvs
 le:kvs.length<=l.length
 get:∀q:β,fV kvs (cd q)=if q∈l then some (cN (l.idxOf q)) else none
theorem x9.one {cd:β->D} (code:Code cd) (key:∀p,aP (cd p)=true) (f:β):x9 cd [(cd f,.int 0)] [f]:=by
 have e:[(cd f,D.int 0)]=putN [] (cd f) (.int 0):=by simp [putN]
 refine⟨?_,by simp,λq=>?_⟩
 ·rw [e];exact cE.nil.put (key f) (code.dp f)
 ·rw [e,l9 cE.nil (key f) (key q),code.eq]
  by_cases c:f=q
  ·subst c;simp [cN]
  ·rw [decide_eq_false c,if_neg (by simp),if_neg (by simp;exact λz=>c z.symm)];simp [fV]
theorem x9.put {cd:β->D} {kvs:List (D×D)} {l:List β} (code:Code cd) (key:∀p,aP (cd p)=true) (n:x9 cd kvs l) {q:β} (h:q∉l):x9 cd (putN kvs (cd q) (cN l.length)) (l ++ [q]):=by
 refine⟨n.ok.put (key q) (code.dp q),?_,λr=>?_⟩
 ·have:(putN kvs (cd q) (cN l.length)).length<=kvs.length + 1:=by
   unfold putN
   split <;> simp
  have:=n.le;simp;omega
 ·rw [l9 n.ok (key q) (key r),n.get,code.eq]
  by_cases c:q=r
  ·subst c;rw [decide_eq_true rfl,if_pos rfl,if_pos (by simp),List.idxOf_append,if_neg h];simp
  ·rw [decide_eq_false c,if_neg (by simp)]
   by_cases m:r∈l
   ·rw [if_pos m,if_pos (by simp [m]),List.idxOf_append,if_pos m]
   ·rw [if_neg m,if_neg (by simp [m];exact λe=>c e.symm)]
theorem x9.any {cd:β->D} {kvs:List (D×D)} {l:List β} (n:x9 cd kvs l) (q:β):(kvs.any λkv=>aQ kv.1 (cd q))=decide (q∈l):=by
 rw [nj,n.get]
 by_cases c:q∈l
 ·rw [if_pos c,decide_eq_true c];rfl
 ·rw [if_neg c,decide_eq_false c];rfl
end
def cf (φ:Fw) (Pf:ES->Hp->Addr->Prop):ug:=λds Q R=>∃(β:Type) (_:DecidableEq β) (cd:β->D) (ha th:β->β) (f:β) (P:β->Prop),ds=[cd f,.obj Pf]/\Code cd/\(∀p,aP (cd p)=true)/\P f/\(∀p,P p->P (ha p)/\P (th p)) /\
 (∀p,P p->∀Q':D->Prop,Q' (.lst [cd (ha p),cd (th p)])->φ [cd p] Q')/\(∀n,Over ha th f n->R "TooMany")/\∀n,Done ha th f n->Q (eh (dq (aG ha th f n) ha) (dq (aG ha th f n) th))
theorem lh {φ:Fw} {Pf:ES->Hp->Addr->Prop}:∀ds (Q:D->Prop) (R:Str->Prop),cf φ Pf ds Q R->ds.length=2:=by
 rintro ds Q R ⟨_,_,_,_,_,_,_,rfl,_⟩;rfl
def fA (φ:Fw) (Pf:ES->Hp->Addr->Prop):pS:=(gu (pW (bO 2 (iH (af (ag 0) aw)))) (gu (pW (mM 3 (ag 0) (cC (.int 0)))) (gu (pW (bO 4 (iH aw))) (gu (pW (bO 5 (iH aw))) (gu (sP (aL (aF yW (bX 4) (bX 2))) (gu (pW (iD (tW 1 Pf φ (af (de 2 (bX 4)) aw)) (rQ 2 (bf (aR 6) (bf (aR 7) iE))))) (gu (pW (jI (c8 (af (ag 6) (af (ag 7) aw))) (aR 8) (jj (mX true 3 (ag 8)) (aN (jC 3 (ag 8) (bX 2)) (bP 2 (ag 8))) bC))) (gu (BN (aL (aF Ea (bX 2) (cC (.int 60)))) (ja "TooMany" (af (cC (.str "there are more than sixty places")) aw)) (pW bC)) (gu (pW (bP 4 (fb 3 (ag 6)))) (pW (bP 5 (fb 3 (ag 7))))))))) (pW (cQ 4 (cQ 5 (bT (c8 (af (az eJ (af (ag 4) aw)) (af (az eJ (af (ag 5) aw)) aw))))))))))))
theorem mK {φ:Fw} {Pf:ES->Hp->Addr->Prop}:∀ds (Q:D->Prop) (R:Str->Prop),cf φ Pf ds Q R->fA φ Pf { nx:=λ_=>Q .non,rt:=Q,xc:=R } (aA ["first","behind","met","numbers","halves","thirds","half","third","thing"] ds):=by
 rintro ds Q R ⟨β,dec,cd,ha,th,f,P,rfl,code,key,pf,cl,run,hov,hdn⟩;have sz:=Fb
 simp_arith! only [fA,sP,mM]
 have pl:∀n,(∀i,i < n->i < (aG ha th f i).length)->Part ha th f P (aG ha th f n) n:=eI pf cl
 have rl:∀n g,(∀i,i < n->i < (aG ha th f i).length)->(aD (gk (aG ha th f n) g n)).length=n:=λn g h=>by
  have:=(pl n h).le;unfold aD gk;simp;omega
 refine⟨key f,code.dp f,λe=>∃n kvs k6 k7 k8,(∀i,i<=n->(aG ha th f i).length<=60)/\(∀i,i < n->i < (aG ha th f i).length)/\x9 cd kvs (aG ha th f n)/\e=[some (.d (cd f)),some (.d (.obj Pf)),some (.own ((aG ha th f n).map cd)),some (.dic kvs),some (.own (aD (gk (aG ha th f n) ha n))),some (.own (aD (gk (aG ha th f n) th n))),k6,k7,k8],
  λe=>61 - Co 4 e,⟨0,_,none,none,none,λi hi=>by rw [Nat.le_zero.mp hi];simp [aG],λi hi=>absurd hi (FU _),x9.one code key f,rfl⟩,?_⟩
 rintro env ⟨n,kvs,k6,k7,k8,hle,hlt,nm,rfl⟩;have m:=pl n hlt;have ln:=hle n (E3 _);refine⟨_,rfl,_,rfl,?_⟩;simp only [rl n _ hlt,Ff]
 by_cases cc:n < (aG ha th f n).length
 ·rw [if_pos (by omega)];obtain⟨p,hp⟩:∃p,(aG ha th f n)[n]?=some p:=⟨_,ET cc⟩;have ip:=m.me.inn p (E6 hp);have c:=cl p ip;have ai:lx ((aG ha th f n).map cd) (n:Int)=some (cd p):=lK _ _ _ _ hp;have ms:=ie hp;have m2:=m.step hp c
  simp_arith! only [tW,rl n _ hlt]
  refine⟨_,_,rfl,ai,run p ip _ ⟨_,rfl,rfl,?_⟩⟩
  simp_arith! only [oN]
  refine b9 (λi e=>i<=2/\∃kvs k8,e=[some (.d (cd f)),some (.d (.obj Pf)),some (.own ((iT (aG ha th f n) [ha p,th p] i).map cd)),some (.dic kvs),some (.own (aD (gk (aG ha th f n) ha n))),some (.own (aD (gk (aG ha th f n) th n))),some (.d (cd (ha p))),some (.d (cd (th p))),k8]/\x9 cd kvs (iT (aG ha th f n) [ha p,th p] i)/\(iT (aG ha th f n) [ha p,th p] i).length<=60 + i) ?_ ?_ ⟨by omega,kvs,k8,rfl,nm,ln⟩
  ·rintro i x' env N hx ⟨hi2,kvs,k8,rfl,nm,ml⟩ hN;obtain⟨q,hq,rfl⟩:∃q,[ha p,th p][i]?=some q/\cd q=x':=Fv.mp ((E2 (f:=cd) (l:=[ha p,th p]) (i:=i)).symm.trans hx);have eq:iT (aG ha th f n) [ha p,th p] (i + 1)=bh (iT (aG ha th f n) [ha p,th p] i) q:=kc hq;have hi:i < 2:=by have:=(EO.mp hx).1;simpa using this
   have kl:=nm.le
   simp_arith! only [mX,jC,Lo.dic.injEq]
   refine⟨key q,code.dp q,nm.ok,?_⟩;rw [nm.any];unfold bh at eq
   by_cases c2:q∈iT (aG ha th f n) [ha p,th p] i
   ·rw [if_pos c2] at eq;rw [decide_eq_true c2];refine hN _ ⟨by omega,kvs,some (.d (cd q)),?_,by rw [eq];exact nm,by rw [eq];omega⟩;rw [eq]
   ·rw [if_neg c2] at eq;rw [decide_eq_false c2];refine⟨key q,code.dp q,nm.ok,by omega,?_⟩;refine⟨by simp;omega,hN _ ⟨by omega,_,some (.d (cd q)),?_,by rw [eq];exact nm.put code key c2,by rw [eq];simp;omega⟩⟩;rw [eq,List.map_append];simp only [Ff];rfl
  ·rintro env ⟨_,kvs,k8,rfl,nm,_⟩;have e2:iT (aG ha th f n) [ha p,th p] [cd (ha p),cd (th p)].length=aG ha th f (n + 1):=by rw [ms];rfl
   rw [e2] at nm ⊢;have hp2:=bY (q:=th p) (bY (q:=ha p) hp);rw [<- ms] at hp2;have lt2:=(EO.mp hp2).1
   simp_arith! only [Ff,fb,Lo.dic.injEq]
   by_cases c6:(aG ha th f (n + 1)).length<=60
   ·rw [if_neg (by omega)];have ih:ha p∈aG ha th f (n + 1):=by rw [ms];exact gz jv
    have it:th p∈aG ha th f (n + 1):=by rw [ms];exact jv
    refine⟨by rw [rl n _ hlt];omega,_,key _,code.dp _,nm.ok,by rw [nm.get,if_pos ih],by rw [rl n _ hlt];omega,_,key _,code.dp _,nm.ok,by rw [nm.get,if_pos it],?_⟩
    have lt':∀i,i < n + 1->i < (aG ha th f i).length:=λi hi=>by
     rcases FK.mp hi with z|z
     ·exact hlt i z
     ·rw [z];exact cc
    have er:∀g,(g=ha\/g=th)->aD (gk (aG ha th f n) g n) ++ [cN (List.idxOf (g p) (aG ha th f (n + 1)))]=aD (gk (aG ha th f (n + 1)) g (n + 1)):=λg hg=>by
     rw [ms,u6 m hp g hg];unfold aD;rw [List.map_append];rfl
    refine⟨⟨n + 1,kvs,_,_,_,λi hi=>?_,lt',nm,rfl,rfl,er ha (.inl rfl),er th (.inr rfl),rfl,rfl,rfl⟩,?_⟩
    ·rcases FQ i (n + 1) with z|z
     ·exact hle i (by omega)
     ·rw [show i=n + 1 by omega];exact c6
    ·simp only [Co,Fs,Fq,Ft,List.length_singleton,rl n _ hlt];omega
   ·rw [if_pos (by omega)]
    exact hov n ⟨hle,λi hi=>by
     rcases FQ i n with z|z
     ·exact hlt i z
     ·rw [show i=n by omega];exact cc,by omega⟩
 ·rw [if_neg (by omega)];have ea:n=(aG ha th f n).length:=by have:=m.le;omega
  have rn:∀g,gk (aG ha th f n) g n=dq (aG ha th f n) g:=λg=>by
   unfold gk dq;rw [Ge (by omega)]
  simp_arith! only [rn,eO]
  exact hdn n ⟨hle,hlt,by omega⟩
abbrev di:=List (Int×Int)
def sS (p q:Int×Int):Bool:=decide (p.1 < q.1) || (decide (p.1=q.1) && decide (p.2 < q.2))
def gr:di->di->Bool
 | [],[]=>false
 | [],_ :: _=>true
 | _ :: _,[]=>false
 | x :: xs,y :: ys=>if x=y then gr xs ys else sS x y
theorem yh {p q:Int×Int} (h:p≠q):sS p q=true\/sS q p=true:=by
 obtain⟨a,b⟩:=p;obtain⟨c,d⟩:=q;have h':¬ (a=c/\b=d):=fun⟨x,y⟩=>h (by rw [x,y]);simp only [sS,Bool.or_eq_true,Bool.and_eq_true,decide_eq_true_eq];omega
theorem wK {p q:Int×Int} (h:sS p q=true):sS q p=false:=by
 obtain⟨a,b⟩:=p;obtain⟨c,d⟩:=q;simp only [sS,Bool.or_eq_true,Bool.and_eq_true,decide_eq_true_eq] at h;simp only [sS,Bool.or_eq_false_iff,Bool.and_eq_false_iff,decide_eq_false_iff_not];omega
theorem vf {p q r:Int×Int} (h:sS p q=true) (g:sS q r=true):sS p r=true:=by
 obtain⟨a,b⟩:=p;obtain⟨c,d⟩:=q;obtain⟨e,f⟩:=r;simp only [sS,Bool.or_eq_true,Bool.and_eq_true,decide_eq_true_eq] at h g ⊢;omega
theorem qq:∀{x y:di},gr x y=false->gr y x=false->x=y
 | [],[],_,_=>rfl
 | [],_ :: _,h,_=>by simp [gr] at h
 | _ :: _,[],_,h=>by simp [gr] at h
 | a :: x,b :: y,h,g=>by
  by_cases e:a=b
  ·subst e;rw [gr,if_pos rfl] at h g;rw [qq h g]
  ·rw [gr,if_neg e] at h;rw [gr,if_neg (Ne.symm e)] at g;rcases yh e with z|z
   ·rw [z] at h;cases h
   ·rw [z] at g;cases g
theorem j8:∀{x y z:di},gr x y=true->gr y z=true->gr x z=true
 | [],[],_,h,_=>by simp [gr] at h
 | [],_ :: _,[],_,g=>by simp [gr] at g
 | [],_ :: _,_ :: _,_,_=>rfl
 | _ :: _,[],_,h,_=>by simp [gr] at h
 | _ :: _,_ :: _,[],_,g=>by simp [gr] at g
 | a :: x,b :: y,c :: z,h,g=>by
  rw [gr] at h g ⊢
  by_cases e:a=b
  ·subst e;rw [if_pos rfl] at h
   by_cases e2:a=c
   ·rw [if_pos e2] at g ⊢;exact j8 h g
   ·rw [if_neg e2] at g ⊢;exact g
  ·rw [if_neg e] at h
   by_cases e2:b=c
   ·subst e2;rw [if_neg e];exact h
   ·rw [if_neg e2] at g;have k:=vf h g
    by_cases e3:a=c
    ·subst e3;have:=wK h;rw [g] at this;cases this
    ·rw [if_neg e3];exact k
theorem uq:∀x:di,gr x x=false
 | []=>rfl
 | a :: x=>by rw [gr,if_pos rfl];exact uq x
def jz (r:di) (rs:List di):di:=rs.foldl (λb x=>if gr x b then x else b) r
theorem ik:∀(rs:List di) (r:di),jz r rs∈r :: rs/\∀x∈r :: rs,gr x (jz r rs)=false
 | [],r=>⟨by simp [jz],λx hx=>by simp at hx;subst hx;exact uq _⟩
 | y :: rs,r=>by
  have e:jz r (y :: rs)=jz (if gr y r then y else r) rs:=rfl;rw [e];obtain⟨m,k⟩:=ik rs (if gr y r then y else r)
  by_cases c:gr y r=true
  ·rw [if_pos c] at m k ⊢;refine⟨E4 _ m,λx hx=>?_⟩;rcases Fe.mp hx with rfl|hx
   ·have ky:=k y Fc
    cases q:gr x (jz y rs) with
    | false=>rfl
    | true=>rw [j8 c q] at ky;cases ky
   ·exact k x hx
  ·rw [if_neg c] at m k ⊢;refine⟨by rcases Fe.mp m with z|z <;> simp [z],λx hx=>?_⟩
   rcases Fe.mp hx with rfl|hx
   ·exact k x Fc
   ·rcases Fe.mp hx with rfl|hx
    ·have kr:=k r Fc
     cases q:gr x (jz r rs) with
     | false=>rfl
     | true =>
      by_cases z:x=r
      ·rw [z] at q;rw [q] at kr;cases kr
      ·have c':gr x r=false:=by simpa using c
       cases q2:gr r x with
       | false=>exact absurd (qq c' q2) z
       | true=>rw [j8 q2 q] at kr;cases kr
    ·exact k x (E4 _ hx)
theorem oY {r r':di} {rs rs':List di} (h:∀x,x∈r :: rs↔x∈r' :: rs'):jz r rs=jz r' rs':=by
 obtain⟨m,k⟩:=ik rs r;obtain⟨m',k'⟩:=ik rs' r';exact qq (k' _ ((h _).mp m)) (k _ ((h _).mpr m'))
def mulR (f N:Int) (r:di):di:=r.map λp=>(f * p.1 % N,f * p.2 % N)
def et (N:Int) (r:di):di:=r.map λp=>(p.1 % N,p.2 % N)
theorem mO {f g N:Int} (r:di):mulR f N (mulR g N r)=mulR (f * g) N r:=by
 unfold mulR;rw [List.map_map];refine List.map_congr_left λp _=>?_;simp only [Function.comp,Prod.mk.injEq];exact⟨by rw [Int.mul_emod,Int.emod_emod,<- Int.mul_emod,Int.mul_assoc],by rw [Int.mul_emod,Int.emod_emod,<- Int.mul_emod,Int.mul_assoc]⟩
theorem qT {f N:Int} (r:di):mulR f N (et N r)=mulR f N r:=by
 unfold mulR et;rw [List.map_map];refine List.map_congr_left λp _=>?_;simp only [Function.comp,Prod.mk.injEq];exact⟨by rw [Int.mul_emod,Int.emod_emod,<- Int.mul_emod],by rw [Int.mul_emod,Int.emod_emod,<- Int.mul_emod]⟩
theorem dI {f g N:Int} (h:f % N=g % N) (r:di):mulR f N r=mulR g N r:=by
 unfold mulR;refine List.map_congr_left λp _=>?_;simp only [Prod.mk.injEq];exact⟨by rw [Int.mul_emod,h,<- Int.mul_emod],by rw [Int.mul_emod,h,<- Int.mul_emod]⟩
theorem xJ {N:Int} (r:di):mulR 1 N r=et N r:=by
 unfold mulR et;refine List.map_congr_left λp _=>?_;simp only [Int.one_mul]
structure Good (N:Int) (fs:List Int):Prop where
 pos:0 < N
 one:∃e∈fs,e % N=1 % N
 mul:∀f∈fs,∀g∈fs,∃h∈fs,h % N=f * g % N
 inv:∀f∈fs,∃g∈fs,g * f % N=1 % N
 neg:∃e∈fs,e % N=(-1) % N
def lm (N:Int) (fs:List Int) (r:di):di:=match fs with
 | []=>[]
 | f :: t=>jz (mulR f N r) (t.map λg=>mulR g N r)
variable {N:Int} {fs:List Int} {r r':di}
theorem pE (h:fs≠[]):∃f∈fs,lm N fs r=mulR f N r:=by
 cases fs with
 | nil=>exact absurd rfl h
 | cons f t =>
  have:=(ik (t.map λg=>mulR g N r) (mulR f N r)).1;rw [<- Fm (f:=λg=>mulR g N r)] at this;obtain⟨g,hg,e⟩:=Fj.mp this;exact⟨g,hg,e.symm⟩
theorem uj (h:∀x,(∃f∈fs,x=mulR f N r)↔∃f∈fs,x=mulR f N r'):lm N fs r=lm N fs r':=by
 cases fs with
 | nil=>rfl
 | cons f t =>
  refine oY λx=>?_;rw [<- Fm (f:=λg=>mulR g N r),<- Fm (f:=λg=>mulR g N r'),Fj,Fj];have:=h x
  constructor
  ·rintro⟨g,hg,e⟩;obtain⟨g',h1,h2⟩:=this.mp ⟨g,hg,e.symm⟩;exact⟨g',h1,h2.symm⟩
  ·rintro⟨g,hg,e⟩;obtain⟨g',h1,h2⟩:=this.mpr ⟨g,hg,e.symm⟩;exact⟨g',h1,h2.symm⟩
theorem Good.ne (G:Good N fs):fs≠[]:=by
 obtain⟨e,he,_⟩:=G.one;intro z;rw [z] at he;cases he
theorem zM (G:Good N fs) {g:Int} (hg:g∈fs) (h:et N r'=mulR g N r):lm N fs r'=lm N fs r:=by
 have key:∀f,mulR f N r'=mulR (f * g) N r:=λf=>by rw [<- qT r',h,mO]
 refine uj λx=>⟨?_,?_⟩
 ·rintro⟨f,hf,rfl⟩;obtain⟨k,hk,e⟩:=G.mul f hf g hg;exact⟨k,hk,by rw [key,dI e]⟩
 ·rintro⟨f,hf,rfl⟩;obtain⟨i,hi,ei⟩:=G.inv g hg;obtain⟨k,hk,e⟩:=G.mul f hf i hi;refine⟨k,hk,?_⟩;rw [key];refine dI ?_ r;rw [Int.mul_emod,e,<- Int.mul_emod,Int.mul_assoc,Int.mul_emod,ei,<- Int.mul_emod,Int.mul_one]
theorem A5 (G:Good N fs):lm N fs r'=lm N fs r↔∃g∈fs,et N r'=mulR g N r:=by
 refine⟨λh=>?_,fun⟨g,hg,h⟩=>zM G hg h⟩;obtain⟨f,hf,e⟩:=pE (N:=N) (r:=r) G.ne;obtain⟨f',hf',e'⟩:=pE (N:=N) (r:=r') G.ne;obtain⟨i,hi,ei⟩:=G.inv f' hf';obtain⟨k,hk,ek⟩:=G.mul i hi f hf;refine⟨k,hk,?_⟩;have z:mulR i N (mulR f' N r')=mulR i N (mulR f N r):=by rw [<- e,<- e',h]
 rw [mO,mO,dI ei,xJ] at z;rw [z,dI ek]
theorem uu (G:Good N fs) (t:di->di) (ht:∀f r,et N (t (mulR f N r))=mulR f N (t r)):lm N fs (t (lm N fs r))=lm N fs (t r):=by
 obtain⟨f,hf,e⟩:=pE (N:=N) (r:=r) G.ne;rw [e];exact zM G hf (ht f r)
end KR
namespace KR
open PySem L2 L2.L3 K55
def strN (cs:List Nat):D:=.str ⟨cs.toArray⟩
structure zO (kvs:List (D×D)) (ks:List Nat) (W:Nat->List Nat):Prop where
 ok:cE kvs
 get:∀i:Nat,fV kvs (.int (i:Int))=if i∈ks then some (strN (W i)) else none
 len:kvs.length=ks.length
 nd:ks.Nodup
theorem zO.put {kvs:List (D×D)} {ks:List Nat} {W:Nat->List Nat} (m:zO kvs ks W) {k:Nat} (hk:k∉ks) (v:List Nat):zO (putN kvs (.int (k:Int)) (strN v)) (ks ++ [k]) (λi=>if i=k then v else W i):=by
 have g0:fV kvs (.int (k:Int))=none:=by rw [m.get,if_neg hk]
 refine⟨m.ok.put (by simp [aP]) (by simp [dep]),λi=>?_,?_,?_⟩
 ·rw [l9 m.ok (by simp [aP]) (by simp [aP]),m.get]
  by_cases c:i=k
  ·subst c;rw [if_pos (by simp [aQ]),if_pos (by simp),if_pos rfl]
  ·rw [if_neg (by simp [aQ];omega),if_neg c]
   by_cases c2:i∈ks
   ·rw [if_pos c2,if_pos (by simp [c2])]
   ·rw [if_neg c2,if_neg (by simp [c,c2])]
 ·have:(kvs.any λkv=>aQ kv.1 (.int (k:Int)))=false:=by rw [nj,g0];rfl
  unfold putN;rw [this];simp [m.len]
 ·exact Gf.mpr ⟨m.nd,by simp,λx hx y hy e=>hk (by rw [Fi] at hy;rw [<- hy,<- e];exact hx)⟩
theorem yO:zO [(.int 0,strN [])] [0] (λ_=>[]):=by
 refine⟨⟨λkv h=>?_,λi j x y hi hj e=>?_⟩,λi=>?_,rfl,by simp⟩
 ·rw [Fi.mp h];simp [aP,dep]
 ·have h1:=(EO.mp hi).1;have h2:=(EO.mp hj).1;simp at h1 h2;omega
 ·unfold fV
  by_cases c:i=0
  ·subst c;simp [aQ]
  ·have:¬ ((0:Int)=(i:Int)):=by omega
   simp [aQ,this,c]
section
variable {β γ:Type} [DecidableEq β] [DecidableEq γ] {ha th:β->β} {ha' th':γ->γ} {φ:β->γ} {P:β->Prop} {f:β}
theorem uk (hf:P f) (cl:∀p,P p->P (ha p)/\P (th p)):∀n,∀p∈aG ha th f n,P p
 | 0,p,hp=>by rw [aG,Fi] at hp;rw [hp];exact hf
 | n + 1,p,hp=>by
  have ih:=uk hf cl n;rw [aG] at hp
  cases e:(aG ha th f n)[n]? with
  | none=>rw [e] at hp;exact ih p hp
  | some q =>
   rw [e] at hp;have iq:=ih q (E6 e);exact pz (pz ih (cl q iq).1) (cl q iq).2 p hp
theorem qI (hf:P f) (cl:∀p,P p->P (ha p)/\P (th p)) (e1:∀p,P p->ha' (φ p)=φ (ha p)) (e2:∀p,P p->th' (φ p)=φ (th p)) (inj:∀p q,P p->P q->φ p=φ q->p=q):∀n,aG ha' th' (φ f) n=(aG ha th f n).map φ
 | 0=>rfl
 | n + 1=>by
  have ih:=qI hf cl e1 e2 inj n;have hm:=uk hf cl n;rw [aG,aG,ih,E2]
  cases e:(aG ha th f n)[n]? with
  | none=>rfl
  | some p =>
   have ip:=hm p (E6 e);show bh (bh ((aG ha th f n).map φ) (ha' (φ p))) (th' (φ p))=_
   rw [e1 p ip,e2 p ip,qD inj hm (cl p ip).1,qD inj (pz hm (cl p ip).1) (cl p ip).2]
end
section
variable {β γ:Type} [DecidableEq β] [DecidableEq γ] {ha th:β->β} {ha' th':γ->γ} {f:β} {f':γ}
theorem Done.carry (e:∀n,(aG ha' th' f' n).length=(aG ha th f n).length) {n:Nat} (h:Done ha' th' f' n):Done ha th f n:=⟨λi hi=>by rw [<- e];exact h.le i hi,λi hi=>by rw [<- e];exact h.lt i hi,by rw [<- e];exact h.fin⟩
end
structure TT where
 x:Nat
 y:Nat
 z:Nat
 deriving DecidableEq
section
variable {a b c d e f:List Nat} {k l m:Nat} {φ ψ:Nat->Nat}
theorem rF {β:Type} [DecidableEq β] {met:List β} {g:β->β} {p:β} (hp:p∈met):bH (dq met g) (met.idxOf p)=met.idxOf (g p):=by
 have h:=hV (g:=g) (gb hp);unfold bH;rw [Fn,h];rfl
end
section
variable {β:Type} [DecidableEq β] {ha th:β->β} {f:β}
theorem qK {n:Nat} (h:Done ha th f n):∀k i,i<=n->n<=k + i->zc ha th k i (aG ha th f i)=aG ha th f n
 | 0,i,h1,h2=>by
  have:i=n:=by omega
  subst this;rfl
 | k + 1,i,h1,h2=>by
  by_cases c:i=n
  ·subst c;rw [zc,Fg h.fin]
  ·have hi:=h.lt i (by omega);have e:=ET hi;rw [zc,e];show zc ha th k (i + 1) _=_
   rw [<- ie e];exact qK h k (i + 1) (by omega) (by omega)
theorem xy {n N:Nat} (h:Done ha th f n) (hn:n<=N + 1):yR ha th f N=aG ha th f n:=qK h (N + 1) 0 (FC _) (by omega)
end
structure SP where
 l:List Nat
 deriving DecidableEq
structure Gm {β:Type} [DecidableEq β] (ha th:β->β) (f:β) (P:β->Prop) (E F:List Nat) (met:List β):Prop where
 full:Full ha th f P met
 eE:E=dq met ha
 eF:F=dq met th
section
variable {β:Type} [DecidableEq β] {ha th:β->β} {f:β} {P:β->Prop} {E F c d:List Nat} {met:List β} {n:Nat}
theorem Gm.of (hf:P f) (cl:∀p,P p->P (ha p)/\P (th p)) (h:Done ha th f n):Gm ha th f P (dq (aG ha th f n) ha) (dq (aG ha th f n) th) (aG ha th f n):=by
 have m:=eI hf cl n h.lt;have e:n=(aG ha th f n).length:=Nat.le_antisymm m.le h.fin;have m':Part ha th f P (aG ha th f n) (aG ha th f n).length:=by rw [<- e];exact m
 exact⟨m'.full,rfl,rfl⟩
theorem Gm.BO (m:Gm ha th f P E F met):E.length=met.length:=by rw [m.eE];unfold dq;rw [Ff]
theorem Gm.z (m:Gm ha th f P E F met):met.idxOf f=0:=fH m.full.me.nd m.full.head
theorem Gm.Bg (m:Gm ha th f P E F met):f∈met:=E6 m.full.head
theorem Gm.sE (m:Gm ha th f P E F met) {p:β} (hp:p∈met):bH E (met.idxOf p)=met.idxOf (ha p):=by rw [m.eE];exact rF hp
theorem Gm.sF (m:Gm ha th f P E F met) {p:β} (hp:p∈met):bH F (met.idxOf p)=met.idxOf (th p):=by rw [m.eF];exact rF hp
theorem Gm.inj (m:Gm ha th f P E F met) {p q:β} (hp:p∈met) (hq:q∈met) (e:met.idxOf p=met.idxOf q):p=q:=by
 have h1:=gb hp;have h2:=gb hq;rw [e,h2] at h1;exact (E9 h1).symm
theorem Gm.B4 (m:Gm ha th f P E F met) (h:Done ha th f n) (em:met=aG ha th f n) (cl:∀p,P p->P (ha p)/\P (th p)):xl E F:=by
 have ln:met.length=n:=by
  have pt:=eI (m.full.me.inn f m.Bg) cl n h.lt;have:=pt.le;have:=h.fin;rw [em];omega
 have mm:=qI (P:=λp=>p∈met) (φ:=λp=>met.idxOf p) (ha:=ha) (th:=th) (ha':=bH E) (th':=bH F) (f:=f) m.Bg m.full.cl (λp hp=>m.sE hp) (λp hp=>m.sF hp) (λp q hp hq e=>m.inj hp hq e)
 have dn:Done (bH E) (bH F) 0 n:=by
  refine Done.carry (λk=>?_) h;have:=mm k;rw [m.z] at this;rw [this,Ff]
 unfold xl;have e1:E.length=n:=by rw [m.BO];exact ln
 rw [e1,xy dn (by omega)];have:=mm n;rw [m.z] at this;rw [this,<- em];apply List.ext_getElem?
 intro i;rw [E2]
 by_cases hi:i < n
 ·have hi':i < met.length:=by omega
  rw [Ga hi,ET hi'];show some (met.idxOf _)=_
  rw [fH m.full.me.nd (ET hi')]
 ·rw [Fg (by omega),Fg (by simp;omega)];rfl
end
theorem cg {N x y k:Int} (h:x=y + N * k):x % N=y % N:=by rw [h,Int.add_mul_emod_self_left]
theorem du {N x y:Int} (h:x % N=y % N):∃k,x=y + N * k:=by
 refine⟨x / N - y / N,?_⟩;rw [Int.emod_def,Int.emod_def] at h;rw [Int.mul_sub];omega
structure Mx where
 a:Int
 b:Int
 c:Int
 d:Int
 deriving DecidableEq
def Mx.mul (m n:Mx):Mx:=⟨m.a * n.a + m.b * n.c,m.a * n.b + m.b * n.d,m.c * n.a + m.d * n.c,m.c * n.b + m.d * n.d⟩
def Mx.det (m:Mx):Int:=m.a * m.d - m.b * m.c
def mS:Mx:=⟨0,-1,1,0⟩
def mR:Mx:=⟨0,-1,1,-1⟩
def mQ:Mx:=⟨1,-1,1,0⟩
def m1:Mx:=⟨1,0,0,1⟩
def mL (c:Nat):Mx:=if c=115 then mS else if c=114 then mR else mQ
def mW (w:List Nat):Mx:=w.foldl (λm c=>m.mul (mL c)) m1
def lF (pl:Bool) (m:Mx):di:=if pl then [(m.a,m.b),(m.c,m.d)] else [(m.c,m.d)]
def tS (r:di):di:=r.map λp=>(p.2,-p.1)
def tR (r:di):di:=r.map λp=>(p.2,-p.1 - p.2)
theorem uD (m n:Mx):(m.mul n).det=m.det * n.det:=by
 simp only [Mx.det,Mx.mul];grind
theorem BW (c:Nat):(mL c).det=1:=by
 unfold mL;split
 ·rfl
 ·split <;> rfl
theorem zJ (w:List Nat):(mW w).det=1:=by
 refine snoc_ind (P:=λw=>(mW w).det=1) rfl (λr c ih=>?_) w;rw [mW,List.foldl_append];show ((mW r).mul (mL c)).det=1
 rw [uD,ih,BW];rfl
theorem lH (w:List Nat) (c:Nat):mW (w ++ [c])=(mW w).mul (mL c):=by rw [mW,List.foldl_append];rfl
theorem DN (pl:Bool) (m:Mx):lF pl (m.mul mS)=tS (lF pl m):=by
 cases pl <;> simp [lF,tS,Mx.mul,mS]
theorem DS (pl:Bool) (m:Mx):lF pl (m.mul mR)=tR (lF pl m):=by
 cases pl <;> simp [lF,tR,Mx.mul,mR,Int.sub_eq_add_neg]
variable {N:Int} {fs:List Int}
theorem Bj (f:Int) (r:di):et N (tS (mulR f N r))=mulR f N (tS r):=by
 unfold et tS mulR;rw [List.map_map,List.map_map,List.map_map];refine List.map_congr_left λp _=>?_;simp only [Function.comp,Prod.mk.injEq];refine⟨Int.emod_emod _ _,cg (k:=f * p.1 / N) ?_⟩;rw [Int.emod_def,Int.mul_neg];omega
theorem zU (f:Int) (r:di):et N (tR (mulR f N r))=mulR f N (tR r):=by
 unfold et tR mulR;rw [List.map_map,List.map_map,List.map_map];refine List.map_congr_left λp _=>?_;simp only [Function.comp,Prod.mk.injEq];refine⟨Int.emod_emod _ _,cg (k:=f * p.1 / N + f * p.2 / N) ?_⟩;rw [Int.emod_def,Int.emod_def,Int.mul_sub,Int.mul_neg,Int.mul_add];omega
def kM (N:Int) (fs:List Int) (pl:Bool) (m:Mx):di:=lm N fs (lF pl m)
theorem wM (G:Good N fs) (pl:Bool) (m:Mx):lm N fs (tS (kM N fs pl m))=kM N fs pl (m.mul mS):=by
 unfold kM;rw [DN];exact uu G tS Bj
theorem ve (G:Good N fs) (pl:Bool) (m:Mx):lm N fs (tR (kM N fs pl m))=kM N fs pl (m.mul mR):=by
 unfold kM;rw [DS];exact uu G tR zU
theorem qo (G:Good N fs) {pl:Bool} {m n:Mx}:kM N fs pl m=kM N fs pl n↔∃g∈fs,et N (lF pl m)=mulR g N (lF pl n):=A5 G
theorem xp (G:Good N fs) (pl:Bool) {m n:Mx} (h:m=⟨-n.a,-n.b,-n.c,-n.d⟩):kM N fs pl m=kM N fs pl n:=by
 rw [qo G];obtain⟨e,he,h'⟩:=G.neg;refine⟨e,he,?_⟩;rw [dI h',h];cases pl <;> simp [lF,et,mulR]
theorem DB (G:Good N fs) (pl:Bool) (m:Mx):kM N fs pl (m.mul mQ)=kM N fs pl ((m.mul mR).mul mR):=xp G pl (by
 simp only [Mx.mul,mR,mQ,Mx.mk.injEq]
 omega)
theorem CY (G:Good N fs) (pl:Bool) (m:Mx):kM N fs pl ((m.mul mS).mul mS)=kM N fs pl m:=xp G pl (by
 simp only [Mx.mul,mS,Mx.mk.injEq]
 omega)
theorem BC (pl:Bool) (m:Mx):kM N fs pl (((m.mul mR).mul mR).mul mR)=kM N fs pl m:=by
 have e:((m.mul mR).mul mR).mul mR=m:=by
  obtain⟨a,b,c,d⟩:=m;simp only [Mx.mul,mR,Mx.mk.injEq];omega
 rw [e]
def lW (m n:Mx):Mx:=m.mul ⟨n.d,-n.b,-n.c,n.a⟩
theorem xt {m n:Mx} (h:n.det=1):(lW m n).mul n=m:=by
 obtain⟨a,b,c,d⟩:=m;obtain⟨e,f,g,i⟩:=n;simp only [Mx.det] at h;simp only [lW,Mx.mul,Mx.mk.injEq];refine⟨?_,?_,?_,?_⟩ <;> grind
theorem xE {m n:Mx} (hm:m.det=1) (h:n.det=1):(lW m n).det=1:=by
 unfold lW;rw [uD,hm];show 1 * (n.d * n.a - -n.b * -n.c)=1
 simp only [Mx.det] at h
 grind
def isIn (k:Nat) (N:Int) (l:Mx):Bool:=if l.c % N≠0 then false else if k=1 then true else if ¬ (l.a % N=1 % N\/l.a % N=(-1) % N) then false else k=2 || (decide (l.b % N=0) && decide (l.d % N=l.a % N))
theorem xf {x:Int} (h:x % N=0):∃k,x=N * k:=⟨x / N,by have:=Int.emod_add_mul_ediv x N;omega⟩
theorem xi (G:Good N [1,-1]) {m n:Mx} (hm:m.det=1) (hn:n.det=1):isIn 0 N (lW m n)=true↔kM N [1,-1] true m=kM N [1,-1] true n:=by
 rw [qo G];have act:=xt (m:=m) hn;have hd:=hn;simp only [Mx.det] at hd;generalize hL:lW m n=L at act ⊢;have rows:∀g:Int,et N (lF true m)=mulR g N (lF true n)↔(m.a % N=g * n.a % N/\m.b % N=g * n.b % N)/\m.c % N=g * n.c % N/\m.d % N=g * n.d % N:=λg=>by simp [lF,et,mulR]
 constructor
 ·intro h
  have hc:L.c % N=0:=by
   by_cases c:L.c % N=0
   ·exact c
   ·simp [isIn,c] at h
  have ha:L.a % N=1 % N\/L.a % N=(-1) % N:=by
   by_cases c:L.a % N=1 % N\/L.a % N=(-1) % N
   ·exact c
   ·simp [isIn,hc,c] at h
  have hb:L.b % N=0/\L.d % N=L.a % N:=by
   simpa [isIn,hc,ha] using h
  obtain⟨k3,e3⟩:=xf hc;obtain⟨k2,e2⟩:=xf hb.1
  obtain⟨g,hg,eg⟩:∃g∈([1,-1]:List Int),L.a % N=g % N:=by
   rcases ha with h|h
   ·exact⟨1,by simp,h⟩
   ·exact⟨-1,by simp,h⟩
  obtain⟨k1,e1⟩:=du eg;obtain⟨k4,e4⟩:=du (hb.2.trans eg);refine⟨g,hg,(rows g).mpr ?_⟩;rw [<- act];simp only [Mx.mul];refine⟨⟨cg (k:=k1 * n.a + k2 * n.c) ?_,cg (k:=k1 * n.b + k2 * n.d) ?_⟩,cg (k:=k3 * n.a + k4 * n.c) ?_,cg (k:=k3 * n.b + k4 * n.d) ?_⟩ <;> grind
 ·rintro⟨g,hg,h⟩;obtain⟨⟨ha,hb⟩,hc,hd'⟩:=(rows g).mp h;obtain⟨k1,e1⟩:=du ha;obtain⟨k2,e2⟩:=du hb;obtain⟨k3,e3⟩:=du hc;obtain⟨k4,e4⟩:=du hd';have la:L.a % N=g % N:=cg (k:=k1 * n.d - k2 * n.c) (by rw [<- hL];simp only [lW,Mx.mul];grind)
  have lb:L.b % N=0:=by
   have:L.b=0 + N * (k2 * n.a - k1 * n.b):=by rw [<- hL];simp only [lW,Mx.mul];grind
   rw [cg this];exact Int.zero_emod _
  have lc:L.c % N=0:=by
   have:L.c=0 + N * (k3 * n.d - k4 * n.c):=by rw [<- hL];simp only [lW,Mx.mul];grind
   rw [cg this];exact Int.zero_emod _
  have ld:L.d % N=g % N:=cg (k:=k4 * n.a - k3 * n.b) (by rw [<- hL];simp only [lW,Mx.mul];grind)
  have ga:L.a % N=1 % N\/L.a % N=(-1) % N:=by
   simp only [Fe,FH,or_false] at hg;rcases hg with rfl|rfl
   ·exact .inl la
   ·exact .inr la
  simp [isIn,lc,lb,ga,la,ld];have:=ga;rw [la] at this
  first|exact this|simpa using this
theorem vT (G:Good N fs) {m n:Mx} (hm:m.det=1) (hn:n.det=1):(∃g∈fs,et N (lF false m)=mulR g N (lF false n))↔∃g∈fs,(lW m n).c % N=0/\(lW m n).d % N=g % N:=by
 have act:=xt (m:=m) hn;have hd:=hn;simp only [Mx.det] at hd;generalize hL:lW m n=L at act ⊢;have rows:∀g:Int,et N (lF false m)=mulR g N (lF false n)↔m.c % N=g * n.c % N/\m.d % N=g * n.d % N:=λg=>by simp [lF,et,mulR]
 constructor
 ·rintro⟨g,hg,h⟩;obtain⟨hc,hd'⟩:=(rows g).mp h;obtain⟨k3,e3⟩:=du hc;obtain⟨k4,e4⟩:=du hd';refine⟨g,hg,?_,cg (k:=k4 * n.a - k3 * n.b) (by rw [<- hL];simp only [lW,Mx.mul];grind)⟩
  have:L.c=0 + N * (k3 * n.d - k4 * n.c):=by rw [<- hL];simp only [lW,Mx.mul];grind
  rw [cg this];exact Int.zero_emod _
 ·rintro⟨g,hg,hc,hd'⟩;obtain⟨k3,e3⟩:=xf hc;obtain⟨k4,e4⟩:=du hd';refine⟨g,hg,(rows g).mpr ?_⟩;rw [<- act];simp only [Mx.mul];refine⟨cg (k:=k3 * n.a + k4 * n.c) ?_,cg (k:=k3 * n.b + k4 * n.d) ?_⟩ <;> grind
theorem vS (G:Good N [1,-1]) {m n:Mx} (hm:m.det=1) (hn:n.det=1):isIn 2 N (lW m n)=true↔kM N [1,-1] false m=kM N [1,-1] false n:=by
 rw [qo G,vT G hm hn];have dL:=xE hm hn;generalize lW m n=L at dL ⊢;simp only [Mx.det] at dL
 have turn:∀g:Int,g * g=1->L.c % N=0->(L.a % N=g % N↔L.d % N=g % N):=λg hg hc=>by
  obtain⟨k3,e3⟩:=xf hc
  constructor
  ·intro h;obtain⟨k1,e1⟩:=du h;exact cg (k:=g * (L.b * k3 - k1 * L.d)) (by grind)
  ·intro h;obtain⟨k1,e1⟩:=du h;exact cg (k:=g * (L.b * k3 - k1 * L.a)) (by grind)
 constructor
 ·intro h
  have hc:L.c % N=0:=by
   by_cases c:L.c % N=0
   ·exact c
   ·simp [isIn,c] at h
  have ha:L.a % N=1 % N\/L.a % N=(-1) % N:=by
   by_cases c:L.a % N=1 % N\/L.a % N=(-1) % N
   ·exact c
   ·simp [isIn,hc,c] at h
  rcases ha with ha|ha
  ·exact⟨1,by simp,hc,(turn 1 rfl hc).mp ha⟩
  ·exact⟨-1,by simp,hc,(turn (-1) rfl hc).mp ha⟩
 ·rintro⟨g,hg,hc,hd⟩;simp only [Fe,FH,or_false] at hg
  have ga:L.a % N=1 % N\/L.a % N=(-1) % N:=by
   rcases hg with rfl|rfl
   ·exact .inl ((turn 1 rfl hc).mpr hd)
   ·exact .inr ((turn (-1) rfl hc).mpr hd)
  simp [isIn,hc,ga]
theorem vY (G:Good N fs) (hu:∀u v:Int,u * v % N=1 % N->∃g∈fs,v % N=g % N) {m n:Mx} (hm:m.det=1) (hn:n.det=1):isIn 1 N (lW m n)=true↔kM N fs false m=kM N fs false n:=by
 rw [qo G,vT G hm hn];have dL:=xE hm hn;generalize lW m n=L at dL ⊢;simp only [Mx.det] at dL
 constructor
 ·intro h
  have hc:L.c % N=0:=by
   by_cases c:L.c % N=0
   ·exact c
   ·simp [isIn,c] at h
  obtain⟨k3,e3⟩:=xf hc;obtain⟨g,hg,e⟩:=hu L.a L.d (cg (k:=L.b * k3) (by grind));exact⟨g,hg,hc,e⟩
 ·rintro⟨g,hg,hc,hd⟩;simp [isIn,hc]
end KR
namespace KR
open PySem L2 L2.L3 K55
def lR (p:Int×Int):D:=.tup [.int p.1,.int p.2]
def b7 (r:di):D:=.tup (r.map lR)
theorem xv (p q:Int×Int):aQ (lR p) (lR q)=decide (p=q):=by
 obtain⟨a,b⟩:=p;obtain⟨c,d⟩:=q;simp only [lR,aQ,bQ,Gi]
 by_cases h:a=c <;> by_cases g:b=d <;> simp [h,g,aQ,bQ]
theorem AS (p q:Int×Int):lS 1 (lR p) (lR q)=sS p q:=by
 obtain⟨a,b⟩:=p;obtain⟨c,d⟩:=q;simp only [lR,lS,kB,sS,aQ]
 by_cases h:a=c
 ·subst h
  by_cases g:b=d
  ·subst g;simp
  ·simp [g]
 ·simp [h]
theorem yz:∀(x y:di),lS 2 (b7 x) (b7 y)=gr x y:=by
 suffices ∀(x y:di),kB (lS 1) (x.map lR) (y.map lR)=gr x y from this
 intro x
 induction x with
 | nil=>intro y;cases y <;> rfl
 | cons p x ih =>
  intro y
  cases y with
  | nil=>rfl
  | cons q y =>
   simp only [Fm,kB,gr,xv,AS,decide_eq_true_eq,ih]
theorem j9:∀(rs:List di) (r:di),oi 2 (b7 r) (rs.map b7)=b7 (jz r rs)
 | [],r=>rfl
 | y :: rs,r=>by
  show oi 2 (if lS 2 (b7 y) (b7 r)=true then b7 y else b7 r) (rs.map b7)=b7 (jz (if gr y r=true then y else r) rs)
  rw [yz]
  by_cases c:gr y r=true
  ·rw [if_pos c,if_pos c];exact j9 rs y
  ·rw [if_neg c,if_neg c];exact j9 rs r
theorem rM (r:di):pY 2 (b7 r):=⟨_,rfl,λe he=>by
 obtain⟨p,_,rfl⟩:=Fj.mp he;refine⟨_,rfl,λx hx=>?_⟩;simp only [Fe,FH,or_false] at hx
 rcases hx with rfl|rfl <;> exact⟨_,rfl⟩⟩
theorem cU {α:Type} {te:TD} {bW:En} {Q:List D->Prop} (c g:α->D):∀(l:List α) (acc:List D),(∀i∈l,∀N:D->Prop,N (g i)->te (bW.set 0 (some (.d (c i)))) N)->acc.length + l.length<=sizeLine->Q (acc ++ l.map g)->comps bU te bW Q (l.map c) acc
 | [],acc,_,_,q=>by simpa [comps] using q
 | x :: l,acc,h,hl,q=>by
  show comps bU te bW Q (c x :: l.map c) acc
  simp only [comps,bU,if_true];refine h x Fc _ ⟨by simp at hl;omega,cU c g l _ (λy hy=>h y (E4 _ hy)) (by simp at hl ⊢;omega) ?_⟩;rw [List.append_assoc];exact q
theorem ic {te:TD} {bW:En} {Q:List D->Prop} (g:Int×Int->D):∀(l:di) (acc:List D),(∀p∈l,∀N:D->Prop,N (g p)->te ((bW.set 0 (some (.d (.int p.1)))).set 1 (some (.d (.int p.2)))) N)->acc.length + l.length<=sizeLine->Q (acc ++ l.map g)->eL bU te bW Q (l.map lR) acc
 | [],acc,_,_,q=>by simpa [eL] using q
 | x :: l,acc,h,hl,q=>by
  show eL bU te bW Q (lR x :: l.map lR) acc
  simp only [eL,bU,if_true];refine⟨_,_,rfl,h x Fc _ ⟨by simp at hl;omega,ic g l _ (λy hy=>h y (E4 _ hy)) (by simp at hl ⊢;omega) ?_⟩⟩;rw [List.append_assoc];exact q
def Bn (x:D) (fs:List Int):Prop:=x=.tup (fs.map D.int)\/x=.lst (fs.map D.int)
def zk (n:Int):Prop:=-(2 ^ 64) < n/\n < 2 ^ 64
def EH (x y z:D) (Q:D->Prop):Prop:=∃(r:di) (fs:List Int) (N:Int),x=b7 r/\Bn y fs/\z=.int N/\0 < N/\fs≠[]/\fs.length<=100/\r.length<=2/\(∀f∈fs,zk f)/\Q (b7 (lm N fs r))
def aK:Fw:=F3 EH
theorem Br {x:D} {fs:List Int} (h:Bn x fs):bA x=some (fs.map D.int):=by
 rcases h with rfl|rfl <;> rfl
def dE:cK:=(bT (az (rV 2) (af (a8 (dR [0,2] (ag 1) bU (az eJ (af (a8 (kg [0,2] (ag 1) bU (c8 (af (aF dm (aF dN (ag 2) (ag 0)) (ag 3)) (af (aF dm (aF dN (ag 2) (ag 1)) (ag 3)) aw))))) aw)))) aw)))
theorem jc:∀ds Q,aK ds Q->ds.length=3:=nh
theorem jR:∀ds (Q:D->Prop),aK ds Q->dE { nx:=λ_=>Q .non,rt:=Q } (aA ["rows","factors","number"] ds):=by
 rintro ds Q ⟨x,y,z,rfl,r,fs,N,rfl,hy,rfl,hN,hf,lf,lr,hs,h⟩;have sz:=Fb
 simp_arith only [dE,bc]
 refine⟨_,Br hy,cU D.int (λf=>b7 (mulR f N r)) fs [] (λf hfm Z hZ=>?_) (by simp;omega) ?_⟩
 ·obtain⟨s1,s2⟩:=hs f hfm
  simp_arith only [bc,bA,b7]
  refine ic (λp=>lR (f * p.1 % N,f * p.2 % N)) r [] (λp hp Z hZ=>?_) (by simp;omega) ?_
  ·simp_arith only [Int.fmod_eq_emod_of_nonneg _ (Int.le_of_lt hN)]
   exact⟨bV s1 s2,fy _ (by omega),bV s1 s2,fy _ (by omega),hZ⟩
  ·simp_arith only [List.nil_append]
   have e:b7 (mulR f N r)=.tup (r.map λp=>lR (f * p.1 % N,f * p.2 % N)):=by
    unfold b7 mulR;rw [List.map_map];rfl
   rw [e] at hZ;exact hZ
 ·cases fs with
  | nil=>exact absurd rfl hf
  | cons f t =>
   simp only [List.nil_append,Fm];refine⟨by decide,λx hx=>?_,?_⟩
   ·rw [<- Fm (f:=λf=>b7 (mulR f N r))] at hx;obtain⟨g,_,rfl⟩:=Fj.mp hx;exact rM _
   ·have e:t.map (λf=>b7 (mulR f N r))=(t.map λg=>mulR g N r).map b7:=by rw [List.map_map];rfl
    rw [e,j9];exact h
def EB (x:D) (Q:D->Prop):Prop:=∃r:di,x=b7 r/\r.length<=2/\Q (.lst [b7 (tS r),b7 (tR r)])
def bj:Fw:=F1 EB
def fz:cK:=(bT (iF (af (az eJ (af (a8 (kg [] (ag 0) bU (c8 (af (ag 1) (af (pM jE (ag 0)) aw))))) aw)) (af (az eJ (af (a8 (kg [] (ag 0) bU (c8 (af (ag 1) (af (aF A4 (pM jE (ag 0)) (ag 1)) aw))))) aw)) aw))))
theorem lC:∀ds Q,bj ds Q->ds.length=1:=vF
theorem mx:∀ds (Q:D->Prop),bj ds Q->fz { nx:=λ_=>Q .non,rt:=Q } (aA ["rows"] ds):=by
 rintro ds Q ⟨x,rfl,r,rfl,lr,h⟩;have sz:=Fb
 simp_arith only [fz,bc,b7,bA]
 refine ic (λp=>lR (p.2,-p.1)) r [] (λp hp Z hZ=>?_) (by simp;omega) ?_
 ·simp_arith only [and_true];exact hZ
 ·simp_arith only [bc,bA]
  refine ic (λp=>lR (p.2,-p.1 - p.2)) r [] (λp hp Z hZ=>?_) (by simp;omega) ?_
  ·simp_arith only [and_true];exact hZ
  ·simp_arith only [List.nil_append]
   have e1:b7 (tS r)=.tup (r.map λp=>lR (p.2,-p.1)):=by unfold b7 tS;rw [List.map_map];rfl
   have e2:b7 (tR r)=.tup (r.map λp=>lR (p.2,-p.1 - p.2)):=by unfold b7 tR;rw [List.map_map];rfl
   rw [e1,e2] at h;exact h
structure RR where
 r:di
 deriving DecidableEq
def cR (p:RR):D:=b7 p.r
theorem rH:∀x y:di,bQ (x.map lR) (y.map lR)=decide (x=y)
 | [],[]=>rfl
 | [],_ :: _=>by simp [bQ]
 | _ :: _,[]=>by simp [bQ]
 | p :: x,q :: y=>by
  simp only [Fm,bQ,xv,rH x y]
  by_cases h:p=q <;> by_cases g:x=y <;> simp [h,g]
theorem AZ:Code cR:=⟨λp q=>by
 obtain⟨p⟩:=p;obtain⟨q⟩:=q;show aQ (.tup (p.map lR)) (.tup (q.map lR))=_
 rw [aQ,rH,Bool.eq_iff_iff,decide_eq_true_eq,decide_eq_true_eq]
 exact⟨λh=>by rw [h],λh=>RR.mk.inj h⟩,λp=>by
 have:=gS 2 _ (rM p.r);show dep (b7 p.r)<=8
 omega⟩
theorem BQ (p:RR):aP (cR p)=true:=by
 obtain⟨l⟩:=p;show fI (l.map lR)=true
 induction l with
 | nil=>rfl
 | cons x l ih=>show (true && fI (l.map lR))=true;rw [ih];rfl
def dJ (N:Nat):List Int:=((List.range N).filter λ(i:Nat)=>decide (Int.gcd (i:Int) (N:Int)=1)).map λ(i:Nat)=>(i:Int)
def aZ (k:Str) (N:Nat):List Int:=if k = "upper" then dJ N else [1,-1]
def hW (N:Nat) (fs:List Int) (p:RR):RR:=⟨lm N fs (tS p.r)⟩
def gw (N:Nat) (fs:List Int) (p:RR):RR:=⟨lm N fs (tR p.r)⟩
def fR (N:Nat) (fs:List Int) (pl:Bool):RR:=⟨kM N fs pl m1⟩
def inR (p:RR):Prop:=p.r.length<=2
theorem sQ {N:Int} {fs:List Int} (h:fs≠[]) (r:di):(lm N fs r).length=r.length:=by
 obtain⟨f,_,e⟩:=pE (N:=N) (r:=r) h;rw [e];simp [mulR]
theorem An {N:Nat} {fs:List Int} (h:fs≠[]) (p:RR) (hp:inR p):inR (hW N fs p)/\inR (gw N fs p):=by
 have hp':p.r.length<=2:=hp;refine⟨?_,?_⟩
 ·show (lm _ _ _).length<=2;rw [sQ h];simpa [tS] using hp'
 ·show (lm _ _ _).length<=2;rw [sQ h];simpa [tR] using hp'
structure Kd (k:Str) (N:Nat):Prop where
 kind:k = "plain"\/k = "upper"\/k = "first"
 n1:1<=N
 n24:N<=24
def gn (k:Str):Bool:=decide (k = "plain")
theorem vM {k:Str} {N:Nat} (h:Kd k N):aZ k N≠[]:=by
 unfold aZ
 split
 ·have h1:=h.n1;have h2:=h.n24;have:∀n:Fin 25,1<=n.val->dJ n.val≠[]:=by decide +kernel
  exact this ⟨N,by omega⟩ h1
 ·simp
theorem vh {k:Str} {N:Nat} (h:Kd k N):(aZ k N).length<=100/\∀f∈aZ k N,zk f:=by
 unfold aZ
 split
 ·have h2:=h.n24;have:∀n:Fin 25,(dJ n.val).length<=100/\∀f∈dJ n.val,-(2 ^ 64) < f/\f < 2 ^ 64:=by decide +kernel
  exact this ⟨N,by omega⟩
 ·refine⟨by simp,λf hf=>?_⟩;simp only [Fe,FH,or_false] at hf;rcases hf with rfl|rfl <;> exact⟨by decide,by decide⟩
def Ez (x y:D) (Q:D->Prop) (R:Str->Prop):Prop:=∃(k:Str) (N:Nat),x=.str k/\y=.int (N:Int)/\Kd k N/\(∀n,Over (hW N (aZ k N)) (gw N (aZ k N)) (fR N (aZ k N) (gn k)) n->R "TooMany") /\
 ∀n,Done (hW N (aZ k N)) (gw N (aZ k N)) (fR N (aZ k N) (gn k)) n->Q (eh (dq (aG (hW N (aZ k N)) (gw N (aZ k N)) (fR N (aZ k N) (gn k)) n) (hW N (aZ k N))) (dq (aG (hW N (aZ k N)) (gw N (aZ k N)) (fR N (aZ k N) (gn k)) n) (gw N (aZ k N))))
def cV:ug:=G2 Ez
theorem kH {te:TD} {tt:TB} {bW:En} {Q:List D->Prop} (N:Nat):∀(l:List Nat) (acc:List D),(∀i∈l,∀Z:Bool->Prop,Z (decide (Int.gcd (i:Int) (N:Int)=1))->tt (bW.set 0 (some (.d (.int (i:Int))))) Z)->(∀i∈l,∀Z:D->Prop,Z (.int (i:Int))->te (bW.set 0 (some (.d (.int (i:Int))))) Z)->acc.length + l.length<=sizeLine ->
  Q (acc ++ ((l.filter λ(i:Nat)=>decide (Int.gcd (i:Int) (N:Int)=1)).map λ(i:Nat)=>(i:Int)).map D.int)->comps tt te bW Q (l.map λ(i:Nat)=>D.int (i:Int)) acc
 | [],acc,_,_,_,q=>by simpa [comps] using q
 | x :: l,acc,h1,h2,hl,q=>by
  show comps tt te bW Q (.int (x:Int) :: l.map λ(i:Nat)=>D.int (i:Int)) acc
  simp only [comps];refine h1 x Fc _ ?_
  by_cases c:Int.gcd (x:Int) (N:Int)=1
  ·rw [decide_eq_true c,if_pos rfl];refine h2 x Fc _ ⟨by simp at hl;omega,kH N l _ (λy hy=>h1 y (E4 _ hy)) (λy hy=>h2 y (E4 _ hy)) (by simp at hl ⊢;omega) ?_⟩;rw [List.filter_cons_of_pos (by simpa using c)] at q
   simpa using q
  ·rw [decide_eq_false c,if_neg (by simp)];refine kH N l _ (λy hy=>h1 y (E4 _ hy)) (λy hy=>h2 y (E4 _ hy)) (by simp at hl ⊢;omega) ?_;rw [List.filter_cons_of_neg (by simpa using c)] at q;exact q
def fq:pS:=(gu (pW (bg 3 (zB (aL (aF iG (ag 0) (cC (.str "plain")))) (c8 (af (c8 (af (cC (.int 1)) (af (cC (.int 0)) aw))) (af (c8 (af (cC (.int 0)) (af (cC (.int 1)) aw))) aw))) (c8 (af (c8 (af (cC (.int 0)) (af (cC (.int 1)) aw))) aw))))) (pC 4 cf (az aK (af (ag 3) (af (ag 2) (af (ag 1) aw)))) [1,2] 1 ["here","number","factors"] (a8 (dR [1,2] (az bj (af (ag 0) aw)) bU (az aK (af (ag 0) (af (ag 2) (af (ag 1) aw))))))))
def gN:pS:=(gu (pW (bg 2 (c8 (af (cC (.int 1)) (af (pM jE (cC (.int 1))) aw))))) (gu (pW (jj (aL (aF iG (ag 0) (cC (.str "upper")))) (bg 2 (a8 (dk jy [1] (af (ag 1) aw) (aL (aF iG (az cb (af (ag 0) (af (ag 1) aw))) (cC (.int 1)))) (ag 0)))) bC)) fq))
theorem nU:∀ds (Q:D->Prop) (R:Str->Prop),cV ds Q R->ds.length=2:=CT
theorem ql:∀ds (Q:D->Prop) (R:Str->Prop),cV ds Q R->gN { nx:=λ_=>Q .non,rt:=Q,xc:=R } (aA ["kind","number","factors","rows","behind"] ds):=by
 rintro ds Q R ⟨x,y,rfl,k,N,rfl,rfl,kd,ho,hd⟩;have sz:=Fb;have fne:=vM kd;obtain⟨fl,fsm⟩:=vh kd;have n1:=kd.n1;have n24:=kd.n24
 have tail:∀(fd:D),Bn fd (aZ k N)->fq { nx:=λ_=>Q .non,rt:=Q,xc:=R } [some (.d (.str k)),some (.d (.int (N:Int))),some (.d fd),none,none]:=by
  intro fd hs
  have run:∀(p:RR),inR p->∀Q':D->Prop,Q' (.lst [cR (hW N (aZ k N) p),cR (gw N (aZ k N) p)])->(a8 (dR [1,2] (az bj (af (ag 0) aw)) bU (az aK (af (ag 0) (af (ag 2) (af (ag 1) aw)))))) [some (.d (cR p)),some (.d (.int (N:Int))),some (.d fd)] Q':=by
   intro p hp Q' hq
   simp_arith only [bj,vH,bc]
   refine⟨p.r,rfl,hp,_,rfl,?_⟩;have e:[b7 (tS p.r),b7 (tR p.r)]=[tS p.r,tR p.r].map b7:=rfl;rw [e];refine cU b7 (λr=>b7 (lm N (aZ k N) r)) [tS p.r,tR p.r] [] (λr hr Z hZ=>?_) (by simp;omega) ?_
   ·simp_arith only [aK,qF]
    refine⟨r,aZ k N,N,rfl,hs,rfl,by omega,fne,fl,?_,fsm,hZ⟩;have hp':p.r.length<=2:=hp;simp only [Fe,FH,or_false] at hr;rcases hr with rfl|rfl
    ·simpa [tS] using hp'
    ·simpa [tR] using hp'
   ·simp_arith only [and_true]
    exact hq
  have fin:∀r:di,r=lF (gn k) m1->∀Pf0,aK [b7 r,fd,.int (N:Int)] λd=>∃caps,q0 [some (.d (.str k)),some (.d (.int (N:Int))),some (.d fd),some (.d (b7 r)),some (.d (.obj Pf0))] [1,2]=some caps/\∀Pf,cf (λds Q=>ds.length=1/\(a8 (dR [1,2] (az bj (af (ag 0) aw)) bU (az aK (af (ag 0) (af (ag 2) (af (ag 1) aw)))))) (aA ["here","number","factors"] (ds ++ caps)) Q) Pf [d,.obj Pf] Q R:=by
   rintro r rfl Pf0;have lr:(lF (gn k) m1).length<=2:=by unfold lF;split <;> simp
   refine⟨_,_,_,rfl,_,_,_,rfl,hs,rfl,by omega,fne,fl,lr,fsm,_,rfl,λPf=>⟨RR,inferInstance,cR,hW N (aZ k N),gw N (aZ k N),fR N (aZ k N) (gn k),inR,rfl,AZ,BQ,?_,An fne,λp hp Q' hq=>⟨rfl,?_⟩,ho,hd⟩⟩
   ·show (lm _ _ _).length<=2
    rw [sQ fne];exact lr
   ·simp only [aA,Fm,List.map_nil,List.cons_append,List.nil_append,FA,FN,Nat.reduceAdd,Nat.sub_self,List.replicate_zero,Fz];exact run p hp Q' hq
  simp_arith only [fq,pC]
  by_cases c:k = "plain"
  ·rw [if_pos (by simpa using c)];exact fin _ (by unfold gn;rw [decide_eq_true c])
  ·rw [if_neg (by simpa using c)];exact fin _ (by unfold gn;rw [decide_eq_false c])
 simp_arith only [gN,cb,iK,A6]
 by_cases c:k = "upper"
 ·rw [if_pos (by simpa using c)];refine⟨by omega,by omega,?_⟩
  have e:aX 0 (N:Int).toNat=(List.range N).map λ(i:Nat)=>D.int (i:Int):=by
   unfold aX;rw [Int.toNat_natCast];refine List.map_congr_left λi _=>?_;rw [Int.zero_add]
  rw [e];refine kH N (List.range N) [] (λi hi Z hZ=>?_) (λi hi Z hZ=>?_) (by simp;omega) ?_
  ·simp_arith only [bc,iK,A6]
   refine⟨_,_,rfl,rfl,?_⟩
   have e1:decide (((Int.gcd (i:Int) (N:Int):Nat):Int)=1)=decide (Int.gcd (i:Int) (N:Int)=1):=by
    rw [Bool.eq_iff_iff,decide_eq_true_eq,decide_eq_true_eq];omega
   rw [<- e1] at hZ;exact hZ
  ·simp_arith only [bc]
   exact hZ
  ·exact tail _ (.inr (by unfold aZ;rw [if_pos c];rfl))
 ·rw [if_neg (by simpa using c)];exact tail _ (.inl (by unfold aZ;rw [if_neg c];rfl))
theorem yX {N:Int} (h:0 < N):Good N [1,-1]:=by
 refine⟨h,⟨1,by simp,rfl⟩,λf hf g hg=>?_,λf hf=>?_,⟨-1,by simp,rfl⟩⟩
 ·simp only [Fe,FH,or_false] at hf hg;rcases hf with rfl|rfl <;> rcases hg with rfl|rfl
  ·exact⟨1,by simp,rfl⟩
  ·exact⟨-1,by simp,rfl⟩
  ·exact⟨-1,by simp,rfl⟩
  ·exact⟨1,by simp,rfl⟩
 ·simp only [Fe,FH,or_false] at hf;rcases hf with rfl|rfl
  ·exact⟨1,by simp,rfl⟩
  ·exact⟨-1,by simp,rfl⟩
theorem lP {N:Nat} (hN:1<=N) {u v:Int} (h:u * v % N=1 % N):∃g∈dJ N,v % N=g % N:=by
 have n0:(0:Int) < N:=by omega
 have h0:=Int.emod_nonneg v (Int.ne_of_gt n0);have h1:=Int.emod_lt_of_pos v n0;refine⟨v % N,?_,(Int.emod_emod _ _).symm⟩;unfold dJ;refine Fj.mpr ⟨(v % N).toNat,List.mem_filter.mpr ⟨FG.mpr (by omega),?_⟩,by omega⟩;rw [decide_eq_true_eq,Int.toNat_of_nonneg h0];obtain⟨k,e⟩:=du h;have g1:((Int.gcd (v % N) N:Nat):Int) ∣ v % N:=Int.gcd_dvd_left ..;have g2:((Int.gcd (v % N) N:Nat):Int) ∣ (N:Int):=Int.gcd_dvd_right ..
 obtain⟨x,hx⟩:=g1;obtain⟨y,hy⟩:=g2;have hv:=Int.emod_add_mul_ediv v N
 have:((Int.gcd (v % N) N:Nat):Int) ∣ 1:=⟨u * (x + y * (v / N)) - y * k,by
  generalize ((Int.gcd (v % N) N:Nat):Int)=g at hx hy;rw [hx] at hv
  grind⟩
 have:=Int.eq_one_of_dvd_one (by omega) this;omega
theorem yq {N:Nat} {g:Int} (h:g∈dJ N):∃i:Nat,g=i/\i < N/\Int.gcd (i:Int) N=1:=by
 obtain⟨i,hi,rfl⟩:=Fj.mp h;obtain⟨h1,h2⟩:=List.mem_filter.mp hi;exact⟨i,rfl,FG.mp h1,by simpa using h2⟩
theorem nC {N:Nat} (hN:1<=N) (h24:N<=24) {f:Int} (h:f∈dJ N):∃g∈dJ N,g * f % N=1 % N:=by
 have:∀n:Fin 25,(dJ n.val).all (λf=>(dJ n.val).any λg=>decide (g * f % (n.val:Int)=1 % (n.val:Int)))=true:=by decide +kernel
 have:=List.all_eq_true.mp (this ⟨N,by omega⟩) f h;obtain⟨g,hg,e⟩:=List.any_eq_true.mp this;exact⟨g,hg,by simpa using e⟩
theorem tm {N:Nat} (hN:1<=N) (h24:N<=24):Good N (dJ N):=by
 refine⟨by omega,?_,λf hf g hg=>?_,λf hf=>nC hN h24 hf,?_⟩
 ·obtain⟨g,hg,e⟩:=lP hN (u:=1) (v:=1) (N:=N) rfl;exact⟨g,hg,e.symm⟩
 ·obtain⟨i,hi,ei⟩:=nC hN h24 hf;obtain⟨j,hj,ej⟩:=nC hN h24 hg
  obtain⟨k,hk,e⟩:=lP hN (u:=i * j) (v:=f * g) (N:=N) (by
   obtain⟨a,ea⟩:=du ei;obtain⟨b,eb⟩:=du ej
   exact cg (k:=a * (j * g) + b) (by grind))
  exact⟨k,hk,e.symm⟩
 ·obtain⟨g,hg,e⟩:=lP hN (u:=-1) (v:=-1) (N:=N) rfl;exact⟨g,hg,e.symm⟩
theorem iA {k:Str} {N:Nat} (kd:Kd k N):Good N (aZ k N):=by
 unfold aZ
 split
 ·exact tm kd.n1 kd.n24
 ·exact yX (by have:=kd.n1;omega)
def kN (k:Str):Nat:=if k = "plain" then 0 else if k = "upper" then 1 else 2
theorem AB {k:Str} {N:Nat} (kd:Kd k N) {m n:Mx} (hm:m.det=1) (hn:n.det=1):isIn (kN k) N (lW m n)=true↔kM N (aZ k N) (gn k) m=kM N (aZ k N) (gn k) n:=by
 have G:=iA kd;rcases kd.kind with h|h|h
 ·have e1:kN k=0:=by rw [h];rfl
  have e2:gn k=true:=by rw [h];rfl
  have e3:aZ k N=[1,-1]:=by rw [h];rfl
  rw [e3] at G;rw [e1,e2,e3];exact xi G hm hn
 ·have e1:kN k=1:=by rw [h];rfl
  have e2:gn k=false:=by rw [h];rfl
  have e3:aZ k N=dJ N:=by rw [h];rfl
  rw [e3] at G;rw [e1,e2,e3];exact vY G (λu v=>lP kd.n1) hm hn
 ·have e1:kN k=2:=by rw [h];rfl
  have e2:gn k=false:=by rw [h];rfl
  have e3:aZ k N=[1,-1]:=by rw [h];rfl
  rw [e3] at G;rw [e1,e2,e3];exact vS G hm hn
def BL (N:Nat) (fs:List Int) (pl:Bool) (p:RR):Prop:=∃m:Mx,p=⟨kM N fs pl m⟩
section
variable {k:Str} {N n:Nat} {E F:List Nat} {met:List RR}
theorem pV (kd:Kd k N) (p:RR) (h:BL N (aZ k N) (gn k) p):BL N (aZ k N) (gn k) (hW N (aZ k N) p)/\BL N (aZ k N) (gn k) (gw N (aZ k N) p):=by
 obtain⟨m,rfl⟩:=h;exact⟨⟨m.mul mS,congrArg RR.mk (wM (iA kd) _ m)⟩,⟨m.mul mR,congrArg RR.mk (ve (iA kd) _ m)⟩⟩
abbrev x8 (k:Str) (N:Nat) (E F:List Nat) (met:List RR):Prop:=Gm (hW N (aZ k N)) (gw N (aZ k N)) (fR N (aZ k N) (gn k)) (BL N (aZ k N) (gn k)) E F met
theorem EM (kd:Kd k N) (h:Done (hW N (aZ k N)) (gw N (aZ k N)) (fR N (aZ k N) (gn k)) n):x8 k N (dq (aG (hW N (aZ k N)) (gw N (aZ k N)) (fR N (aZ k N) (gn k)) n) (hW N (aZ k N))) (dq (aG (hW N (aZ k N)) (gw N (aZ k N)) (fR N (aZ k N) (gn k)) n) (gw N (aZ k N))) (aG (hW N (aZ k N)) (gw N (aZ k N)) (fR N (aZ k N) (gn k)) n) :=
 Gm.of ⟨m1,rfl⟩ (pV kd) h
theorem x8.oG (kd:Kd k N) (m:x8 k N E F met):yT E F:=by
 have G:=iA kd;rw [m.eE,m.eF];refine m.full.oG (λp hp=>?_) λp hp=>?_
 ·obtain⟨x,rfl⟩:=hp;show RR.mk (lm _ _ (tS (lm _ _ (tS _))))=_
  rw [wM G,wM G,CY G]
 ·obtain⟨x,rfl⟩:=hp;show RR.mk (lm _ _ (tR (lm _ _ (tR (lm _ _ (tR _))))))=_
  rw [ve G,ve G,ve G,BC]
def nT (k:Str) (N:Nat) (m:Mx):RR:=⟨kM N (aZ k N) (gn k) m⟩
theorem x8.led (kd:Kd k N) (m:x8 k N E F met):∀w:List Nat,(∀c∈w,isLet c)->nT k N (mW w)∈met/\lw E F w 0=met.idxOf (nT k N (mW w)):=by
 have G:=iA kd;have S:∀x:Mx,hW N (aZ k N) (nT k N x)=nT k N (x.mul mS):=λx=>congrArg RR.mk (wM G _ x);have R:∀x:Mx,gw N (aZ k N) (nT k N x)=nT k N (x.mul mR):=λx=>congrArg RR.mk (ve G _ x);have Q:∀x:Mx,nT k N (x.mul mQ)=gw N (aZ k N) (gw N (aZ k N) (nT k N x)):=λx=>by rw [R,R];exact congrArg RR.mk (DB G _ x)
 refine snoc_ind (P:=λw=>(∀c∈w,isLet c)->nT k N (mW w)∈met/\lw E F w 0=met.idxOf (nT k N (mW w))) (λ_=>?_) λr c ih hl=>?_
 ·exact⟨m.Bg,m.z.symm⟩
 ·obtain⟨h1,h2⟩:=ih λc hc=>hl c (FO _ hc);have hc:=hl c (by simp);rw [o8,h2,lH];have c1:=m.full.cl _ h1;rcases hc with rfl|rfl|rfl
  ·rw [show mL 115=mS from rfl,<- S];exact⟨c1.1,m.sE h1⟩
  ·rw [show mL 114=mR from rfl,<- R];exact⟨c1.2,m.sF h1⟩
  ·rw [show mL 113=mQ from rfl,Q];refine⟨(m.full.cl _ c1.2).2,?_⟩;show bH F (bH F (met.idxOf (nT k N (mW r))))=_
   rw [m.sF h1,m.sF c1.2]
theorem x8.same (kd:Kd k N) (m:x8 k N E F met) {u w:List Nat} (hu:∀c∈u,isLet c) (hw:∀c∈w,isLet c):isIn (kN k) N (lW (mW u) (mW w))=true↔lw E F u 0=lw E F w 0:=by
 rw [AB kd (zJ u) (zJ w)];obtain⟨a1,a2⟩:=m.led kd u hu;obtain⟨b1,b2⟩:=m.led kd w hw;rw [a2,b2];exact⟨λh=>by unfold nT;rw [h],λh=>RR.mk.inj (m.inj a1 b1 h)⟩
end
theorem zO.any {kvs:List (D×D)} {ks:List Nat} {W:Nat->List Nat} (m:zO kvs ks W) (q:Nat):(kvs.any λkv=>aQ kv.1 (.int (q:Int)))=decide (q∈ks):=by
 rw [nj,m.get]
 by_cases c:q∈ks
 ·rw [if_pos c,decide_eq_true c];rfl
 ·rw [if_neg c,decide_eq_false c];rfl
def mD (N:Nat) (m:Mx):D:=.tup [.int (m.a % N),.int (m.b % N),.int (m.c % N),.int (m.d % N)]
def r4 (w x y z:Int) (N:Nat):D:=.tup [.int (w % N),.int (x % N),.int (y % N),.int (z % N)]
structure uh (N:Nat) (w x y z:Int) (m:Mx):Prop where
 a:w % N=m.a % N
 b:x % N=m.b % N
 c:y % N=m.c % N
 d:z % N=m.d % N
theorem uh.mul {N:Nat} {w x y z:Int} {m:Mx} (h:uh N w x y z m) {e f g i:Int} {n:Mx} (k:uh N e f g i n):uh N (w * e + x * g) (w * f + x * i) (y * e + z * g) (y * f + z * i) (m.mul n):=by
 have two:∀{p q r s p' q' r' s':Int},p % N=p' % N->q % N=q' % N->r % N=r' % N->s % N=s' % N->(p * q + r * s) % N=(p' * q' + r' * s') % N:=λ{p q r s p' q' r' s'} h1 h2 h3 h4=>by
  obtain⟨k1,e1⟩:=du h1;obtain⟨k2,e2⟩:=du h2;obtain⟨k3,e3⟩:=du h3;obtain⟨k4,e4⟩:=du h4;exact cg (k:=p' * k2 + k1 * q' + N * k1 * k2 + r' * k4 + k3 * s' + N * k3 * k4) (by subst e1 e2 e3 e4;grind)
 exact⟨two h.a k.a h.b k.c,two h.a k.b h.b k.d,two h.c k.a h.d k.c,two h.c k.b h.d k.d⟩
theorem uh.mod {N:Nat} {w x y z:Int} {m:Mx} (h:uh N w x y z m):uh N (w % N) (x % N) (y % N) (z % N) m:=⟨by rw [Int.emod_emod];exact h.a,by rw [Int.emod_emod];exact h.b,by rw [Int.emod_emod];exact h.c,by rw [Int.emod_emod];exact h.d⟩
theorem uh.refl {N:Nat} (m:Mx):uh N m.a m.b m.c m.d m:=⟨rfl,rfl,rfl,rfl⟩
theorem uh.eq {N:Nat} {w x y z:Int} {m:Mx} (h:uh N w x y z m):r4 w x y z N=mD N m:=by
 unfold r4 mD;rw [h.a,h.b,h.c,h.d]
theorem lO {N:Nat} (h1:1<=N) (h2:N<=24) (x:Int):zk (x % N):=by
 have:=Int.emod_nonneg x (show (N:Int)≠0 by omega);have:=Int.emod_lt_of_pos x (show (0:Int) < N by omega);exact⟨by omega,by omega⟩
def BD (x y:D) (Q:D->Prop):Prop:=∃(w:List Nat) (N:Nat),x=strN w/\y=.int (N:Int)/\(∀c∈w,isLet c)/\1<=N/\N<=24/\w.length<=1000000/\Q (mD N (mW w))
def a7:Fw:=F2 BD
theorem vw {N:Nat} (hN:1<=N) {bW:En} {Q:List D->Prop} (l:List Int) (he:bW=[none,some (.d (.int (N:Int)))]) (hl:l.length<=1000) (h:Q (l.map λx=>.int (x % N))):comps bU (aF dm (ag 0) (ag 1)) bW Q (l.map D.int) []:=by
 have sz:=Fb;refine cU D.int (λx=>.int (x % N)) l [] (λx hx Z hZ=>?_) (by simp;omega) (by simpa using h);subst he
 simp_arith only [Int.fmod_eq_emod_of_nonneg _ (show (0:Int)<=N by omega)]
 exact⟨fy _ (by omega),hZ⟩
def gg:cK:=(aN (iD (c8 (af (cC (.int 1)) (af (cC (.int 0)) (af (cC (.int 0)) (af (cC (.int 1)) aw))))) (j4 4 (bf (aR 2) (bf (aR 3) (bf (aR 4) (bf (aR 5) iE)))))) (aN (jI (ag 0) (aR 6) (aN (iD (aF Dc (kR [.inr "s",.inr "r",.inr "q"] (af (c8 (af (cC (.int 0)) (af (pM jE (cC (.int 1))) (af (cC (.int 1)) (af (cC (.int 0)) aw))))) (af (c8 (af (cC (.int 0)) (af (pM jE (cC (.int 1))) (af (cC (.int 1)) (af (pM jE (cC (.int 1))) aw))))) (af (c8 (af (cC (.int 1)) (af (pM jE (cC (.int 1))) (af (cC (.int 1)) (af (cC (.int 0)) aw))))) aw)))) (ag 6)) (j4 4 (bf (aR 7) (bf (aR 8) (bf (aR 9) (bf (aR 10) iE)))))) (iD (a8 (dR [1] (c8 (af (aF bw (aF dN (ag 2) (ag 7)) (aF dN (ag 3) (ag 9))) (af (aF bw (aF dN (ag 2) (ag 8)) (aF dN (ag 3) (ag 10))) (af (aF bw (aF dN (ag 4) (ag 7)) (aF dN (ag 5) (ag 9))) (af (aF bw (aF dN (ag 4) (ag 8)) (aF dN (ag 5) (ag 10))) aw))))) bU (aF dm (ag 0) (ag 1)))) (rQ 4 (bf (aR 2) (bf (aR 3) (bf (aR 4) (bf (aR 5) iE)))))))) (bT (c8 (af (aF dm (ag 2) (ag 1)) (af (aF dm (ag 3) (ag 1)) (af (aF dm (ag 4) (ag 1)) (af (aF dm (ag 5) (ag 1)) aw))))))))
theorem mn:∀ds Q,a7 ds Q->ds.length=2:=kJ
theorem oh:∀ds (Q:D->Prop),a7 ds Q->gg { nx:=λ_=>Q .non,rt:=Q } (aA ["_law_word","_law_number","_law_a","_law_b","_law_c","_law_d","_law_letter","_law_e","_law_f","_law_g","_law_h"] ds):=by
 rintro ds Q ⟨x,y,rfl,w,N,rfl,rfl,hw,n1,n24,lw,h⟩;have sz:=Fb
 simp_arith only [gg,strN,bA]
 refine b9 (λi e=>∃(x1 x2 x3 x4:Int) (k6 k7 k8 k9 k10:Option Lo),e=[some (.d (strN w)),some (.d (.int (N:Int))),some (.d (.int x1)),some (.d (.int x2)),some (.d (.int x3)),some (.d (.int x4)),k6,k7,k8,k9,k10]/\uh N x1 x2 x3 x4 (mW (w.take i))/\zk x1/\zk x2/\zk x3/\zk x4) ?_ ?_ ⟨1,0,0,1,_,_,_,_,_,rfl,⟨rfl,rfl,rfl,rfl⟩,⟨by decide,by decide⟩,⟨by decide,by decide⟩,⟨by decide,by decide⟩,⟨by decide,by decide⟩⟩
 ·rintro i x' env Z hx ⟨x1,x2,x3,x4,k6,k7,k8,k9,k10,rfl,c4,s1,s2,s3,s4⟩ hZ;unfold dZ at hx;rw [E2] at hx
  cases hc:w[i]? with
  | none=>rw [show (⟨w.toArray⟩:Str).cps.toList[i]?=w[i]? by simp,hc] at hx;cases hx
  | some c =>
   rw [show (⟨w.toArray⟩:Str).cps.toList[i]?=w[i]? by simp,hc] at hx;cases hx;have hl:=hw c (E6 hc);have ew:mW (w.take (i + 1))=(mW (w.take i)).mul (mL c):=by rw [Gd,hc];exact lH _ _
   have go:∀e f g j:Int,uh N e f g j (mL c)->(aN (iD (a8 (dR [1] (c8 (af (aF bw (aF dN (ag 2) (ag 7)) (aF dN (ag 3) (ag 9))) (af (aF bw (aF dN (ag 2) (ag 8)) (aF dN (ag 3) (ag 10))) (af (aF bw (aF dN (ag 4) (ag 7)) (aF dN (ag 5) (ag 9))) (af (aF bw (aF dN (ag 4) (ag 8)) (aF dN (ag 5) (ag 10))) aw))))) bU (aF dm (ag 0) (ag 1)))) (rQ 4 (bf (aR 2) (bf (aR 3) (bf (aR 4) (bf (aR 5) iE)))))) bC) { nx:=Z,rt:=Q } [some (.d (strN w)),some (.d (.int (N:Int))),some (.d (.int x1)),some (.d (.int x2)),some (.d (.int x3)),some (.d (.int x4)),some (.d (.str ⟨#[c]⟩)),some (.d (.int e)),some (.d (.int f)),some (.d (.int g)),some (.d (.int j))]:=by
    intro e f g j cm
    simp_arith only [bc]
    refine⟨bV s1.1 s1.2,bV s2.1 s2.2,bV s1.1 s1.2,bV s2.1 s2.2,bV s3.1 s3.2,bV s4.1 s4.2,bV s3.1 s3.2,bV s4.1 s4.2,?_⟩;refine vw n1 [x1 * e + x2 * g,x1 * f + x2 * j,x3 * e + x4 * g,x3 * f + x4 * j] rfl (by simp) ?_
    simp_arith only [oN]
    exact hZ _ ⟨_,_,_,_,_,_,_,_,_,rfl,by rw [ew];exact (c4.mul cm).mod,lO n1 n24 _,lO n1 n24 _,lO n1 n24 _,lO n1 n24 _⟩
   simp_arith only [Dc,yI]
   have ml:mL c=mS\/mL c=mR\/mL c=mQ:=by rcases hl with rfl|rfl|rfl <;> simp [mL]
   have e:rD [Sum.inr (Str.ofString "s"),Sum.inr (Str.ofString "r"),Sum.inr (Str.ofString "q")] [D.tup [D.int 0,D.int (-1),D.int 1,D.int 0],D.tup [D.int 0,D.int (-1),D.int 1,D.int (-1)],D.tup [D.int 1,D.int (-1),D.int 1,D.int 0]] (Sum.inr ⟨#[c]⟩)=some (.tup [.int (mL c).a,.int (mL c).b,.int (mL c).c,.int (mL c).d]):=by
    rcases hl with rfl|rfl|rfl <;> rfl
   refine⟨_,_,rfl,e,_,rfl,rfl,?_⟩
   simp_arith only [oN]
   have g:=go _ _ _ _ (uh.refl (mL c))
   simp_arith only [and_true] at g
   exact g
 ·rintro env ⟨x1,x2,x3,x4,k6,k7,k8,k9,k10,rfl,c4,s1,s2,s3,s4⟩
  simp_arith only [Int.fmod_eq_emod_of_nonneg _ (show (0:Int)<=N by omega)]
  refine⟨fy _ (by omega),fy _ (by omega),fy _ (by omega),fy _ (by omega),?_⟩;have e:=c4.eq;unfold r4 at e;rw [e,Ge (by simp [dZ])];exact h
def Cq (x y z:D) (Q:D->Prop):Prop:=∃(k:Str) (m:Mx) (N:Nat),x=.str k/\y=mD N m/\z=.int (N:Int)/\Kd k N/\Q (.bl (isIn (kN k) N m))
def cT:Fw:=F3 Cq
def gC:cK:=(aN (iD (ag 1) (j4 4 (bf (aR 3) (bf (aR 4) (bf (aR 5) (bf (aR 6) iE)))))) (aN (bg 7 (aF dm (cC (.int 1)) (ag 2))) (aN (bg 8 (aF dm (aF A4 (cC (.int 0)) (cC (.int 1))) (ag 2))) (aN (jj (aL (aF rJ (ag 5) (cC (.int 0)))) (bT (cC (.bl false))) bC) (aN (jj (aL (aF iG (ag 0) (cC (.str "upper")))) (bT (cC (.bl true))) bC) (aN (jj (aL (aF (yg true) (ag 3) (c8 (af (ag 7) (af (ag 8) aw))))) (bT (cC (.bl false))) bC) (bT (qL (aF iG (ag 0) (cC (.str "first"))) (iQ (aF iG (ag 4) (cC (.int 0))) (aF iG (ag 6) (ag 3)))))))))))
theorem nY:∀ds Q,cT ds Q->ds.length=3:=nh
theorem p5:∀ds (Q:D->Prop),cT ds Q->gC { nx:=λ_=>Q .non,rt:=Q } (aA ["_law_kind","_law_rests_here","_law_number","_law_a","_law_b","_law_c","_law_d","_law_one","_law_less"] ds):=by
 rintro ds Q ⟨x,y,z,rfl,k,m,N,rfl,rfl,rfl,kd,h⟩;have n1:=kd.n1
 simp_arith only [gC,mD,yg,BK,Int.fmod_eq_emod_of_nonneg _ (show (0:Int)<=N by omega)]
 refine⟨fy _ (by omega),fy _ (by omega),?_⟩
 by_cases c1:m.c % (N:Int)=0
 ·rw [if_neg (by simpa using c1)]
  by_cases c2:k = "upper"
  ·rw [if_pos (by simpa using c2)];have e:isIn (kN k) N m=true:=by rw [c2,show kN "upper" = 1 from rfl];simp [isIn,c1]
   rw [e] at h;exact h
  ·rw [if_neg (by simpa using c2)];refine⟨by simp [bJ,dep],by simp [dep],?_⟩
   have k1:kN k≠1:=by
    unfold kN
    split
    ·simp
    ·simp
   by_cases c3:m.a % (N:Int)=1 % N\/m.a % (N:Int)=(-1) % N
   ·have e1:([D.int (1 % (N:Int)),D.int (-1 % (N:Int))].any λe=>aQ e (D.int (m.a % (N:Int))))=true:=by
     simp only [List.any_cons,List.any_nil,aQ,Bool.or_false,Bool.or_eq_true,decide_eq_true_eq,beq_iff_eq];rcases c3 with c3|c3
     ·exact .inl c3.symm
     ·exact .inr c3.symm
    rw [if_neg (by rw [e1];simp)]
    by_cases c4:k = "first"
    ·rw [if_pos (by simpa using c4)];have e:isIn (kN k) N m=true:=by rw [c4,show kN "first" = 2 from rfl];simp [isIn,c1,c3]
     rw [e] at h;exact h
    ·rw [if_neg (by simpa using c4)]
     have k0:kN k=0:=by
      rcases kd.kind with z|z|z
      ·rw [z];rfl
      ·exact absurd z c2
      ·exact absurd z c4
     by_cases c5:m.b % (N:Int)=0
     ·rw [if_pos c5];have e:isIn (kN k) N m=decide (m.d % (N:Int)=m.a % N):=by rw [k0];simp [isIn,c1,c3,c5]
      rw [e] at h;exact h
     ·rw [if_neg c5];have e:isIn (kN k) N m=false:=by rw [k0];simp [isIn,c1,c3,c5]
      rw [e] at h;exact h
   ·have e1:([D.int (1 % (N:Int)),D.int (-1 % (N:Int))].any λe=>aQ e (D.int (m.a % (N:Int))))=false:=by
     rw [Bool.eq_false_iff];simp only [List.any_cons,List.any_nil,aQ,Bool.or_false,ne_eq,Bool.or_eq_true,decide_eq_true_eq,beq_iff_eq]
     rintro (z|z)
     ·exact c3 (.inl z.symm)
     ·exact c3 (.inr z.symm)
    rw [if_pos e1];have e:isIn (kN k) N m=false:=by simp [isIn,c1,k1,c3]
    rw [e] at h;exact h
 ·rw [if_pos (by simpa using c1)];have e:isIn (kN k) N m=false:=by simp [isIn,c1]
  rw [e] at h;exact h
end KR
namespace K55
open PySem L2 L2.L3
end K55
namespace KR
open PySem L2 L2.L3 K55
theorem vm {x y:Nat} (hx:1<=x) (hy:1<=y):((List.range (y - 1)).filter λ(i:Nat)=>decide ((x:Int) % ((2 + i:Nat):Int) + (y:Int) % ((2 + i:Nat):Int)=0))=[]↔Int.gcd x y=1:=by
 constructor
 ·intro h;have g1:Nat.gcd x y ∣ x:=Nat.gcd_dvd_left x y;have g2:Nat.gcd x y ∣ y:=Nat.gcd_dvd_right x y;have gp:0 < Nat.gcd x y:=Nat.gcd_pos_of_pos_left _ (by omega);have gl:Nat.gcd x y<=y:=Nat.le_of_dvd (by omega) g2;show Nat.gcd x y=1
  apply Classical.byContradiction
  intro c
  have hm:Nat.gcd x y - 2∈(List.range (y - 1)).filter λ(i:Nat)=>decide ((x:Int) % ((2 + i:Nat):Int) + (y:Int) % ((2 + i:Nat):Int)=0):=by
   refine List.mem_filter.mpr ⟨FG.mpr (by omega),?_⟩;have e:2 + (Nat.gcd x y - 2)=Nat.gcd x y:=by omega
   rw [e,decide_eq_true_eq];have a1:(x:Int) % (Nat.gcd x y:Nat)=0:=Int.emod_eq_zero_of_dvd (Int.natCast_dvd_natCast.mpr g1);have a2:(y:Int) % (Nat.gcd x y:Nat)=0:=Int.emod_eq_zero_of_dvd (Int.natCast_dvd_natCast.mpr g2);omega
  rw [h] at hm;cases hm
 ·intro h;rw [List.filter_eq_nil_iff];intro i hi hc;rw [decide_eq_true_eq] at hc;have b1:=Int.emod_nonneg (x:Int) (show ((2 + i:Nat):Int)≠0 by omega);have b2:=Int.emod_nonneg (y:Int) (show ((2 + i:Nat):Int)≠0 by omega);have d1:(2 + i) ∣ x:=Int.natCast_dvd_natCast.mp (Int.dvd_of_emod_eq_zero (by omega));have d2:(2 + i) ∣ y:=Int.natCast_dvd_natCast.mp (Int.dvd_of_emod_eq_zero (by omega));have:=Nat.dvd_gcd d1 d2
  have h':Nat.gcd x y=1:=h;rw [h'] at this;have:=Nat.le_of_dvd (by omega) this;omega
theorem fQ {α:Type} {tt:TB} {te:TD} {bW:En} {Q:List D->Prop} (c g:α->D) (t:α->Bool):∀(l:List α) (acc:List D),(∀i∈l,∀Z:Bool->Prop,Z (t i)->tt (bW.set 0 (some (.d (c i)))) Z)->(∀i∈l,∀Z:D->Prop,Z (g i)->te (bW.set 0 (some (.d (c i)))) Z)->acc.length + l.length<=sizeLine->Q (acc ++ (l.filter t).map g)->comps tt te bW Q (l.map c) acc
 | [],acc,_,_,_,q=>by simpa [comps] using q
 | x :: l,acc,h1,h2,hl,q=>by
  show comps tt te bW Q (c x :: l.map c) acc
  simp only [comps];refine h1 x Fc _ ?_
  cases z:t x with
  | true =>
   rw [if_pos rfl];refine h2 x Fc _ ⟨by simp at hl;omega,fQ c g t l _ (λy hy=>h1 y (E4 _ hy)) (λy hy=>h2 y (E4 _ hy)) (by simp at hl ⊢;omega) ?_⟩;rw [List.filter_cons_of_pos z] at q
   simpa using q
  | false =>
   rw [if_neg (by simp)];refine fQ c g t l _ (λy hy=>h1 y (E4 _ hy)) (λy hy=>h2 y (E4 _ hy)) (by simp at hl ⊢;omega) ?_;rw [List.filter_cons_of_neg (by simp [z])] at q;exact q
theorem oA:∀l:List Int,bJ (l.map D.int)=0
 | []=>rfl
 | x :: l=>by simp [bJ,dep,oA l]
theorem y6 {l:List Int} {Q:D->Prop} (h:Q (.bl (decide (l=[])))):iG (.lst (l.map D.int)) (.lst []) Q:=by
 unfold iG iJ;have e:aQ (.lst (l.map D.int)) (.lst [])=decide (l=[]):=by cases l <;> simp [aQ,bQ]
 rw [e];have d:=oA l;simp only [dep,d,bJ]
 first|exact⟨by decide,h⟩|exact⟨⟨by decide,by decide⟩,h⟩|simpa using h
def AY (x y:D) (Q:D->Prop):Prop:=∃a b:Nat,x=.int (a:Int)/\y=.int (b:Int)/\1<=a/\1<=b/\b<=1000/\Q (.bl (decide (Int.gcd a b=1)))
def bB:Fw:=F2 AY
def d8:cK:=(bT (aF iG (a8 (dk tY [0,1] (af (cC (.int 2)) (af (aF bw (ag 1) (cC (.int 1))) aw)) (aL (aF iG (aF bw (aF dm (ag 1) (ag 0)) (aF dm (ag 2) (ag 0))) (cC (.int 0)))) (ag 0))) (iF aw)))
theorem jk:∀ds Q,bB ds Q->ds.length=2:=kJ
theorem j6:∀ds (Q:D->Prop),bB ds Q->d8 { nx:=λ_=>Q .non,rt:=Q } (aA ["_law_one","_law_other"] ds):=by
 rintro ds Q ⟨x,y,rfl,a,b,rfl,rfl,ha,hb,hl,h⟩;have sz:=Fb
 simp_arith only [d8,bc]
 refine⟨by omega,by omega,?_⟩
 have e:aX 2 ((b:Int) + 1 - 2).toNat=(List.range (b - 1)).map λ(i:Nat)=>D.int ((2 + i:Nat):Int):=by
  unfold aX;rw [show ((b:Int) + 1 - 2).toNat=b - 1 by omega];refine List.map_congr_left λi _=>?_;rw [show (2:Int) + (i:Int)=((2 + i:Nat):Int) by omega]
 rw [e];refine fQ (λ(i:Nat)=>D.int ((2 + i:Nat):Int)) (λ(i:Nat)=>D.int ((2 + i:Nat):Int)) (λ(i:Nat)=>decide ((a:Int) % ((2 + i:Nat):Int) + (b:Int) % ((2 + i:Nat):Int)=0)) (List.range (b - 1)) [] (λi hi Z hZ=>?_) (λi hi Z hZ=>?_) (by simp;omega) ?_
 ·simp_arith only [Int.fmod_eq_emod_of_nonneg _ (show (0:Int)<=((2 + i:Nat):Int) by omega)]
  exact⟨fy _ (by omega),fy _ (by omega),hZ⟩
 ·simp_arith only [and_true];exact hZ
 ·rw [List.nil_append,show ((List.range (b - 1)).filter λ(i:Nat)=>decide ((a:Int) % ((2 + i:Nat):Int) + (b:Int) % ((2 + i:Nat):Int)=0)).map (λ(i:Nat)=>D.int ((2 + i:Nat):Int))=(((List.range (b - 1)).filter λ(i:Nat)=>decide ((a:Int) % ((2 + i:Nat):Int) + (b:Int) % ((2 + i:Nat):Int)=0)).map λ(i:Nat)=>((2 + i:Nat):Int)).map D.int by rw [List.map_map];rfl];refine y6 ?_
  have e2:decide ((((List.range (b - 1)).filter λ(i:Nat)=>decide ((a:Int) % ((2 + i:Nat):Int) + (b:Int) % ((2 + i:Nat):Int)=0)).map λ(i:Nat)=>((2 + i:Nat):Int))=[])=decide (Int.gcd a b=1):=by
   rw [Bool.eq_iff_iff,decide_eq_true_eq,decide_eq_true_eq,List.map_eq_nil_iff];exact vm ha hb
  rw [e2];exact h
def flat (r:di):List Int:=r.flatMap λp=>[p.1,p.2]
def cy (r:di):D:=.tup ((flat r).map D.int)
theorem y4:∀x y:di,lS 1 (cy x) (cy y)=gr x y:=by
 suffices ∀x y:di,kB (lS 0) ((flat x).map D.int) ((flat y).map D.int)=gr x y from this
 intro x
 induction x with
 | nil=>intro y;cases y <;> rfl
 | cons p x ih =>
  intro y
  cases y with
  | nil=>rfl
  | cons q y =>
   obtain⟨a,b⟩:=p;obtain⟨c,d⟩:=q;show kB (lS 0) (D.int a :: D.int b :: (flat x).map D.int) (D.int c :: D.int d :: (flat y).map D.int)=_
   simp only [kB,ih,gr,sS,aQ,lS]
   by_cases h:a=c
   ·subst h
    by_cases g:b=d
    ·subst g;simp
    ·simp [g]
   ·simp [h]
theorem kA:∀(rs:List di) (r:di),oi 1 (cy r) (rs.map cy)=cy (jz r rs)
 | [],r=>rfl
 | y :: rs,r=>by
  show oi 1 (if lS 1 (cy y) (cy r)=true then cy y else cy r) (rs.map cy)=cy (jz (if gr y r=true then y else r) rs)
  rw [y4]
  by_cases c:gr y r=true
  ·rw [if_pos c,if_pos c];exact kA rs y
  ·rw [if_neg c,if_neg c];exact kA rs r
theorem r9 (r:di):pY 1 (cy r):=⟨_,rfl,λe he=>by
 obtain⟨n,_,rfl⟩:=Fj.mp he
 exact⟨n,rfl⟩⟩
theorem yv {N:Int} {fs gs:List Int} (hf:fs≠[]) (hg:gs≠[]) (h1:∀f∈fs,∃g∈gs,f % N=g % N) (h2:∀g∈gs,∃f∈fs,g % N=f % N) (r:di):lm N fs r=lm N gs r:=by
 cases fs with
 | nil=>exact absurd rfl hf
 | cons f t =>
  cases gs with
  | nil=>exact absurd rfl hg
  | cons g u =>
   refine oY λx=>?_;rw [<- Fm (f:=λg=>mulR g N r),<- Fm (f:=λg=>mulR g N r),Fj,Fj]
   constructor
   ·rintro⟨a,ha,rfl⟩;obtain⟨b,hb,e⟩:=h1 a ha;exact⟨b,hb,dI e.symm r⟩
   ·rintro⟨a,ha,rfl⟩;obtain⟨b,hb,e⟩:=h2 a ha;exact⟨b,hb,dI e.symm r⟩
def qh (N:Nat):List Int:=((List.range N).filter λ(i:Nat)=>decide (Int.gcd ((1 + i:Nat):Int) (N:Int)=1)).map λ(i:Nat)=>((1 + i:Nat):Int)
def rT (k:Str) (N:Nat):List Int:=if k = "upper" then qh N else [1,-1]
theorem mU {N:Nat} (hN:1<=N):(1:Int)∈qh N:=Fj.mpr ⟨0,List.mem_filter.mpr ⟨FG.mpr (by omega),by simp⟩,rfl⟩
theorem El {k:Str} {N:Nat} (kd:Kd k N) (r:di):lm N (rT k N) r=lm N (aZ k N) r:=by
 have n1:=kd.n1;have h:=vM kd;unfold rT;unfold aZ at h ⊢
 by_cases c:k = "upper"
 ·rw [if_pos c] at h ⊢;rw [if_pos c];refine yv (λz=>by have:=mU n1;rw [z] at this;cases this) h (λf hf=>?_) (λg hg=>?_) r
  ·obtain⟨i,hi,rfl⟩:=Fj.mp hf;obtain⟨h1,h2⟩:=List.mem_filter.mp hi;have h1:=FG.mp h1;have h2:Int.gcd ((1 + i:Nat):Int) (N:Int)=1:=by simpa using h2
   by_cases z:1 + i < N
   ·exact⟨((1 + i:Nat):Int),Fj.mpr ⟨1 + i,List.mem_filter.mpr ⟨FG.mpr z,by simpa using h2⟩,rfl⟩,rfl⟩
   ·have e:1 + i=N:=by omega
    rw [e] at h2 ⊢;have:N=1:=by simpa using h2
    subst this;exact⟨0,Fj.mpr ⟨0,List.mem_filter.mpr ⟨by simp,by simp⟩,rfl⟩,rfl⟩
  ·obtain⟨i,rfl,h1,h2⟩:=yq hg
   cases i with
   | zero =>
    have:N=1:=by simpa using h2
    subst this
    exact⟨1,mU (E3 _),rfl⟩
   | succ i=>exact⟨((1 + i:Nat):Int),Fj.mpr ⟨i,List.mem_filter.mpr ⟨FG.mpr (by omega),by rw [Nat.add_comm];simpa using h2⟩,rfl⟩,by rw [Nat.add_comm]⟩
 ·rw [if_neg c] at h ⊢;rw [if_neg c]
def CZ (x y z:D) (Q:D->Prop):Prop:=∃(k:Str) (m:Mx) (N:Nat),x=.str k/\y=mD N m/\z=.int (N:Int)/\Kd k N/\Q (cy (kM N (aZ k N) (gn k) m))
def dD:Fw:=F3 CZ
theorem vj {k:Str} {N:Nat} (kd:Kd k N):rT k N≠[]/\(rT k N).length<=100/\∀f∈rT k N,zk f:=by
 have n1:=kd.n1;have n24:=kd.n24;unfold rT
 split
 ·refine⟨λz=>?_,?_,λf hf=>?_⟩
  ·have q:=mU n1;rw [z] at q;cases q
  ·unfold qh;rw [Ff];exact FV (List.length_filter_le _ _) (by rw [List.length_range];omega)
  ·obtain⟨i,hi,rfl⟩:=Fj.mp hf;have h1:=FG.mp (List.mem_filter.mp hi).1;exact⟨by omega,by omega⟩
 ·refine⟨by simp,by simp,λf hf=>?_⟩;simp only [Fe,FH,or_false] at hf;rcases hf with rfl|rfl <;> exact⟨by decide,by decide⟩
def gO:cK:=(bT (az (rV 1) (af (a8 (dR [2,7] (ag 8) bU (az eJ (af (a8 (dR [0,1] (ag 2) bU (aF dm (aF dN (ag 1) (ag 0)) (ag 2)))) aw)))) aw)))
def gY:cK:=(aN (bg 8 (iF (af (cC (.int 1)) (af (pM jE (cC (.int 1))) aw)))) (aN (jj (aL (aF iG (ag 0) (cC (.str "upper")))) (bg 8 (a8 (dk tY [2] (af (cC (.int 1)) (af (aF bw (ag 2) (cC (.int 1))) aw)) (aL (az bB (af (ag 0) (af (ag 1) aw)))) (ag 0)))) bC) gO))
def kG:cK:=(aN (iD (ag 1) (j4 4 (bf (aR 3) (bf (aR 4) (bf (aR 5) (bf (aR 6) iE)))))) (aN (bg 7 (ag 1)) (aN (jj (aL (aF rJ (ag 0) (cC (.str "plain")))) (bg 7 (c8 (af (ag 5) (af (ag 6) aw)))) bC) gY)))
theorem rb:∀ds Q,dD ds Q->ds.length=3:=nh
theorem sX:∀ds (Q:D->Prop),dD ds Q->kG { nx:=λ_=>Q .non,rt:=Q } (aA ["_law_kind_here","_law_rests_here","_law_number","_law_a","_law_b","_law_c","_law_d","_law_row_here","_law_by"] ds):=by
 rintro ds Q ⟨x,y,z,rfl,k,m,N,rfl,rfl,rfl,kd,h⟩;have sz:=Fb;have n1:=kd.n1;have n24:=kd.n24;obtain⟨fne,fl,fsm⟩:=vj kd
 have tail:∀(k3 k4 k5 k6:Option Lo) (r:di),lm N (rT k N) r=kM N (aZ k N) (gn k) m->r.length<=2->gO { nx:=λ_=>Q .non,rt:=Q } [some (.d (.str k)),some (.d (mD N m)),some (.d (.int (N:Int))),k3,k4,k5,k6,some (.d (cy r)),some (.d (.lst ((rT k N).map D.int)))]:=by
  intro k3 k4 k5 k6 r er lr
  simp_arith only [gO,bc]
  refine cU D.int (λf=>cy (mulR f N r)) (rT k N) [] (λf hf Z hZ=>?_) (by simp;omega) ?_
  ·obtain⟨s1,s2⟩:=fsm f hf
   simp_arith only [bc,cy,bA]
   have lf:(flat r).length<=4:=by
    match r,lr with
    | [],_=>simp [flat]
    | [p],_=>simp [flat]
    | [p,q],_=>simp [flat]
   refine cU D.int (λx=>D.int (f * x % N)) (flat r) [] (λx hx Z hZ=>?_) (by simp;omega) ?_
   ·simp_arith only [Int.fmod_eq_emod_of_nonneg _ (show (0:Int)<=N by omega)]
    exact⟨bV s1 s2,fy _ (by omega),hZ⟩
   ·simp_arith only [and_true]
    have e:cy (mulR f N r)=.tup ((flat r).map λx=>D.int (f * x % N)):=by
     unfold cy flat mulR;rw [List.flatMap_map,List.map_flatMap,List.map_flatMap];rfl
    rw [e] at hZ;exact hZ
  ·rw [<- er] at h
   revert fne h
   cases rT k N with
   | nil=>intro fne;exact absurd rfl fne
   | cons f t =>
    intro _ h;simp only [List.nil_append,Fm];refine⟨by decide,λx hx=>?_,?_⟩
    ·rw [<- Fm (f:=λf=>cy (mulR f N r))] at hx;obtain⟨g,_,rfl⟩:=Fj.mp hx;exact r9 _
    ·have e:t.map (λf=>cy (mulR f N r))=(t.map λg=>mulR g N r).map cy:=by rw [List.map_map];rfl
     rw [e,kA];exact h
 have mid:∀(k3 k4 k5 k6:Option Lo) (r:di),lm N (rT k N) r=kM N (aZ k N) (gn k) m->r.length<=2->gY { nx:=λ_=>Q .non,rt:=Q } [some (.d (.str k)),some (.d (mD N m)),some (.d (.int (N:Int))),k3,k4,k5,k6,some (.d (cy r)),none]:=by
  intro k3 k4 k5 k6 r er lr
  simp_arith only [gY,bB,iK,bc]
  by_cases c:k = "upper"
  ·rw [if_pos (by simpa using c)];refine⟨by omega,by omega,?_⟩
   have e:aX 1 ((N:Int) + 1 - 1).toNat=(List.range N).map λ(i:Nat)=>D.int ((1 + i:Nat):Int):=by
    unfold aX;rw [show ((N:Int) + 1 - 1).toNat=N by omega];refine List.map_congr_left λi _=>?_;rw [show (1:Int) + (i:Int)=((1 + i:Nat):Int) by omega]
   rw [e];refine fQ (λ(i:Nat)=>D.int ((1 + i:Nat):Int)) (λ(i:Nat)=>D.int ((1 + i:Nat):Int)) (λ(i:Nat)=>decide (Int.gcd ((1 + i:Nat):Int) (N:Int)=1)) (List.range N) [] (λi hi Z hZ=>?_) (λi hi Z hZ=>?_) (by simp;omega) ?_
   ·simp_arith only [iK]
    exact⟨1 + i,N,rfl,rfl,by omega,n1,by omega,_,rfl,hZ⟩
   ·simp_arith only [and_true];exact hZ
   ·have ef:((List.range N).filter λ(i:Nat)=>decide (Int.gcd ((1 + i:Nat):Int) (N:Int)=1)).map (λ(i:Nat)=>D.int ((1 + i:Nat):Int))=(rT k N).map D.int:=by
     unfold rT;rw [if_pos c];unfold qh;rw [List.map_map];rfl
    rw [List.nil_append,ef];exact tail _ _ _ _ r er lr
  ·rw [if_neg (by simpa using c)];have ef:rT k N=[1,-1]:=by unfold rT;rw [if_neg c]
   have t:=tail k3 k4 k5 k6 r er lr;rw [ef] at t;exact t
 have e1:∀r:di,lm N (rT k N) (et N r)=lm N (rT k N) r:=λr=>by
  have:∀fs:List Int,lm N fs (et N r)=lm N fs r:=λfs=>uj λx=>by simp only [qT]
  exact this _
 simp_arith only [kG,mD]
 rw [Ay];refine⟨_,rfl,?_⟩
 by_cases c:k = "plain"
 ·rw [if_neg (by simpa using c)];have pl:gn k=true:=by unfold gn;rw [decide_eq_true c]
  exact mid _ _ _ _ (et N (lF true m)) (by rw [e1,El kd,pl];rfl) (by simp [et,lF])
 ·rw [if_pos (by simpa using c)];have pl:gn k=false:=by unfold gn;rw [decide_eq_false c]
  exact mid _ _ _ _ (et N (lF false m)) (by rw [e1,El kd,pl];rfl) (by simp [et,lF])
def Cs (x y z:D) (Q:D->Prop):Prop:=∃(a b w:List Nat) (p:Nat),x=eh a b/\y=strN w/\z=.int (p:Int)/\uo a b/\p < a.length/\(∀c∈w,isLet c)/\Q (.int ((lw a b w p:Nat):Int))
def cB:Fw:=F3 Cs
def iX:cK:=(aN (jI (ag 1) (aR 3) (jj (aL (aF iG (ag 3) (cC (.str "s")))) (bg 2 (aF gT (aF gT (ag 0) (cC (.int 0))) (ag 2))) (jj (aL (aF iG (ag 3) (cC (.str "r")))) (bg 2 (aF gT (aF gT (ag 0) (cC (.int 1))) (ag 2))) (bg 2 (aF gT (aF gT (ag 0) (cC (.int 1))) (aF gT (aF gT (ag 0) (cC (.int 1))) (ag 2))))))) (bT (ag 2)))
theorem pg:∀ds Q,cB ds Q->ds.length=3:=nh
theorem qS:∀ds (Q:D->Prop),cB ds Q->iX { nx:=λ_=>Q .non,rt:=Q } (aA ["_law_table","_law_word_here","_law_place","_law_letter"] ds):=by
 rintro ds Q ⟨x,y,z,rfl,a,b,w,p,rfl,rfl,rfl,tab,hp,hw,h⟩
 simp_arith only [iX,strN,bA]
 refine b9 (λi e=>∃k,e=[some (.d (eh a b)),some (.d (strN w)),some (.d (.int ((lw a b (w.take i) p:Nat):Int))),k]) ?_ ?_ ⟨_,rfl⟩
 ·rintro i x' env Z hx ⟨k,rfl⟩ hZ;unfold dZ at hx;rw [E2] at hx
  cases hc:w[i]? with
  | none=>rw [show (⟨w.toArray⟩:Str).cps.toList[i]?=w[i]? by simp,hc] at hx;cases hx
  | some c =>
   rw [show (⟨w.toArray⟩:Str).cps.toList[i]?=w[i]? by simp,hc] at hx;cases hx;have hl:=hw c (E6 hc);have hi:=zC tab hp (w.take i);have hb:=iO tab hi
   have fin:Z [some (.d (eh a b)),some (.d (strN w)),some (.d (.int ((lp a b (lw a b (w.take i) p) c:Nat):Int))),some (.d (.str ⟨#[c]⟩))]:=by
    refine hZ _ ⟨some (.d (.str ⟨#[c]⟩)),?_⟩;rw [Gd,hc];simp only [Option.toList];rw [o8]
   simp_arith only [eh,AE,CQ]
   rcases hl with z|z|z <;> subst z
   ·rw [if_pos (by rfl),vE (qB tab hi).1];exact fin
   ·rw [if_neg (by decide),if_pos (by rfl),vE (qB tab hi).2];exact fin
   ·rw [if_neg (by decide),if_neg (by decide),vE (qB tab hi).2,vE (qB tab hb).2];exact fin
 ·rintro env ⟨k,rfl⟩
  simp_arith only [and_true]
  rw [Ge (by simp [dZ])];exact h
def AD (x:D) (Q:D->Prop):Prop:=x=.exc "TooMany"/\Q (.int 13)
def cY:Fw:=F1 AD
def gD:cK:=(aN (bg 1 (iF (af (az (fZ "TooMany" (.cls "NoFraction") false) (af (ag 0) (af (cC (.cls "NoFraction")) aw))) (af (az (fZ "TooMany" (.cls "NoTurning") false) (af (ag 0) (af (cC (.cls "NoTurning")) aw))) (af (az (fZ "TooMany" (.cls "NoFan") false) (af (ag 0) (af (cC (.cls "NoFan")) aw))) (af (az (fZ "TooMany" (.cls "NoTable") false) (af (ag 0) (af (cC (.cls "NoTable")) aw))) aw)))))) (aN (bg 1 (aF bw (ag 1) (iF (af (az (fZ "TooMany" (.cls "NoRoot") false) (af (ag 0) (af (cC (.cls "NoRoot")) aw))) (af (az (fZ "TooMany" (.cls "NotIn") false) (af (ag 0) (af (cC (.cls "NotIn")) aw))) (af (az (fZ "TooMany" (.cls "NoPaper") false) (af (ag 0) (af (cC (.cls "NoPaper")) aw))) (af (az (fZ "TooMany" (.cls "NoText") false) (af (ag 0) (af (cC (.cls "NoText")) aw))) aw))))))) (aN (bg 1 (aF bw (ag 1) (iF (af (az (fZ "TooMany" (.cls "NoRow") false) (af (ag 0) (af (cC (.cls "NoRow")) aw))) (af (az (fZ "TooMany" (.cls "NoName") false) (af (ag 0) (af (cC (.cls "NoName")) aw))) (af (az (fZ "TooMany" (.cls "Full") false) (af (ag 0) (af (cC (.cls "Full")) aw))) (af (az (fZ "TooMany" (.cls "Open") false) (af (ag 0) (af (cC (.cls "Open")) aw))) aw))))))) (aN (bg 1 (aF bw (ag 1) (iF (af (az (fZ "TooMany" (.cls "TooLong") false) (af (ag 0) (af (cC (.cls "TooLong")) aw))) (af (az (fZ "TooMany" (.cls "TooMany") true) (af (ag 0) (af (cC (.cls "TooMany")) aw))) aw))))) (aN (jj (tJ (aL (aF rJ (qt (ag 1) (cC (.bl true))) (cC (.int 1)))) (j7 (aL (az (fZ "TooMany" (.ty "ValueError") true) (af (ag 0) (af (cC (.ty "ValueError")) aw)))))) (bT (pM jE (cC (.int 1)))) bC) (bT (t6 (ag 1) (cC (.bl true)))))))))
theorem nR:∀ds Q,cY ds Q->ds.length=1:=vF
theorem p8:∀ds (Q:D->Prop),cY ds Q->gD { nx:=λ_=>Q .non,rt:=Q } (aA ["_law_e","_law_marks"] ds):=by
 rintro ds Q ⟨x,rfl,rfl,h⟩
 simp_arith only [gD,qt,t6]
 have d0:bJ [D.bl false,D.bl false,D.bl false,D.bl false,D.bl false,D.bl false,D.bl false,D.bl false,D.bl false,D.bl false,D.bl false,D.bl false,D.bl false,D.bl true]<=60:=by simp [bJ,dep]
 have d1:dep (D.bl true)<=60:=by simp [dep]
 refine⟨d0,d1,?_⟩;rw [if_neg (by simp [List.countP_cons,aQ])];refine⟨d0,d1,13,by simp [aQ],λm hm=>?_,h⟩;rcases m with _|_|_|_|_|_|_|_|_|_|_|_|_|m
 all_goals first|(simp [aQ];done)|omega
abbrev Ek (k:Str) (N n:Nat):Prop:=Over (hW N (aZ k N)) (gw N (aZ k N)) (fR N (aZ k N) (gn k)) n
abbrev Ef (k:Str) (N n:Nat):Prop:=Done (hW N (aZ k N)) (gw N (aZ k N)) (fR N (aZ k N) (gn k)) n
abbrev il (k:Str) (N n:Nat):List RR:=aG (hW N (aZ k N)) (gw N (aZ k N)) (fR N (aZ k N) (gn k)) n
def AA (x y:D) (Q:D->Prop):Prop:=∃(k:Str) (N:Nat),x=.str k/\y=.int (N:Int)/\Kd k N/\(∀n,Ek k N n->Q (.tup [.int 13,.non]))/\∀n,Ef k N n->Q (.tup [.int (-2),eh (dq (il k N n) (hW N (aZ k N))) (dq (il k N n) (gw N (aZ k N)))])
def cW:Fw:=F2 AA
def gK:cK:=(v9 2 "TooMany" (xW (pM jE (cC (.int 2))) (kF cV (af (ag 0) (af (ag 1) aw)))) (bT (c8 (af (az cY (af (ag 2) aw)) (af (cC .non) aw)))))
theorem n6:∀ds Q,cW ds Q->ds.length=2:=kJ
theorem qr:∀ds (Q:D->Prop),cW ds Q->gK { nx:=λ_=>Q .non,rt:=Q } (aA ["_law_kind_here","_law_number","_law_e"] ds):=by
 rintro ds Q ⟨x,y,rfl,k,N,rfl,rfl,kd,ho,hd⟩
 simp_arith only [gK,v9,xW,cV,Cy,cY,vH]
 exact⟨k,N,rfl,rfl,kd,λn o=>⟨rfl,rfl,ho n o⟩,λn d=>hd n d⟩
def yx (x y:D) (Q:D->Prop):Prop:=∃(k:Str) (N:Nat),x=.str k/\y=.int (N:Int)/\Kd k N/\(∀n,Ek k N n->Q (.int 61))/\∀n,Ef k N n->Q (.int (n:Int))
def cJ:Fw:=F2 yx
def cF (p:RR):D:=cy p.r
theorem qU:∀{x y:di},flat x=flat y->x=y
 | [],[],_=>rfl
 | [],_ :: _,h=>by simp [flat] at h
 | _ :: _,[],h=>by simp [flat] at h
 | (a,b) :: x,(c,d) :: y,h=>by
  have h':a :: b :: flat x=c :: d :: flat y:=h;simp only [List.cons.injEq] at h';rw [h'.1,h'.2.1,qU h'.2.2]
theorem oV:∀x y:List Int,bQ (x.map D.int) (y.map D.int)=decide (x=y)
 | [],[]=>rfl
 | [],_ :: _=>by simp [bQ]
 | _ :: _,[]=>by simp [bQ]
 | p :: x,q :: y=>by
  simp only [Fm,bQ,aQ,oV x y]
  by_cases h:p=q <;> by_cases g:x=y <;> simp [h,g]
theorem tH:Code cF:=⟨λp q=>by
 obtain⟨p⟩:=p;obtain⟨q⟩:=q;show aQ (.tup ((flat p).map D.int)) (.tup ((flat q).map D.int))=_
 rw [aQ,oV,Bool.eq_iff_iff,decide_eq_true_eq,decide_eq_true_eq]
 exact⟨λh=>by rw [qU h],λh=>by rw [RR.mk.inj h]⟩,λp=>by
 have:=gS 1 _ (r9 p.r);show dep (cy p.r)<=8
 omega⟩
def sW (k:Str) (N:Nat) (ws:List (List Nat)) (l:List RR):Prop:=ws.length=l.length/\∀(j:Nat) w,ws[j]?=some w->(∀c∈w,isLet c)/\w.length<=j/\l[j]?=some (nT k N (mW w))
theorem sW.tM {k:Str} {N:Nat} {ws:List (List Nat)} {l:List RR} (h:sW k N ws l) {j:Nat} {p:RR} (hp:l[j]?=some p):∃w,ws[j]?=some w/\p=nT k N (mW w)/\(∀c∈w,isLet c)/\w.length<=j:=by
 have hj:=(EO.mp hp).1;have e:ws[j]?=some (ws[j]'(by rw [h.1];exact hj)):=ET _;obtain⟨a,b,c⟩:=h.2 j _ e;rw [hp] at c;exact⟨_,e,E9 c,a,b⟩
theorem sW.snoc {k:Str} {N:Nat} {ws:List (List Nat)} {l:List RR} (h:sW k N ws l) {w:List Nat} (hw:∀c∈w,isLet c) (hl:w.length<=l.length):sW k N (ws ++ [w]) (l ++ [nT k N (mW w)]):=by
 refine⟨by simp [h.1],λj v hv=>?_⟩
 by_cases hj:j < ws.length
 ·rw [E5 hj] at hv;obtain⟨a,b,c⟩:=h.2 j v hv;refine⟨a,b,?_⟩;rw [E5 (by rw [<- h.1];exact hj)];exact c
 ·have hj2:=(EO.mp hv).1;simp at hj2;have ej:j=ws.length:=by omega
  subst ej;rw [E8 (E3 _)] at hv;simp at hv;subst hv;refine⟨hw,by rw [h.1];exact hl,?_⟩;rw [h.1,E8 (E3 _)];simp
def kX (ws:List (List Nat)):List D:=ws.map strN
def fG:cK:=(aN (jI (cC (.str "sr")) (aR 5) (aN (bg 6 (az dD (af (ag 0) (af (az a7 (af (aF bw (de 3 (ag 4)) (ag 5)) (af (ag 1) aw))) (af (ag 1) aw))))) (jj (l7 true 2 (ag 6)) (aN (bP 2 (ag 6)) (bP 3 (aF bw (de 3 (ag 4)) (ag 5)))) bC))) (bg 4 (aF bw (ag 4) (cC (.int 1)))))
def fN:cK:=(aN (bO 2 (iH (af (az dD (af (ag 0) (af (az a7 (af (cC (.str "")) (af (ag 1) aw))) (af (ag 1) aw)))) aw))) (aN (bO 3 (iH (af (cC (.str "")) aw))) (aN (bg 4 (cC (.int 0))) (aN (fP (o9 (aL (aF yW (ag 4) (bX 3))) (aL (aF yW (bX 2) (cC (.int 61))))) fG) (bT (az xR (af (bX 2) (af (cC (.int 61)) aw))))))))
theorem lZ:∀ds Q,cJ ds Q->ds.length=2:=kJ
theorem n9:∀ds (Q:D->Prop),cJ ds Q->fN { nx:=λ_=>Q .non,rt:=Q } (aA ["_law_kind_here","_law_number","_law_keys","_law_words","_law_at","_law_letter","_law_key_here"] ds):=by
 rintro ds Q ⟨x,y,rfl,k,N,rfl,rfl,kd,ho,hd⟩;have sz:=Fb;have G:=iA kd;have n1:=kd.n1;have n24:=kd.n24;have pf:BL N (aZ k N) (gn k) (fR N (aZ k N) (gn k)):=⟨m1,rfl⟩;have pl:=eI (ha:=hW N (aZ k N)) (th:=gw N (aZ k N)) pf (pV kd);have S:∀x:Mx,hW N (aZ k N) (nT k N x)=nT k N (x.mul mS):=λx=>congrArg RR.mk (wM G _ x);have R:∀x:Mx,gw N (aZ k N) (nT k N x)=nT k N (x.mul mR):=λx=>congrArg RR.mk (ve G _ x)
 have key:∀(w:List Nat) (Z:D->Prop),(∀c∈w,isLet c)->w.length<=1000->Z (cF (nT k N (mW w)))->a7 [strN w,.int (N:Int)] λx=>dD [.str k,x,.int (N:Int)] Z:=λw Z hw hl hZ=>⟨_,_,rfl,w,N,rfl,rfl,hw,n1,n24,by omega,_,_,_,rfl,k,mW w,N,rfl,rfl,rfl,kd,hZ⟩
 simp_arith only [fN,fP]
 refine key [] _ (λc hc=>(nomatch hc)) (by simp) ?_
 refine⟨λe=>∃(n:Nat) (ws:List (List Nat)) (k5 k6:Option Lo),(∀i,i < n->(il k N i).length<=60/\i < (il k N i).length)/\(il k N n).length<=62/\sW k N ws (il k N n)/\e=[some (.d (.str k)),some (.d (.int (N:Int))),some (.own ((il k N n).map cF)),some (.own (kX ws)),some (.d (.int (n:Int))),k5,k6],
  λe=>61 - uU 4 e,⟨0,[[]],none,none,λi hi=>absurd hi (FU _),by simp [aG],⟨rfl,λj w hw=>?_⟩,rfl⟩,?_⟩
 ·have hj:=(EO.mp hw).1;have ej:j=0:=by simpa using hj
  subst ej;have ew:w=[]:=by simpa using hw.symm
  subst ew;exact⟨λc hc=>(nomatch hc),by simp,rfl⟩
 rintro env ⟨n,ws,k5,k6,hlt,l62,hw,rfl⟩;have m:=pl n λi hi=>(hlt i hi).2;have lws:(kX ws).length=(il k N n).length:=by rw [<- hw.1];simp [kX]
 have mle:=m.le
 simp_arith only [Ff,lws]
 by_cases c1:n < (il k N n).length
 ·rw [if_pos (by omega)]
  by_cases c2:(il k N n).length<=60
  ·rw [if_pos (by omega)];obtain⟨p,hp⟩:∃p,(il k N n)[n]?=some p:=⟨_,ET c1⟩;obtain⟨w,hww,ep,lw1,lw2⟩:=hw.tM hp;have ms:=ie hp
   simp_arith only [fG,bA]
   have es:dZ (Str.ofString "sr")=[D.str ⟨#[115]⟩,D.str ⟨#[114]⟩]:=rfl
   rw [es];refine b9 (λi e=>i<=2/\∃(ws2:List (List Nat)) (k5 k6:Option Lo),e=[some (.d (.str k)),some (.d (.int (N:Int))),some (.own ((iT (il k N n) [hW N (aZ k N) p,gw N (aZ k N) p] i).map cF)),some (.own (kX ws2)),some (.d (.int (n:Int))),k5,k6]/\sW k N ws2 (iT (il k N n) [hW N (aZ k N) p,gw N (aZ k N) p] i)/\ws2[n]?=some w/\(iT (il k N n) [hW N (aZ k N) p,gw N (aZ k N) p] i).length<=60 + i/\n < (iT (il k N n) [hW N (aZ k N) p,gw N (aZ k N) p] i).length) ?_ ?_ ⟨by omega,ws,k5,k6,rfl,hw,hww,c2,c1⟩
   ·rintro i x' env Z hx ⟨hi2,ws2,k5,k6,rfl,hw2,hw3,ll,ln⟩ hZ;have hi:i < 2:=by have:=(EO.mp hx).1;simpa using this
    obtain⟨c,q,hc,eq,hx',hq⟩:∃(c:Nat) (q:RR),isLet c/\q=nT k N (mW (w ++ [c]))/\x'=.str ⟨#[c]⟩/\[hW N (aZ k N) p,gw N (aZ k N) p][i]?=some q:=by
     rcases (show i=0\/i=1 by omega) with rfl|rfl
     ·exact⟨115,_,.inl rfl,by rw [ep,S,lH];rfl,(E9 hx).symm,rfl⟩
     ·exact⟨114,_,.inr (.inl rfl),by rw [ep,R,lH];rfl,(E9 hx).symm,rfl⟩
    subst hx';have ef:iT (il k N n) [hW N (aZ k N) p,gw N (aZ k N) p] (i + 1)=bh (iT (il k N n) [hW N (aZ k N) p,gw N (aZ k N) p] i) q:=kc hq;generalize iT (il k N n) [hW N (aZ k N) p,gw N (aZ k N) p] i=l at hw2 ll ln ef;have ai:lx (kX ws2) (n:Int)=some (strN w):=lK _ _ _ _ hw3
    have el:(⟨w.toArray⟩ ++ ⟨#[c]⟩:Str)=⟨(w ++ [c]).toArray⟩:=by
     show Str.mk (w.toArray ++ #[c])=_
     congr 1
     simp
    have lz:(⟨w.toArray⟩:Str).length + (⟨#[c]⟩:Str).length<=16777216:=by
     show w.toArray.size + 1<=_
     have:=ln;simp;omega
    have hwc:∀y∈w ++ [c],isLet y:=λy hy=>by
     rcases Fy.mp hy with hy|hy
     ·exact lw1 y hy
     ·rw [Fi.mp hy];exact hc
    simp_arith only [and_true]
    refine⟨_,_,rfl,ai,?_⟩;show bw (.str ⟨w.toArray⟩) (.str ⟨#[c]⟩) _
    rw [c9];refine⟨by rw [Fb];exact lz,?_⟩;rw [el];refine key (w ++ [c]) _ hwc (by simp;omega) ?_;rw [<- eq];have kq:=tH.dp q;have dl:=pO tH l
    simp_arith only [l7,Ff]
    refine⟨by omega,by omega,?_⟩;rw [zK tH];unfold bh at ef
    by_cases c3:q∈l
    ·rw [if_pos c3] at ef;rw [decide_eq_true c3];exact hZ _ ⟨by omega,ws2,_,_,by rw [ef],by rw [ef];exact hw2,hw3,by rw [ef];omega,by rw [ef];exact ln⟩
    ·rw [if_neg c3] at ef;rw [decide_eq_false c3];have l2:(kX ws2).length=l.length:=by rw [<- hw2.1];simp [kX]
     rw [if_pos rfl];refine⟨by omega,by omega,_,_,rfl,ai,?_⟩;show bw (.str ⟨w.toArray⟩) (.str ⟨#[c]⟩) _
     rw [c9];refine⟨by rw [Fb];exact lz,?_⟩;rw [el];refine hZ _ ⟨by omega,ws2 ++ [w ++ [c]],some (.d (.str ⟨#[c]⟩)),some (.d (cF q)),?_,?_,?_,by rw [ef];simp;omega,by rw [ef];simp;omega⟩
     ·rw [ef,List.map_append];simp only [kX,List.map_append];rfl
     ·rw [ef,eq];exact hw2.snoc hwc (by simp;omega)
     ·rw [E5 (EO.mp hw3).1];exact hw3
   ·rintro env ⟨_,ws2,k5,k6,rfl,hw2,hw3,ll,ln⟩;have e2:iT (il k N n) [hW N (aZ k N) p,gw N (aZ k N) p] [D.str ⟨#[115]⟩,D.str ⟨#[114]⟩].length=il k N (n + 1):=by show _=aG _ _ _ (n + 1);rw [ms];rfl
    rw [e2] at hw2 ll ⊢
    simp_arith only [and_true]
    refine⟨⟨n + 1,ws2,_,_,λi hi=>?_,by simpa using ll,hw2,rfl,rfl,by omega,rfl,rfl⟩,?_⟩
    ·rcases FK.mp hi with z|z
     ·exact hlt i z
     ·rw [z];exact⟨c2,c1⟩
    ·simp only [uU,Fs,Fq];omega
  ·rw [if_neg (by omega)];have n0:n≠0:=λz=>by subst z;simp [aG] at c2
   obtain⟨j,rfl⟩:∃j,n=j + 1:=⟨n - 1,by omega⟩;rw [show min ((il k N (j + 1)).length:Int) 61=61 by omega];exact ho j ⟨λi hi=>(hlt i (by omega)).1,λi hi=>(hlt i (by omega)).2,by show 60 < (il k N (j + 1)).length;omega⟩
 ·rw [if_neg (by omega)];have en:(il k N n).length=n:=by have:n<=(il k N n).length:=mle;omega
  have l60:(il k N n).length<=60:=by
   rcases Nat.eq_zero_or_pos n with z|z
   ·subst z;simp [aG] at en
   ·have h1:=(hlt (n - 1) (by omega)).2;have h2:=(hlt (n - 1) (by omega)).1;omega
  rw [show min ((il k N n).length:Int) 61=(n:Int) by omega]
  exact hd n ⟨λi hi=>by
   rcases FQ i n with z|z
   ·exact (hlt i z).1
   ·rw [show i=n by omega];exact l60,λi hi=>(hlt i hi).2,Nat.le_of_eq en⟩
structure CH (a b ks:List Nat) (W:Nat->List Nat):Prop where
 z:0∈ks
 lt:∀i∈ks,i < a.length
 w:∀i∈ks,(∀c∈W i,isLet c)/\lw a b (W i) i=0/\(W i).length < ks.length
theorem CH.put {a b ks:List Nat} {W:Nat->List Nat} (s:CH a b ks W) {h c t:Nat} (hh:h∈ks) (hc:isLet c) (ht:t < a.length) (hl:lp a b t c=h) (hn:t∉ks):CH a b (ks ++ [t]) (λi=>if i=t then c :: W h else W i):=by
 obtain⟨w1,w2,w3⟩:=s.w h hh;refine⟨FO _ s.z,λi hi=>?_,λi hi=>?_⟩
 ·rcases Fy.mp hi with hi|hi
  ·exact s.lt i hi
  ·rw [Fi.mp hi];exact ht
 ·by_cases e:i=t
  ·simp only [if_pos e];refine⟨λx hx=>?_,?_,by simp;omega⟩
   ·rcases Fe.mp hx with hx|hx
    ·rw [hx];exact hc
    ·exact w1 x hx
   ·rw [e];show lw a b (W h) (lp a b t c)=0
    rw [hl];exact w2
  ·have hi':i∈ks:=by
    rcases Fy.mp hi with hi|hi
    ·exact hi
    ·exact absurd (Fi.mp hi) e
   simp only [if_neg e];obtain⟨x1,x2,x3⟩:=s.w i hi';exact⟨x1,x2,by simp;omega⟩
def Ci (x y:D) (Q:D->Prop):Prop:=∃(a b:List Nat) (p:Nat),x=eh a b/\y=.int (p:Int)/\yT a b/\a.length<=500/\p < a.length/\∀v:List Nat,(∀c∈v,isLet c)->lw a b v p=0->v.length<=500->Q (strN v)
def dB:Fw:=F2 Ci
structure Eh (a b ks:List Nat) (kvs:List (D×D)) (k2:List Nat) (W:Nat->List Nat):Prop where
 wd:zO kvs k2 W
 hm:CH a b k2 W
 pre:∃r,k2=ks ++ r
def gM:cK:=(aN (jI (iF (af (cC (.int 0)) (af (cC (.int 1)) aw))) (aR 5) (gh jy (af (az lA (af (aF gT (ag 0) (ag 5)) aw)) aw) (aR 6) (jj (o9 (aL (aF iG (aF gT (aF gT (ag 0) (ag 5)) (ag 6)) (de 3 (ag 4)))) (mX true 2 (ag 6))) (aN (jC 2 (ag 6) (aF bw (aF gT (cC (.str "sr")) (ag 5)) (fb 2 (de 3 (ag 4))))) (bP 3 (ag 6))) bC))) (bg 4 (aF bw (ag 4) (cC (.int 1)))))
def i8:cK:=(aN (pK 2 (cC (.int 0)) (cC (.str ""))) (aN (bO 3 (iH (af (cC (.int 0)) aw))) (aN (bg 4 (cC (.int 0))) (aN (fP (aL (aF yW (ag 4) (bX 3))) gM) (bT (fb 2 (ag 1)))))))
theorem pA:∀ds Q,dB ds Q->ds.length=2:=kJ
theorem rj:∀ds (Q:D->Prop),dB ds Q->i8 { nx:=λ_=>Q .non,rt:=Q } (aA ["_law_table","_law_place","_law_ways","_law_met","_law_at","_law_k","_law_there"] ds):=by
 rintro ds Q ⟨x,y,rfl,a,b,p0,rfl,rfl,tab,la,hp0,h⟩;have sz:=Fb;have lb:=tab.ok.len
 have few:∀ks:List Nat,ks.Nodup->(∀i∈ks,i < a.length)->ks.length<=a.length:=λks nd lt=>by
  have:=mq ks (List.range a.length) nd λi hi=>FG.mpr (lt i hi)
  simpa using this
 simp_arith only [i8,pK,fP]
 refine⟨λe=>∃(kvs:List (D×D)) (ks:List Nat) (W:Nat->List Nat) (at_:Nat) (k5 k6:Option Lo),e=[some (.d (eh a b)),some (.d (.int (p0:Int))),some (.dic kvs),some (.own (aD ks)),some (.d (.int (at_:Int))),k5,k6]/\zO kvs ks W/\CH a b ks W/\at_<=ks.length/\(∀j q,j < at_->ks[j]?=some q->∀t,t < a.length->(bH a t=q\/bH b t=q)->t∈ks),
  λe=>501 - uU 4 e,⟨_,[0],λ_=>[],0,none,none,rfl,yO,⟨by simp,λi hi=>by rw [Fi.mp hi];exact tab.pos,λi hi=>⟨λc hc=>(nomatch hc),Fi.mp hi,by simp⟩⟩,FC _,λj q hj=>absurd hj (FU _)⟩,?_⟩
 rintro env ⟨kvs,ks,W,at_,k5,k6,rfl,m,s,hat,cl⟩;have lk:=few ks m.nd s.lt;have nk:(aD ks).length=ks.length:=by simp [aD]
 simp_arith only [nk]
 by_cases cc:at_ < ks.length
 ·rw [if_pos (by omega)];obtain⟨p,hp⟩:∃p,ks[at_]?=some p:=⟨_,ET cc⟩
  simp_arith only [gM]
  refine b9 (λi e=>i<=2/\∃(kvs:List (D×D)) (k2:List Nat) (W:Nat->List Nat) (k5 k6:Option Lo),e=[some (.d (eh a b)),some (.d (.int (p0:Int))),some (.dic kvs),some (.own (aD k2)),some (.d (.int (at_:Int))),k5,k6]/\Eh a b ks kvs k2 W/\(1<=i->∀t,t < a.length->bH a t=p->t∈k2)/\(2<=i->∀t,t < a.length->bH b t=p->t∈k2)) ?_ ?_ ⟨by omega,kvs,ks,W,k5,k6,rfl,⟨m,s,⟨[],by simp⟩⟩,λz=>absurd z (by decide),λz=>absurd z (by decide)⟩
  ·rintro i x env Z hx ⟨_,kvs,k2,W,k5,k6,rfl,hi1,s1,s2⟩ hZ;have hi:i < 2:=by have:=(EO.mp hx).1;simpa using this
   obtain⟨c,g,fin,hc,hlp,hg,rfl,ixg,ixs⟩:∃(c:Nat) (g:List Nat),(∀k3:List Nat,(∀q∈k2,q∈k3)->(∀t,t < a.length->bH g t=p->t∈k3)->(1<=i + 1->∀t,t < a.length->bH a t=p->t∈k3)/\(2<=i + 1->∀t,t < a.length->bH b t=p->t∈k3))/\isLet c/\(∀q,lp a b q c=bH g q)/\g.length=a.length/\x=.int (i:Int)/\(∀Q:D->Prop,gT (eh a b) (.int (i:Int)) Q=Q (.tup (aD g)))/\(∀Q:D->Prop,Q (.str ⟨#[c]⟩)->gT (.str "sr") (.int (i:Int)) Q):=by
    rcases (show i=0\/i=1 by omega) with rfl|rfl
    ·exact⟨115,a,λk3 su st=>⟨λ_=>st,λz=>absurd z (by decide)⟩,.inl rfl,λq=>rfl,rfl,(E9 hx).symm,λQ=>AE,λQ q=>⟨by decide,115,rfl,q⟩⟩
    ·exact⟨114,b,λk3 su st=>⟨λ_ t ht e=>su t (s1 (by omega) t ht e),λ_=>st⟩,.inr (.inl rfl),λq=>rfl,lb,(E9 hx).symm,λQ=>CQ,λQ q=>⟨by decide,114,rfl,q⟩⟩
   have ng:(aD g).length=a.length:=by simp [aD,hg]
   simp_arith only [and_true]
   rw [ixg]
   simp_arith only [ng]
   refine⟨by omega,by omega,?_⟩
   have eN:aX 0 ((a.length:Nat):Int).toNat=(List.range a.length).map λ(t:Nat)=>D.int (t:Int):=by
    unfold aX;rw [Int.toNat_natCast];refine List.map_congr_left λi _=>?_;rw [Int.zero_add]
   rw [eN];refine b9 (λj e=>j<=a.length/\∃(kvs:List (D×D)) (k3:List Nat) (W:Nat->List Nat) (k6:Option Lo),e=[some (.d (eh a b)),some (.d (.int (p0:Int))),some (.dic kvs),some (.own (aD k3)),some (.d (.int (at_:Int))),some (.d (.int (i:Int))),k6]/\Eh a b ks kvs k3 W/\(∀q∈k2,q∈k3)/\∀t,t < j->bH g t=p->t∈k3) ?_ ?_ ⟨FC _,kvs,k2,W,k6,rfl,hi1,λq h=>h,λt ht=>absurd ht (FU _)⟩
   ·rintro j x env Z2 hx ⟨_,kvs,k3,W,k6,rfl,h3,su,sj⟩ hZ2;rw [E2] at hx;obtain⟨j',hj',rfl⟩:=Fv.mp hx;have hj:=(EO.mp hj').1;rw [List.length_range] at hj;rw [Ga hj] at hj';cases hj';obtain⟨r,er⟩:=h3.pre;have hp3:k3[at_]?=some p:=by rw [er,E5 cc];exact hp
    have ai:lx (aD k3) (at_:Int)=some (.int (p:Int)):=lK _ _ _ _ hp3;have l3:=few k3 h3.wd.nd h3.hm.lt;have kl:=h3.wd.len;have pm:=E6 hp3;obtain⟨w1,w2,w3⟩:=h3.hm.w p pm;have n3:(aD k3).length=k3.length:=by simp [aD]
    simp_arith only [and_true]
    rw [ixg,vE (dU (by omega))];refine⟨_,_,rfl,ai,?_⟩;rw [i6]
    simp_arith only [mX,Lo.dic.injEq]
    by_cases c1:bH g j=p
    ·rw [if_pos (by omega)];refine⟨by simp [aP],by simp [dep],h3.wd.ok,?_⟩;rw [h3.wd.any]
     by_cases c2:j∈k3
     ·rw [decide_eq_true c2];refine hZ2 _ ⟨by omega,kvs,k3,W,_,rfl,h3,su,λt ht e=>?_⟩;rcases FK.mp ht with z|z
      ·exact sj t z e
      ·rw [z];exact c2
     ·rw [decide_eq_false c2]
      simp_arith only [Bool.not_false,if_true,jC,fb,Lo.dic.injEq]
      have wd4:=h3.wd.put c2 (c :: W p);have hm4:=h3.hm.put pm hc hj (by rw [hlp];exact c1) c2
      have el:(⟨#[c]⟩ ++ ⟨(W p).toArray⟩:Str)=⟨(c :: W p).toArray⟩:=by
       show Str.mk (#[c] ++ (W p).toArray)=_
       congr 1
       simp
      refine ixs _ ⟨_,_,rfl,ai,strN (W p),by simp [aP],by simp [dep],h3.wd.ok,by rw [h3.wd.get,if_pos pm],?_⟩;show bw (.str ⟨#[c]⟩) (.str ⟨(W p).toArray⟩) _
      rw [c9,el];refine⟨?_,by simp [aP],by simp [dep],h3.wd.ok,by omega,by omega,hZ2 _ ⟨by omega,_,k3 ++ [j],_,some (.d (.int (j:Int))),?_,⟨wd4,hm4,⟨r ++ [j],by rw [er,List.append_assoc]⟩⟩,λq hq=>FO _ (su q hq),λt ht e=>?_⟩⟩
      ·show 1 + (W p).toArray.size<=_
       simp;omega
      ·simp only [aD,List.map_append,Fm,List.map_nil];rfl
      ·rcases FK.mp ht with z|z
       ·exact FO _ (sj t z e)
       ·rw [z];simp
    ·rw [if_neg (by omega)];refine hZ2 _ ⟨by omega,kvs,k3,W,_,rfl,h3,su,λt ht e=>?_⟩;rcases FK.mp ht with z|z
     ·exact sj t z e
     ·rw [z] at e;exact absurd e c1
   ·rintro env ⟨_,kvs,k3,W,k6,rfl,h3,su,sj⟩;have lj:((List.range a.length).map λ(t:Nat)=>D.int (t:Int)).length=a.length:=by simp
    rw [lj] at sj;obtain⟨f1,f2⟩:=fin k3 su sj;exact hZ _ ⟨by omega,kvs,k3,W,_,_,rfl,h3,f1,f2⟩
  ·rintro env ⟨_,kvs,k2,W,k5,k6,rfl,hi1,s1,s2⟩;obtain⟨r,er⟩:=hi1.pre
   simp_arith only [and_true]
   have l2:=few k2 hi1.wd.nd hi1.hm.lt;have lr:ks.length + r.length=k2.length:=by rw [er,Ft]
   refine⟨⟨kvs,k2,W,at_ + 1,_,_,rfl,rfl,by omega,rfl,rfl,hi1.wd,hi1.hm,by omega,λj q hj hq t ht e=>?_⟩,?_⟩
   ·rcases FK.mp hj with z|z
    ·have hq':ks[j]?=some q:=by rw [er,E5 (by omega)] at hq;exact hq
     have:=cl j q z hq' t ht e;rw [er];exact FO _ this
    ·rw [z,er,E5 cc,hp] at hq;cases hq;rcases e with e|e
     ·exact s1 (by simp) t ht e
     ·exact s2 (by simp) t ht e
   ·simp only [uU,Fs,Fq];omega
 ·rw [if_neg (by omega)];have e0:at_=ks.length:=by omega
  have back:∀q∈ks,∀t,t < a.length->(bH a t=q\/bH b t=q)->t∈ks:=λq hq=>by
   obtain⟨j,hj⟩:=FI hq;exact cl j q (by have:=(EO.mp hj).1;omega) hj
  have all:∀i,i < a.length->i∈ks:=λi hi=>tab.high (λq hq=>by
   have lq:=s.lt q hq;have l1:=uF tab.ok lq;have l2:=iO tab.ok lq;have l3:=iO tab.ok l2;refine⟨back q hq _ l1 (.inl (wV tab.ok lq)),?_⟩;have h2:bH b (bH b q)∈ks:=back q hq _ l3 (.inr (qN tab.ok lq))
   exact back _ h2 _ l2 (.inr rfl)) s.z i i (E3 _) hi
  simp_arith only [fb,Lo.dic.injEq]
  obtain⟨v1,v2,v3⟩:=s.w p0 (all p0 hp0);exact⟨_,by simp [aP],by simp [dep],m.ok,by rw [m.get,if_pos (all p0 hp0)],h _ v1 v2 (by omega)⟩
def Dy (x y:D) (Q:D->Prop):Prop:=∃n:Nat,x=.int (n:Int)/\n<=60/\Ae 62 7 y/\∀w:List Nat,(∀c∈w,isLet c)->w.length<=n->Q (strN w)
def cZ:Fw:=F2 Dy
theorem mj {w:List Nat} {c:Nat} {Q:D->Prop} (hl:w.length<=1000000) (h:Q (strN (w ++ [c]))):bw (strN w) (.str ⟨#[c]⟩) Q:=by
 show bw (.str ⟨w.toArray⟩) (.str ⟨#[c]⟩) _
 rw [c9]
 have el:(⟨w.toArray⟩ ++ ⟨#[c]⟩:Str)=⟨(w ++ [c]).toArray⟩:=by
  show Str.mk (w.toArray ++ #[c])=_
  congr 1
  simp
 rw [el];refine⟨?_,h⟩;rw [Fb];show w.toArray.size + 1<=_
 simp;omega
def gX:cK:=(aN (bg 2 (cC (.str ""))) (aN (gh jy (af (ag 0) aw) (aR 3) (jj (aL (aF iG (aF dm (aF bw (aF gT (ag 1) (cC (.int 0))) (ag 3)) (cC (.int 2))) (cC (.int 0)))) (bg 2 (aF bw (ag 2) (cC (.str "s")))) (bg 2 (aF bw (ag 2) (aF gT (cC (.str "rq")) (aF dm (aF gT (ag 1) (aF bw (ag 3) (cC (.int 1)))) (cC (.int 2)))))))) (bT (ag 2))))
theorem nL:∀ds Q,cZ ds Q->ds.length=2:=kJ
theorem pJ:∀ds (Q:D->Prop),cZ ds Q->gX { nx:=λ_=>Q .non,rt:=Q } (aA ["_law_many","_law_digits_here","_law_word_here","_law_k"] ds):=by
 rintro ds Q ⟨x,y,rfl,n,rfl,hn,hd,h⟩
 simp_arith only [gX]
 refine⟨by omega,by omega,?_⟩;refine b9 (λi e=>i<=n/\∃(w:List Nat) (k3:Option Lo),e=[some (.d (.int (n:Int))),some (.d y),some (.d (strN w)),k3]/\(∀c∈w,isLet c)/\w.length<=i) ?_ ?_ ⟨FC _,[],none,rfl,λc hc=>(nomatch hc),E3 _⟩
 ·rintro i x env Z hx ⟨_,w,k3,rfl,hw,lw⟩ hZ;have hi:=(EO.mp hx).1;unfold aX at hx hi;rw [Ff,List.length_range,Int.toNat_natCast] at hi;rw [E2,Int.toNat_natCast,Ga hi] at hx;cases hx
  have go:∀c,isLet c->(Z [some (.d (.int (n:Int))),some (.d y),some (.d (strN (w ++ [c]))),some (.d (.int (0 + (i:Int))))]):=λc hc=>hZ _ ⟨by omega,w ++ [c],_,rfl,λz hz=>by
   rcases Fy.mp hz with hz|hz
   ·exact hw z hz
   ·rw [Fi.mp hz];exact hc,by simp;omega⟩
  simp_arith only [and_true]
  refine wq hd (by decide) (by decide) λd0 d1 d2=>?_
  simp_arith only [and_true]
  refine⟨fy _ (by decide),?_⟩
  split
  ·exact mj (c:=115) (by omega) (go 115 (.inl rfl))
  ·rw [show (0:Int) + (i:Int) + 1=((i + 1:Nat):Int) by omega];refine wq hd (by omega) (by omega) λe0 e1 e2=>?_
   simp_arith only [Int.fmod_eq_emod_of_nonneg _ (show (0:Int)<=2 by decide)]
   refine⟨fy _ (by decide),?_⟩;have h2:e0 % 2=0\/e0 % 2=1:=by omega
   rcases h2 with z|z <;> rw [z]
   ·exact⟨by decide,114,rfl,mj (c:=114) (by omega) (go 114 (.inr (.inl rfl)))⟩
   ·exact⟨by decide,113,rfl,mj (c:=113) (by omega) (go 113 (.inr (.inr rfl)))⟩
 ·rintro env ⟨hi,w,k3,rfl,hw,lw⟩
  simp_arith only [and_true]
  exact h w hw (by simpa [aX] using lw)
def B7 (x:D) (Q:D->Prop):Prop:=∃a b:List Nat,x=eh a b/\yT a b/\xl a b/\a.length<=500/\Q (.bl true)
def dG:Fw:=F1 B7
def gQ:cK:=(aN (jI (iF (af (aF gT (ag 1) (de 5 (ag 6))) (af (aF gT (ag 2) (de 5 (ag 6))) aw))) (aR 7) (jj (l7 true 5 (ag 7)) (bP 5 (ag 7)) bC)) (bg 6 (aF bw (ag 6) (cC (.int 1)))))
def fO:cK:=(aN (bg 8 (a8 (dk jy [1,2] (af (ag 3) aw) bU (iQ (aF iG (aF gT (ag 1) (aF gT (ag 1) (ag 0))) (ag 0)) (aF iG (aF gT (ag 2) (aF gT (ag 2) (aF gT (ag 2) (ag 0)))) (ag 0)))))) (cQ 5 (bT (iQ (az xj (af (ag 8) aw)) (aF iG (ag 5) (a8 (qp (af (ag 3) aw))))))))
def f7:cK:=(aN (bO 5 (iH (af (cC (.int 0)) aw))) (aN (bg 6 (cC (.int 0))) (aN (fP (aL (aF yW (ag 6) (bX 5))) gQ) fO)))
def gd:cK:=(aN (iD (ag 0) (j4 2 (bf (aR 1) (bf (aR 2) iE)))) (aN (bg 3 (az lA (af (ag 1) aw))) (aN (jj (tJ (aL (aF rJ (az lA (af (ag 2) aw)) (ag 3))) (aL (aF iG (ag 3) (cC (.int 0))))) (bT (cC (.bl false))) bC) (aN (jI (aF bw (ag 1) (ag 2)) (aR 4) (jj (tJ (j7 (aL (mT "int" (ag 4)))) (tJ (aL (mT "bool" (ag 4))) (j7 (aL (gU Ei yW (cC (.int 0)) (ag 4) (ag 3)))))) (bT (cC (.bl false))) bC)) f7))))
def je:cK:=(aN (jj (tJ (j7 (aL (mT "tuple" (ag 0)))) (tJ (aL (aF rJ (az lA (af (ag 0) aw)) (cC (.int 2)))) (j7 (aL (az xj (af (a8 (dR [] (ag 0) bU (mT "tuple" (ag 0)))) aw)))))) (bT (cC (.bl false))) bC) gd)
theorem qa:∀ds Q,dG ds Q->ds.length=1:=vF
theorem rP:∀ds (Q:D->Prop),dG ds Q->je { nx:=λ_=>Q .non,rt:=Q } (aA ["_law_found","_law_halves","_law_thirds","_law_many","_law_place","_law_met","_law_at","_law_behind","_law_backs"] ds):=by
 rintro ds Q ⟨x,rfl,a,b,rfl,tab,sm,la,h⟩;have sz:=Fb;have lb:=tab.ok.len;have na:(aD a).length=a.length:=by simp [aD]
 have nb:(aD b).length=a.length:=by simp [aD,lb]
 have sy:=tab.sy la tab.pos;have lr:(List.range a.length).length=a.length:=List.length_range
 have t8:∀(k4 k7:Option Lo) (n:Int),fO { nx:=λ_=>Q .non,rt:=Q } [some (.d (eh a b)),some (.d (.tup (aD a))),some (.d (.tup (aD b))),some (.d (.int (a.length:Int))),k4,some (.own (aD (List.range a.length))),some (.d (.int n)),k7,none]:=by
  intro k4 k7 n
  simp_arith only [fO,bc]
  refine⟨by omega,by omega,?_⟩
  have eN:aX 0 ((a.length:Nat):Int).toNat=(List.range a.length).map λ(t:Nat)=>D.int (t:Int):=by
   unfold aX;rw [Int.toNat_natCast];refine List.map_congr_left λi _=>?_;rw [Int.zero_add]
  rw [eN];refine cU (λ(t:Nat)=>D.int (t:Int)) (λ_=>.bl true) (List.range a.length) [] (λi hi Z hZ=>?_) (by simp;omega) ?_
  ·have hi:=FG.mp hi;have l1:=uF tab.ok hi;have l2:=iO tab.ok hi;have l3:=iO tab.ok l2
   simp_arith only [and_true]
   rw [vE (dU hi),vE (dU (show bH a i < a.length from l1)),show bH a (bH a i)=i from wV tab.ok hi,i6,decide_eq_true rfl];refine⟨true,rfl,?_⟩;rw [if_pos rfl,vE (dU (by omega)),vE (dU (show bH b i < b.length by rw [lb];exact l2)),vE (dU (show bH b (bH b i) < b.length by rw [lb];exact l3)),show bH b (bH b (bH b i))=i from qN tab.ok hi,i6,decide_eq_true rfl];exact hZ
  ·have e:([] ++ (List.range a.length).map λ_=>D.bl true)=((List.range a.length).map λ_=>true).map D.bl:=by simp
   rw [e];refine⟨_,o6 _,?_⟩;have ea:((List.range a.length).map λ_=>true).all id=true:=by simp
   rw [ea];refine⟨true,rfl,?_⟩;rw [if_pos rfl];refine⟨by omega,by omega,?_⟩;have e2:((List.range a.length).map λ(t:Nat)=>D.int (t:Int))=aD (List.range a.length):=rfl;rw [e2];unfold iG iJ;have dl:=pO gI (List.range a.length);have dl':bJ (aD (List.range a.length))<=8:=dl;have ee:aQ (.lst (aD (List.range a.length))) (.lst (aD (List.range a.length)))=true:=by rw [aQ,oM,decide_eq_true rfl]
   rw [ee];simp only [dep]
   first|exact⟨by omega,h⟩|exact⟨⟨by omega,by omega⟩,h⟩
 have t5:∀(k4:Option Lo),f7 { nx:=λ_=>Q .non,rt:=Q } [some (.d (eh a b)),some (.d (.tup (aD a))),some (.d (.tup (aD b))),some (.d (.int (a.length:Int))),k4,none,none,none,none]:=by
  intro k4
  simp_arith only [f7,fP]
  refine⟨λe=>∃(met:List Nat) (at_:Nat) (k7:Option Lo),e=[some (.d (eh a b)),some (.d (.tup (aD a))),some (.d (.tup (aD b))),some (.d (.int (a.length:Int))),k4,some (.own (aD met)),some (.d (.int (at_:Int))),k7,none]/\Me (λi=>i < a.length) met/\at_<=met.length/\zc (bH a) (bH b) (a.length + 1 - at_) at_ met=yR (bH a) (bH b) 0 a.length,
   λe=>501 - uU 6 e,⟨[0],0,none,rfl,⟨by simp,λp hp=>by rw [Fi] at hp;rw [hp];exact tab.pos⟩,FC _,rfl⟩,?_⟩
  rintro env ⟨met,at_,k7,rfl,m,mle,hb⟩;have ml:=m.len sy;rw [lr] at ml;have nm:(aD met).length=met.length:=by simp [aD]
  simp_arith only [nm]
  by_cases cc:at_ < met.length
  ·rw [if_pos (by omega)];obtain⟨p,hp⟩:∃p,met[at_]?=some p:=⟨_,ET cc⟩;have ip:=m.inn p (E6 hp);obtain⟨i1,i2⟩:=sy.cl p ip;have ai:lx (aD met) (at_:Int)=some (.int (p:Int)):=lK _ _ _ _ hp
   simp_arith only [gQ]
   refine⟨_,_,rfl,ai,?_⟩;rw [vE (dU ip)];refine⟨_,_,rfl,ai,?_⟩;rw [vE (dU (by omega))]
   have mf:∀i,Me (λi=>i < a.length) (iT met [bH a p,bH b p] i):=λi=>Me.fold _ _ m λq hq=>by
    have:=List.mem_of_mem_take hq;simp only [Fe,FH,or_false] at this;rcases this with rfl|rfl
    ·exact i1
    ·exact i2
   refine b9 (λi e=>i<=2/\∃k7,e=[some (.d (eh a b)),some (.d (.tup (aD a))),some (.d (.tup (aD b))),some (.d (.int (a.length:Int))),k4,some (.own (aD (iT met [bH a p,bH b p] i))),some (.d (.int (at_:Int))),k7,none]) ?_ ?_ ⟨by omega,k7,rfl⟩
   ·rintro i x' env Z hx ⟨hi2,k7,rfl⟩ hZ;have hi:i < 2:=by have:=(EO.mp hx).1;simpa using this
    obtain⟨q,hq,rfl⟩:∃q,[bH a p,bH b p][i]?=some q/\D.int (q:Int)=x':=Fv.mp ((E2 (f:=λ(q:Nat)=>D.int (q:Int)) (l:=[bH a p,bH b p]) (i:=i)).symm.trans hx);have eq:iT met [bH a p,bH b p] (i + 1)=bh (iT met [bH a p,bH b p] i) q:=kc hq;have ml':=(mf i).len sy;rw [lr] at ml';have kq:=gI.dp q;have dl:=pO gI (iT met [bH a p,bH b p] i);have nl:(aD (iT met [bH a p,bH b p] i)).length=(iT met [bH a p,bH b p] i).length:=by simp [aD]
    have ac:=zK gI (iT met [bH a p,bH b p] i) q
    simp_arith only [l7,nl]
    refine⟨by have:bJ (aD (iT met [bH a p,bH b p] i))<=_:=dl;omega,by simp [dep],?_⟩;rw [show ((aD (iT met [bH a p,bH b p] i)).any λe=>aQ e (D.int (q:Int)))=decide (q∈iT met [bH a p,bH b p] i) from ac];unfold bh at eq
    by_cases c2:q∈iT met [bH a p,bH b p] i
    ·rw [if_pos c2] at eq;rw [decide_eq_true c2];refine hZ _ ⟨by omega,some (.d (.int (q:Int))),?_⟩;rw [eq]
    ·rw [if_neg c2] at eq;rw [decide_eq_false c2];refine⟨by omega,hZ _ ⟨by omega,some (.d (.int (q:Int))),?_⟩⟩;rw [eq];simp [aD]
   ·rintro env ⟨_,k7,rfl⟩;have e2:iT met [bH a p,bH b p] [D.int ((bH a p:Nat):Int),D.int ((bH b p:Nat):Int)].length=bh (bh met (bH a p)) (bH b p):=rfl;have m2:=mf 2;have e3:iT met [bH a p,bH b p] 2=bh (bh met (bH a p)) (bH b p):=rfl;rw [e3] at m2;rw [e2]
    simp_arith only [and_true]
    have hl:=(EO.mp (bY (q:=bH b p) (bY (q:=bH a p) hp))).1;refine⟨⟨bh (bh met (bH a p)) (bH b p),at_ + 1,k7,rfl,by omega,rfl,m2,by omega,?_⟩,by simp only [uU,Fs,Fq];omega⟩;rw [<- hb,show a.length + 1 - at_=(a.length - at_) + 1 by omega,zc,hp];rw [show a.length + 1 - (at_ + 1)=a.length - at_ by omega]
  ·rw [if_neg (by omega)];have ea:at_=met.length:=by omega
   subst ea
   have eM:yR (bH a) (bH b) 0 a.length=met:=by
    rw [<- hb,show a.length + 1 - met.length=(a.length - met.length) + 1 by omega,zc,Fg (E3 _)]
   have er:met=List.range a.length:=by rw [<- eM];exact sm
   rw [er];exact t8 _ _ _
 have t1:gd { nx:=λ_=>Q .non,rt:=Q } [some (.d (eh a b)),none,none,none,none,none,none,none,none]:=by
  simp_arith only [gd,eh,g8,na,nb]
  have p0:=tab.pos;rw [if_neg (by omega)];refine⟨by omega,?_⟩;refine b9 (λ_ e=>∃k4,e=[some (.d (eh a b)),some (.d (.tup (aD a))),some (.d (.tup (aD b))),some (.d (.int (a.length:Int))),k4,none,none,none,none]) ?_ ?_ ⟨_,rfl⟩
  ·rintro i x env Z hx ⟨k4,rfl⟩ hZ
   obtain⟨q,hq,rfl⟩:∃q:Nat,q < a.length/\x=.int (q:Int):=by
    have hm:=E6 hx;rcases Fy.mp hm with hm|hm
    ·obtain⟨q,hq,rfl⟩:=Fj.mp hm;obtain⟨j,hj⟩:=FI hq;exact⟨q,tab.ok.al _ _ hj,rfl⟩
    ·obtain⟨q,hq,rfl⟩:=Fj.mp hm;obtain⟨j,hj⟩:=FI hq;exact⟨q,tab.ok.bl _ _ hj,rfl⟩
   simp_arith only [and_true]
   refine⟨true,rfl,true,rfl,?_⟩;rw [if_neg (by simp)];refine⟨false,rfl,false,rfl,?_⟩;rw [if_neg (by simp)];rw [if_pos (by omega),if_neg (by omega)];exact hZ _ ⟨_,rfl⟩
  ·rintro env ⟨k4,rfl⟩;exact t5 _
 simp_arith only [je,eh,bc]
 refine⟨true,rfl,true,rfl,?_⟩;rw [if_neg (by simp)];refine cU (λ(l:List Nat)=>D.tup (aD l)) (λ_=>.bl true) [a,b] [] (λl hl Z hZ=>?_) (by simp;omega) ?_
 ·simp_arith only [and_true]
  exact⟨true,rfl,hZ⟩
 ·refine⟨_,o6 [true,true],true,rfl,?_⟩;rw [if_neg (by simp)];exact t1
theorem Av (m:Mx):lW m (mW [])=m:=by
 obtain⟨a,b,c,d⟩:=m;simp [lW,Mx.mul,mW,m1]
theorem x8.Dk {k:Str} {N:Nat} {E F:List Nat} {met:List RR} (kd:Kd k N) (m:x8 k N E F met) {w:List Nat} (hw:∀c∈w,isLet c):isIn (kN k) N (mW w)=decide (lw E F w 0=0):=by
 have h:=m.same kd hw (w:=[]) (λc hc=>(nomatch hc));rw [Av] at h;rw [Bool.eq_iff_iff,decide_eq_true_eq];exact h
theorem yY:∀ds Q,u7 63 ds Q->ds.length=1:=by rintro ds Q ⟨ns,rfl,_⟩;rfl
def kb:cK:=(jj (aL (aF rJ (az cT (af (ag 2) (af (az a7 (af (ag 8) (af (ag 3) aw))) (af (ag 3) aw)))) (aF iG (az cB (af (ag 6) (af (ag 8) (af (cC (.int 0)) aw)))) (cC (.int 0))))) (bT (cC (.bl false))) bC)
def oQ:cK:=(aN (jj (aL (aF iG (aF dm (ag 1) (cC (.int 2))) (cC (.int 1)))) (bg 8 (aF bw (ag 8) (az dB (af (ag 6) (af (az cB (af (ag 6) (af (ag 8) (af (cC (.int 0)) aw)))) aw))))) bC) kb)
def uJ:cK:=(aN (gh jy (af (cC (.int 4)) aw) (aR 7) (aN (bg 1 (az cA (af (ag 0) (af (aF bw (cC (.int 1)) (ag 7)) aw)))) (aN (bg 8 (az cZ (af (aF dm (aF kQ (ag 1) (cC (.int 2))) (cC (.int 61))) (af (az eG (af (aF kQ (ag 1) (cC (.int 122))) (af (cC (.int 7)) (af (cC (.int 62)) aw)))) aw)))) oQ))) (bT (cC (.bl true))))
def qd:cK:=(aN (bg 4 (az cJ (af (ag 2) (af (ag 3) aw)))) (aN (iD (az cW (af (ag 2) (af (ag 3) aw))) (j4 2 (bf (aR 5) (bf (aR 6) iE)))) (aN (jj (aL (aF Ea (ag 4) (cC (.int 60)))) (bT (aF iG (ag 5) (cC (.int 13)))) bC) (aN (jj (tJ (aL (aF rJ (ag 5) (pM jE (cC (.int 2))))) (tJ (j7 (aL (az dG (af (ag 6) aw)))) (aL (aF rJ (az lA (af (aF gT (ag 6) (cC (.int 0))) aw)) (ag 4))))) (bT (cC (.bl false))) bC) uJ))))
def wy:cK:=(aN (bg 1 (az cA (af (ag 0) (af (cC (.int 0)) aw)))) (aN (bg 2 (aF gT (c8 (af (cC (.str "plain")) (af (cC (.str "upper")) (af (cC (.str "first")) aw)))) (aF dm (ag 1) (cC (.int 3))))) (aN (bg 3 (aF bw (cC (.int 1)) (aF dm (aF kQ (ag 1) (cC (.int 3))) (cC (.int 24))))) qd)))
theorem AJ:∀ds (Q:D->Prop),u7 63 ds Q->wy { nx:=λ_=>Q .non,rt:=Q } (aA ["_law_script","_law_cell_here","_law_kind_here","_law_number","_law_many","_law_found","_law_table","_law_k","_law_word_here"] ds):=by
 rintro ds Q ⟨ns,rfl,hl,h⟩;have sz:=Fb;have f3:∀(x y:Int),0 < y->x.fmod y=x % y:=λx y hy=>Int.fmod_eq_emod_of_nonneg x (by omega)
 have tail:∀(k1:Option Lo) (k:Str) (N:Nat),Kd k N->qd { nx:=λ_=>Q .non,rt:=Q } [some (.d (.lst (ns.map D.int))),k1,some (.d (.str k)),some (.d (.int (N:Int))),none,none,none,none,none]:=by
  intro k1 k N kd
  simp_arith only [qd,cJ,cW,iK]
  refine⟨k,N,rfl,rfl,kd,λn ov=>?_,λn dn=>?_⟩
  ·refine⟨k,N,rfl,rfl,kd,λn' ov'=>?_,λn' dn'=>(dn'.over ov).elim⟩
   simp_arith only [and_true]
   exact h
  ·refine⟨k,N,rfl,rfl,kd,λn' ov'=>(dn.over ov').elim,λn' dn'=>?_⟩;obtain rfl:=dn.uniq dn';have gm:x8 k N (dq (il k N n) (hW N (aZ k N))) (dq (il k N n) (gw N (aZ k N))) (il k N n):=EM kd dn;have l6:(il k N n).length<=60:=dn.le n (E3 _);have sf:=gm.B4 dn rfl (pV kd)
   have ln:(il k N n).length=n:=by
    have pt:=eI (ha:=hW N (aZ k N)) (th:=gw N (aZ k N)) (P:=BL N (aZ k N) (gn k)) ⟨m1,rfl⟩ (pV kd) n dn.lt;exact Nat.le_antisymm dn.fin pt.le
   generalize hE:dq (il k N n) (hW N (aZ k N))=E at gm sf ⊢;generalize hF:dq (il k N n) (gw N (aZ k N))=F at gm sf ⊢;generalize il k N n=met at gm l6 ln hE hF;have tb:=gm.oG kd;have lE:E.length=n:=by rw [gm.BO];exact ln
   have nE:(aD E).length=n:=by simp [aD,lE]
   simp_arith only [dG,vH,eh,AE,g8,nE]
   rw [if_neg (by omega)];refine⟨E,F,rfl,tb,sf,by omega,true,rfl,?_⟩;rw [if_neg (by simp)]
   simp_arith only [uJ]
   refine b9 (λ_ e=>∃k1 k7 k8,e=[some (.d (.lst (ns.map D.int))),k1,some (.d (.str k)),some (.d (.int (N:Int))),some (.d (.int (n:Int))),some (.d (.int (-2))),some (.d (eh E F)),k7,k8]) ?_ ?_ ⟨_,_,_,rfl⟩
   ·rintro i x env Z hx ⟨k1,k7,k8,rfl⟩ hZ;have hi:=(EO.mp hx).1;unfold aX at hx hi;rw [Ff,List.length_range] at hi;rw [E2,Ga hi] at hx;cases hx;have p0:=tb.pos
    have fin:∀(k1:Option Lo) (w:List Nat) (Y:Ends3),Y.nx=Z->(∀c∈w,isLet c)->w.length<=100000->kb Y [some (.d (.lst (ns.map D.int))),k1,some (.d (.str k)),some (.d (.int (N:Int))),some (.d (.int (n:Int))),some (.d (.int (-2))),some (.d (eh E F)),some (.d (.int (0 + (i:Int)))),some (.d (strN w))]:=by
     intro k1 w Y hD hw lw1
     simp_arith only [kb,a7,cT,cB,iK,qF]
     refine⟨w,N,rfl,rfl,hw,kd.n1,kd.n24,by omega,k,_,N,rfl,rfl,rfl,kd,E,F,w,0,rfl,rfl,rfl,tb.ok,p0,hw,?_⟩;rw [gm.Dk kd hw];have e1:decide (((lw E F w 0:Nat):Int)=0)=decide (lw E F w 0=0):=by rw [Bool.eq_iff_iff,decide_eq_true_eq,decide_eq_true_eq];omega
     simp only [i6,e1]
     have nb:∀x:Bool,∀Q:L2.L3.D->Prop,Q (.bl false)->rJ (.bl x) (.bl x) Q:=λx Q q=>by
      unfold rJ iJ;have e:aQ (.bl x) (.bl x)=true:=by cases x <;> rfl
      rw [e];simp only [dep]
      first|exact⟨by decide,q⟩|exact⟨⟨by decide,by decide⟩,q⟩|simpa using q
     refine nb _ _ ⟨false,rfl,?_⟩;rw [if_neg (by simp),hD];exact hZ _ ⟨_,_,_,rfl⟩
    simp_arith only [cA,iK]
    refine⟨ns,_,rfl,rfl,by omega,?_⟩;generalize ur ns (1 + (0 + (i:Int)))=c
    simp_arith only [cZ,eG,iK,qF]
    refine⟨yj _ ⟨by decide,by decide⟩,fy _ (by decide),yj _ ⟨by decide,by decide⟩,_,7,62,rfl,rfl,rfl,by decide,bits_le (Cc 3 7 (by decide)) (by decide),by decide,λdg hdg=>?_⟩;rw [f3 _ 61 (by decide)]
    obtain⟨q,eq,hq⟩:∃q:Nat,c.fdiv 2 % 61=(q:Int)/\q<=60:=by
     have h1:=Int.emod_nonneg (c.fdiv 2) (show (61:Int)≠0 by decide);have h2:=Int.emod_lt_of_pos (c.fdiv 2) (show (0:Int) < 61 by decide);exact⟨(c.fdiv 2 % 61).toNat,by omega,by omega⟩
    rw [eq];refine⟨q,rfl,hq,hdg,λw hw lw1=>?_⟩
    simp_arith only [oQ,cB,dB,iK,qF]
    refine⟨fy _ (by decide),?_⟩
    split
    ·refine⟨E,F,w,0,rfl,rfl,rfl,tb.ok,p0,hw,E,F,_,rfl,rfl,tb,by omega,zC tb.ok p0 w,λv hv lv ll=>?_⟩
     have el:(⟨w.toArray⟩ ++ ⟨v.toArray⟩:Str)=⟨(w ++ v).toArray⟩:=by
      show Str.mk (w.toArray ++ v.toArray)=_
      congr 1
      simp
     show bw (.str ⟨w.toArray⟩) (.str ⟨v.toArray⟩) _
     rw [c9,el];refine⟨?_,fin _ (w ++ v) { nx:=Z,rt:=Q,bk:=bT (cC (.bl true)) { nx:=λ_=>Q .non,rt:=Q },ct:=Z } rfl (λy hy=>?_) (by simp;omega)⟩
     ·rw [Fb];show w.toArray.size + v.toArray.size<=_
      simp;omega
     ·rcases Fy.mp hy with hy|hy
      ·exact hw y hy
      ·exact hv y hy
    ·exact fin _ w { nx:=Z,rt:=Q,bk:=bT (cC (.bl true)) { nx:=λ_=>Q .non,rt:=Q },ct:=Z } rfl hw (by omega)
   ·rintro env ⟨k1,k7,k8,rfl⟩
    simp_arith only [and_true]
    exact h
 simp_arith only [wy,cA,iK]
 refine⟨ns,0,rfl,rfl,by omega,?_⟩;generalize ur ns 0=c
 simp_arith only [f3 _ 3 (by decide),f3 _ 24 (by decide)]
 have m3:oS c 3:=fy _ (by decide);have d3:sg c 3:=yj _ ⟨by decide,by decide⟩
 obtain⟨n,en,l1,l2⟩:∃n:Nat,1 + c.fdiv 3 % 24=(n:Int)/\1<=n/\n<=24:=by
  have h1:=Int.emod_nonneg (c.fdiv 3) (show (24:Int)≠0 by decide);have h2:=Int.emod_lt_of_pos (c.fdiv 3) (show (0:Int) < 24 by decide);exact⟨(1 + c.fdiv 3 % 24).toNat,by omega,by omega,by omega⟩
 have h3:c % 3=0\/c % 3=1\/c % 3=2:=by omega
 rw [en];rcases h3 with e|e|e <;> rw [e]
 ·exact⟨m3,_,rfl,d3,fy _ (by decide),tail _ _ n ⟨.inl rfl,l1,l2⟩⟩
 ·exact⟨m3,_,rfl,d3,fy _ (by decide),tail _ _ n ⟨.inr (.inl rfl),l1,l2⟩⟩
 ·exact⟨m3,_,rfl,d3,fy _ (by decide),tail _ _ n ⟨.inr (.inr rfl),l1,l2⟩⟩
open PySem L2 L2.L3
open K55
def top (i:Nat):Stmt:=PySem.Challenge.pw_fanglue_k69_by_rests.main.body.getD i (.Pass ⟨0,0,0,0⟩)
structure BI where
 c_NoTable:Addr
 c_NoFan:Addr
 c_NoTurning:Addr
 c_NoFraction:Addr
 c_NoText:Addr
 c_NoPaper:Addr
 c_NotIn:Addr
 c_NoRoot:Addr
 c_Open:Addr
 c_Full:Addr
 c_NoName:Addr
 c_NoRow:Addr
 c_TooMany:Addr
 c_TooLong:Addr
 c_FanError:Addr
 t_MOST_PLACES:Tok
structure Tc (K:ES) (w:World) (n:BI):Prop where
 g_MOST_PLACES:PySem.W.nsIn K mainGlobals "MOST_PLACES" = some (some (.int 60 n.t_MOST_PLACES))
 n_NoTable:PySem.W.nsIn K mainGlobals "NoTable" = some (some (.ref n.c_NoTable))
 n_NoFan:PySem.W.nsIn K mainGlobals "NoFan" = some (some (.ref n.c_NoFan))
 n_NoTurning:PySem.W.nsIn K mainGlobals "NoTurning" = some (some (.ref n.c_NoTurning))
 n_NoFraction:PySem.W.nsIn K mainGlobals "NoFraction" = some (some (.ref n.c_NoFraction))
 n_NoText:PySem.W.nsIn K mainGlobals "NoText" = some (some (.ref n.c_NoText))
 n_NoPaper:PySem.W.nsIn K mainGlobals "NoPaper" = some (some (.ref n.c_NoPaper))
 n_NotIn:PySem.W.nsIn K mainGlobals "NotIn" = some (some (.ref n.c_NotIn))
 n_NoRoot:PySem.W.nsIn K mainGlobals "NoRoot" = some (some (.ref n.c_NoRoot))
 n_Open:PySem.W.nsIn K mainGlobals "Open" = some (some (.ref n.c_Open))
 n_Full:PySem.W.nsIn K mainGlobals "Full" = some (some (.ref n.c_Full))
 n_NoName:PySem.W.nsIn K mainGlobals "NoName" = some (some (.ref n.c_NoName))
 n_NoRow:PySem.W.nsIn K mainGlobals "NoRow" = some (some (.ref n.c_NoRow))
 n_TooMany:PySem.W.nsIn K mainGlobals "TooMany" = some (some (.ref n.c_TooMany))
 n_TooLong:PySem.W.nsIn K mainGlobals "TooLong" = some (some (.ref n.c_TooLong))
 n_FanError:PySem.W.nsIn K mainGlobals "FanError" = some (some (.ref n.c_FanError))
 e_TooMany:PySem.W.excIn K n.c_TooMany [.type "ValueError",.type "Exception",.type "BaseException",.type "object"] "ValueError.__new__" = true
 o1_TooMany:PySem.W.findIn K (.ref n.c_TooMany) "__getattribute__" = some (some (.builtin "BaseException.__getattribute__"))
 o2_TooMany:PySem.W.findIn K (.ref n.c_TooMany) "__getattr__" = some none
 o3_TooMany:PySem.W.hasDictIn K n.c_TooMany=true
 o4_TooMany:PySem.W.findIn K (.ref n.c_TooMany) "__class__" = some (some (.builtin "object.__class__"))
 o5_TooMany:PySem.W.specialIn K (.builtin "object.__class__") "__get__" = some (some (.builtin "getset_descriptor.__get__"))
 o6_TooMany:PySem.W.takesIn K (.builtin "object.__class__")=some true
 o7_TooMany:PySem.W.mroIn K n.c_TooMany (.type "object")=some true
 o8_TooMany:PySem.W.subIn K (.ref n.c_TooMany) (.type "BaseException")=some true
 u1_TooMany_FanError:PySem.W.typeIn K (.ref n.c_FanError)=some (.type "type")
 u2_TooMany_FanError:PySem.W.hasDictIn K n.c_FanError=true
 u3_TooMany_FanError:PySem.W.subIn K (.ref n.c_FanError) (.type "BaseException")=some true
 u4_TooMany_FanError:PySem.W.subIn K (.ref n.c_TooMany) (.ref n.c_FanError)=some true
 kt0:PySem.W.kitOne K (.ref n.c_TooMany) (.ref n.c_NoTable)=some false
 kt1:PySem.W.kitOne K (.ref n.c_TooMany) (.ref n.c_NoFan)=some false
 kt2:PySem.W.kitOne K (.ref n.c_TooMany) (.ref n.c_NoTurning)=some false
 kt3:PySem.W.kitOne K (.ref n.c_TooMany) (.ref n.c_NoFraction)=some false
 kt4:PySem.W.kitOne K (.ref n.c_TooMany) (.ref n.c_NoText)=some false
 kt5:PySem.W.kitOne K (.ref n.c_TooMany) (.ref n.c_NoPaper)=some false
 kt6:PySem.W.kitOne K (.ref n.c_TooMany) (.ref n.c_NotIn)=some false
 kt7:PySem.W.kitOne K (.ref n.c_TooMany) (.ref n.c_NoRoot)=some false
 kt8:PySem.W.kitOne K (.ref n.c_TooMany) (.ref n.c_Open)=some false
 kt9:PySem.W.kitOne K (.ref n.c_TooMany) (.ref n.c_Full)=some false
 kt10:PySem.W.kitOne K (.ref n.c_TooMany) (.ref n.c_NoName)=some false
 kt11:PySem.W.kitOne K (.ref n.c_TooMany) (.ref n.c_NoRow)=some false
 kt12:PySem.W.kitOne K (.ref n.c_TooMany) (.ref n.c_TooMany)=some true
 kt13:PySem.W.kitOne K (.ref n.c_TooMany) (.ref n.c_TooLong)=some false
 kt14:PySem.W.kitOne K (.ref n.c_TooMany) (.type "ValueError")=some true
theorem Tc.i7 {K:ES} {w:World} {n:BI} (TC:Tc K w n):xD K n.c_TooMany n.c_FanError:=⟨TC.u1_TooMany_FanError,TC.u2_TooMany_FanError,TC.u3_TooMany_FanError,TC.u4_TooMany_FanError⟩
theorem Tc.aY {K:ES} {w:World} {n:BI} (TC:Tc K w n):qV K n.c_TooMany:=⟨TC.o1_TooMany,TC.o2_TooMany,TC.o3_TooMany,TC.o4_TooMany,TC.o5_TooMany,TC.o6_TooMany,TC.o7_TooMany,TC.o8_TooMany⟩
abbrev dM:Stmt:=top 17
abbrev eo:Stmt:=top 20
abbrev bp:Stmt:=top 22
abbrev cj:Stmt:=top 23
abbrev cz:Stmt:=top 24
abbrev fT:Stmt:=top 26
abbrev eu:Stmt:=top 27
abbrev fj:Stmt:=top 28
abbrev hU:Stmt:=top 29
abbrev eT:Stmt:=top 30
abbrev fM:Stmt:=top 31
abbrev fi:Stmt:=top 32
abbrev c7:Stmt:=top 33
abbrev e8:Stmt:=top 34
abbrev bZ:Stmt:=top 35
abbrev dC:Stmt:=top 36
abbrev ez:Stmt:=top 37
abbrev dA:Stmt:=top 38
abbrev eZ:Stmt:=top 39
abbrev f6:Stmt:=top 40
abbrev xV:Stmt:=top 41
structure Txt (mg:Str->Option Value):Prop where
 ValueError:mg "ValueError" = none
 abs:mg "abs" = none
 all:mg "all" = none
 bool:mg "bool" = none
 int:mg "int" = none
 isinstance:mg "isinstance" = none
 len:mg "len" = none
 list:mg "list" = none
 min:mg "min" = none
 range:mg "range" = none
 tuple:mg "tuple" = none
theorem gy:aI ["p","q","high","low"] ["p","q"] (aj dM):=nV
theorem iP:aI ["first","behind","met","numbers","halves","thirds","half","third","thing"] ["first","behind"] (aj eo):=nV
theorem fg:aI ["rows","factors","number"] ["rows","factors","number"] (aj bp):=nV
theorem gV:aI ["rows"] ["rows"] (aj cj):=nV
theorem kS:aI ["kind","number","factors","rows","behind"] ["kind","number"] (aj cz):=nV
theorem kO:aI ["_law_script","_law_k"] ["_law_script","_law_k"] (aj fT):=nV
theorem iL:aI ["_law_cell_here","_law_base","_law_many","_law_row_here","_law_k"] ["_law_cell_here","_law_base","_law_many"] (aj eu):=nV
theorem jK:aI ["_law_cell_here","_law_base","_law_many","_law_row_here","_law_k","_law_one","_law_two"] ["_law_cell_here","_law_base","_law_many"] (aj fj):=nV
theorem l5:aI ["_law_cell_here","_law_base","_law_many"] ["_law_cell_here","_law_base","_law_many"] (aj hU):=nV
theorem jF:aI ["_law_many","_law_digits_here","_law_word_here","_law_k"] ["_law_many","_law_digits_here"] (aj eT):=nV
theorem kW:aI ["_law_table","_law_word_here","_law_place","_law_letter"] ["_law_table","_law_word_here","_law_place"] (aj fM):=nV
theorem jQ:aI ["_law_e","_law_marks"] ["_law_e"] (aj fi):=nV
theorem iN:aI ["_law_word_here","_law_number","_law_a","_law_b","_law_c","_law_d","_law_letter","_law_e","_law_f","_law_g","_law_h"] ["_law_word_here","_law_number"] (aj c7):=nV
theorem jH:aI ["_law_kind_here","_law_rests_here","_law_number","_law_a","_law_b","_law_c","_law_d","_law_one","_law_less"] ["_law_kind_here","_law_rests_here","_law_number"] (aj e8):=nV
theorem fC:aI ["_law_one","_law_other"] ["_law_one","_law_other"] (aj bZ):=nV
theorem nA:aI ["_law_kind_here","_law_rests_here","_law_number","_law_a","_law_b","_law_c","_law_d","_law_row_here","_law_by"] ["_law_kind_here","_law_rests_here","_law_number"] (aj dC):=nV
theorem iS:aI ["_law_kind_here","_law_number","_law_keys","_law_words","_law_at","_law_letter","_law_key_here"] ["_law_kind_here","_law_number"] (aj ez):=nV
theorem kL:aI ["_law_found","_law_halves","_law_thirds","_law_many","_law_place","_law_met","_law_at","_law_behind","_law_backs"] ["_law_found"] (aj dA):=nV
theorem jP:aI ["_law_kind_here","_law_number","_law_e"] ["_law_kind_here","_law_number"] (aj eZ):=nV
theorem kP:aI ["_law_table","_law_place","_law_ways","_law_met","_law_at","_law_k","_law_there"] ["_law_table","_law_place"] (aj f6):=nV
theorem wt:aI ["_law_script","_law_cell_here","_law_kind_here","_law_number","_law_many","_law_found","_law_table","_law_k","_law_word_here"] ["_law_script"] (aj xV):=nV
section
variable {P:Program} {w:World} {K:ES} {mg:Str->Option Value} {base:Heap}
theorem nq (F:Df K mg "common_part" dM ["p","q"]) (T:Txt mg):Known P w K mg base 1 "common_part" cb :=
 have nd:=gy.nd;F.known gy lD λfa cdv A outer s H E hr=>⟨fw,(ak (aO 2 nd (xB T.abs (ae (qv 0) ah))) (ak (aO 3 nd (xB T.abs (ae (qv 1) ah))) (ak (jM Fu (pB hr.units (qv 3) aB) (ar (BE 2 3 rfl nd (ae (qv 3) (ae (b8 (qv 2) (qv 3)) ah))))) (ar (aU (qv 2)))))),m4⟩
theorem mV (F:Df K mg "table_led" eo ["first","behind"]) (T:Txt mg) {n:BI} (TC:Tc K w n) {Pf:ES->Hp->Addr->Prop} {φ:Fw} (hF:jh P w K mg base 2 Pf φ):ft P w K mg base 3 "table_led" (cf φ Pf) :=
 have nd:=iP.nd;F.sT iP lh λfa cdv A outer s H E hr=>⟨fA φ Pf,(df (iM (gi (cI 2 nd (fS (ae (qv 0) ah))))) (df (iM (gi (sV 3 nd hr.units (qv 0) aB))) (df (iM (gi (cI 4 nd (fS ah)))) (df (iM (gi (cI 5 nd (fS ah)))) (df (vV (uY (cL 4 T.len) (cL 2 T.len)) (df (iM (gi (gG (yG 1 hF hr.md (ae (fY 2 (cL 4 T.len) (λ_ _=>rfl)) ah)) (xX rfl (aJ (aC 6 nd) (aJ (aC 7 nd) eB)))))) (df (iM (gi (i5 Fu rfl (bK (ae (qv 6) (ae (qv 7) ah))) (aC 8 nd) (ar (cD (rE 3 hr.units (qv 8)) (ak (oE 3 hr.units (qv 8) (cL 2 T.len)) (ar (cG 2 (qv 8)))) a5))))) (df (iM (Cb (C1 (cL 2 T.len) (EJ TC.g_MOST_PLACES)) (uI (uS TC.n_TooMany TC.e_TooMany (ae fE ah))) (AQ a5))) (df (iM (gi (cG 4 (jA 3 hr.units (qv 6) (λ_ _=>rfl))))) (uC (iM (gi (cG 5 (jA 3 hr.units (qv 7) (λ_ _=>rfl))))))))))) (uC (iM (gi (fF 4 (fF 5 (aU (bK (ae (eD T.tuple (ae (qv 4) ah)) (ae (eD T.tuple (ae (qv 5) ah)) ah)))))))))))))),mK⟩
theorem eY (F:Df K mg "least_multiple" bp ["rows","factors","number"]) (T:Txt mg):Known P w K mg base 1 "least_multiple" aK :=
 have nd:=fg.nd;F.known fg jc λfa cdv A outer s H E hr=>⟨dE,(ar (aU (wa 2 hr.units T.min (ae (QF.e (qE (N':=["factor","rows","number"]) (ix:=[0,2]) rfl (aS.Ej (aj bp) rfl rfl (by decide +kernel) (by decide +kernel) (by decide +kernel) (λj i h=>match j,h with | 0,h=>by cases h;exact⟨_,rfl,rfl,by decide,rfl⟩ | 1,h=>by cases h;exact⟨_,rfl,rfl,by decide,rfl⟩ | _ + 2,h=>by simp at h) rfl) (by decide) rfl rfl rfl (qv 1) (λC s H fp pins=>cO) (λC s H fp pins=>(eD T.tuple (ae (QF.e (mI (N':=["x","y","factor","number"]) (ix:=[0,2]) rfl (aS.Er (aj bp) rfl rfl (by decide +kernel) (by decide +kernel) (by decide +kernel) (λj i h=>match j,h with | 0,h=>by cases h;exact⟨_,rfl,rfl,by decide,by decide +kernel⟩ | 1,h=>by cases h;exact⟨_,rfl,rfl,by decide,by decide +kernel⟩ | _ + 2,h=>by simp at h) rfl) (by decide) rfl rfl rfl rfl (qv 1) (λC s H fp pins=>cO) (λC s H fp pins=>(bK (ae (b8 (dQ (qv 2) (qv 0)) (qv 3)) (ae (b8 (dQ (qv 2) (qv 1)) (qv 3)) ah)))))) ah))))) ah)))),jR⟩
theorem gE (F:Df K mg "rows_behind" cj ["rows"]) (T:Txt mg):Known P w K mg base 1 "rows_behind" bj :=
 have nd:=gV.nd;F.known gV lC λfa cdv A outer s H E hr=>⟨fz,(ar (aU (fU (ae (eD T.tuple (ae (QF.e (mI (N':=["x","y"]) (ix:=[]) rfl (aS.of (aj cj) rfl rfl (by decide +kernel) (by decide +kernel) (by decide +kernel) (λj i h=>by simp at h) rfl) (by decide) rfl rfl rfl rfl (qv 0) (λC s H fp pins=>cO) (λC s H fp pins=>(bK (ae (qv 1) (ae (gZ (qv 0)) ah)))))) ah)) (ae (eD T.tuple (ae (QF.e (mI (N':=["x","y"]) (ix:=[]) rfl (aS.of (aj cj) rfl rfl (by decide +kernel) (by decide +kernel) (by decide +kernel) (λj i h=>by simp at h) rfl) (by decide) rfl rfl rfl rfl (qv 0) (λC s H fp pins=>cO) (λC s H fp pins=>(bK (ae (qv 1) (ae (zH (gZ (qv 0)) (qv 1)) ah)))))) ah)) ah))))),mx⟩
theorem qz (F:CO K mg "by_rests" cz ["kind","number"] "by_rests.<locals>.behind") (T:Txt mg) (k_common_part:Known P w K mg base 1 "common_part" cb) (k_least_multiple:Known P w K mg base 1 "least_multiple" aK) (kxA_table_ledL:∀(base:Heap) (Pf:ES->Hp->Addr->Prop) (φ:Fw),jh P w K mg base 2 Pf φ->ft P w K mg base 3 "table_led" (cf φ Pf)) (at_table_ledL:∃fa,mg "table_led" = some (.ref fa)/\PySem.W.keepIn K (.ref fa)=true) (kA_least_multiple:∀base:Heap,Known P w K mg base 1 "least_multiple" aK) (kA_rows_behind:∀base:Heap,Known P w K mg base 1 "rows_behind" bj):ft P w K mg base 4 "by_rests" cV :=
 have nd:=kS.nd;F.zY kS nU λfa cdv A outer s H E ck hr=>⟨gN,(l8 (gi (aO 2 nd (bK (ae aB (ae (gZ aB) ah))))) (l8 (gi (cD (lB hr.units (qv 0) fE) (ar (aO 2 nd (QF.e (vq (N':=["each","number"]) (ix:=[1]) rfl (aS.of (aj cz) rfl rfl (by decide +kernel) (by decide +kernel) (by decide +kernel) (λj i h=>match j,h with | 0,h=>by cases h;exact⟨_,rfl,rfl,by decide,rfl⟩ | _ + 1,h=>by simp at h) rfl) (by decide) rfl rfl rfl T.range (ae (qv 1) ah) (λC s H fp pins=>(ma rfl (lB hr.units (bq k_common_part hr.md (ae (qv 0) (ae (qv 1) ah))) aB))) (λC s H fp pins=>(qv 0)))))) a5)) (l8 (gi (aO 3 nd (B2 (lB hr.units (qv 0) fE) (bK (ae (bK (ae aB (ae aB ah))) (ae (bK (ae aB (ae aB ah))) ah))) (bK (ae (bK (ae aB (ae aB ah))) ah))))) (sL (ps:=["here"]) 4 nd [1,2] ["number","factors"] kxA_table_ledL at_table_ledL hr.md (bq k_least_multiple hr.md (ae (qv 3) (ae (qv 2) (ae (qv 1) ah)))) ck EC (λ_ _ _ _ _=>Cp λ_=>rfl) (λbase bb f c A outer s H hr=>(QF.e (lG (N':=["there","number","factors"]) (ix:=[1,2]) rfl (aS.ED (aj ((a6 cz).getD 3 cz)) rfl rfl (by decide +kernel) (by decide +kernel) (by decide +kernel) (λj i h=>match j,h with | 0,h=>by cases h;exact⟨_,rfl,rfl,by decide,.inr rfl⟩ | 1,h=>by cases h;exact⟨_,rfl,rfl,by decide,.inr rfl⟩ | _ + 2,h=>by simp at h) rfl) (by decide) rfl rfl (bq (kA_rows_behind base) hr.md (ae (qv 0) ah)) (λC s H fp pins=>cO) (λC s H fp pins=>(bq (kA_least_multiple base) hr.md (ae (qv 0) (ae (qv 2) (ae (qv 1) ah)))))))) (hcell:=(show ∀x∈(["number","factors"]:List Str),((aj cz)).names.lookup x=some .cell by decide +kernel)))))),ql⟩
theorem qH (F:Df K mg "_law_cell" fT ["_law_script","_law_k"]) (T:Txt mg):Known P w K mg base 1 "_law_cell" cA :=
 have nd:=kO.nd;F.known kO qC λfa cdv A outer s H E hr=>⟨jd,(ak (cD (uY (qv 1) (ow T.len (ae (qv 0) ah))) (ar (aU (dW (qv 0) (qv 1) (λ_ _=>rfl)))) a5) (ar (aU aB))),qZ⟩
theorem nS (F:Df K mg "_law_digits" eu ["_law_cell_here","_law_base","_law_many"]) (T:Txt mg):Known P w K mg base 1 "_law_digits" cH :=
 have nd:=iL.nd;F.known iL mz λfa cdv A outer s H E hr=>⟨fW,(ak (cI 3 nd (fS ah)) (ak (gA Fu rfl rfl T.range (ae (qv 2) ah) (aC 4 nd) (ak (cG 3 (b8 (qv 0) (qv 1))) (ar (aO 0 nd (i3 (qv 0) (qv 1)))))) (ar (fF 3 (aU (qv 3)))))),nW⟩
theorem p9 (F:Df K mg "_law_mixed" fj ["_law_cell_here","_law_base","_law_many"]) (T:Txt mg):Known P w K mg base 1 "_law_mixed" cX :=
 have nd:=jK.nd;F.known jK nQ λfa cdv A outer s H E hr=>⟨gJ,(ak (cI 3 nd (fS ah)) (ak (gA Fu rfl rfl T.range (ae (qv 2) ah) (aC 4 nd) (ak (aO 5 nd (b8 (dQ (bI (bI (bI (b8 (qv 0) aB) (dQ (dQ aB (qv 4)) (qv 4))) (dQ aB (qv 4))) aB) aB) aB)) (ak (aO 6 nd (b8 (dQ (bI (bI (i3 (qv 5) aB) (dQ (b8 (i3 (qv 0) aB) aB) aB)) (qv 4)) aB) aB)) (ar (cG 3 (b8 (i3 (qv 6) aB) (qv 1))))))) (ar (fF 3 (aU (qv 3)))))),qA⟩
theorem sA (F:Df K mg "_law_row" hU ["_law_cell_here","_law_base","_law_many"]) (T:Txt mg) (k_law_digits:Known P w K mg base 1 "_law_digits" cH) (k_law_mixed:Known P w K mg base 1 "_law_mixed" cX):Known P w K mg base 2 "_law_row" eG :=
 have nd:=l5.nd;F.known l5 qM λfa cdv A outer s H E hr=>⟨jZ,(ak (cD (D0 (xB T.abs (ae (qv 0) ah)) (BY aB aB)) (ar (aU (bq k_law_digits hr.md (ae (qv 0) (ae (qv 1) (ae (qv 2) ah)))))) a5) (ar (aU (bq k_law_mixed hr.md (ae (qv 0) (ae (qv 1) (ae (qv 2) ah))))))),tU⟩
theorem pD (F:Df K mg "_law_word" eT ["_law_many","_law_digits_here"]) (T:Txt mg):Known P w K mg base 1 "_law_word" cZ :=
 have nd:=jF.nd;F.known jF nL λfa cdv A outer s H E hr=>⟨gX,(ak (aO 2 nd fE) (ak (gA Fu rfl rfl T.range (ae (qv 0) ah) (aC 3 nd) (ar (cD (lB hr.units (b8 (bI (dW (qv 1) aB (λ_ _=>rfl)) (qv 3)) aB) aB) (ar (aO 2 nd (bI (qv 2) fE))) (ar (aO 2 nd (bI (qv 2) (dW fE (b8 (dW (qv 1) (bI (qv 3) aB) (λ_ _=>rfl)) aB) (λ_ _=>rfl)))))))) (ar (aU (qv 2))))),pJ⟩
theorem rK (F:Df K mg "_law_led" fM ["_law_table","_law_word_here","_law_place"]):Known P w K mg base 1 "_law_led" cB :=
 have nd:=kW.nd;F.known kW pg λfa cdv A outer s H E hr=>⟨iX,(ak (i5 Fu rfl (qv 1) (aC 3 nd) (ar (cD (lB hr.units (qv 3) fE) (ar (aO 2 nd (dW (dW (qv 0) aB (λ_ _=>rfl)) (qv 2) (λ_ _=>rfl)))) (ar (cD (lB hr.units (qv 3) fE) (ar (aO 2 nd (dW (dW (qv 0) aB (λ_ _=>rfl)) (qv 2) (λ_ _=>rfl)))) (ar (aO 2 nd (dW (dW (qv 0) aB (λ_ _=>rfl)) (dW (dW (qv 0) aB (λ_ _=>rfl)) (qv 2) (λ_ _=>rfl)) (λ_ _=>rfl))))))))) (ar (aU (qv 2)))),qS⟩
theorem nZ (F:Df K mg "_law_kind" fi ["_law_e"]) (T:Txt mg) {n:BI} (TC:Tc K w n):nG P w K mg base 1 "_law_kind" cY :=
 have nd:=jQ.nd;F.tD jQ nR λfa cdv A outer s H E hr=>⟨gD,(ak (aO 1 nd (fU (ae (eQ "TooMany" (.cls "NoFraction") false T.isinstance TC.n_TooMany TC.aY (.cls TC.n_NoFraction TC.kt3) (ae (qv 0) (ae (jr TC.n_NoFraction) ah))) (ae (eQ "TooMany" (.cls "NoTurning") false T.isinstance TC.n_TooMany TC.aY (.cls TC.n_NoTurning TC.kt2) (ae (qv 0) (ae (jr TC.n_NoTurning) ah))) (ae (eQ "TooMany" (.cls "NoFan") false T.isinstance TC.n_TooMany TC.aY (.cls TC.n_NoFan TC.kt1) (ae (qv 0) (ae (jr TC.n_NoFan) ah))) (ae (eQ "TooMany" (.cls "NoTable") false T.isinstance TC.n_TooMany TC.aY (.cls TC.n_NoTable TC.kt0) (ae (qv 0) (ae (jr TC.n_NoTable) ah))) ah)))))) (ak (aO 1 nd (bI (qv 1) (fU (ae (eQ "TooMany" (.cls "NoRoot") false T.isinstance TC.n_TooMany TC.aY (.cls TC.n_NoRoot TC.kt7) (ae (qv 0) (ae (jr TC.n_NoRoot) ah))) (ae (eQ "TooMany" (.cls "NotIn") false T.isinstance TC.n_TooMany TC.aY (.cls TC.n_NotIn TC.kt6) (ae (qv 0) (ae (jr TC.n_NotIn) ah))) (ae (eQ "TooMany" (.cls "NoPaper") false T.isinstance TC.n_TooMany TC.aY (.cls TC.n_NoPaper TC.kt5) (ae (qv 0) (ae (jr TC.n_NoPaper) ah))) (ae (eQ "TooMany" (.cls "NoText") false T.isinstance TC.n_TooMany TC.aY (.cls TC.n_NoText TC.kt4) (ae (qv 0) (ae (jr TC.n_NoText) ah))) ah))))))) (ak (aO 1 nd (bI (qv 1) (fU (ae (eQ "TooMany" (.cls "NoRow") false T.isinstance TC.n_TooMany TC.aY (.cls TC.n_NoRow TC.kt11) (ae (qv 0) (ae (jr TC.n_NoRow) ah))) (ae (eQ "TooMany" (.cls "NoName") false T.isinstance TC.n_TooMany TC.aY (.cls TC.n_NoName TC.kt10) (ae (qv 0) (ae (jr TC.n_NoName) ah))) (ae (eQ "TooMany" (.cls "Full") false T.isinstance TC.n_TooMany TC.aY (.cls TC.n_Full TC.kt9) (ae (qv 0) (ae (jr TC.n_Full) ah))) (ae (eQ "TooMany" (.cls "Open") false T.isinstance TC.n_TooMany TC.aY (.cls TC.n_Open TC.kt8) (ae (qv 0) (ae (jr TC.n_Open) ah))) ah))))))) (ak (aO 1 nd (bI (qv 1) (fU (ae (eQ "TooMany" (.cls "TooLong") false T.isinstance TC.n_TooMany TC.aY (.cls TC.n_TooLong TC.kt13) (ae (qv 0) (ae (jr TC.n_TooLong) ah))) (ae (eQ "TooMany" (.cls "TooMany") true T.isinstance TC.n_TooMany TC.aY (.cls TC.n_TooMany TC.kt12) (ae (qv 0) (ae (jr TC.n_TooMany) ah))) ah))))) (ak (cD (QW.t (kU (pB hr.units (xP hr.units (qv 1) w6) aB) (mP (kh (iW (eQ "TooMany" (.ty "ValueError") true T.isinstance TC.n_TooMany TC.aY (.ty TC.kt14) (ae (qv 0) (ae (Eo rfl T.ValueError yo) ah)))))))) (ar (aU (gZ aB))) a5) (ar (aU (yU hr.units (qv 1) w6)))))))),p8⟩
theorem nO (F:Df K mg "_law_rests" c7 ["_law_word_here","_law_number"]):Known P w K mg base 1 "_law_rests" a7 :=
 have nd:=iN.nd;F.known iN mn λfa cdv A outer s H E hr=>⟨gg,(ak (gG (bK (ae aB (ae aB (ae aB (ae aB ah))))) (iU rfl (aJ (aC 2 nd) (aJ (aC 3 nd) (aJ (aC 4 nd) (aJ (aC 5 nd) eB)))))) (ak (i5 Fu rfl (qv 0) (aC 6 nd) (ak (gG (Ce hr.units (A7 (Az (bK (ae aB (ae (gZ aB) (ae aB (ae aB ah))))) (Az (bK (ae aB (ae (gZ aB) (ae aB (ae (gZ aB) ah))))) (Az (bK (ae aB (ae (gZ aB) (ae aB (ae aB ah))))) Af)))) (qv 6) (λ_ _=>rfl)) (iU rfl (aJ (aC 7 nd) (aJ (aC 8 nd) (aJ (aC 9 nd) (aJ (aC 10 nd) eB)))))) (ar (gG (QF.e (lG (N':=["_law_x","_law_number"]) (ix:=[1]) rfl (aS.of (aj c7) rfl rfl (by decide +kernel) (by decide +kernel) (by decide +kernel) (λj i h=>match j,h with | 0,h=>by cases h;exact⟨_,rfl,rfl,by decide,rfl⟩ | _ + 1,h=>by simp at h) rfl) (by decide) rfl rfl (bK (ae (bI (dQ (qv 2) (qv 7)) (dQ (qv 3) (qv 9))) (ae (bI (dQ (qv 2) (qv 8)) (dQ (qv 3) (qv 10))) (ae (bI (dQ (qv 4) (qv 7)) (dQ (qv 5) (qv 9))) (ae (bI (dQ (qv 4) (qv 8)) (dQ (qv 5) (qv 10))) ah))))) (λC s H fp pins=>cO) (λC s H fp pins=>(b8 (qv 0) (qv 1))))) (xX rfl (aJ (aC 2 nd) (aJ (aC 3 nd) (aJ (aC 4 nd) (aJ (aC 5 nd) eB))))))))) (ar (aU (bK (ae (b8 (qv 2) (qv 1)) (ae (b8 (qv 3) (qv 1)) (ae (b8 (qv 4) (qv 1)) (ae (b8 (qv 5) (qv 1)) ah))))))))),oh⟩
theorem p6 (F:Df K mg "_law_is_in" e8 ["_law_kind_here","_law_rests_here","_law_number"]):Known P w K mg base 1 "_law_is_in" cT :=
 have nd:=jH.nd;F.known jH nY λfa cdv A outer s H E hr=>⟨gC,(ak (gG (qv 1) (iU rfl (aJ (aC 3 nd) (aJ (aC 4 nd) (aJ (aC 5 nd) (aJ (aC 6 nd) eB)))))) (ak (aO 7 nd (b8 aB (qv 2))) (ak (aO 8 nd (b8 (zH aB aB) (qv 2))) (ak (cD (pB hr.units (qv 5) aB) (ar (aU w6)) a5) (ak (cD (lB hr.units (qv 0) fE) (ar (aU w6)) a5) (ak (cD (BF hr.units (qv 3) (bK (ae (qv 7) (ae (qv 8) ah)))) (ar (aU w6)) a5) (ar (aU (B3 (pP hr.units (qv 0) fE) (qm (sZ (pP hr.units (qv 4) aB) (qm (pP hr.units (qv 6) (qv 3)))))))))))))),p5⟩
theorem jY (F:Df K mg "_law_are_apart" bZ ["_law_one","_law_other"]) (T:Txt mg):Known P w K mg base 1 "_law_are_apart" bB :=
 have nd:=fC.nd;F.known fC jk λfa cdv A outer s H E hr=>⟨d8,(ar (aU (pP hr.units (QF.e (vn (N':=["_law_k","_law_one","_law_other"]) (ix:=[0,1]) rfl (aS.of (aj bZ) rfl rfl (by decide +kernel) (by decide +kernel) (by decide +kernel) (λj i h=>match j,h with | 0,h=>by cases h;exact⟨_,rfl,rfl,by decide,rfl⟩ | 1,h=>by cases h;exact⟨_,rfl,rfl,by decide,rfl⟩ | _ + 2,h=>by simp at h) rfl) (by decide) rfl rfl rfl T.range (ae aB (ae (bI (qv 1) aB) ah)) (λC s H fp pins=>(ma rfl (lB hr.units (bI (b8 (qv 1) (qv 0)) (b8 (qv 2) (qv 0))) aB))) (λC s H fp pins=>(qv 0)))) (fU ah)))),j6⟩
theorem tV (F:Df K mg "_law_key" dC ["_law_kind_here","_law_rests_here","_law_number"]) (T:Txt mg) (k_law_are_apart:Known P w K mg base 1 "_law_are_apart" bB):Known P w K mg base 2 "_law_key" dD :=
 have nd:=nA.nd;F.known nA rb λfa cdv A outer s H E hr=>⟨kG,(ak (gG (qv 1) (iU rfl (aJ (aC 3 nd) (aJ (aC 4 nd) (aJ (aC 5 nd) (aJ (aC 6 nd) eB)))))) (ak (aO 7 nd (qv 1)) (ak (cD (pB hr.units (qv 0) fE) (ar (aO 7 nd (bK (ae (qv 5) (ae (qv 6) ah))))) a5) (ak (aO 8 nd (fU (ae aB (ae (gZ aB) ah)))) (ak (cD (lB hr.units (qv 0) fE) (ar (pF 8 nd (N':=["_law_unit","_law_number"]) (ix:=[2]) rfl (aS.of (aj dC) rfl rfl (by decide +kernel) (by decide +kernel) (by decide +kernel) (λj i h=>match j,h with | 0,h=>by cases h;exact⟨_,rfl,rfl,by decide,rfl⟩ | _ + 1,h=>by simp at h) rfl) (by decide) rfl rfl rfl T.range (ae aB (ae (bI (qv 2) aB) ah)) (λC s H fp pins=>(ma rfl (iW (bq k_law_are_apart hr.md (ae (qv 0) (ae (qv 1) ah)))))) (λC s H fp pins=>(qv 0)))) a5) (ar (aU (wa 1 hr.units T.min (ae (QF.e (qE (N':=["_law_unit","_law_number","_law_row_here"]) (ix:=[2,7]) rfl (aS.Ej (aj dC) rfl rfl (by decide +kernel) (by decide +kernel) (by decide +kernel) (λj i h=>match j,h with | 0,h=>by cases h;exact⟨_,rfl,rfl,by decide,rfl⟩ | 1,h=>by cases h;exact⟨_,rfl,rfl,by decide,rfl⟩ | _ + 2,h=>by simp at h) rfl) (by decide) rfl rfl rfl (qv 8) (λC s H fp pins=>cO) (λC s H fp pins=>(eD T.tuple (ae (QF.e (lG (N':=["_law_x","_law_unit","_law_number"]) (ix:=[0,1]) rfl (aS.Er (aj dC) rfl rfl (by decide +kernel) (by decide +kernel) (by decide +kernel) (λj i h=>match j,h with | 0,h=>by cases h;exact⟨_,rfl,rfl,by decide,by decide +kernel⟩ | 1,h=>by cases h;exact⟨_,rfl,rfl,by decide,by decide +kernel⟩ | _ + 2,h=>by simp at h) rfl) (by decide) rfl rfl (qv 2) (λC s H fp pins=>cO) (λC s H fp pins=>(b8 (dQ (qv 1) (qv 0)) (qv 2))))) ah))))) ah))))))))),sX⟩
theorem og (F:Df K mg "_law_places" ez ["_law_kind_here","_law_number"]) (T:Txt mg) (k_law_key:Known P w K mg base 2 "_law_key" dD) (k_law_restsR:Known P w K mg base 1 "_law_rests" a7):Known P w K mg base 3 "_law_places" cJ :=
 have nd:=iS.nd;F.known iS lZ λfa cdv A outer s H E hr=>⟨fN,(ak (cI 2 nd (fS (ae (bq k_law_key hr.md (ae (qv 0) (ae (bq k_law_restsR hr.md (ae fE (ae (qv 1) ah))) (ae (qv 1) ah)))) ah))) (ak (cI 3 nd (fS (ae fE ah))) (ak (aO 4 nd aB) (ak (jM Fu (QW.t (wB (uY (qv 4) (cL 3 T.len)) (uG (uY (cL 2 T.len) aB)))) (ak (i5 Fu rfl fE (aC 5 nd) (ak (aO 6 nd (bq k_law_key hr.md (ae (qv 0) (ae (bq k_law_restsR hr.md (ae (bI (fY 3 (qv 4) (λ_ _=>rfl)) (qv 5)) (ae (qv 1) ah))) (ae (qv 1) ah))))) (ar (cD (sd 2 hr.units (qv 6)) (ak (cG 2 (qv 6)) (ar (cG 3 (bI (fY 3 (qv 4) (λ_ _=>rfl)) (qv 5))))) a5)))) (ar (aO 4 nd (bI (qv 4) aB))))) (ar (aU (Cz T.min (ae (cL 2 T.len) (ae aB ah))))))))),n9⟩
theorem qY (F:Df K mg "_law_is_table" dA ["_law_found"]) (T:Txt mg):Known P w K mg base 1 "_law_is_table" dG :=
 have nd:=kL.nd;F.known kL qa λfa cdv A outer s H E hr=>⟨je,(ak (cD (QW.t (kU (kh (iW (uB T.isinstance T.tuple gB (qv 0)))) (kU (pB hr.units (ow T.len (ae (qv 0) ah)) aB) (mP (kh (iW (zr T.all (ae (QF.e (lG (N':=["_law_row_here"]) (ix:=[]) rfl (aS.of (aj dA) rfl rfl (by decide +kernel) (by decide +kernel) (by decide +kernel) (λj i h=>by simp at h) rfl) (by decide) rfl rfl (qv 0) (λC s H fp pins=>cO) (λC s H fp pins=>(uB T.isinstance T.tuple gB (qv 0))))) ah)))))))) (ar (aU w6)) a5) (ak (gG (qv 0) (iU rfl (aJ (aC 1 nd) (aJ (aC 2 nd) eB)))) (ak (aO 3 nd (ow T.len (ae (qv 1) ah))) (ak (cD (QW.t (kU (pB hr.units (ow T.len (ae (qv 2) ah)) (qv 3)) (mP (lB hr.units (qv 3) aB)))) (ar (aU w6)) a5) (ak (i5 Fu rfl (bI (qv 1) (qv 2)) (aC 4 nd) (ar (cD (QW.t (kU (kh (iW (uB T.isinstance T.int vo (qv 4)))) (kU (iW (uB T.isinstance T.bool sU (qv 4))) (mP (kh (Bc aB (qv 4) (qv 3))))))) (ar (aU w6)) a5))) (ak (cI 5 nd (fS (ae aB ah))) (ak (aO 6 nd aB) (ak (jM Fu (uY (qv 6) (cL 5 T.len)) (ak (i5 Fu rfl (fU (ae (dW (qv 1) (fY 5 (qv 6) (λ_ _=>rfl)) (λ_ _=>rfl)) (ae (dW (qv 2) (fY 5 (qv 6) (λ_ _=>rfl)) (λ_ _=>rfl)) ah))) (aC 7 nd) (ar (cD (sd 5 hr.units (qv 7)) (ar (cG 5 (qv 7))) a5))) (ar (aO 6 nd (bI (qv 6) aB))))) (ak (pZ 8 nd (N':=["_law_k","_law_halves","_law_thirds"]) (ix:=[1,2]) rfl (aS.of (aj dA) rfl rfl (by decide +kernel) (by decide +kernel) (by decide +kernel) (λj i h=>match j,h with | 0,h=>by cases h;exact⟨_,rfl,rfl,by decide,rfl⟩ | 1,h=>by cases h;exact⟨_,rfl,rfl,by decide,rfl⟩ | _ + 2,h=>by simp at h) rfl) (by decide) rfl rfl rfl T.range (ae (qv 3) ah) (λC s H fp pins=>cO) (λC s H fp pins=>(sZ (pP hr.units (dW (qv 1) (dW (qv 1) (qv 0) (λ_ _=>rfl)) (λ_ _=>rfl)) (qv 0)) (qm (pP hr.units (dW (qv 2) (dW (qv 2) (dW (qv 2) (qv 0) (λ_ _=>rfl)) (λ_ _=>rfl)) (λ_ _=>rfl)) (qv 0)))))) (ar (fF 5 (aU (sZ (zr T.all (ae (qv 8) ah)) (qm (pP hr.units (qv 5) (QF.e (wb T.list T.range (ae (qv 3) ah)))))))))))))))))),rP⟩
theorem o7 (F:Df K mg "_law_said" eZ ["_law_kind_here","_law_number"]) {n:BI} (TC:Tc K w n) (kx_by_rests:ft P w K mg base 4 "by_rests" cV) (kh_law_kindM:nG P w K mg base 1 "_law_kind" cY):Known P w K mg base 5 "_law_said" cW :=
 have nd:=jP.nd;F.known jP n6 λfa cdv A outer s H E hr=>⟨gK,(ar (y2 2 nd rfl rfl TC.n_FanError TC.n_TooMany TC.i7 (AR (gZ aB) (ze kx_by_rests hr.md (ae (qv 0) (ae (qv 1) ah)))) (λ_=>(ar (aU (bK (ae (yQ kh_law_kindM (hr.md.hand _) (ae (qv 2) ah)) (ae DR ah)))))))),qr⟩
theorem qP (F:Df K mg "_law_home" f6 ["_law_table","_law_place"]) (T:Txt mg):Known P w K mg base 1 "_law_home" dB :=
 have nd:=kP.nd;F.known kP pA λfa cdv A outer s H E hr=>⟨i8,(ak (uN 2 nd aB fE) (ak (cI 3 nd (fS (ae aB ah))) (ak (aO 4 nd aB) (ak (jM Fu (uY (qv 4) (cL 3 T.len)) (ak (i5 Fu rfl (fU (ae aB (ae aB ah))) (aC 5 nd) (ar (gA Fu rfl rfl T.range (ae (ow T.len (ae (dW (qv 0) (qv 5) (λ_ _=>rfl)) ah)) ah) (aC 6 nd) (ar (cD (QW.t (wB (lB hr.units (dW (dW (qv 0) (qv 5) (λ_ _=>rfl)) (qv 6) (λ_ _=>rfl)) (fY 3 (qv 4) (λ_ _=>rfl))) (uG (rE 2 hr.units (qv 6))))) (ak (oE 2 hr.units (qv 6) (bI (dW fE (qv 5) (λ_ _=>rfl)) (jA 2 hr.units (fY 3 (qv 4) (λ_ _=>rfl)) (λ_ _=>rfl)))) (ar (cG 3 (qv 6)))) a5))))) (ar (aO 4 nd (bI (qv 4) aB))))) (ar (aU (jA 2 hr.units (qv 1) (λ_ _=>rfl)))))))),rj⟩
theorem Au {fa:Addr} {fd:FuncData} (F:nJ K "law" "law" xV fa fd) (T:Txt mg) (k_law_cell:Known P w K mg base 1 "_law_cell" cA) (k_law_home:Known P w K mg base 1 "_law_home" dB) (k_law_is_in:Known P w K mg base 1 "_law_is_in" cT) (k_law_isTL:Known P w K mg base 1 "_law_is_table" dG) (k_law_ledL:Known P w K mg base 1 "_law_led" cB) (k_law_places:Known P w K mg base 3 "_law_places" cJ) (k_law_restsR:Known P w K mg base 1 "_law_rests" a7) (k_law_row:Known P w K mg base 2 "_law_row" eG) (k_law_saidB:Known P w K mg base 5 "_law_said" cW) (k_law_wordL:Known P w K mg base 1 "_law_word" cZ):my P w K mg base sq 6 fa fd ["_law_script"] (Bo K (u7 63)) :=
 have nd:=wt.nd;nJ.C2 F wt yY λcdv A outer s H E hr=>⟨wy,(ak (aO 1 nd (bq k_law_cell hr.md (ae (qv 0) (ae aB ah)))) (ak (aO 2 nd (dW (bK (ae fE (ae fE (ae fE ah)))) (b8 (qv 1) aB) (λ_ _=>rfl))) (ak (aO 3 nd (bI aB (b8 (i3 (qv 1) aB) aB))) (ak (aO 4 nd (bq k_law_places hr.md (ae (qv 2) (ae (qv 3) ah)))) (ak (gG (bq k_law_saidB hr.md (ae (qv 2) (ae (qv 3) ah))) (iU rfl (aJ (aC 5 nd) (aJ (aC 6 nd) eB)))) (ak (cD (C1 (qv 4) aB) (ar (aU (pP hr.units (qv 5) aB))) a5) (ak (cD (QW.t (kU (pB hr.units (qv 5) (gZ aB)) (kU (kh (iW (bq k_law_isTL hr.md (ae (qv 6) ah)))) (mP (pB hr.units (ow T.len (ae (dW (qv 6) aB (λ_ _=>rfl)) ah)) (qv 4)))))) (ar (aU w6)) a5) (ak (gA Fu rfl rfl T.range (ae aB ah) (aC 7 nd) (ak (aO 1 nd (bq k_law_cell hr.md (ae (qv 0) (ae (bI aB (qv 7)) ah)))) (ak (aO 8 nd (bq k_law_wordL hr.md (ae (b8 (i3 (qv 1) aB) aB) (ae (bq k_law_row hr.md (ae (i3 (qv 1) aB) (ae aB (ae aB ah)))) ah)))) (ak (cD (lB hr.units (b8 (qv 1) aB) aB) (ar (aO 8 nd (bI (qv 8) (bq k_law_home hr.md (ae (qv 6) (ae (bq k_law_ledL hr.md (ae (qv 6) (ae (qv 8) (ae aB ah)))) ah)))))) a5) (ar (cD (pB hr.units (bq k_law_is_in hr.md (ae (qv 2) (ae (bq k_law_restsR hr.md (ae (qv 8) (ae (qv 3) ah))) (ae (qv 3) ah)))) (pP hr.units (bq k_law_ledL hr.md (ae (qv 6) (ae (qv 8) (ae aB ah)))) aB)) (ar (aU w6)) a5)))))) (ar (aU w6)))))))))),AJ⟩
end
theorem all_mk {l:PySem.W.OpenLaw} {w:World} {K:ES} {h:Heap} {mg:Str->Option Value} {fa:Addr} {c_NoTable:Addr} {c_NoFan:Addr} {c_NoTurning:Addr} {c_NoFraction:Addr} {c_NoText:Addr} {c_NoPaper:Addr} {c_NotIn:Addr} {c_NoRoot:Addr} {c_Open:Addr} {c_Full:Addr} {c_NoName:Addr} {c_NoRow:Addr} {c_TooMany:Addr} {c_TooLong:Addr} {c_FanError:Addr} {t_MOST_PLACES:Tok} (X:K.In h) (G:h.Ns mainGlobals mg) (hfa:mg "law" = some (.ref fa))
  (D1:cw K "common_part" dM)
  (D2:cw K "table_led" eo)
  (D3:cw K "least_multiple" bp)
  (D4:cw K "rows_behind" cj)
  (D6:cw K "_law_cell" fT)
  (D7:cw K "_law_digits" eu)
  (D8:cw K "_law_mixed" fj)
  (D9:cw K "_law_row" hU)
  (D10:cw K "_law_word" eT)
  (D11:cw K "_law_led" fM)
  (D12:cw K "_law_kind" fi)
  (D13:cw K "_law_rests" c7)
  (D14:cw K "_law_is_in" e8)
  (D15:cw K "_law_are_apart" bZ)
  (D16:cw K "_law_key" dC)
  (D17:cw K "_law_places" ez)
  (D18:cw K "_law_is_table" dA)
  (D19:cw K "_law_said" eZ)
  (D20:cw K "_law_home" f6)
  (D21:cw K "law" xV)
  (D5:tE K "by_rests" cz "by_rests.<locals>.behind")
  (z0:PySem.W.nsIn K mainGlobals "ValueError" = some none)
  (z1:PySem.W.nsIn K mainGlobals "abs" = some none)
  (z2:PySem.W.nsIn K mainGlobals "all" = some none)
  (z3:PySem.W.nsIn K mainGlobals "bool" = some none)
  (z4:PySem.W.nsIn K mainGlobals "int" = some none)
  (z5:PySem.W.nsIn K mainGlobals "isinstance" = some none)
  (z6:PySem.W.nsIn K mainGlobals "len" = some none)
  (z7:PySem.W.nsIn K mainGlobals "list" = some none)
  (z8:PySem.W.nsIn K mainGlobals "min" = some none)
  (z9:PySem.W.nsIn K mainGlobals "range" = some none)
  (z10:PySem.W.nsIn K mainGlobals "tuple" = some none)
  (g_MOST_PLACES:PySem.W.nsIn K mainGlobals "MOST_PLACES" = some (some (.int 60 t_MOST_PLACES)))
  (n_NoTable:PySem.W.nsIn K mainGlobals "NoTable" = some (some (.ref c_NoTable)))
  (n_NoFan:PySem.W.nsIn K mainGlobals "NoFan" = some (some (.ref c_NoFan)))
  (n_NoTurning:PySem.W.nsIn K mainGlobals "NoTurning" = some (some (.ref c_NoTurning)))
  (n_NoFraction:PySem.W.nsIn K mainGlobals "NoFraction" = some (some (.ref c_NoFraction)))
  (n_NoText:PySem.W.nsIn K mainGlobals "NoText" = some (some (.ref c_NoText)))
  (n_NoPaper:PySem.W.nsIn K mainGlobals "NoPaper" = some (some (.ref c_NoPaper)))
  (n_NotIn:PySem.W.nsIn K mainGlobals "NotIn" = some (some (.ref c_NotIn)))
  (n_NoRoot:PySem.W.nsIn K mainGlobals "NoRoot" = some (some (.ref c_NoRoot)))
  (n_Open:PySem.W.nsIn K mainGlobals "Open" = some (some (.ref c_Open)))
  (n_Full:PySem.W.nsIn K mainGlobals "Full" = some (some (.ref c_Full)))
  (n_NoName:PySem.W.nsIn K mainGlobals "NoName" = some (some (.ref c_NoName)))
  (n_NoRow:PySem.W.nsIn K mainGlobals "NoRow" = some (some (.ref c_NoRow)))
  (n_TooMany:PySem.W.nsIn K mainGlobals "TooMany" = some (some (.ref c_TooMany)))
  (n_TooLong:PySem.W.nsIn K mainGlobals "TooLong" = some (some (.ref c_TooLong)))
  (n_FanError:PySem.W.nsIn K mainGlobals "FanError" = some (some (.ref c_FanError)))
  (e_TooMany:PySem.W.excIn K c_TooMany [.type "ValueError",.type "Exception",.type "BaseException",.type "object"] "ValueError.__new__" = true)
  (o1_TooMany:PySem.W.findIn K (.ref c_TooMany) "__getattribute__" = some (some (.builtin "BaseException.__getattribute__")))
  (o2_TooMany:PySem.W.findIn K (.ref c_TooMany) "__getattr__" = some none)
  (o3_TooMany:PySem.W.hasDictIn K c_TooMany=true)
  (o4_TooMany:PySem.W.findIn K (.ref c_TooMany) "__class__" = some (some (.builtin "object.__class__")))
  (o5_TooMany:PySem.W.specialIn K (.builtin "object.__class__") "__get__" = some (some (.builtin "getset_descriptor.__get__")))
  (o6_TooMany:PySem.W.takesIn K (.builtin "object.__class__")=some true)
  (o7_TooMany:PySem.W.mroIn K c_TooMany (.type "object")=some true)
  (o8_TooMany:PySem.W.subIn K (.ref c_TooMany) (.type "BaseException")=some true)
  (u1_TooMany_FanError:PySem.W.typeIn K (.ref c_FanError)=some (.type "type"))
  (u2_TooMany_FanError:PySem.W.hasDictIn K c_FanError=true)
  (u3_TooMany_FanError:PySem.W.subIn K (.ref c_FanError) (.type "BaseException")=some true)
  (u4_TooMany_FanError:PySem.W.subIn K (.ref c_TooMany) (.ref c_FanError)=some true)
  (kt0:PySem.W.kitOne K (.ref c_TooMany) (.ref c_NoTable)=some false)
  (kt1:PySem.W.kitOne K (.ref c_TooMany) (.ref c_NoFan)=some false)
  (kt2:PySem.W.kitOne K (.ref c_TooMany) (.ref c_NoTurning)=some false)
  (kt3:PySem.W.kitOne K (.ref c_TooMany) (.ref c_NoFraction)=some false)
  (kt4:PySem.W.kitOne K (.ref c_TooMany) (.ref c_NoText)=some false)
  (kt5:PySem.W.kitOne K (.ref c_TooMany) (.ref c_NoPaper)=some false)
  (kt6:PySem.W.kitOne K (.ref c_TooMany) (.ref c_NotIn)=some false)
  (kt7:PySem.W.kitOne K (.ref c_TooMany) (.ref c_NoRoot)=some false)
  (kt8:PySem.W.kitOne K (.ref c_TooMany) (.ref c_Open)=some false)
  (kt9:PySem.W.kitOne K (.ref c_TooMany) (.ref c_Full)=some false)
  (kt10:PySem.W.kitOne K (.ref c_TooMany) (.ref c_NoName)=some false)
  (kt11:PySem.W.kitOne K (.ref c_TooMany) (.ref c_NoRow)=some false)
  (kt12:PySem.W.kitOne K (.ref c_TooMany) (.ref c_TooMany)=some true)
  (kt13:PySem.W.kitOne K (.ref c_TooMany) (.ref c_TooLong)=some false)
  (kt14:PySem.W.kitOne K (.ref c_TooMany) (.type "ValueError")=some true)
  : ∃fd:FuncData,(∀(s:Shared) (v:Value),BindsTo s fd ⟨[v],[]⟩ [("_law_script",v)])/\∀base:Heap,K.In base->base.Ns mainGlobals mg->my l.prog w K mg base sq 6 fa fd ["_law_script"] (Bo K (u7 63)):=by
 have T:Txt mg:=⟨PySem.W.mg_none_of X G z0,PySem.W.mg_none_of X G z1,PySem.W.mg_none_of X G z2,PySem.W.mg_none_of X G z3,PySem.W.mg_none_of X G z4,PySem.W.mg_none_of X G z5,PySem.W.mg_none_of X G z6,PySem.W.mg_none_of X G z7,PySem.W.mg_none_of X G z8,PySem.W.mg_none_of X G z9,PySem.W.mg_none_of X G z10⟩;have TC:Tc K w ⟨c_NoTable,c_NoFan,c_NoTurning,c_NoFraction,c_NoText,c_NoPaper,c_NotIn,c_NoRoot,c_Open,c_Full,c_NoName,c_NoRow,c_TooMany,c_TooLong,c_FanError,t_MOST_PLACES⟩:=⟨g_MOST_PLACES,n_NoTable,n_NoFan,n_NoTurning,n_NoFraction,n_NoText,n_NoPaper,n_NotIn,n_NoRoot,n_Open,n_Full,n_NoName,n_NoRow,n_TooMany,n_TooLong,n_FanError,e_TooMany,o1_TooMany,o2_TooMany,o3_TooMany,o4_TooMany,o5_TooMany,o6_TooMany,o7_TooMany,o8_TooMany,u1_TooMany_FanError,u2_TooMany_FanError,u3_TooMany_FanError,u4_TooMany_FanError,kt0,kt1,kt2,kt3,kt4,kt5,kt6,kt7,kt8,kt9,kt10,kt11,kt12,kt13,kt14⟩
 obtain⟨dl,FL,bl⟩:=D21.Eu X G hfa λ_ _ _ _ _ _ _=>rfl;refine⟨dl,bl,λbase _ _=>?_⟩;have F1:Df K mg _ dM ["p","q"]:=⟨D1.get X G λ_ _ _ _ _ _=>xx λ_ _=>rfl⟩
 have k_common_part:=nq (P:=l.prog) (w:=w) (mg:=mg) (base:=base) F1 T;have F3:Df K mg _ bp ["rows","factors","number"]:=⟨D3.get X G λ_ _ _ _ _ _=>AF λ_ _ _=>rfl⟩
 have kA_least_multiple:=λbase:Heap=>eY (P:=l.prog) (w:=w) (mg:=mg) (base:=base) F3 T;have k_least_multiple:=eY (P:=l.prog) (w:=w) (mg:=mg) (base:=base) F3 T;have F4:Df K mg _ cj ["rows"]:=⟨D4.get X G λ_ _ _ _ _ _=>Cp λ_=>rfl⟩
 have kA_rows_behind:=λbase:Heap=>gE (P:=l.prog) (w:=w) (mg:=mg) (base:=base) F4 T;have k_rows_behind:=gE (P:=l.prog) (w:=w) (mg:=mg) (base:=base) F4 T;have F6:Df K mg _ fT ["_law_script","_law_k"]:=⟨D6.get X G λ_ _ _ _ _ _=>xx λ_ _=>rfl⟩
 have k_law_cell:=qH (P:=l.prog) (w:=w) (mg:=mg) (base:=base) F6 T;have F7:Df K mg _ eu ["_law_cell_here","_law_base","_law_many"]:=⟨D7.get X G λ_ _ _ _ _ _=>AF λ_ _ _=>rfl⟩
 have k_law_digits:=nS (P:=l.prog) (w:=w) (mg:=mg) (base:=base) F7 T;have F8:Df K mg _ fj ["_law_cell_here","_law_base","_law_many"]:=⟨D8.get X G λ_ _ _ _ _ _=>AF λ_ _ _=>rfl⟩
 have k_law_mixed:=p9 (P:=l.prog) (w:=w) (mg:=mg) (base:=base) F8 T;have F10:Df K mg _ eT ["_law_many","_law_digits_here"]:=⟨D10.get X G λ_ _ _ _ _ _=>xx λ_ _=>rfl⟩
 have k_law_wordL:=pD (P:=l.prog) (w:=w) (mg:=mg) (base:=base) F10 T;have F11:Df K mg _ fM ["_law_table","_law_word_here","_law_place"]:=⟨D11.get X G λ_ _ _ _ _ _=>AF λ_ _ _=>rfl⟩
 have k_law_ledL:=rK (P:=l.prog) (w:=w) (mg:=mg) (base:=base) F11;have F12:Df K mg _ fi ["_law_e"]:=⟨D12.get X G λ_ _ _ _ _ _=>Cp λ_=>rfl⟩
 have kh_law_kindM:=nZ (P:=l.prog) (w:=w) (mg:=mg) (base:=base) F12 T TC;have F13:Df K mg _ c7 ["_law_word_here","_law_number"]:=⟨D13.get X G λ_ _ _ _ _ _=>xx λ_ _=>rfl⟩
 have k_law_restsR:=nO (P:=l.prog) (w:=w) (mg:=mg) (base:=base) F13;have F14:Df K mg _ e8 ["_law_kind_here","_law_rests_here","_law_number"]:=⟨D14.get X G λ_ _ _ _ _ _=>AF λ_ _ _=>rfl⟩
 have k_law_is_in:=p6 (P:=l.prog) (w:=w) (mg:=mg) (base:=base) F14;have F15:Df K mg _ bZ ["_law_one","_law_other"]:=⟨D15.get X G λ_ _ _ _ _ _=>xx λ_ _=>rfl⟩
 have k_law_are_apart:=jY (P:=l.prog) (w:=w) (mg:=mg) (base:=base) F15 T;have F18:Df K mg _ dA ["_law_found"]:=⟨D18.get X G λ_ _ _ _ _ _=>Cp λ_=>rfl⟩
 have k_law_isTL:=qY (P:=l.prog) (w:=w) (mg:=mg) (base:=base) F18 T;have F20:Df K mg _ f6 ["_law_table","_law_place"]:=⟨D20.get X G λ_ _ _ _ _ _=>xx λ_ _=>rfl⟩
 have k_law_home:=qP (P:=l.prog) (w:=w) (mg:=mg) (base:=base) F20 T;have F9:Df K mg _ hU ["_law_cell_here","_law_base","_law_many"]:=⟨D9.get X G λ_ _ _ _ _ _=>AF λ_ _ _=>rfl⟩
 have k_law_row:=sA (P:=l.prog) (w:=w) (mg:=mg) (base:=base) F9 T k_law_digits k_law_mixed;have F16:Df K mg _ dC ["_law_kind_here","_law_rests_here","_law_number"]:=⟨D16.get X G λ_ _ _ _ _ _=>AF λ_ _ _=>rfl⟩
 have k_law_key:=tV (P:=l.prog) (w:=w) (mg:=mg) (base:=base) F16 T k_law_are_apart;have F2:Df K mg _ eo ["first","behind"]:=⟨D2.get X G λ_ _ _ _ _ _=>xx λ_ _=>rfl⟩
 have at_table_ledL:=F2.at_;have kxA_table_ledL:=λ(base:Heap) (Pf:ES->Hp->Addr->Prop) (φ:Fw) (hF:jh l.prog w K mg base 2 Pf φ)=>mV (P:=l.prog) (w:=w) (mg:=mg) (base:=base) F2 T TC hF;have F17:Df K mg _ ez ["_law_kind_here","_law_number"]:=⟨D17.get X G λ_ _ _ _ _ _=>xx λ_ _=>rfl⟩
 have k_law_places:=og (P:=l.prog) (w:=w) (mg:=mg) (base:=base) F17 T k_law_key k_law_restsR;have F5:CO K mg _ cz ["kind","number"] _:=D5.get X G λ_ _ _ _ _ _=>xx λ_ _=>rfl
 have kx_by_rests:=qz (P:=l.prog) (w:=w) (mg:=mg) (base:=base) F5 T k_common_part k_least_multiple kxA_table_ledL at_table_ledL kA_least_multiple kA_rows_behind;have F19:Df K mg _ eZ ["_law_kind_here","_law_number"]:=⟨D19.get X G λ_ _ _ _ _ _=>xx λ_ _=>rfl⟩
 have k_law_saidB:=o7 (P:=l.prog) (w:=w) (mg:=mg) (base:=base) F19 TC kx_by_rests kh_law_kindM;exact Au FL T k_law_cell k_law_home k_law_is_in k_law_isTL k_law_ledL k_law_places k_law_restsR k_law_row k_law_saidB k_law_wordL
end KR
namespace PySem.W.Fast
theorem tw8737194388311274957:True:=trivial
theorem tw16457397956798407659:True:=trivial
theorem tw18268841423560007457:True:=trivial
theorem tw7932650950700471437:True:=trivial
theorem tw16003021375567891784:True:=trivial
theorem tw5365995064092141709:True:=trivial
theorem tw9735377944355067037:True:=trivial
theorem tw10373899868370887973:True:=trivial
theorem tw2266594412382761264:True:=trivial
theorem tw2490404516319701122:True:=trivial
theorem tw9025953277797253583:True:=trivial
theorem tw13801418362097971197:True:=trivial
theorem tw11629952345773923437:True:=trivial
theorem tw3174836400360781671:True:=trivial
theorem tw3022590839067594734:True:=trivial
theorem tw18189816152093161620:True:=trivial
theorem tw10210830918534724257:True:=trivial
theorem tw5050559785881988494:True:=trivial
theorem tw15886170894570337560:True:=trivial
theorem tw1367608219328457996:True:=trivial
theorem tw10922034887516213668:True:=trivial
theorem tw3258073525155687:True:=trivial
theorem tw9032030938540172715:True:=trivial
theorem tw14402722527426356783:True:=trivial
theorem tw4501931694272456159:True:=trivial
theorem tw17116415073278271360:True:=trivial
theorem tw18342070122876910832:True:=trivial
theorem tw4008194835883632874:True:=trivial
theorem tw16891891080371692395:True:=trivial
theorem tw12666546587209065542:True:=trivial
theorem tw8195144066781161590:True:=trivial
theorem tw10262635542529421030:True:=trivial
theorem tw475724927463480624:True:=trivial
theorem tw10577026164041213814:True:=trivial
theorem tw14612426099456197705:True:=trivial
theorem tw4678324848468444237:True:=trivial
theorem tw13185549829290300276:True:=trivial
theorem tw10398862030046137501:True:=trivial
theorem tw17299680359778486100:True:=trivial
theorem tw17607513903529324487:True:=trivial
theorem tw18106385882974245414:True:=trivial
theorem tw17771746389379533935:True:=trivial
theorem tw308897388750034444:True:=trivial
theorem tw9586747783510376449:True:=trivial
theorem tw7555618497347867757:True:=trivial
theorem tw9936907786225329789:True:=trivial
theorem tw9614429384101295544:True:=trivial
theorem tw15548646542078274134:True:=trivial
theorem tw14826592652538629260:True:=trivial
theorem tw4553475232392941765:True:=trivial
theorem tw11759241432821063116:True:=trivial
theorem tw11536850869434070025:True:=trivial
theorem tw11843334704969312278:True:=trivial
theorem tw17192592159402030971:True:=trivial
theorem tw9668375964371911815:True:=trivial
theorem tw5571946927621907893:True:=trivial
theorem tw14207630066139025020:True:=trivial
theorem tw10222800760469483139:True:=trivial
theorem tw3363456161169599144:True:=trivial
theorem tw18381537816991295549:True:=trivial
theorem tw13792582457413284088:True:=trivial
theorem tw1826933087289472717:True:=trivial
theorem tw3614900794002375270:True:=trivial
theorem tw12805637685173483203:True:=trivial
theorem tw17342094848126266274:True:=trivial
theorem tw17154202487753488506:True:=trivial
theorem tw4925985761904529360:True:=trivial
theorem tw2480109499470939713:True:=trivial
theorem tw9353347033721667006:True:=trivial
theorem tw14875604371981399928:True:=trivial
theorem tw14577834425792806374:True:=trivial
theorem tw14918516238022801992:True:=trivial
theorem tw15264351621597326818:True:=trivial
theorem tw2591514381434873356:True:=trivial
theorem tw14883227045079659659:True:=trivial
theorem tw11332673314714144652:True:=trivial
theorem tw13739185200245447441:True:=trivial
theorem tw15664397881799086675:True:=trivial
theorem tw16171243587477395109:True:=trivial
theorem tw15545461920322298681:True:=trivial
theorem tw6518967047634905528:True:=trivial
theorem tw10253558205828826132:True:=trivial
theorem tw13745196133613736729:True:=trivial
theorem tw4830319579997567052:True:=trivial
theorem tw7566908590453480129:True:=trivial
theorem tw141535930381433301:True:=trivial
theorem tw2487761541361954327:True:=trivial
theorem tw11199317907708160259:True:=trivial
theorem tw2091123380999406978:True:=trivial
theorem tw15784546288701970432:True:=trivial
theorem tw8624425719533987426:True:=trivial
theorem tw17050669073468559130:True:=trivial
theorem tw172087935526521201:True:=trivial
theorem tw5891637038811959607:True:=trivial
theorem tw4973613246191903901:True:=trivial
theorem tw11656950872604346092:True:=trivial
theorem tw9864744640614306011:True:=trivial
theorem tw12111377156451252110:True:=trivial
end PySem.W.Fast
open PySem PySem.W PyProof.Rows
set_option maxRecDepth 100000 in
set_option maxHeartbeats 0 in
theorem PySem.Challenge.cw_fanglue_k69_by_rests_holds : PySem.Challenge.rw_fanglue_k69_by_rests.Holds := by
 w_on;o_law;k_head;(case hw=>w_witness2)
 k_fill
 refine L2.y8 (l:=PySem.Challenge.rw_fanglue_k69_by_rests) (n:=63) (k:=6) (x:="_law_script") (CX:=λ_=>L2.sq) (sp:=λw=>L2.L3.Bo _ (L2.L3.u7 63)) rfl (by decide) rfl ⟨rfl,by decide,by decide⟩ (λw=>by kernel_rfl) (λw=>by kernel_rfl) (λw h Y=>PySem.W.km_in_of Y) ?F (λ_ _ a ns hl hS=>L2.L3.Bz hl hS) (λ_ _ _ _ _ z=>z)
 case F =>
  intro w mg fa h KX G hmg
  refine' KR.all_mk KX G hmg ?_ ?_ ?_ ?_ ?_ ?_ ?_ ?_ ?_ ?_ ?_ ?_ ?_ ?_ ?_ ?_ ?_ ?_ ?_ ?_ ?_ ?_ ?_ ?_ ?_ ?_ ?_ ?_ ?_ ?_ ?_ ?_ ?_ ?_ ?_ ?_ ?_ ?_ ?_ ?_ ?_ ?_ ?_ ?_ ?_ ?_ ?_ ?_ ?_ ?_ ?_ ?_ ?_ ?_ ?_ ?_ ?_ ?_ ?_ ?_ ?_ ?_ ?_ ?_ ?_ ?_ ?_ ?_ ?_ ?_ ?_ ?_ ?_ ?_ ?_ ?_
  rotate_left 16
  iterate 20 exact⟨⟨_,_,_,_,_,_,_,_,_,_,by k_is,by k_is,by k_is,by k_is⟩⟩
  exact⟨⟨_,_,_,_,_,_,_,_,_,_,by k_is,by k_is,by k_is,by k_is,L2.L3.CI (by rfl) (by k_is) (by rfl) (by rfl) (by rfl) (by rfl) (by rfl) (by rfl) (by rfl) (by rfl) (by decide) (by kernel_rfl)⟩⟩
  iterate 11 k_is
  iterate 16 (k_is)
  k_exc
  iterate 12 (k_is)
  iterate 15 (kit_is)
