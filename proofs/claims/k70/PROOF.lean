import PyProof.Rows.All
import Wide.All
import OpenK.AllK
import Wide.FinOn
import Lean
import PyProof.EqAt
import PyProof.EqKinds
import PyProof.TupleCall
import PyProof.NeKinds
import PyProof.CompFree
import KE.KIsAll
import OpenK.KOwn
import PyProof.RulesAs
import KE.RegKIsAll
import PyProof.ExcAttrAll.ValueError
import KE.KUnpack
import PyProof.Rows.StrWeight2
import PyProof.StrBlockI
import OpenK.KTop
import PyProof.ListStr
import PyProof.EnumMake
import PyProof.TupleIter
import PyProof.ListRange
import PyProof.PassesOwn
import PyProof.ExcInit
import PyProof.InstStoreFacts
import PyProof.DictFindH
import PyProof.DictIter
import PyProof.DictWalks
import PyProof.DictCompW
import PyProof.DictUpdate
import PyProof.SumWalk
import PyProof.ZipIter
import PyProof.TupleOfStr
import PyProof.FactsAll.range_1
import PySem.Challenge.RW_fanglue_k70_whole_tables_by_rests
set_option Elab.async false
set_option linter.all false
set_option maxRecDepth 100000
open List renaming getElem?_eq_some_iff->Dh,getElem?_set_ne->Di,getElem?_eq_getElem->Dm,getElem?_set_self->Dn,getElem?_map->Dt,mem_cons_of_mem->Dv,getElem?_append_left->Dw,mem_of_getElem?->Dy,getElem?_append_right->Dz,mem_map->DB,mem_cons_self->DC,mem_cons->DD,size_toArray->DE,map_cons->DF,getElem?_eq_none->DG,length_map->DH,mem_singleton->DJ,getD_eq_getElem?_getD->DL,mem_append->DM,length_append->DN,not_mem_nil->DQ,mem_range->DT,mem_append_right->DU,length_cons->DV,getElem?_replicate->DW,getElem?_cons_succ->DX,getElem?_cons_zero->DY,mem_append_left->D0,append_nil->Ea,length_nil->Ec,getElem?_of_mem->Ed,nodup_cons->Ee,drop_eq_nil_of_le->Ef,drop_eq_getElem_cons->Eh,nodup_append->Ei,getElem?_range->Eo,take_succ->Er,take_of_length_le->Es,getElem_mem->Et
open PySem.W renaming Frag->Dj,mg_of->Eu
open PySem renaming wpAny_bind->Dk,wpAny_pure->Ds,wpAny_mono->DK,sizeLine_eq->DR,foldedSetIterable->DS,wpAny_callSpecial?_slot->Ex
open Bool renaming false_eq_true->Dl,and_true->EB
open PySem.Heap renaming get?_push_of_some->Dp,lt_size->Dx,get?_push_size->DI
open Nat renaming lt_of_lt_of_le->Dr,le_refl->Du,ne_of_lt->DO,zero_le->DZ,le_trans->Ej,lt_or_ge->Ek,not_lt_zero->El,le_of_lt->Ep,lt_succ_iff_lt_or_eq->Ew,lt_of_le_of_lt->Ez
open Option.some renaming inj->DA
open Option renaming map_eq_some_iff->DP
open PySem.PassesOwn renaming never->Eb
open Array renaming getElem?_eq_some_iff->Eg,getElem?_toList->Em
open Prod renaming ext->Ey
open PySem.Calls renaming spliced_cons->EA
namespace L2
open PySem PySem.Spec PyProof.Rows
abbrev Key:=Sum Int Str
def nE:Key->Value->Bool
 | .inl k,v=>Value.isInt k v
 | .inr x,v=>Value.isStrOf x v
def B2 (w:World):Key->Int
 | .inl k=>hashInt k
 | .inr x=>hashStr w x
theorem bo:∀{k:Key} {v:Value},nE k v=true->(∃i t,k=Sum.inl i/\v=Value.int i t)\/(∃x t,k=Sum.inr x/\v=Value.str x t)
 | .inl i,v,h=>by
  obtain⟨t,e⟩:=Value.isInt_shape (k:=i) (v:=v) h
  exact .inl ⟨i,t,rfl,e⟩
 | .inr x,v,h=>by
  obtain⟨t,e⟩:=Value.isStrOf_shape (x:=x) (v:=v) h;exact .inr ⟨x,t,rfl,e⟩
theorem nG (i:Int) (t:Tok):nE (.inl i) (.int i t)=true:=by simp [nE,Value.isInt]
theorem uj (x:Str) (t:Tok):nE (.inr x) (.str x t)=true:=by simp [nE,Value.isStrOf]
theorem zD (a b:Int):decide ((Sum.inl a:Key)=Sum.inl b)=(a == b):=by
 by_cases e:a=b
 ·subst e;simp
 ·have h:¬ (Sum.inl a:Key)=Sum.inl b:=λq=>e (Sum.inl.inj q);rw [decide_eq_false h];exact (beq_eq_false_iff_ne.mpr e).symm
theorem yO (a b:Str):decide ((Sum.inr a:Key)=Sum.inr b)=decide (a=b):=by
 by_cases e:a=b
 ·subst e;simp
 ·have h:¬ (Sum.inr a:Key)=Sum.inr b:=λq=>e (Sum.inr.inj q);rw [decide_eq_false h,decide_eq_false e]
theorem yT (a:Int) (b:Str):decide ((Sum.inl a:Key)=Sum.inr b)=false:=decide_eq_false (λq=>nomatch q)
theorem yw (a:Str) (b:Int):decide ((Sum.inr a:Key)=Sum.inl b)=false:=decide_eq_false (λq=>nomatch q)
def bg (prog:Program) (w:World):PySem.KeyKind prog w Key where
 is:=nE
 hash:=B2 w
 inj:=λv a b ha hb=>by
  rcases bo ha with ⟨i,t,rfl,rfl⟩|⟨x,t,rfl,rfl⟩
  ·rcases bo hb with ⟨j,u,rfl,e⟩|⟨y,u,rfl,e⟩
   ·injection e with e1 _;rw [e1]
   ·exact nomatch e
  ·rcases bo hb with ⟨j,u,rfl,e⟩|⟨y,u,rfl,e⟩
   ·exact nomatch e
   ·injection e with e1 _;rw [e1]
 byValue:=λk v h=>by
  rcases bo h with ⟨i,t,rfl,rfl⟩|⟨x,t,rfl,rfl⟩ <;> rfl
 pyHash:=λhv h=>by
  rcases bo hv with ⟨i,t,rfl,rfl⟩|⟨x,t,rfl,rfl⟩
  ·exact wpAny_pyHash_int h
  ·exact wpAny_pyHash_str h
 eqBool:=λhu hv h=>by
  rcases bo hu with ⟨i,t,rfl,rfl⟩|⟨x,t,rfl,rfl⟩
  ·rcases bo hv with ⟨j,u,rfl,rfl⟩|⟨y,u,rfl,rfl⟩
   ·rw [zD] at h;exact wpAny_eqBool_int h
   ·rw [yT] at h;exact SeqAt.EqAt.int_str i t y u _ _ _ _ h
  ·rcases bo hv with ⟨j,u,rfl,rfl⟩|⟨y,u,rfl,rfl⟩
   ·rw [yw] at h;exact SeqAt.EqAt.str_int x t j u _ _ _ _ h
   ·rw [yO] at h;exact wpAny_eqBool_str h
 «strs»:=λk x t v h=>by
  rcases bo h with ⟨i,u,rfl,e⟩|⟨y,u,rfl,e⟩
  ·exact nomatch e
  ·injection e with e1 _
   subst e1;cases v <;> rfl
theorem qt (prog:Program) (w:World) (i:Int) (t:Tok):(bg prog w).is (.inl i) (.int i t)=true:=nG i t
theorem qe (prog:Program) (w:World) (x:Str) (t:Tok):(bg prog w).is (.inr x) (.str x t)=true:=uj x t
inductive V where
 | non|bl (b:Bool)|int (i:Int)|str (x:Str)|byt (b:Array UInt8)|flt (b:UInt64)|ref (a:Addr)|ty (n:String)
 deriving DecidableEq
def RelV:V->Value->Prop
 | .non,u=>u=Value.none
 | .bl b,u=>u=Value.bool b
 | .int i,u=>∃t,u=Value.int i t
 | .str x,u=>∃t,u=Value.str x t
 | .byt b,u=>∃t,u=Value.bytes b t
 | .flt b,u=>∃t,u=Value.float b t
 | .ref a,u=>u=Value.ref a
 | .ty n,u=>u=Value.type n
abbrev Vals:List V->List Value->Prop:=Paired RelV
theorem Vals.length {xs:List V} {us:List Value} (r:Vals xs us):xs.length=us.length:=Paired.length r
theorem Vals.get:∀{xs:List V} {us:List Value} {i:Nat} {x:V},Vals xs us->xs[i]?=some x->∃u,us[i]?=some u/\RelV x u
 | _,_,_,_,.nil,e=>by simp at e
 | _,_,0,_,.cons r _,e=>by simp at e;subst e;exact⟨_,rfl,r⟩
 | _,_,i + 1,x,.cons _ t,e=>by
  obtain⟨u,h1,h2⟩:=Vals.get (i:=i) (x:=x) t (by simpa using e);exact⟨u,by simpa using h1,h2⟩
theorem Vals.append:∀{xs ys:List V} {us ws:List Value},Vals xs us->Vals ys ws->Vals (xs ++ ys) (us ++ ws)
 | _,_,_,_,.nil,s=>s
 | _,_,_,_,.cons r t,s=>.cons r (Vals.append t s)
def qo:Option V->Option Value->Prop
 | some v,some u=>RelV v u
 | none,none=>True
 | _,_=>False
def KV {κ:Type}:List (κ×V)->List (κ×Value)->Prop:=Paired λ(p:κ×V) (q:κ×Value)=>p.1=q.1/\RelV p.2 q.2
def kV:Key->V
 | .inl i=>.int i
 | .inr x=>.str x
inductive HO where
 | lst (xs:List V)
 | tup (xs:List V)
 | dK (kvs:List (Key×V))|dT (kvs:List (List Key×V))
 | set (S:Int->Bool) (n:Nat)
 | ins (C dx:Addr) (fs:List (Str×V))
 | own (x:Addr)
 | xd (fs:List (Str×V))
 | met (f x:Addr)
 | yl (lo hi:Int)
 | frz (o:Obj) (u:HO)
 | mw (q:Str)
 | cdr (c:Addr) (q:Str)
 | ext (φ:Heap->Prop)
abbrev Hp:=Addr->Option HO
def upd (H:Hp) (a:Addr) (o:HO):Hp:=λb=>if b=a then some o else H b
theorem aq {H:Hp} {a:Addr} {o:HO}:upd H a o a=some o:=by unfold upd;rw [if_pos rfl]
theorem ar {H:Hp} {a b:Addr} {o:HO} (h:b≠a):upd H a o b=H b:=by unfold upd;rw [if_neg h]
theorem cw {H:Hp} {a b:Addr} {o:HO} (h:H a=some o) (h':H b=none):a≠b:=by
 intro e;subst e;rw [h] at h';cases h'
def qA (h:Heap) (a:Addr) (its:Array Value):Prop:=∃o,h.get? a=some o/\o.cls=.type "tuple"/\(∃n,o.data=.seq its n)/\o.dict=none
theorem qA.tup {h:Heap} {a:Addr} {its:Array Value} (x:qA h a its):IsTup h a its:=let ⟨o,e,c,d,_⟩:=x;⟨o,e,c,d⟩
theorem qA.new (h:Heap) (its:Array Value):qA (h.push { cls:=.type "tuple",data:=.seq its }) h.objs.size its:=⟨_,DI _ rfl,rfl,⟨_,rfl⟩,rfl⟩
section
variable (P:Program) (w:World)
def bw (H:Hp) (h:Heap) (a:Addr):HO->Prop
 | .lst xs=>xs.length<=sizeLine/\∃(its:List Value) (n:Nat),Vals xs its/\h.get? a=some { cls:=.type "list",data:=.seq its.toArray n }
 | .tup xs=>xs.length<=sizeLine/\∃its:List Value,Vals xs its/\qA h a its.toArray
 | .dK kvs=>kvs.length<=sizeLine/\(a == sysModules)=false/\∃vs,KV kvs vs/\h.DictOf (bg P w) a vs
 | .dT kvs=>kvs.length<=sizeLine/\(a == sysModules)=false/\∃xs:List (List Key×Addr×Value),
   Paired (λ(p:List Key×V) (q:List Key×Addr×Value)=>p.1=q.1/\H q.2.1=some (.tup (p.1.map kV))/\RelV p.2 q.2.2) kvs xs /\
   ∃o es ep,h.get? a=some o/\o.ExactDict/\o.data=.dict es ep/\es.toList=xs.map (entryOfKey (tupleKind (bg P w)))/\(xs.map (·.1)).Nodup
 | .set S n=>h.SetOf (intKind P w) a S n
 | .ins C dx fs=>H dx=some (.own a)/\fs.length<=1000/\dx≠a/\h.get? a=some (PySem.W.instObj C dx) /\
   ∃mA,h.Ns1 dx mA/\(∀f,qo (fs.lookup f) (mA f))/\PySem.Within mA (fs.map (·.1))
 | .own _=>∃o,h.get? a=some o
 | .xd fs=>∃mA,h.Ns1 a mA/\∀f,qo (fs.lookup f) (mA f)
 | .yl lo hi=>∃t u v,h.get? a=some { cls:=.type "range",data:=.fields #[.int lo t,.int hi u,.int 1 v] }
 | .frz o u=>h.get? a=some o/\bw H h a u
 | .mw q=>∃ps:Array Value,h.get? a=some { cls:=.none,data:=.fields ps }/\TriplesOk ps.toList/\∀pos cv,codeAmong pos ps.toList=some cv->∃c oc vs t,cv=.ref c/\H c=some (.frz oc (.own c))/\oc.data=.fields vs/\vs[1]?=some (.str q t)
 | .cdr c q=>(∃o,h.get? a=some o)/\∃oc vs t,H c=some (.frz oc (.own c))/\oc.data=.fields vs/\vs[1]?=some (.str q t)
 | .met f x=>h.get? a=some (PySem.W.methodObj (.ref f) (.ref x))
 | .ext φ=>φ h/\(∃o,h.get? a=some o)/\∀h1 h2:Heap,φ h1->(∀o,h1.get? a=some o->h2.get? a=some o)->φ h2
def gC (H:Hp) (h:Heap):Prop:=∀a o,H a=some o->bw P w H h a o
end
section
variable {P:Program} {w:World} {H H':Hp} {h h':Heap} {a:Addr} {o:HO}
theorem bw.lt (x:bw P w H h a o):a < h.objs.size:=by
 cases o with
 | lst xs=>obtain⟨_,_,_,_,e⟩:=x;exact Dx e
 | tup xs=>obtain⟨_,_,_,p⟩:=x;exact p.tup.lt
 | dK kvs=>obtain⟨_,_,_,_,o,_,_,e,_⟩:=x;exact Dx e
 | dT kvs=>obtain⟨_,_,_,_,o,_,_,e,_⟩:=x;exact Dx e
 | set S n=>obtain⟨o,_,_,_,e,_⟩:=x;exact Dx e
 | ins C dx fs=>obtain⟨_,_,_,e,_⟩:=x;exact Dx e
 | own y=>obtain⟨_,e⟩:=x;exact Dx e
 | xd fs=>obtain⟨_,⟨_,_,_,e,_⟩,_⟩:=x;exact Dx e
 | yl lo hi=>obtain⟨_,_,_,e⟩:=x;exact Dx e
 | frz ob u=>obtain⟨e,_⟩:=x;exact Dx e
 | mw q=>obtain⟨_,e,_⟩:=x;exact Dx e
 | cdr c q=>obtain⟨⟨_,e⟩,_⟩:=x;exact Dx e
 | met f y=>exact Dx (show h.get? a=some _ from x)
 | ext φ=>obtain⟨_,⟨_,e⟩,_⟩:=x;exact Dx e
theorem Paired.AK {α β:Type} {F G:α->β->Prop}:∀{l₁:List α} {l₂:List β},Paired F l₁ l₂->(∀a b,F a b->G a b)->Paired G l₁ l₂
 | _,_,.nil,_=>.nil
 | _,_,.cons r t,f=>.cons (f _ _ r) (Paired.AK t f)
theorem bw.qf (x:bw P w H h a o) (k:∀b u,(b=a\/H b=some (.own a))->h.get? b=some u->h'.get? b=some u)
  (ho:∀b,H b=some (.own a)->H' b=some (.own a)) (ht:∀b xs,H b=some (.tup xs)->H' b=some (.tup xs)) (hz:∀b o u,H b=some (.frz o u)->H' b=some (.frz o u)):bw P w H' h' a o:=by
 induction o with
 | lst xs=>obtain⟨z,its,n,r,e⟩:=x;exact⟨z,its,n,r,k _ _ (.inl rfl) e⟩
 | tup xs=>obtain⟨z,its,r,ob,e,c⟩:=x;exact⟨z,its,r,ob,k _ _ (.inl rfl) e,c⟩
 | dK kvs=>obtain⟨z,y,vs,r,ob,es,ep,e,c⟩:=x;exact⟨z,y,vs,r,ob,es,ep,k _ _ (.inl rfl) e,c⟩
 | dT kvs =>
  obtain⟨z,y,xs,r,ob,es,ep,e,c⟩:=x
  exact⟨z,y,xs,Paired.AK r λp q z=>⟨z.1,ht _ _ z.2.1,z.2.2⟩,ob,es,ep,k _ _ (.inl rfl) e,c⟩
 | set S n=>obtain⟨ob,es,ep,t,e,c⟩:=x;exact⟨ob,es,ep,t,k _ _ (.inl rfl) e,c⟩
 | ins C dx fs =>
  obtain⟨d,z,ne,e,mA,⟨od,es,ep,e2,c⟩,r⟩:=x
  exact⟨ho _ d,z,ne,k _ _ (.inl rfl) e,mA,⟨od,es,ep,k _ _ (.inr d) e2,c⟩,r⟩
 | own y=>obtain⟨ob,e⟩:=x;exact⟨ob,k _ _ (.inl rfl) e⟩
 | xd fs=>obtain⟨mA,⟨od,es,ep,e,c⟩,r⟩:=x;exact⟨mA,⟨od,es,ep,k _ _ (.inl rfl) e,c⟩,r⟩
 | yl lo hi=>obtain⟨t,u,v,e⟩:=x;exact⟨t,u,v,k _ _ (.inl rfl) e⟩
 | frz ob u ih=>obtain⟨e,q⟩:=x;exact⟨k _ _ (.inl rfl) e,ih q⟩
 | mw q =>
  obtain⟨ps,e,t,r⟩:=x;refine⟨ps,k _ _ (.inl rfl) e,t,λpos cv hc=>?_⟩;obtain⟨c,oc,vs,tt,e1,e2,e3⟩:=r pos cv hc
  exact⟨c,oc,vs,tt,e1,hz _ _ _ e2,e3⟩
 | cdr c q =>
  obtain⟨⟨o,e⟩,oc,vs,t,r1,r2⟩:=x
  exact⟨⟨o,k _ _ (.inl rfl) e⟩,oc,vs,t,hz _ _ _ r1,r2⟩
 | met f y =>
  have e:h.get? a=some (PySem.W.methodObj (.ref f) (.ref y)):=x;show h'.get? a=some (PySem.W.methodObj (.ref f) (.ref y))
  exact k a _ (.inl rfl) e
 | ext φ=>obtain⟨p,⟨o,e⟩,st⟩:=x;exact⟨st _ _ p λo q=>k _ _ (.inl rfl) q,⟨o,k _ _ (.inl rfl) e⟩,st⟩
theorem gC.lt (x:gC P w H h) (e:H a=some o):a < h.objs.size:=(x a o e).lt
theorem gC.fresh (x:gC P w H h) (e:h.objs.size<=a):H a=none:=by
 cases q:H a with
 | none=>rfl
 | some u=>exact absurd (Dr (x.lt q) e) (Nat.lt_irrefl _)
theorem gC.kept (x:gC P w H h) (k:∀b u,h.get? b=some u->h'.get? b=some u):gC P w H h':=λa o e =>
 (x a o e).qf (λb u _ q=>k b u q) (λ_ q=>q) (λ_ _ q=>q) λ_ _ _ q=>q
theorem gC.laid (x:gC P w H h) (k:∀b u,h.get? b=some u->h'.get? b=some u) (hp:h.objs.size<=a) (new:bw P w (upd H a o) h' a o):gC P w (upd H a o) h':=λb u e=>by
 have hn:=x.fresh hp
 by_cases hb:b=a
 ·subst hb;rw [aq] at e;cases e;exact new
 ·rw [ar hb] at e;exact (x b u e).qf (λc v _ q=>k c v q) (λc q=>by rw [ar (cw q hn)];exact q) (λc xs q=>by rw [ar (cw q hn)];exact q) λc o xs q=>by rw [ar (cw q hn)];exact q
end
def Rd (H:Hp) (a:Addr) (u:HO):Prop:=H a=some u\/∃o,H a=some (.frz o u)
theorem Rd.ok {P:Program} {w:World} {H:Hp} {h:Heap} {a:Addr} {u:HO} (r:Rd H a u) (x:gC P w H h):bw P w H h a u:=by
 rcases r with r|⟨o,r⟩
 ·exact x a u r
 ·obtain⟨_,q⟩:=x a _ r;exact q
def A2:Option HO->Prop
 | some (.lst _)=>True
 | some (.dK _)=>True
 | some (.dT _)=>True
 | some (.set _ _)=>True
 | some (.ins _ _ _)=>True
 | some (.ext _)=>True
 | _=>False
section
variable {P:Program} {w:World} {H:Hp} {h h':Heap} {x e:Addr} {o':HO}
theorem gC.write (ok:gC P w H h) (mu:A2 (H x)) (he:e=x\/H e=some (.own x)) (k:∀b u,b≠e->h.get? b=some u->h'.get? b=some u) (heo:∃u,h'.get? e=some u)
  (new:bw P w (upd H x o') h' x o'):gC P w (upd H x o') h':=λb u q=>by
 have nown:∀c y,H c=some (.own y)->c≠x:=λc y r z=>by subst z;rw [r] at mu;exact mu
 have ntup:∀c xs,H c=some (.tup xs)->c≠x:=λc xs r z=>by subst z;rw [r] at mu;exact mu
 have nfrz:∀c o xs,H c=some (.frz o xs)->c≠x:=λc o xs r z=>by subst z;rw [r] at mu;exact mu
 by_cases hb:b=x
 ·subst hb;rw [aq] at q;cases q;exact new
 ·rw [ar hb] at q
  by_cases hbe:b=e
  ·have q':H b=some (.own x):=by
    rcases he with z|z
    ·exact absurd (hbe.trans z) hb
    ·rw [hbe];exact z
   rw [q] at q';cases q';obtain⟨v,hv⟩:=heo;exact⟨v,by rw [hbe];exact hv⟩
  ·refine (ok b u q).qf (λc v hc r=>k c v ?_ r) (λc r=>by rw [ar (nown c b r)];exact r) (λc xs r=>by rw [ar (ntup c xs r)];exact r) λc o xs r=>by rw [ar (nfrz c o xs r)];exact r
   rcases hc with rfl|hc
   ·exact hbe
   ·rintro rfl;rcases he with z|z
    ·exact nown c b hc z
    ·rw [hc] at z;cases z;exact hb rfl
end
structure Un (fs ex:List Addr) (H H':Hp) (h h':Heap):Prop where
 keep:∀b o,h.get? b=some o->H b=none->b∉fs->b∉ex->h'.get? b=some o
 slot:∀b o,h.get? b=some o->H b=none->b∈fs->b∉ex->∃sl,h'.get? b=some { o with slots:=sl }
 free:∀b o,h.get? b=some o->H b=none->b∉ex->H' b=none
 there:∀b o,h.get? b=some o->b∉ex->∃o',h'.get? b=some o'
 jE:∀b xs,H b=some (.tup xs)->H' b=some (.tup xs)
 frzs:∀b o u,H b=some (.frz o u)->H' b=some (.frz o u)
 tbls:∀b q,H b=some (.mw q)->H' b=some (.mw q)
section
variable {fs fs' ex ex':List Addr} {H H1 H2:Hp} {h h1 h2 h':Heap} {a x e:Addr} {o:HO}
theorem Un.any (u:Un fs ex H H1 h h1) {b:Addr} {ob:Obj} (q:h.get? b=some ob) (n:H b=none) (hx:b∉ex):∃sl,h1.get? b=some { ob with slots:=sl }:=by
 by_cases hb:b∈fs
 ·exact u.slot b ob q n hb hx
 ·exact⟨ob.slots,u.keep b ob q n hb hx⟩
theorem Un.kept (k:∀b u,h.get? b=some u->h'.get? b=some u):Un fs ex H H h h' :=
 ⟨λb ob q _ _ _=>k b ob q,λb ob q _ _ _=>⟨ob.slots,k b ob q⟩,λ_ _ _ n _=>n,λb ob q _=>⟨ob,k b ob q⟩,λ_ _ q=>q,λ_ _ _ q=>q,λ_ _ q=>q⟩
theorem Un.refl:Un fs ex H H h h:=Un.kept λ_ _ q=>q
theorem Un.laid (k:∀b u,h.get? b=some u->h'.get? b=some u) (hp:h.objs.size<=a) (hn:H a=none):Un fs ex H (upd H a o) h h' where
 keep:=λb u q _ _ _=>k b u q
 slot:=λb u q _ _ _=>⟨u.slots,k b u q⟩
 free:=λb u q n _=>by rw [ar (DO (Dr (Dx q) hp))];exact n
 there:=λb u q _=>⟨u,k b u q⟩
 jE:=λb xs q=>by rw [ar (cw q hn)];exact q
 frzs:=λb u xs q=>by rw [ar (cw q hn)];exact q
 tbls:=λb ps q=>by rw [ar (cw q hn)];exact q
theorem Un.write (mu:A2 (H x)) (he:e=x\/H e=some (.own x)) (k:∀b u,b≠e->h.get? b=some u->h'.get? b=some u) (heo:∃u,h'.get? e=some u):Un fs ex H (upd H x o) h h':=by
 have hx:∀b,H b=none->b≠x:=λb n z=>by subst z;rw [n] at mu;exact mu
 have hb:∀b,H b=none->b≠e:=λb n z=>by
  subst z;rcases he with r|r
  ·exact hx b n r
  ·rw [n] at r;cases r
 have hm:∀b u,H b=some u->¬ A2 (some u)->b≠x:=λb u q nm z=>by subst z;rw [q] at mu;exact nm mu
 refine⟨λb u q n _ _=>k b u (hb b n) q,λb u q n _ _=>⟨u.slots,k b u (hb b n) q⟩,λb u q n _=>by rw [ar (hx b n)];exact n,λb u q _=>?_,
  λb xs q=>by rw [ar (hm b _ q λz=>z)];exact q,λb u xs q=>by rw [ar (hm b _ q λz=>z)];exact q,λb ps q=>by rw [ar (hm b _ q λz=>z)];exact q⟩
 by_cases hbe:b=e
 ·subst hbe;exact heo
 ·exact⟨u,k b u hbe q⟩
end
def BO (h:Heap) (H:Hp):List Addr:=(List.range h.objs.size).filter λa=>(H a).isSome
def nS (h:Heap) (H:Hp):Heap:=PySem.W.hideAll h (BO h H)
theorem uo (h:Heap) (H:Hp):(nS h H).objs.size=h.objs.size:=PySem.W.hideAll_size _ _
theorem vY {h:Heap} {H:Hp} {b:Addr} {o:Obj} (e:h.get? b=some o) (n:H b=none):(nS h H).get? b=some o :=
 PySem.W.hideAll_get _ e λhm=>by
  have q:(H b).isSome=true:=(List.mem_filter.mp hm).2;rw [n] at q;simp at q
theorem wH {h:Heap} {H:Hp} {b:Addr} {o:Obj} (e:(nS h H).get? b=some o):h.get? b=some o/\H b=none:=by
 have e':h.get? b=some o:=PySem.W.of_hideAll (BO h H) e;refine⟨e',?_⟩
 cases q:H b with
 | none=>rfl
 | some x =>
  have hm:b∈BO h H:=List.mem_filter.mpr ⟨DT.mpr (Dx e'),by simp [q]⟩;have z:(nS h H).get? b=none:=PySem.W.hideAll_none (BO h H) hm;rw [z] at e;cases e
structure Mod (K:Dj) (mg:Str->Option Value) (base:Heap):Prop where
 kin:K.In base
 glob:base.Ns mainGlobals mg
 blt:∃mb,base.Ns builtinsNs mb/\∀x:Str,x≠"__name__"->mb x=bootBuiltins x
 nolimit:base.NoLimit
 bm:∃bm ob,mg "__builtins__" = some (.ref bm)/\bm≠builtinsNs/\base.get? bm=some ob/\ob.cls=.type "module"/\ob.dict=some builtinsNs/\ob.data=.plain
structure Cx where
 prog:Program
 w:World
 K:Dj
 mg:Str->Option Value
 base:Heap
 A:Around
 N:List Str
 s₀:Shared
 H₀:Hp
 env:Env
 outer:List Env
 stack:List Env
 ex:List Addr
 fn:Str->Bool
 calm:Bool
 pn:List (Addr×Obj)
 xe:Value->Shared->Prop
def gY (l:List Env):List Addr:=l.filterMap (·.frame)
abbrev Cx.fs (X:Cx):List Addr:=gY X.outer
def iJ:List (Str×Str):=[("meet","meet.<locals>.<lambda>"),("core","core.<locals>.<lambda>"),("by_rests","by_rests.<locals>.behind")]
def tq (K:Dj) (b:Addr):Option Str:=(iJ.find? λp=>match PySem.W.tabIn K p.1 with|some (_,P)=>P == b|none=>false).map (·.2)
def xk (K:Dj) (H:Hp):Prop:=∀b q,tq K b=some q->H b=some (.mw q)
def rX (sc:Scope) (x:Str):Prop:=sc.names.lookup x=some .local\/sc.names.lookup x=some .cell\/sc.names.lookup x=some .free
def Loc (sc:Scope) (x:Str):Prop:=sc.names.lookup x=some .local\/sc.names.lookup x=some .cell
def Look (env:Env) (h:Heap) (m:Str->Option Value) (x:Str) (u:Value):Prop :=
 (env.kindOf x=some .local/\m x=some u)\/((env.kindOf x=some .cell\/env.kindOf x=some .free)/\∃c,env.cells.lookup x=some c/\h.IsCell c (some u))
structure Cx.Ok (X:Cx):Prop where
 mod:Mod X.K X.mg X.base
 kind:X.env.scope.kind=.function
 glob:X.env.globals=mainGlobals
 blt:X.env.builtins=builtinsNs
 above:X.s₀.heap.objs.size<=X.env.locals
 inj:∀x y c,X.env.cells.lookup x=some c->X.env.cells.lookup y=some c->x=y
 has:∀x,(X.env.kindOf x=some .cell\/X.env.kindOf x=some .free)->∃c,X.env.cells.lookup x=some c
 cab:∀x c,X.fn x=true->X.env.cells.lookup x=some c->X.s₀.heap.objs.size<=c
 hd:X.calm=true->X.A.handled=none
 frames:X.A.frames=some X.stack
 stk:X.stack=X.outer\/(X.stack=X.env :: X.outer/\X.env.frame=some X.env.locals)
 exf:∀b∈X.ex,b≠X.env.locals/\∀x c,X.env.cells.lookup x=some c->c≠b
 bs:∀b o,X.base.get? b=some o->X.s₀.heap.get? b=some o/\X.H₀ b=none
 bsz:X.base.objs.size<=X.s₀.heap.objs.size
 noex:∀b o,X.base.get? b=some o->b∉X.ex
 exfs:∀b∈X.ex,b∉X.fs
 iO:X.s₀.heap.FunFrames X.base X.outer
 frf:(∀b∈X.fs,X.H₀ b=none)/\xk X.K X.H₀
structure Inv (X:Cx) (pins:List (Addr×Obj)) (σ:List (Option V)) (H:Hp) (s:Shared):Prop where
 ok:X.Ok
 os:s.os=X.s₀.os
 bare:AllBare s.gens
 base:Un X.fs X.ex X.H₀ H X.s₀.heap s.heap
 loc:∃m,s.heap.Ns X.env.locals m/\∀(i:Nat) (x:Str) (v:V),X.N[i]?=some x->σ[i]?=some (some v)->rX X.env.scope x->∃u,RelV v u/\Look X.env s.heap m x u
 cell:∀x c,X.env.cells.lookup x=some c->∃v,s.heap.IsCell c v
 free:H X.env.locals=none
 freeC:∀x c,X.env.cells.lookup x=some c->H c=none
 pin:∀p∈X.pn ++ pins,s.heap.get? p.1=some p.2/\H p.1=none/\p.1≠X.env.locals/\p.1∉X.fs/\∀v,p.2.data≠.cell v
 hok:gC X.prog X.w H s.heap
 len:σ.length=X.N.length
section
variable {X:Cx} {pins:List (Addr×Obj)} {σ:List (Option V)} {H H':Hp} {s:Shared} {h':Heap}
theorem Cx.Ok.BQ (ok:X.Ok) {b:Addr} {o:Obj} (e:X.base.get? b=some o):b∉X.fs:=λhb=>by
 have:=(ok.iO.mem hb).1;rw [e] at this;cases this
theorem Inv.bs (I:Inv X pins σ H s):∀b o,X.base.get? b=some o->s.heap.get? b=some o/\H b=none:=λb o e =>
 ⟨I.base.keep b o (I.ok.bs b o e).1 (I.ok.bs b o e).2 (I.ok.BQ e) (I.ok.noex b o e),I.base.free b o (I.ok.bs b o e).1 (I.ok.bs b o e).2 (I.ok.noex b o e)⟩
theorem Inv.bk (I:Inv X pins σ H s):∀b o,X.base.get? b=some o->s.heap.get? b=some o:=λb o e=>(I.bs b o e).1
theorem Inv.mod (I:Inv X pins σ H s):Mod X.K X.mg X.base:=I.ok.mod
theorem Inv.r8 (I:Inv X pins σ H s):X.K.In s.heap:=I.ok.mod.kin.keeps I.bk
theorem Inv.lt (I:Inv X pins σ H s):X.env.locals < s.heap.objs.size:=let ⟨_,hn,_⟩:=I.loc;hn.lt
theorem Inv.sz (I:Inv X pins σ H s):X.s₀.heap.objs.size<=s.heap.objs.size:=Ej I.ok.above (Ep I.lt)
theorem Inv.BR (I:Inv X pins σ H s) {a:Addr} (h:s.heap.objs.size<=a):a∉X.fs:=λhb=>by
 obtain⟨_,o,ho,_⟩:=I.ok.iO.mem hb;exact absurd (Dr (Dx ho) (Ej I.sz h)) (Nat.lt_irrefl _)
theorem Inv.x8 (I:Inv X pins σ H s):∀x c,X.env.cells.lookup x=some c->c≠X.env.locals:=λx c e z=>by
 obtain⟨v,o,ho,hd⟩:=I.cell x c e;obtain⟨m,⟨o',es,ep,ho',hd',_⟩,_⟩:=I.loc;rw [z,ho'] at ho;cases ho;rw [hd'] at hd;cases hd
theorem Inv.iO (I:Inv X pins σ H s):s.heap.FunFrames X.base X.outer:=by
 have all:∀(l:List Env),(∀b∈gY l,b∈X.fs)->X.s₀.heap.FunFrames X.base l->s.heap.FunFrames X.base l:=by
  intro l
  induction l with
  | nil=>intro _ _;trivial
  | cons env r ih =>
   intro hs hl;obtain⟨hk,⟨L,o,hf,hn,ho,hd⟩,hr⟩:=hl;have hL:L∈X.fs:=hs L (by unfold gY;rw [List.filterMap_cons,hf];exact DC);obtain⟨sl,e⟩:=I.base.slot L o ho (I.ok.frf.1 L hL) hL λz=>I.ok.exfs L z hL;exact⟨hk,⟨L,_,hf,hn,e,hd⟩,ih (λb hb=>hs b (by unfold gY;rw [List.filterMap_cons,hf];exact Dv _ hb)) hr⟩
 exact all X.outer (λ_ hb=>hb) I.ok.iO
theorem Inv.stack (I:Inv X pins σ H s):s.heap.FunFrames X.base X.stack:=by
 rcases I.ok.stk with e|⟨e,hf⟩
 ·rw [e];exact I.iO
 ·rw [e];obtain⟨m,hn,_⟩:=I.loc;refine .cons (by rw [I.ok.kind];decide) hf hn ?_ I.iO;exact Heap.get?_none_of_le (Ej I.ok.bsz I.ok.above)
theorem Inv.i4 (I:Inv X pins σ H s):∀b∈gY X.stack,b∈X.env.locals :: X.fs:=λb hb=>by
 rcases I.ok.stk with e|⟨e,hf⟩
 ·rw [e] at hb;exact Dv _ hb
 ·rw [e] at hb;unfold gY at hb;rw [List.filterMap_cons,hf] at hb;exact hb
theorem Inv.jQ (I:Inv X pins σ H s):∀b∈gY X.stack,H b=none:=λb hb=>by
 rcases DD.mp (I.i4 b hb) with e|hb
 ·rw [e];exact I.free
 ·obtain⟨_,o,ho,_⟩:=I.ok.iO.mem hb;exact I.base.free b o ho (I.ok.frf.1 b hb) λz=>I.ok.exfs b z hb
theorem Inv.tb (I:Inv X pins σ H s):xk X.K H:=λb q e=>I.base.tbls b q (I.ok.frf.2 b q e)
theorem Inv.step {g':Array GenState} {t':Nat} {d':Drawn} {ch:List Addr} (I:Inv X pins σ H s)
  (hch:∀b∈ch,(b∈X.ex\/X.s₀.heap.objs.size<=b)/\b≠X.env.locals/\(∀x c,X.env.cells.lookup x=some c->c≠b)/\∀p∈X.pn ++ pins,p.1≠b)
  (keep:∀b o,b≠X.env.locals->b∉X.fs->b∉ch->s.heap.get? b=some o->H b=none->h'.get? b=some o)
  (slot:∀b o,b≠X.env.locals->b∈X.fs->b∉ch->s.heap.get? b=some o->H b=none->∃sl,h'.get? b=some { o with slots:=sl }) (free:∀b o,b∉ch->s.heap.get? b=some o->H b=none->H' b=none)
  (there:∀b o,b∉ch->s.heap.get? b=some o->∃o',h'.get? b=some o')
  (jE:∀b xs,H b=some (.tup xs)->H' b=some (.tup xs)) (frzs:∀b o u,H b=some (.frz o u)->H' b=some (.frz o u)) (tbls:∀b q,H b=some (.mw q)->H' b=some (.mw q))
  (ns:∀m,s.heap.Ns X.env.locals m->h'.Ns X.env.locals m) (hok:gC X.prog X.w H' h') (hg:AllBare g') :
  Inv X pins σ H' { s with heap:=h',gens:=g',drawn:=d',toks:=t' }:=by
 have neL:∀b o,X.s₀.heap.get? b=some o->b≠X.env.locals:=λb o e=>DO (Dr (Dx e) I.ok.above)
 have neC:∀b o,X.s₀.heap.get? b=some o->b∉X.ex->b∉ch:=λb o e hx hb=>by
  rcases (hch b hb).1 with z|z
  ·exact hx z
  ·exact absurd (Dr (Dx e) z) (Nat.lt_irrefl _)
 have cellK:∀x c,X.env.cells.lookup x=some c->∀v,s.heap.IsCell c v->h'.IsCell c v:=λx c e v ⟨o,ho,hd⟩=>by
  have nch:c∉ch:=λz=>(hch c z).2.2.1 x c e rfl
  by_cases hc:c∈X.fs
  ·obtain⟨sl,q⟩:=slot c o (I.x8 x c e) hc nch ho (I.freeC x c e);exact⟨_,q,hd⟩
  ·exact⟨o,keep c o (I.x8 x c e) hc nch ho (I.freeC x c e),hd⟩
 refine⟨I.ok,I.os,hg,⟨λb o e n hb hx=>?_,λb o e n hb hx=>?_,λb o e n hx=>?_,λb o e hx=>?_,λb xs e=>jE b xs (I.base.jE b xs e),λb o xs e=>frzs b o xs (I.base.frzs b o xs e),λb q e=>tbls b q (I.base.tbls b q e)⟩,?_,λx c e=>?_,?_,λx c e=>?_,λp hp=>?_,hok,I.len⟩
 ·exact keep b o (neL b o e) hb (neC b o e hx) (I.base.keep b o e n hb hx) (I.base.free b o e n hx)
 ·obtain⟨sl,e1⟩:=I.base.slot b o e n hb hx;obtain⟨sl',e2⟩:=slot b _ (neL b o e) hb (neC b o e hx) e1 (I.base.free b o e n hx);exact⟨sl',e2⟩
 ·obtain⟨o',e1⟩:=I.base.there b o e hx;exact free b o' (neC b o e hx) e1 (I.base.free b o e n hx)
 ·obtain⟨o',e1⟩:=I.base.there b o e hx;exact there b o' (neC b o e hx) e1
 ·obtain⟨m,hn,hl⟩:=I.loc;refine⟨m,ns m hn,λi x v e1 e2 e3=>?_⟩;obtain⟨u,r,l⟩:=hl i x v e1 e2 e3;refine⟨u,r,?_⟩;rcases l with l|⟨k,c,e,z⟩
  ·exact .inl l
  ·exact .inr ⟨k,c,e,cellK x c e _ z⟩
 ·obtain⟨v,z⟩:=I.cell x c e;exact⟨v,cellK x c e v z⟩
 ·obtain⟨m,⟨o,_,_,ho,_⟩,_⟩:=I.loc;exact free _ o (λz=>(hch _ z).2.1 rfl) ho I.free
 ·obtain⟨v,o,ho,hd⟩:=I.cell x c e;exact free c o (λz=>(hch c z).2.2.1 x c e rfl) ho (I.freeC x c e)
 ·obtain⟨e,n,ne,nf,d⟩:=I.pin p hp;have nch:p.1∉ch:=λz=>(hch p.1 z).2.2.2 p hp rfl;exact⟨keep p.1 p.2 ne nf nch e n,free p.1 p.2 nch e n,ne,nf,d⟩
theorem Inv.un {t':Nat} (I:Inv X pins σ H s) (u:Un X.fs [] H H' s.heap h') (hok:gC X.prog X.w H' h'):Inv X pins σ H' { s with heap:=h',toks:=t' }:=by
 obtain⟨m,⟨o,es,ep,ho,r⟩,_⟩:=id I.loc;obtain⟨sl,hL⟩:=u.any ho I.free (by simp)
 exact I.step (g':=s.gens) (d':=s.drawn) (ch:=[]) (λ_ z=>nomatch z) (λb o _ hb _ e n=>u.keep b o e n hb (by simp)) (λb o _ hb _ e n=>u.slot b o e n hb (by simp)) (λb o _ e n=>u.free b o e n (by simp)) (λb o _ e=>u.there b o e (by simp)) u.jE u.frzs u.tbls (λm' hm=>by
  obtain⟨o',es',ep',ho',r'⟩:=hm;rw [ho] at ho';cases ho'
  exact⟨_,es',ep',hL,r'⟩) hok I.bare
theorem Inv.call {g':Array GenState} {t':Nat} {d':Drawn} {ch:List Addr} (I:Inv X pins σ H s) (u:Un (gY X.stack) ch H H' s.heap h') (hok:gC X.prog X.w H' h') (hg:AllBare g')
  (hch:∀b∈ch,(b∈X.ex\/X.s₀.heap.objs.size<=b)/\b≠X.env.locals/\(∀x c,X.env.cells.lookup x=some c->c≠b)/\∀p∈X.pn ++ pins,p.1≠b) :
  Inv X pins σ H' { s with heap:=h',gens:=g',drawn:=d',toks:=t' }:=by
 obtain⟨m,⟨o,es,ep,ho,r⟩,_⟩:=id I.loc;obtain⟨sl,hL⟩:=u.any ho I.free λz=>(hch _ z).2.1 rfl
 exact I.step (ch:=ch) hch (λb o hL hb hc e n=>u.keep b o e n (λz=>(DD.mp (I.i4 b z)).elim hL hb) hc) (λb o _ _ hc e n=>u.any e n hc) (λb o hc e n=>u.free b o e n hc) (λb o hc e=>u.there b o e hc) u.jE u.frzs u.tbls (λm' hm=>by
  obtain⟨o',es',ep',ho',r'⟩:=hm;rw [ho] at ho';cases ho'
  exact⟨_,es',ep',hL,r'⟩) hok hg
theorem Inv.turned {t':Nat} {it:Addr} (I:Inv X pins σ H s) (k:∀b o,b≠it->s.heap.get? b=some o->h'.get? b=some o) (hn:H it=none) (hL:it≠X.env.locals)
  (h1:it∈X.ex\/X.s₀.heap.objs.size<=it) (h2:∀x c,X.env.cells.lookup x=some c->c≠it) (h3:∀p∈X.pn ++ pins,p.1≠it):Inv X pins σ H { s with heap:=h',toks:=t' }:=by
 have nit:∀b u,H b=some u->b≠it:=λb u e z=>by rw [z,hn] at e;cases e
 refine I.step (g':=s.gens) (d':=s.drawn) (ch:=[it]) (λb hb=>?_) (λb o _ _ hc e _=>k b o (λz=>hc (by simp [z])) e) (λb o _ _ hc e _=>⟨o.slots,k b o (λz=>hc (by simp [z])) e⟩) (λ_ _ _ _ n=>n)
  (λb o hc e=>⟨o,k b o (λz=>hc (by simp [z])) e⟩) (λ_ _ e=>e) (λ_ _ _ e=>e) (λ_ _ e=>e) (λm hm=>?_) (λb u e=>?_) I.bare
 ·have e:b=it:=by simpa using hb
  subst e;exact⟨h1,hL,h2,h3⟩
 ·obtain⟨o,es,ep,ho,r⟩:=hm;exact⟨o,es,ep,k _ o (Ne.symm hL) ho,r⟩
 ·refine (I.hok b u e).qf (λc v hc q=>k c v ?_ q) (λ_ q=>q) (λ_ _ q=>q) λ_ _ _ q=>q;rcases hc with z|z
  ·rw [z];exact nit b u e
  ·exact nit c _ z
theorem Inv.tok (I:Inv X pins σ H s) (t:Nat):Inv X pins σ H { s with toks:=t }:=I.un (h':=s.heap) (t':=t) Un.refl I.hok
theorem Inv.kept {t':Nat} (I:Inv X pins σ H s) (k:∀b u,s.heap.get? b=some u->h'.get? b=some u):Inv X pins σ H { s with heap:=h',toks:=t' }:=I.un (Un.kept k) (I.hok.kept k)
theorem Inv.laid {a:Addr} {o:HO} {t':Nat} (I:Inv X pins σ H s) (k:∀b u,s.heap.get? b=some u->h'.get? b=some u) (hp:s.heap.objs.size<=a) (new:bw X.prog X.w (upd H a o) h' a o) :
  Inv X pins σ (upd H a o) { s with heap:=h',toks:=t' }:=I.un (Un.laid k hp (I.hok.fresh hp)) (I.hok.laid k hp new)
theorem Inv.write {x e:Addr} {o:HO} {t':Nat} (I:Inv X pins σ H s) (mu:A2 (H x)) (he:e=x\/H e=some (.own x)) (k:∀b u,b≠e->s.heap.get? b=some u->h'.get? b=some u) (heo:∃u,h'.get? e=some u)
  (new:bw X.prog X.w (upd H x o) h' x o):Inv X pins σ (upd H x o) { s with heap:=h',toks:=t' }:=I.un (Un.write mu he k heo) (I.hok.write mu he k heo new)
theorem Inv.rS {pins':List (Addr×Obj)} (I:Inv X pins σ H s) (h:∀p∈pins',s.heap.get? p.1=some p.2/\H p.1=none/\p.1≠X.env.locals/\p.1∉X.fs/\∀v,p.2.data≠.cell v):Inv X pins' σ H s :=
 ⟨I.ok,I.os,I.bare,I.base,I.loc,I.cell,I.free,I.freeC,λp hp=>(DM.mp hp).elim (λz=>I.pin p (D0 _ z)) (h p),I.hok,I.len⟩
theorem pY {N:List Str} (hN:N.Nodup) {i j:Nat} {x:Str} (a:N[i]?=some x) (b:N[j]?=some x):i=j:=by
 obtain⟨h1,e1⟩:=Dh.mp a;obtain⟨h2,e2⟩:=Dh.mp b;exact (List.getElem_inj hN).mp (e1.trans e2.symm)
theorem m6 {M:Model} {A:Around} {E:Value->Shared->Prop} {i:Nat} {x:Str} {v:V} {u:Value} {Q:Unit->Shared->Prop} (I:Inv X pins σ H s) (hN:X.N.Nodup) (hi:X.N[i]?=some x) (hx:Loc X.env.scope x) (r:RelV v u)
  (h:∀s',Inv X pins (σ.set i (some v)) H s'->(∃a,Heap.SameBut a s.heap s'.heap/\(a=X.env.locals\/X.env.cells.lookup x=some a))->Q () s') (hf:X.fn x=true\/X.env.scope.names.lookup x=some .local:=by first|exact .inl rfl|exact .inr rfl|assumption):wpAny M A (storeName X.env x u) Q E s:=by
 obtain⟨m,hn,hl⟩:=id I.loc;have hcls:(X.env.scope.kind == .class || (X.env.scope.kind == .module && X.env.locals != X.env.globals))=false:=by rw [I.ok.kind];rfl
 have hiσ:i < σ.length:=by rw [I.len];exact (Dh.mp hi).1
 have x8:=I.x8
 have tracked:∀{a:Addr} {h':Heap},(∃o,s.heap.get? a=some o/\H a=none)->Heap.SameBut a s.heap h'->gC X.prog X.w H h':=λ{a h'} ha hs b ob e=>by
  obtain⟨_,_,hfree⟩:=ha;refine (I.hok b ob e).qf (λc w' hc q=>(hs.2 c ?_).trans q) (λ_ q=>q) (λ_ _ q=>q) λ_ _ _ q=>q
  rintro rfl;rcases hc with rfl|hc
  ·rw [hfree] at e;cases e
  ·rw [hfree] at hc;cases hc
 rcases hx with hk|hk
 ·refine wpAny_storeName_local hk hn (λh' hn' hs=>?_) hcls;obtain⟨oL,_,_,hoL,_⟩:=id hn;refine h _ ⟨I.ok,I.os,I.bare,⟨λb o e n hb hx=>?_,λb o e n hb hx=>?_,I.base.free,λb o e hx=>?_,I.base.jE,I.base.frzs,I.base.tbls⟩,⟨_,hn',λj y v' e1 e2 e3=>?_⟩,λy c e=>?_,I.free,I.freeC,λp hp=>?_,tracked ⟨oL,hoL,I.free⟩ hs,by simpa using I.len⟩ ⟨_,hs,.inl rfl⟩
  ·exact (hs.2 b (DO (Dr (Dx e) I.ok.above))).trans (I.base.keep b o e n hb hx)
  ·obtain⟨sl,e1⟩:=I.base.slot b o e n hb hx;exact⟨sl,(hs.2 b (DO (Dr (Dx e) I.ok.above))).trans e1⟩
  ·obtain⟨o',e1⟩:=I.base.there b o e hx;exact⟨o',(hs.2 b (DO (Dr (Dx e) I.ok.above))).trans e1⟩
  ·by_cases hj:j=i
   ·subst hj;rw [hi] at e1;cases e1;rw [Dn hiσ] at e2;cases e2;exact⟨u,r,.inl ⟨hk,by simp⟩⟩
   ·rw [Di (Ne.symm hj)] at e2;obtain⟨u',r',q⟩:=hl j y v' e1 e2 e3;refine⟨u',r',?_⟩;rcases q with ⟨k,e⟩|⟨k,c,e,z⟩
    ·refine .inl ⟨k,?_⟩;have:y≠x:=λe=>hj (pY hN e1 (e▸hi));simp [this,e]
    ·exact .inr ⟨k,c,e,z.sameBut hs (x8 y c e)⟩
  ·obtain⟨w',z⟩:=I.cell y c e;exact⟨w',z.sameBut hs (x8 y c e)⟩
  ·obtain⟨e,n,ne,nf,d⟩:=I.pin p hp;exact⟨(hs.2 p.1 ne).trans e,n,ne,nf,d⟩
 ·have hfn:X.fn x=true:=by
   rcases hf with z|z
   ·exact z
   ·rw [z] at hk;cases hk
  obtain⟨c,hc⟩:=I.ok.has x (.inl hk);obtain⟨w',z⟩:=I.cell x c hc;refine wpAny_storeName_cell I.ok.kind hk hc z (λh' hc' hs=>?_);obtain⟨oc,hoc,hocd⟩:=id z;refine h { s with heap:=h' } ⟨I.ok,I.os,I.bare,⟨λb o e n hb hx=>?_,λb o e n hb hx=>?_,I.base.free,λb o e hx=>?_,I.base.jE,I.base.frzs,I.base.tbls⟩,⟨m,hn.sameBut hs (Ne.symm (x8 x c hc)),λj y v' e1 e2 e3=>?_⟩,λy c' e=>?_,I.free,I.freeC,λp hp=>?_,tracked ⟨oc,hoc,I.freeC x c hc⟩ hs,by simpa using I.len⟩ ⟨c,hs,.inr hc⟩
  ·exact (hs.2 b (DO (Dr (Dx e) (I.ok.cab x c hfn hc)))).trans (I.base.keep b o e n hb hx)
  ·obtain⟨sl,e1⟩:=I.base.slot b o e n hb hx;exact⟨sl,(hs.2 b (DO (Dr (Dx e) (I.ok.cab x c hfn hc)))).trans e1⟩
  ·obtain⟨o',e1⟩:=I.base.there b o e hx;exact⟨o',(hs.2 b (DO (Dr (Dx e) (I.ok.cab x c hfn hc)))).trans e1⟩
  ·by_cases hj:j=i
   ·subst hj;rw [hi] at e1;cases e1;rw [Dn hiσ] at e2;cases e2;exact⟨u,r,.inr ⟨.inl hk,c,hc,hc'⟩⟩
   ·rw [Di (Ne.symm hj)] at e2;obtain⟨u',r',q⟩:=hl j y v' e1 e2 e3;refine⟨u',r',?_⟩;rcases q with q|⟨k,c',e,z'⟩
    ·exact .inl q
    ·refine .inr ⟨k,c',e,z'.sameBut hs ?_⟩
     rintro rfl;exact hj (pY hN e1 (I.ok.inj _ _ _ e hc▸hi))
  ·by_cases hcc:c'=c
   ·subst hcc;exact⟨_,hc'⟩
   ·obtain⟨w2,z2⟩:=I.cell y c' e;exact⟨w2,z2.sameBut hs hcc⟩
  ·obtain⟨e,n,ne,nf,d⟩:=I.pin p hp;refine⟨(hs.2 p.1 ?_).trans e,n,ne,nf,d⟩;intro q;rw [q,hoc] at e;have q':oc=p.2:=DA e;exact d w' (by rw [<- q'];exact hocd)
theorem fT {M:Model} {A:Around} {E:Value->Shared->Prop} {i:Nat} {x:Str} {v:V} {u:Value} {Q:Unit->Shared->Prop} (I:Inv X pins σ H s) (hN:X.N.Nodup) (hi:X.N[i]?=some x) (hx:Loc X.env.scope x) (r:RelV v u)
  (h:∀s',Inv X pins (σ.set i (some v)) H s'->Q () s') (hf:X.fn x=true\/X.env.scope.names.lookup x=some .local:=by first|exact .inl rfl|exact .inr rfl|assumption):wpAny M A (storeName X.env x u) Q E s :=
 m6 I hN hi hx r (λs' I' _=>h s' I') hf
theorem Inv.yk {s':Shared} {ch:List Addr} (I:Inv X pins σ H s) (ho:s'.os=s.os) (u:Un (gY X.stack) ch H H' s.heap s'.heap) (hok:gC X.prog X.w H' s'.heap) (hg:AllBare s'.gens)
  (hch:∀b∈ch,(b∈X.ex\/X.s₀.heap.objs.size<=b)/\b≠X.env.locals/\(∀x c,X.env.cells.lookup x=some c->c≠b)/\∀p∈X.pn ++ pins,p.1≠b):Inv X pins σ H' s':=by
 obtain⟨h',g',d',t',o'⟩:=s';have e:o'=s.os:=ho;subst e;exact I.call (g':=g') (t':=t') (d':=d') u hok hg hch
end
abbrev XK:=Value->Option Addr->Hp->Prop
abbrev St:=List (Option V)
abbrev VK:=V->Hp->Prop
abbrev TE:=St->Hp->VK->Prop
abbrev TT:=St->Hp->(Bool->Hp->Prop)->Prop
abbrev TA:=St->Hp->(List V->Hp->Prop)->Prop
structure Ends where
 nx:St->Hp->Prop
 rt:VK
 bk:St->Hp->Prop:=λ_ _=>False
 ct:St->Hp->Prop:=λ_ _=>False
abbrev TS:=Ends->St->Hp->Prop
def EP (X:Cx) (pins:List (Addr×Obj)) (σ:St) (Q:VK) (u:Value) (s':Shared):Prop:=∃v H',Inv X pins σ H' s'/\RelV v u/\Q v H'
def TP (X:Cx) (pins:List (Addr×Obj)) (σ:St) (Q:Bool->Hp->Prop) (b:Bool) (s':Shared):Prop:=∃H',Inv X pins σ H' s'/\Q b H'
def AP (X:Cx) (pins:List (Addr×Obj)) (σ:St) (Q:List V->Hp->Prop) (us:List Value) (s':Shared):Prop:=∃vs H',Inv X pins σ H' s'/\Vals vs us/\Q vs H'
def SP (X:Cx) (pins:List (Addr×Obj)) (D:Ends) (f:Flow) (s':Shared):Prop :=
 match f with
 | .next=>∃σ' H',Inv X pins σ' H' s'/\D.nx σ' H'
 | .brk=>∃σ' H',Inv X pins σ' H' s'/\D.bk σ' H'
 | .cont=>∃σ' H',Inv X pins σ' H' s'/\D.ct σ' H'
 | .ret u=>∃v σ' H',Inv X pins σ' H' s'/\RelV v u/\D.rt v H'
def PE (X:Cx) (e:Expr) (t:TE):Prop :=
 ∀(pins:List (Addr×Obj)) (s:Shared) (σ:St) (H:Hp) (Q:VK),Inv X pins σ H s->t σ H Q->wpAny (model X.prog X.w) X.A (eval e X.env) (EP X pins σ Q) X.xe s
def PT (X:Cx) (e:Expr) (t:TT):Prop :=
 ∀(pins:List (Addr×Obj)) (s:Shared) (σ:St) (H:Hp) (Q:Bool->Hp->Prop),Inv X pins σ H s->t σ H Q->wpAny (model X.prog X.w) X.A (isTrue e X.env (eval e X.env)) (TP X pins σ Q) X.xe s
def PW (X:Cx) (e:Expr) (t:TT):Prop :=
 ∀(whole:Sem Value) (pins:List (Addr×Obj)) (s:Shared) (σ:St) (H:Hp) (Q:Bool->Hp->Prop),Inv X pins σ H s->t σ H Q->wpAny (model X.prog X.w) X.A (isTrue e X.env whole) (TP X pins σ Q) X.xe s
def PA (X:Cx) (es:List Expr) (t:TA):Prop :=
 ∀(pos:Pos) (pins:List (Addr×Obj)) (s:Shared) (σ:St) (H:Hp) (Q:List V->Hp->Prop),Inv X pins σ H s->t σ H Q->wpAny (model X.prog X.w) X.A (spliced (backTo pos (starEach es X.env))) (AP X pins σ Q) X.xe s
def PS (X:Cx) (st:Stmt) (t:TS):Prop :=
 ∀(pins:List (Addr×Obj)) (s:Shared) (σ:St) (H:Hp) (D:Ends),Inv X pins σ H s->t D σ H->wpAny (model X.prog X.w) X.A (exec st X.env) (SP X pins D) X.xe s
def rF (X:Cx) (st:List Stmt) (t:TS):Prop :=
 ∀(pins:List (Addr×Obj)) (s:Shared) (σ:St) (H:Hp) (D:Ends),Inv X pins σ H s->t D σ H->wpAny (model X.prog X.w) X.A (execs st X.env) (SP X pins D) X.xe s
theorem bF {α:Type} {t:Sem α} {Q Q':α->Shared->Prop} {M:Model} {A:Around} {E:Value->Shared->Prop} {s:Shared} (h:wpAny M A t Q E s) (hQ:∀a s,Q a s->Q' a s):wpAny M A t Q' E s:=DK h hQ λ_ _ x=>x
section
variable {X:Cx}
def Cw (i:Nat):TE:=λσ H Q=>∃v,σ[i]?=some (some v)/\Q v H
def tC (v:V):TE:=λ_ H Q=>Q v H
theorem dO {i:Nat} {x:Str} {pos:Pos} (hN:X.N[i]?=some x) (hv:rX X.env.scope x) (hd:(x == ("__debug__" : Str))=false:=by decide) (hcd:(x == ("__classdict__" : Str))=false:=by decide):PE X (.Name x pos) (Cw i):=by
 intro pins s σ H Q I h;obtain⟨v,e,h⟩:=h;obtain⟨m,hn,hl⟩:=I.loc;obtain⟨u,r,l⟩:=hl i x v hN e hv;have fin:EP X pins σ Q u s:=⟨v,H,I,r,h⟩;rcases l with ⟨hk,hm⟩|⟨hk,c,hc,hcell⟩
 ·exact wpAny_Name (wpAny_loadName_local I.ok.kind hk hn hm fin) hd
 ·rcases hk with hk|hk
  ·exact wpAny_Name (wpAny_loadName_cell I.ok.kind hk hc hcell fin) hd
  ·exact wpAny_Name (wpAny_loadName_free I.ok.kind hk hc hcell fin hcd) hd
theorem zg {i j pos}:PE X (.Constant (.int i) j pos) (tC (.int i)):=λ_ _ _ H _ I h=>wpAny_Constant_int ⟨.int i,H,I.tok _,⟨_,rfl⟩,h⟩
theorem Ay {b j pos}:PE X (.Constant (.bool b) j pos) (tC (.bl b)):=λ_ _ _ H _ I h=>Constant_bool ⟨.bl b,H,I,rfl,h⟩
theorem vR {x j pos}:PE X (.Constant (.str x) j pos) (tC (.str x)):=λ_ _ _ H _ I h=>Calls.Constant_str ⟨.str x,H,I.tok _,⟨_,rfl⟩,h⟩
def Gl (X:Cx) (x:Str):Prop:=X.env.kindOf x=some .globalImplicit
theorem jU {E:Value->Shared->Prop} {pins:List (Addr×Obj)} {s:Shared} {σ:St} {H:Hp} {x:Str} {u:Value} {pos:Pos} {Q:Value->Shared->Prop} (I:Inv X pins σ H s) (hg:Gl X x) (hm:X.mg x=some u) (h:Q u s)
  (hd:(x == ("__debug__" : Str))=false:=by decide):wpAny (model X.prog X.w) X.A (eval (.Name x pos) X.env) Q E s :=
 Calls.Name_function_global I.ok.kind hg (Calls.loadGlobal_global (by rw [I.ok.glob];exact I.mod.glob.keeps I.bk) hm h) hd
theorem lZ {E:Value->Shared->Prop} {pins:List (Addr×Obj)} {s:Shared} {σ:St} {H:Hp} {x:Str} {u:Value} {pos:Pos} {Q:Value->Shared->Prop} (I:Inv X pins σ H s) (hg:Gl X x) (hm:X.mg x=none) (hv:bootBuiltins x=some u) (h:Q u s)
  (hn:x≠"__name__":=by decide) (hd:(x == ("__debug__" : Str))=false:=by decide):wpAny (model X.prog X.w) X.A (eval (.Name x pos) X.env) Q E s:=by
 obtain⟨mb,h1,h2⟩:=I.mod.blt;exact Calls.Name_function_global I.ok.kind hg (Calls.loadGlobal_builtin (by rw [I.ok.glob];exact I.mod.glob.keeps I.bk) hm (by rw [I.ok.blt];exact h1.keeps I.bk) ((h2 x hn).trans hv) h) hd
theorem xB {x:Str} {v:V} {u:Value} {pos:Pos} (hg:Gl X x) (hm:X.mg x=none) (hv:bootBuiltins x=some u) (r:RelV v u) (hn:x≠"__name__":=by decide) (hd:(x == ("__debug__" : Str))=false:=by decide):PE X (.Name x pos) (tC v) :=
 λ_ _ _ H _ I h=>lZ I hg hm hv ⟨v,H,I,r,h⟩ hn hd
variable {a b:Expr} {ta tb:TE} {pos:Pos}
def tB (t:TE):TT:=λσ H Q=>t σ H λx H1=>∃c,x=.bl c/\Q c H1
theorem zN {e:Expr} {t:TE} (h:PE X e t) (he:∀whole,isTrue e X.env whole=(do let v <- whole;standAt e.pos;holding [v] (truthy v)):=by intro _;rfl):PT X e (tB t):=by
 intro pins s σ H Q I hw;refine isTrue_plain (bF (h pins s σ H _ I hw) λv s1 ⟨x,H1,I1,r1,q1⟩=>?_) (he _);obtain⟨d,rfl,q⟩:=q1;cases r1;exact wpAny_truthy_bool ⟨H1,I1,q⟩
variable {tA tB':TT} {rest:List Expr}
def B6 (t u:TT):TT:=λσ H Q=>t σ H λc H1=>if c=true then u σ H1 Q else Q false H1
def C5 (t u:TT):TT:=λσ H Q=>t σ H λc H1=>if c=true then Q true H1 else u σ H1 Q
def Co (t:TT):TT:=λσ H Q=>t σ H λc H1=>Q (!c) H1
theorem xN (ha:PT X a tA):PW X (.BoolOp .And [a] pos) tA:=by
 intro wh pins s σ H Q I h;refine isTrue_and (bF (ha pins s σ H Q I h) λc s1 e=>?_)
 cases c with
 | true=>exact isTrue_and_nil e
 | false=>exact e
theorem zp (ha:PT X a tA):PW X (.BoolOp .Or [a] pos) tA:=by
 intro wh pins s σ H Q I h;refine isTrue_or (bF (ha pins s σ H Q I h) λc s1 e=>?_)
 cases c with
 | false=>exact isTrue_or_nil e
 | true=>exact e
theorem zo (ha:PT X a tA) (hb:PW X (.BoolOp .And (b :: rest) pos) tB'):PW X (.BoolOp .And (a :: b :: rest) pos) (B6 tA tB'):=by
 intro wh pins s σ H Q I h;refine isTrue_and (bF (ha pins s σ H _ I h) λc s1 ⟨H1,I1,q1⟩=>?_)
 cases c with
 | true=>exact hb wh pins s1 σ H1 Q I1 q1
 | false=>exact⟨H1,I1,q1⟩
theorem Bl (ha:PT X a tA) (hb:PW X (.BoolOp .Or (b :: rest) pos) tB'):PW X (.BoolOp .Or (a :: b :: rest) pos) (C5 tA tB'):=by
 intro wh pins s σ H Q I h;refine isTrue_or (bF (ha pins s σ H _ I h) λc s1 ⟨H1,I1,q1⟩=>?_)
 cases c with
 | true=>exact⟨H1,I1,q1⟩
 | false=>exact hb wh pins s1 σ H1 Q I1 q1
theorem zq (ha:PT X a tA):PT X (.UnaryOp .Not a pos) (Co tA):=by
 intro pins s σ H Q I h;exact isTrue_not (ha pins s σ H (λc H1=>Q (!c) H1) I h)
def Br (ta tb:TE):TE:=λσ H Q=>ta σ H λx H1=>∃c,x=.bl c/\if c=true then tb σ H1 Q else Q (.bl false) H1
def BS (ta tb:TE):TE:=λσ H Q=>ta σ H λx H1=>∃c,x=.bl c/\if c=true then Q (.bl true) H1 else tb σ H1 Q
theorem zM {op} {t:TE} (h:PE X a t):PE X (.BoolOp op [a] pos) t:=λpins s σ H Q I hw=>BoolOp_one (h pins s σ H Q I hw)
theorem zt (ha:PE X a ta) (hb:PE X (.BoolOp .And (b :: rest) pos) tb):PE X (.BoolOp .And (a :: b :: rest) pos) (Br ta tb):=by
 intro pins s σ H Q I h;refine BoolOp_and (bF (ha pins s σ H _ I h) λv s1 hq0=>?_);obtain⟨x,H1,I1,r1,q1⟩:=hq0;obtain⟨c,rfl,q1⟩:=q1;cases r1;refine wpAny_truthy_bool ?_
 cases c with
 | true=>exact hb pins s1 σ H1 Q I1 q1
 | false=>exact⟨.bl false,H1,I1,rfl,q1⟩
theorem AG (ha:PE X a ta) (hb:PE X (.BoolOp .Or (b :: rest) pos) tb):PE X (.BoolOp .Or (a :: b :: rest) pos) (BS ta tb):=by
 intro pins s σ H Q I h;refine BoolOp_or (bF (ha pins s σ H _ I h) λv s1 hq0=>?_);obtain⟨x,H1,I1,r1,q1⟩:=hq0;obtain⟨c,rfl,q1⟩:=q1;cases r1;refine wpAny_truthy_bool ?_
 cases c with
 | false=>exact hb pins s1 σ H1 Q I1 q1
 | true=>exact⟨.bl true,H1,I1,rfl,q1⟩
def CM (t:TT) (ta tb:TE):TE:=λσ H Q=>t σ H λc H1=>if c=true then ta σ H1 Q else tb σ H1 Q
theorem uY {c:Expr} (hc:PT X c tA) (ha:PE X a ta) (hb:PE X b tb):PE X (.IfExp c a b pos) (CM tA ta tb):=by
 intro pins s σ H Q I h;refine wpAny_IfExp (bF (hc pins s σ H _ I h) λd s1 ⟨H1,I1,q1⟩=>?_)
 cases d with
 | true=>exact ha pins s1 σ H1 Q I1 q1
 | false=>exact hb pins s1 σ H1 Q I1 q1
end
def eY (K:Dj) (H:Hp) (a:Addr) (xs:List V):Prop :=
 Rd H a (.lst xs) \/
  ∃(o:Obj) (its:Array Value) (n:Nat),K.lookup a=some o/\o.cls=.type "list"/\o.dict=none/\o.data=.seq its n/\its.size<=sizeLine/\Vals xs its.toList
def gZ (K:Dj) (H:Hp) (a:Addr) (xs:List V):Prop :=
 Rd H a (.tup xs) \/
  ∃(o:Obj) (its:Array Value) (n:Nat),K.lookup a=some o/\o.cls=.type "tuple"/\o.data=.seq its n/\its.size<=sizeLine/\Vals xs its.toList/\o.dict=none
def BW:Value->Option V
 | .none=>some .non
 | .bool b=>some (.bl b)
 | .int i _=>some (.int i)
 | .str x _=>some (.str x)
 | .bytes b _=>some (.byt b)
 | .float b _=>some (.flt b)
 | .ref a=>some (.ref a)
 | .type n=>some (.ty n)
 | _=>none
theorem RelV.abs {x:V} {u:Value} (r:RelV x u):BW u=some x:=by
 cases x with
 | non=>cases r;rfl
 | bl _=>cases r;rfl
 | int _=>obtain⟨t,rfl⟩:=r;rfl
 | str _=>obtain⟨t,rfl⟩:=r;rfl
 | byt _=>obtain⟨t,rfl⟩:=r;rfl
 | flt _=>obtain⟨t,rfl⟩:=r;rfl
 | ref _=>cases r;rfl
 | ty _=>cases r;rfl
theorem RelV.inj {x y:V} {u:Value} (r:RelV x u) (q:RelV y u):x=y:=DA (r.abs.symm.trans q.abs)
theorem Vals.inj:∀{xs ys:List V} {us:List Value},Vals xs us->Vals ys us->xs=ys
 | _,_,_,.nil,.nil=>rfl
 | _,_,_,.cons r t,.cons r' t'=>by rw [r.inj r',Vals.inj t t']
section
variable {X:Cx} {pins:List (Addr×Obj)} {σ:St} {H:Hp} {s:Shared} {a:Addr} {xs ys:List V}
theorem eY.of {K:Dj} (h:H a=some (.lst xs)):eY K H a xs:=.inl (.inl h)
theorem gZ.of {K:Dj} (h:H a=some (.tup xs)):gZ K H a xs:=.inl (.inl h)
theorem Inv.list (I:Inv X pins σ H s) (h:eY X.K H a xs):∃its:List Value,Vals xs its/\PlainL s.heap a its.toArray/\xs.length<=sizeLine:=by
 rcases h with h|⟨o,its,n,hk,hc,hd,hs,hz,r⟩
 ·obtain⟨z,its,n,r,e⟩:=h.ok I.hok;exact⟨its,r,⟨_,n,e,rfl,rfl,rfl⟩,z⟩
 ·refine⟨its.toList,r,⟨o,n,I.r8 a o hk,hc,hd,by simpa using hs⟩,?_⟩;have e:=r.length;simp only [Array.length_toList] at e;omega
theorem Inv.tuple (I:Inv X pins σ H s) (h:gZ X.K H a xs):∃its:List Value,Vals xs its/\IsTup s.heap a its.toArray/\xs.length<=sizeLine:=by
 rcases h with h|⟨o,its,n,hk,hc,hs,hz,r,_⟩
 ·obtain⟨z,its,r,p⟩:=h.ok I.hok;exact⟨its,r,p.tup,z⟩
 ·refine⟨its.toList,r,⟨o,I.r8 a o hk,hc,n,by simpa using hs⟩,?_⟩;have e:=r.length;simp only [Array.length_toList] at e;omega
theorem Inv.ph (I:Inv X pins σ H s) (h:eY X.K H a xs) (h':eY X.K H a ys):xs=ys:=by
 obtain⟨its,r,⟨o,n,e,_,_,d⟩,_⟩:=I.list h;obtain⟨its',r',⟨o',n',e',_,_,d'⟩,_⟩:=I.list h';rw [e] at e';cases e';rw [d] at d';injection d' with d1 _
 have:its=its':=by simpa using congrArg Array.toList d1
 subst this;exact r.inj r'
theorem Inv.m8 (I:Inv X pins σ H s) (h:gZ X.K H a xs) (h':gZ X.K H a ys):xs=ys:=by
 obtain⟨its,r,⟨o,e,_,n,d⟩,_⟩:=I.tuple h;obtain⟨its',r',⟨o',e',_,n',d'⟩,_⟩:=I.tuple h';rw [e] at e';cases e';rw [d] at d';injection d' with d1 _
 have:its=its':=by simpa using congrArg Array.toList d1
 subst this;exact r.inj r'
end
abbrev Cx.bz (X:Cx) (E:Value->Shared->Prop):Cx:={ X with xe:=E }
abbrev Cx.l5 (X:Cx):Cx:=X.bz λ_ _=>False
theorem Cx.Ok.bz {X:Cx} (ok:X.Ok) (E:Value->Shared->Prop):(X.bz E).Ok :=
 ⟨ok.mod,ok.kind,ok.glob,ok.blt,ok.above,ok.inj,ok.has,ok.cab,ok.hd,ok.frames,ok.stk,ok.exf,ok.bs,ok.bsz,ok.noex,ok.exfs,ok.iO,ok.frf⟩
theorem Cx.Ok.aW {X:Cx} {E:Value->Shared->Prop} (ok:(X.bz E).Ok):X.Ok :=
 ⟨ok.mod,ok.kind,ok.glob,ok.blt,ok.above,ok.inj,ok.has,ok.cab,ok.hd,ok.frames,ok.stk,ok.exf,ok.bs,ok.bsz,ok.noex,ok.exfs,ok.iO,ok.frf⟩
section
variable {X:Cx} {pins:List (Addr×Obj)} {σ:St} {H:Hp} {s:Shared} {E:Value->Shared->Prop}
theorem Inv.bz (I:Inv X pins σ H s) (E:Value->Shared->Prop):Inv (X.bz E) pins σ H s:=⟨I.ok.bz E,I.os,I.bare,I.base,I.loc,I.cell,I.free,I.freeC,I.pin,I.hok,I.len⟩
theorem Inv.aW (I:Inv (X.bz E) pins σ H s):Inv X pins σ H s:=⟨I.ok.aW,I.os,I.bare,I.base,I.loc,I.cell,I.free,I.freeC,I.pin,I.hok,I.len⟩
theorem SP.aW {D:Ends} {f:Flow} {s':Shared} (h:SP (X.bz E) pins D f s'):SP X pins D f s':=by
 cases f with
 | next=>obtain⟨σ',H',I,q⟩:=h;exact⟨σ',H',I.aW,q⟩
 | brk=>obtain⟨σ',H',I,q⟩:=h;exact⟨σ',H',I.aW,q⟩
 | cont=>obtain⟨σ',H',I,q⟩:=h;exact⟨σ',H',I.aW,q⟩
 | ret u=>obtain⟨v,σ',H',I,r,q⟩:=h;exact⟨v,σ',H',I.aW,r,q⟩
theorem rF.l5 {st:List Stmt} {t:TS} (h:rF X.l5 st t):rF X st t:=λpins s σ H D I hw =>
 DK (h pins s σ H D (I.bz _) hw) (λ_ _ q=>q.aW) λ_ _ z=>False.elim z
end
section
variable {X:Cx} {st:Stmt} {rest:List Stmt} {t u:TS} {e:Expr} {te:TE} {pos:Pos}
def Bv:TS:=λD σ H=>D.nx σ H
def Ce (t u:TS):TS:=λD σ H=>t { D with nx:=u D } σ H
theorem xG:rF X [] Bv:=λ_ _ σ H _ I h=>wpAny_execs_nil ⟨σ,H,I,h⟩
theorem fO (h1:PS X st t) (h2:rF X rest u):rF X (st :: rest) (Ce t u):=by
 intro pins s σ H D I h;refine wpAny_execs_cons (bF (h1 pins s σ H { D with nx:=u D } I h) λf s1 q=>?_)
 cases f with
 | next =>
  obtain⟨σ',H',I',q⟩:=q
  exact h2 pins s1 σ' H' D I' q
 | ret v=>exact q
 | brk=>exact q
 | cont=>exact q
theorem jM (h1:PS X st t):rF X [st] t:=by
 intro pins s σ H D I h;refine wpAny_execs_cons (bF (h1 pins s σ H D I h) λf s1 q=>?_)
 cases f with
 | next=>exact wpAny_execs_nil q
 | ret v=>exact q
 | brk=>exact q
 | cont=>exact q
theorem Inv.quiet {pins:List (Addr×Obj)} {σ:St} {H:Hp} {s:Shared} (I:Inv X pins σ H s):interactive X.env=false:=by simp [interactive,I.ok.kind]
def BF (te:TE):TS:=λD σ H=>te σ H λ_ H1=>D.nx σ H1
theorem sO (he:PE X e te) (hs:swapsWith e none pos.line X.env=pure false:=by rfl):PS X (.Expr e pos) (BF te):=by
 intro pins s σ H D I h;exact wpAny_Expr_any (bF (he pins s σ H _ I h) λv s1 ⟨x,H1,I1,r1,q1⟩=>⟨σ,H1,I1,q1⟩) I.quiet hs
def B0 (te:TE):TS:=λD σ H=>te σ H D.rt
theorem rg (he:PE X e te):PS X (.Return (some e) pos) (B0 te):=by
 intro pins s σ H D I h;exact wpAny_Return_some (bF (he pins s σ H _ I h) λv s1 ⟨x,H1,I1,r1,q1⟩=>⟨x,σ,H1,I1,r1,q1⟩)
def Cq (c:TT) (t u:TS):TS:=λD σ H=>c σ H λb H1=>if b=true then t D σ H1 else u D σ H1
theorem x9 {c:Expr} {a b:List Stmt} {tc:TT} (hc:PT X c tc) (ha:rF X a t) (hb:rF X b u):PS X (.If c a b pos) (Cq tc t u):=by
 intro pins s σ H D I h;refine wpAny_If (bF (hc pins s σ H _ I h) λd s1 ⟨H1,I1,q1⟩=>?_)
 cases d with
 | true=>exact ha pins s1 σ H1 D I1 q1
 | false=>exact hb pins s1 σ H1 D I1 q1
end
abbrev TG:=V->St->Hp->(St->Hp->Prop)->Prop
abbrev wm:=List V->St->Hp->(St->Hp->Prop)->Prop
def PG (X:Cx) (target:Expr) (t:TG):Prop :=
 ∀(pins:List (Addr×Obj)) (s:Shared) (σ:St) (H:Hp) (v:V) (u:Value) (Q:St->Hp->Prop),Inv X pins σ H s->RelV v u->t v σ H Q ->
  wpAny (model X.prog X.w) X.A (assign target X.env u) (λ_ s'=>∃σ' H',Inv X pins σ' H' s'/\Q σ' H') X.xe s
def Ab (X:Cx) (ts:List Expr) (t:wm):Prop :=
 ∀(pins:List (Addr×Obj)) (s:Shared) (σ:St) (H:Hp) (vs:List V) (us:List Value) (Q:St->Hp->Prop),Inv X pins σ H s->Vals vs us->t vs σ H Q ->
  wpAny (model X.prog X.w) X.A (assignInOrder ((assignEach ts X.env).map (·.2)) us) (λ_ s'=>∃σ' H',Inv X pins σ' H' s'/\Q σ' H') X.xe s
section
variable {X:Cx} {pos:Pos}
def yt (i:Nat):TG:=λv σ H Q=>Q (σ.set i (some v)) H
theorem xx {i:Nat} {x:Str} (hN:X.N.Nodup) (hi:X.N[i]?=some x) (hx:Loc X.env.scope x) (hf:X.fn x=true\/X.env.scope.names.lookup x=some .local:=by first|exact .inl rfl|exact .inr rfl|assumption):PG X (.Name x pos) (yt i):=by
 intro pins s σ H v u Q I r h;exact wpAny_assign_Name (fT I hN hi hx r (λs' I'=>⟨_,H,I',h⟩) hf)
def B1:wm:=λvs σ H Q=>vs=[]/\Q σ H
def Ax (t:TG) (u:wm):wm:=λvs σ H Q=>∃v r,vs=v :: r/\t v σ H λσ' H'=>u r σ' H' Q
theorem xD:Ab X [] B1:=by
 intro pins s σ H vs us Q I r h;obtain⟨e,h⟩:=h;subst e;cases r;exact assignInOrder_nil ⟨σ,H,I,h⟩
theorem vA {e:Expr} {es:List Expr} {t:TG} {u:wm} (h1:PG X e t) (h2:Ab X es u)
  (hs:(assignEach (e :: es) X.env).map (·.2)=assign e X.env :: (assignEach es X.env).map (·.2):=by rfl):Ab X (e :: es) (Ax t u):=by
 intro pins s σ H vs us Q I r h;obtain⟨v,vr,e1,h⟩:=h;subst e1
 cases r with
 | cons r rr =>
  rw [hs];refine assignInOrder_cons (bF (h1 pins s σ H _ _ _ I r h) λ_ s1 ⟨σ1,H1,I1,q1⟩=>?_);exact h2 pins s1 σ1 H1 _ _ Q I1 rr q1
def B3 (K:Dj) (n:Nat) (t:wm):TG:=λv σ H Q=>∃a xs,v=.ref a/\gZ K H a xs/\xs.length=n/\t xs σ H Q
theorem zH {es:List Expr} {k:Nat} {t:wm} {n:Nat} (hc:X.calm=true) (h:Ab X es t)
  (hn:(assignEach es X.env).length=n:=by rfl) (hst:(assignEach es X.env).findIdx? (·.1)=none:=by rfl):PG X (.Tuple es k pos) (B3 X.K n t):=by
 intro pins s σ H v u Q I r hw;obtain⟨a,xs,e1,hq,hl,hw⟩:=hw;subst e1;cases r;obtain⟨its,rv,ht,hz⟩:=I.tuple hq;refine assign_Tuple_tuple (I.ok.hd hc) ht (by simp [hn,<- hl,rv.length]) hst λh' hx=>?_;have I1:Inv X pins σ H { s with heap:=h' }:=I.kept (t':=s.toks) λb o e=>hx b o (DO (Dx e)) e;exact h pins _ σ H xs _ Q I1 (by simpa using rv) hw
def Bn (te:TE) (g:TG):TS:=λD σ H=>te σ H λx H1=>g x σ H1 D.nx
theorem zr {tg e:Expr} {te:TE} {g:TG} (he:PE X e te) (hg:PG X tg g) (hs:swapsWithSole [tg] e pos.line X.env=pure false:=by rfl) (hw:swappedStores [tg] e X.env=pure none:=by rfl)
  (h1:(assignEach [tg] X.env).map (·.2)=[assign tg X.env]:=by rfl):PS X (.Assign [tg] e pos) (Bn te g):=by
 intro pins s σ H D I h;refine wpAny_Assign_stores (bF (he pins s σ H _ I h) λv s1 hq0=>?_) hs hw;obtain⟨x,H1,I1,r1,q1⟩:=hq0;rw [h1];exact bF (hg pins s1 σ H1 x v _ I1 r1 q1) λ_ s2 q=>q
theorem lg {i:Nat} {x:Str} {e:Expr} {te:TE} {pos':Pos} (hN:X.N.Nodup) (hi:X.N[i]?=some x) (hx:Loc X.env.scope x) (he:PE X e te) (hs:swapsWith e (some (.Name x pos')) pos.line X.env=pure false:=by rfl) (hf:X.fn x=true\/X.env.scope.names.lookup x=some .local:=by first|exact .inl rfl|exact .inr rfl|assumption) :
  PS X (.Assign [.Name x pos'] e pos) (Bn te (yt i)):=by
 intro pins s σ H D I h;refine wpAny_Assign_Name (bF (he pins s σ H _ I h) λv s1 hq0=>?_) hs;obtain⟨y,H1,I1,r1,q1⟩:=hq0;exact fT I1 hN hi hx r1 (λs2 I2=>⟨_,H1,I2,q1⟩) hf
def Cv (i j:Nat) (ta:TA):TS:=λD σ H=>ta σ H λvs H1=>∃v w,vs=[v,w]/\D.nx ((σ.set i (some v)).set j (some w)) H1
theorem y0 {i j:Nat} {x y:Str} {a b:Expr} {ta:TA} {px py pt:Pos} {kt k2 pt2} (hc:X.calm=true) (hN:X.N.Nodup) (hi:X.N[i]?=some x) (hj:X.N[j]?=some y) (hij:i≠j)
  (hx:X.env.scope.names.lookup x=some .local) (hy:X.env.scope.names.lookup y=some .local) (ha:PA X [a,b] ta)
  (hw:swappedStores [.Tuple [.Name x px,.Name y py] kt pt] (.Tuple [a,b] k2 pt2) X.env=pure (some [x,y]))
  (hs:swapsWithSole [.Tuple [.Name x px,.Name y py] kt pt] (.Tuple [a,b] k2 pt2) pos.line X.env=pure false:=by rfl) :
  PS X (.Assign [.Tuple [.Name x px,.Name y py] kt pt] (.Tuple [a,b] k2 pt2) pos) (Cv i j ta):=by
 intro pins s σ H D I h;rw [exec_Assign_arm];refine Dk (wpAny_standAt ?_);rw [hs];refine Dk (Ds ?_);rw [if_neg (by decide)];refine Dk (Tuple_ (bF (ha _ pins s σ H _ I h) λus s1 hq0=>?_));obtain⟨vs,H1,I1,r1,q1⟩:=hq0;obtain⟨v,w,e1,q1⟩:=q1;subst e1
 obtain⟨u1,u2,rfl,rv,rw'⟩:∃u1 u2,us=[u1,u2]/\RelV v u1/\RelV w u2:=by
  cases r1 with
  | cons p q =>
   cases q with
   | cons p' q' =>
    cases q';exact⟨_,_,rfl,p,p'⟩
 refine wpAny_newObj_type ?_ (by show 2<=sizeLine;decide);have I2:Inv X pins σ H1 { s1 with heap:=s1.heap.push { cls:=.type "tuple",data:=.seq [u1,u2].toArray } }:=I1.kept (t':=s1.toks) λb o e=>Dp _ e
 rw [hw];refine Dk (Ds ?_);show wpAny (model X.prog X.w) X.A (do rule "assign.swapped-stores";let items <- unpackItems (.ref s1.heap.objs.size) 2 none;assignInOrder [λv=>bindName X.env y v,λv=>bindName X.env x v] items.reverse;pure Flow.next) _ _ _
 refine Dk (wpAny_rule (Dk (unpackItems_tuple (items:=#[u1,u2]) (I.ok.hd hc) (IsTup.new s1.heap _) λh' hx'=>?_)));have I3:=I2.kept (h':=h') (t':=s1.toks) λb o e=>hx' b o (DO (Dx e)) e;show wpAny _ _ (assignInOrder [λv=>bindName X.env y v,λv=>bindName X.env x v] [u2,u1] >>= λ_=>pure Flow.next) _ _ _
 refine Dk (assignInOrder_cons (wpAny_bindName (fT I3 hN hj (.inl hy) rw' (λs2 I4=>?_) (.inr hy))));refine assignInOrder_cons (wpAny_bindName (fT I4 hN hi (.inl hx) rv (λs3 I5=>assignInOrder_nil (Ds ?_)) (.inr hx)));rw [List.set_comm _ _ (Ne.symm hij)] at I5;exact⟨_,H1,I5,q1⟩
end
section
variable {X:Cx} {pos:Pos}
def y3 (c:TT) (tb:TS):TS:=λD σ H=>∃W:Nat->St->Hp->Prop,(∃m,W m σ H)/\∀m σ H,W m σ H ->
 c σ H λb H1=>if b=true then ∃N:St->Hp->Prop,(∀σ' H',N σ' H'->∃m',m' < m/\W m' σ' H')/\tb { D with nx:=N,ct:=N,bk:=D.nx } σ H1 else D.nx σ H1
theorem o8 {c:Expr} {body:List Stmt} {tc:TT} {tb:TS} (hp:PassesOwn (model X.prog X.w) X.A X.env X.xe) (hc:PT X c tc) (hb:rF X body tb):PS X (.While c body [] pos) (y3 tc tb):=by
 intro pins s σ H D I h;obtain⟨W,⟨m0,w0⟩,turn⟩:=h;refine wpAny_While (codeAny_whileLoop (λn s'=>∃σ' H',Inv X pins σ' H' s'/\W n σ' H') ?_ m0 ⟨σ,H,I,w0⟩)
 rintro n s1 ⟨σ1,H1,I1,w1⟩;refine wpAny_passesOwn hp (bF (hc pins s1 σ1 H1 _ I1 (turn n σ1 H1 w1)) λb s2 ⟨H2,I2,q2⟩=>?_)
 cases b with
 | true =>
  obtain⟨N,hN,q2⟩:=q2;rw [if_pos rfl];refine wpAny_passesOwn hp (bF (hb pins s2 σ1 H2 _ I2 q2) λf s3 q3=>?_)
  cases f with
  | next =>
   obtain⟨σ3,H3,I3,n3⟩:=q3;obtain⟨m',hm,w3⟩:=hN σ3 H3 n3
   exact⟨m',hm,σ3,H3,I3,w3⟩
  | cont =>
   obtain⟨σ3,H3,I3,n3⟩:=q3;obtain⟨m',hm,w3⟩:=hN σ3 H3 n3
   exact⟨m',hm,σ3,H3,I3,w3⟩
  | brk=>exact q3
  | ret v=>exact q3
 | false =>
  rw [if_neg Bool.false_ne_true];exact wpAny_execs_nil ⟨σ1,H2,I2,q2⟩
end
structure It where
 go:Nat->Hp->Prop
 yld:Nat->Hp->V->Hp->Prop
 stop:Nat->Hp->Prop
def mB (X:Cx) (pins:List (Addr×Obj)) (H:Hp) (b:Addr):Prop :=
 H b=none/\b≠X.env.locals/\b∉X.fs/\(b∈X.ex\/X.s₀.heap.objs.size<=b)/\(∀x c,X.env.cells.lookup x=some c->c≠b)/\∀p∈X.pn ++ pins,p.1≠b
theorem Inv.xu {X:Cx} {pins:List (Addr×Obj)} {σ:St} {H H':Hp} {s:Shared} {b:Addr} (I:Inv X pins σ H s) (hb:s.heap.objs.size<=b) (hn:H' b=none):mB X pins H' b:=by
 refine⟨hn,Nat.ne_of_gt (Dr I.lt hb),I.BR hb,.inr (Ej I.sz hb),λx c e z=>?_,λp hp z=>?_⟩
 ·obtain⟨v,q⟩:=I.cell x c e;exact absurd (Dr q.lt (by rw [z];exact hb)) (Nat.lt_irrefl _)
 ·exact absurd (Dr (Dx (I.pin p hp).1) (by rw [z];exact hb)) (Nat.lt_irrefl _)
structure Turn (P:Program) (w:World) (K:Dj) (tg:Expr) (J:It) (fp:List Addr) (it:Addr) (tn:Nat->Heap->Prop):Prop where
 mem:it∈fp
 obj:∀i h,tn i h->∀b∈fp,∃o,h.get? b=some o/\∀v,o.data≠.cell v
 keep:∀i h h',tn i h->(∀b∈fp,∀o,h.get? b=some o->h'.get? b=some o)->tn i h'
 item:∀(X:Cx),X.prog=P->X.w=w->X.K=K->X.calm=true->∀(i:Nat) (pins:List (Addr×Obj)) (s:Shared) (σ:St) (H:Hp) (E:Value->Shared->Prop),Inv X pins σ H s->(∀b∈fp,mB X pins H b)->tn i s.heap->J.go i H ->
  wpAny (model P w) X.A (pyNext (.ref it)) (λr s1=>∃u,r=some u /\
   wpAny (model P w) X.A (letOwnedTupleGo tg (.ref it) u) (λ_ s2=>∃x H',Inv X pins σ H' s2/\RelV x u/\J.yld i H x H'/\tn (i + 1) s2.heap/\∀b∈fp,H' b=none) E s1) E s
 done:∀(X:Cx),X.prog=P->X.w=w->X.K=K->X.calm=true->∀(i:Nat) (pins:List (Addr×Obj)) (s:Shared) (σ:St) (H:Hp) (E:Value->Shared->Prop),Inv X pins σ H s->(∀b∈fp,mB X pins H b)->tn i s.heap->J.stop i H ->
  wpAny (model P w) X.A (pyNext (.ref it)) (λr s1=>r=none/\Inv X pins σ H s1) E s
 self:∀(A:Around) (i:Nat) (s:Shared) (Q:Value->Shared->Prop) (E:Value->Shared->Prop),tn i s.heap->Q (.ref it) s->wpAny (model P w) A (pyIter (.ref it)) Q E s
abbrev TI:=St->Hp->(It->Hp->Prop)->Prop
def BN (X:Cx) (pins:List (Addr×Obj)) (σ:St) (tg:Expr) (R:It->Hp->Prop) (itv:Value) (s2:Shared):Prop :=
 ∃(it:Addr) (fp:List Addr) (tn:Nat->Heap->Prop) (J:It) (H':Hp),itv=.ref it/\Inv X pins σ H' s2/\Turn X.prog X.w X.K tg J fp it tn/\tn 0 s2.heap/\(∀b∈fp,mB X pins H' b)/\R J H'
def PI (X:Cx) (tg iter:Expr) (wi:TI):Prop :=
 ∀(pins:List (Addr×Obj)) (s:Shared) (σ:St) (H:Hp) (R:It->Hp->Prop),Inv X pins σ H s->wi σ H R ->
  wpAny (model X.prog X.w) X.A (eval iter X.env) (λv s1=>wpAny (model X.prog X.w) X.A (pyIter v) (BN X pins σ tg R) X.xe s1) X.xe s
theorem sC {M:Model} {A:Around} {E:Value->Shared->Prop} {s:Shared} {tg:Expr} {it:Addr} {u:Value} {o:Obj} {n:String} {vs:Array Value} {Q:Unit->Shared->Prop} (ho:s.heap.get? it=some o) (hc:o.cls=.type n) (hd:o.data=.fields vs)
    (hn:["enumerate","zip","dict_itemiterator","dict_reverseitemiterator","odict_iterator","itertools.zip_longest","itertools.pairwise"].contains n=false) (hQ:Q () s):wpAny M A (letOwnedTupleGo tg (.ref it) u) Q E s:=by
  unfold letOwnedTupleGo
  cases tg <;> first
    | exact Ds hQ
    | (cases u <;> first
        | exact Ds hQ
        | (refine Dk (wpAny_load ho ?_)
           rw [hc,hd];show wpAny M A (if (["enumerate","zip","dict_itemiterator","dict_reverseitemiterator","odict_iterator","itertools.zip_longest","itertools.pairwise"].contains n && vs[0]? == some (rawInt _))=true then _ else _) Q E s
           rw [if_neg (by intro h;rw [hn,Bool.false_and] at h;cases h)]
           exact Ds hQ))
def BI (K:Dj) (a:Addr):It :=
 ⟨λi H=>∃xs x,eY K H a xs/\xs[i]?=some x,λi H x H'=>H'=H/\∀xs,eY K H a xs->xs[i]?=some x,λi H=>∃xs,eY K H a xs/\xs.length<=i⟩
def BK (K:Dj) (a:Addr):It :=
 ⟨λi H=>∃xs x,gZ K H a xs/\xs[i]?=some x,λi H x H'=>H'=H/\∀xs,gZ K H a xs->xs[i]?=some x,λi H=>∃xs,gZ K H a xs/\xs.length<=i⟩
def xZ (lo:Int) (n:Nat):It:=⟨λi _=>i < n,λi H x H'=>H'=H/\x=.int (lo + i),λi _=>n<=i⟩
theorem sU {P:Program} {w:World} {K:Dj} {tg:Expr} (a it:Addr):Turn P w K tg (BI K a) [it] it (λi h=>h.IsListIter it a i) where
 mem:=by simp
 obj:=λi h st b hb=>by
  have e:b=it:=by simpa using hb
  subst e;obtain⟨o,e,c,d⟩:=st;exact⟨o,e,λv z=>by rw [d] at z;cases z⟩
 keep:=λi h h' st k=>st.at λo e=>k it (by simp) o e
 item:=by
  intro X hP hw hK hc i pins s σ H E I hf st hg;subst hP hw hK;obtain⟨xs,x,hq,hx⟩:=hg;obtain⟨its,rv,p,hz⟩:=I.list hq;obtain⟨u,hu,ru⟩:=rv.get hx;obtain⟨f0,f1,f2,f3,f4,f5⟩:=hf it (by simp);refine wpAny_pyNext_list_item st p.isList (x:=u) (by simpa using hu) λh' st' sb=>?_;have I1:Inv X pins σ H { s with heap:=h' }:=I.turned (t':=s.toks) (λb o hb e=>(sb.2 b hb).trans e) f0 f1 f3 f4 f5;obtain⟨o,e,c,d⟩:=id st'
  exact⟨u,rfl,sC (s:={ s with heap:=h' }) e c d (by decide) ⟨x,H,I1,ru,⟨rfl,λys hy=>by rw [I.ph hy hq];exact hx⟩,st',λb hb=>(hf b hb).1⟩⟩
 done:=by
  intro X hP hw hK hc i pins s σ H E I hf st hg;subst hP hw hK;obtain⟨xs,hq,hx⟩:=hg;obtain⟨its,rv,p,hz⟩:=I.list hq;obtain⟨f0,f1,f2,f3,f4,f5⟩:=hf it (by simp);have hl:=rv.length;exact wpAny_pyNext_list_end (I.ok.hd hc) st p.isList (by simp;omega) λh' eb=>⟨rfl,I.turned (t':=s.toks) (λb o hb e=>eb b o hb e) f0 f1 f3 f4 f5⟩
 self:=λ_ _ _ _ _ st h=>wpAny_pyIter_listiter st h
theorem ro {P:Program} {w:World} {K:Dj} {tg:Expr} (a it:Addr):Turn P w K tg (BK K a) [it] it (λi h=>h.IsTupleIter it a i) where
 mem:=by simp
 obj:=λi h st b hb=>by
  have e:b=it:=by simpa using hb
  subst e;obtain⟨o,e,c,d⟩:=st;exact⟨o,e,λv z=>by rw [d] at z;cases z⟩
 keep:=λi h h' st k=>st.at λo e=>k it (by simp) o e
 item:=by
  intro X hP hw hK hc i pins s σ H E I hf st hg;subst hP hw hK;obtain⟨xs,x,hq,hx⟩:=hg;obtain⟨its,rv,p,hz⟩:=I.tuple hq;obtain⟨u,hu,ru⟩:=rv.get hx;obtain⟨f0,f1,f2,f3,f4,f5⟩:=hf it (by simp);refine wpAny_pyNext_tuple_item st (show s.heap.IsTuple a its.toArray from p) (x:=u) (by simpa using hu) λh' st' sb=>?_;have I1:Inv X pins σ H { s with heap:=h' }:=I.turned (t':=s.toks) (λb o hb e=>(sb.2 b hb).trans e) f0 f1 f3 f4 f5
  obtain⟨o,e,c,d⟩:=id st';exact⟨u,rfl,sC (s:={ s with heap:=h' }) e c d (by decide) ⟨x,H,I1,ru,⟨rfl,λys hy=>by rw [I.m8 hy hq];exact hx⟩,st',λb hb=>(hf b hb).1⟩⟩
 done:=by
  intro X hP hw hK hc i pins s σ H E I hf st hg;subst hP hw hK;obtain⟨xs,hq,hx⟩:=hg;obtain⟨its,rv,p,hz⟩:=I.tuple hq;obtain⟨f0,f1,f2,f3,f4,f5⟩:=hf it (by simp);have hl:=rv.length;exact wpAny_pyNext_tuple_end (I.ok.hd hc) st (show s.heap.IsTuple a its.toArray from p) (by simp;omega) λh' eb=>⟨rfl,I.turned (t':=s.toks) (λb o hb e=>eb b o hb e) f0 f1 f3 f4 f5⟩
 self:=λ_ _ _ _ _ st h=>wpAny_pyIter_tupleiter st h
theorem qL {P:Program} {w:World} {K:Dj} {tg:Expr} (it:Addr) (lo:Int) (n:Nat):Turn P w K tg (xZ lo n) [it] it (λi h=>IsRangeIter h it (lo + (i:Nat) * 1) ((n:Int) - (i:Nat)) 1) where
 mem:=by simp
 obj:=λi h st b hb=>by
  have e:b=it:=by simpa using hb
  subst e
  exact⟨_,st,λv z=>by
   have z':Data.fields _=Data.cell v:=z
   cases z'⟩
 keep:=λi h h' st k=>k it (by simp) _ st
 item:=by
  intro X hP hw hK hc i pins s σ H E I hf st hg;subst hP hw hK;obtain⟨f0,f1,f2,f3,f4,f5⟩:=hf it (by simp);have W:=Walks.range (prog:=X.prog) (w:=X.w) (I.ok.hd hc) it lo 1 n;refine W.item i s _ _ hg st λv h' tk hv st' kk=>?_;obtain⟨t,rfl⟩:=hv;have I1:Inv X pins σ H { s with heap:=h',toks:=tk }:=I.turned (λb o hb e=>kk b o (by simpa using hb) e) f0 f1 f3 f4 f5;refine⟨_,rfl,sC (s:={ s with heap:=h',toks:=tk }) (n:="range_iterator") st' rfl rfl (by decide) ⟨.int (lo + i),H,I1,⟨t,?_⟩,⟨rfl,rfl⟩,st',λb hb=>(hf b hb).1⟩⟩
  rw [Int.mul_one]
 done:=by
  intro X hP hw hK hc i pins s σ H E I hf st hg;subst hP hw hK;obtain⟨f0,f1,f2,f3,f4,f5⟩:=hf it (by simp);exact wpAny_pyNext_range_end (I.ok.hd hc) st (by have:n<=i:=hg;omega) λh' eb=>⟨rfl,I.turned (t':=s.toks) (λb o hb e=>eb b o hb e) f0 f1 f3 f4 f5⟩
 self:=λ_ _ _ _ _ st h=>wpAny_pyIter_rangeiter st h
section
variable {X:Cx} {tg:Expr}
theorem pD {pins:List (Addr×Obj)} {σ:St} {H:Hp} {s:Shared} {R:It->Hp->Prop} {E:Value->Shared->Prop} {lo hi:Int} {t u v:Tok} {tk:Nat} (I:Inv X pins σ H s) (h1:-(2 ^ 62)<=lo) (h2:lo < 2 ^ 62) (h3:-(2 ^ 62)<=hi) (h4:hi < 2 ^ 62)
  (q:R (xZ lo (hi - lo).toNat) H):wpAny (model X.prog X.w) X.A (pyIter (.ref s.heap.objs.size)) (BN X pins σ tg R) E { s with heap:=s.heap.push { cls:=.type "range",data:=.fields #[.int lo t,.int hi u,.int 1 v] },toks:=tk }:=by
 refine wpAny_pyIter_range (IsRange.new ..) (small_one h1 h2 h3 h4) ?_;have I1:Inv X pins σ H { s with heap:=s.heap.push { cls:=.type "range",data:=.fields #[.int lo t,.int hi u,.int 1 v] },toks:=tk }:=I.kept λb o e=>Dp _ e
 refine⟨(s.heap.push { cls:=.type "range",data:=.fields #[.int lo t,.int hi u,.int 1 v] }).objs.size,[(s.heap.push { cls:=.type "range",data:=.fields #[.int lo t,.int hi u,.int 1 v] }).objs.size],_,_,H,rfl,
  I1.kept (t':=tk) λb o e=>Dp _ e,qL _ lo (hi - lo).toNat,?_,λb hb=>?_,q⟩
 ·have e1:lo + ((0:Nat):Int) * 1=lo:=by simp
  have e2:(((hi - lo).toNat:Nat):Int) - ((0:Nat):Int)=Builtin.Range.rangeSize lo hi 1:=by rw [rangeSize_one];split <;> omega
  show IsRangeIter _ _ (lo + ((0:Nat):Int) * 1) ((((hi - lo).toNat:Nat):Int) - ((0:Nat):Int)) 1
  rw [e1,e2];exact DI _ rfl
 ·have e:b=(s.heap.push { cls:=.type "range",data:=.fields #[.int lo t,.int hi u,.int 1 v] }).objs.size:=by simpa using hb
  subst e;exact I1.xu (Du _) (I1.hok.fresh (Du _))
def AN (ta:TA):TI:=λσ H R=>ta σ H λvs H1=>∃j:Int,vs=[.int j]/\-(2 ^ 62)<=j/\j < 2 ^ 62/\R (xZ 0 j.toNat) H1
def AR (ta:TA):TI:=λσ H R=>ta σ H λvs H1=>∃i j:Int,vs=[.int i,.int j]/\(-(2 ^ 62)<=i/\i < 2 ^ 62/\-(2 ^ 62)<=j/\j < 2 ^ 62)/\R (xZ i (j - i).toNat) H1
theorem mO {a:Expr} {ta:TA} {p pos:Pos} (hg:Gl X "range") (hm:X.mg "range" = none) (ha:PA X [a] ta) (hs:starEach [a] X.env=[(false,eval a X.env)]:=by rfl):PI X tg (.Call (.Name "range" p) [a] [] pos) (AN ta):=by
 intro pins s σ H R I h;refine Call_ (lZ I hg hm boot_range (PyProof.Rows.callWith_type1 (bF (ha pos pins s σ H _ I h) λus s1 ⟨vs,H1,I1,r1,q1⟩=>?_) hs rfl));obtain⟨j,e,q1,q2,q⟩:=q1;subst e
 cases r1 with
 | cons r rr =>
  cases rr;obtain⟨t,rfl⟩:=r;exact call_range_1 (pD I1 (by omega) (by omega) q1 q2 (by simpa using q))
theorem tQ {a b:Expr} {ta:TA} {p pos:Pos} (hg:Gl X "range") (hm:X.mg "range" = none) (ha:PA X [a,b] ta) (hs:starEach [a,b] X.env=[(false,eval a X.env),(false,eval b X.env)]:=by rfl) (hs2:starEach [b] X.env=[(false,eval b X.env)]:=by rfl) :
  PI X tg (.Call (.Name "range" p) [a,b] [] pos) (AR ta):=by
 intro pins s σ H R I h;refine Call_ (lZ I hg hm boot_range (PyProof.Rows.callWith_type1 (bF (ha pos pins s σ H _ I h) λus s1 ⟨vs,H1,I1,r1,q1⟩=>?_) (by rw [hs,hs2]) (by rw [hs2];rfl)));obtain⟨i,j,e,⟨q1,q2,q3,q4⟩,q⟩:=q1;subst e
 cases r1 with
 | cons r rr =>
  cases rr with
  | cons r' rr =>
   cases rr;obtain⟨t,rfl⟩:=r;obtain⟨t',rfl⟩:=r';exact call_range_2 (pD I1 q1 q2 q3 q4 q)
def B7 (wi:TI) (g:TG) (tb:TS):TS:=λD σ H=>wi σ H λJ H1=>∃W:Nat->Nat->St->Hp->Prop,(∃m,W 0 m σ H1)/\∀i m σ H,W i m σ H ->
 (J.stop i H/\D.nx σ H)\/(J.go i H/\∃N:St->Hp->Prop,(∀σ' H',N σ' H'->∃m',m' < m/\W (i + 1) m' σ' H')/\∀x H',J.yld i H x H'->g x σ H' λσ2 H2=>tb { D with nx:=N,ct:=N,bk:=D.nx } σ2 H2)
def kh (fp:List Addr) (h:Heap):List (Addr×Obj):=fp.filterMap λb=>(h.get? b).map λo=>(b,o)
theorem e8 {fp:List Addr} {h:Heap} {b:Addr} {o:Obj} (hb:b∈fp) (e:h.get? b=some o):(b,o)∈kh fp h:=List.mem_filterMap.mpr ⟨b,hb,by rw [e];rfl⟩
theorem tN {fp:List Addr} {h:Heap} {p:Addr×Obj} (hp:p∈kh fp h):p.1∈fp/\h.get? p.1=some p.2:=by
 obtain⟨b,hb,e⟩:=List.mem_filterMap.mp hp
 cases q:h.get? b with
 | none=>rw [q] at e;cases e
 | some o =>
  rw [q] at e;have e':(b,o)=p:=DA e;subst e';exact⟨hb,q⟩
theorem Inv.pinned {pins:List (Addr×Obj)} {σ:St} {H:Hp} {s:Shared} {fp:List Addr} (I:Inv X pins σ H s) (hf:∀b∈fp,mB X pins H b) (ho:∀b∈fp,∃o,s.heap.get? b=some o/\∀v,o.data≠.cell v):Inv X (pins ++ kh fp s.heap) σ H s :=
 I.rS λp hp=>(DM.mp hp).elim (λz=>I.pin p (DU _ z)) λz=>by
  obtain⟨hb,e⟩:=tN z;obtain⟨f0,f1,f2,_⟩:=hf p.1 hb;obtain⟨o,e',d⟩:=ho p.1 hb;rw [e] at e';cases e';exact⟨e,f0,f1,f2,d⟩
theorem Inv.hU {pins pl:List (Addr×Obj)} {σ:St} {H:Hp} {s:Shared} (I:Inv X (pins ++ pl) σ H s):Inv X pins σ H s:=I.rS λp hp=>I.pin p (DU _ (D0 _ hp))
theorem rL {iter:Expr} {body:List Stmt} {wi:TI} {g:TG} {tb:TS} {pos:Pos} (hp:PassesOwn (model X.prog X.w) X.A X.env X.xe) (hc:X.calm=true) (hi:PI X tg iter wi) (hg:PG X tg g) (hb:rF X body tb)
  (hs:∀x,DS iter X.env x=pure x:=by intro _;rfl):PS X (.For tg iter body [] pos) (B7 wi g tb):=by
 intro pins s σ H D I h;refine wpAny_For (bF (hi pins s σ H _ I h) λv s1 h1=>bF h1 λitv s2 h2=>?_) hs;obtain⟨it,fp,tn,J,H2,e,I2,T,st2,f2,W,⟨m0,w0⟩,turn⟩:=h2;subst e;have stat:∀{H':Hp},(∀b∈fp,H' b=none)->∀b∈fp,mB X pins H' b:=λhn b hb=>⟨hn b hb,(f2 b hb).2⟩;refine codeAny_forLoop_any (λn s'=>∃i σ' H',Inv X pins σ' H' s'/\tn i s'.heap/\(∀b∈fp,H' b=none)/\W i n σ' H') ?_ m0 ⟨0,σ,H2,I2,st2,λb hb=>(f2 b hb).1,w0⟩
 rintro n s3 ⟨i,σ3,H3,I3,st3,fr3,w3⟩;rcases turn i n σ3 H3 w3 with ⟨stop,qn⟩|⟨go,N,hN,step⟩
 ·refine wpAny_passesOwn hp (bF (T.done X rfl rfl rfl hc i pins s3 σ3 H3 X.xe I3 (stat fr3) st3 stop) λr s4 ⟨hr,I4⟩=>?_);subst hr;exact wpAny_execs_nil ⟨σ3,H3,I4,qn⟩
 ·refine wpAny_passesOwn hp (bF (T.item X rfl rfl rfl hc i pins s3 σ3 H3 X.xe I3 (stat fr3) st3 go) λr s4 ⟨u,hr,h4⟩=>?_);subst hr;refine wpAny_passesOwn hp (bF h4 λ_ s5 hq0=>?_);obtain⟨x,H5,I5,r5,y5,st5,fr5⟩:=hq0;have I5':=I5.pinned (stat fr5) (T.obj _ _ st5);refine wpAny_passesOwn hp (bF (hg _ s5 σ3 H5 x u _ I5' r5 (step x H5 y5)) λ_ s6 ⟨σ6,H6,I6,q6⟩=>?_);refine wpAny_passesOwn hp (bF (hb _ s6 σ6 H6 _ I6 q6) λf s7 q7=>?_)
  have again:∀{σ7:St} {H7:Hp},Inv X (pins ++ kh fp s5.heap) σ7 H7 s7->N σ7 H7->∃m,m < n/\∃i σ' H',Inv X pins σ' H' s7/\tn i s7.heap/\(∀b∈fp,H' b=none)/\W i m σ' H':=λ{σ7 H7} I7 n7=>by
   obtain⟨m',hm,w7⟩:=hN σ7 H7 n7;refine⟨m',hm,i + 1,σ7,H7,I7.hU,T.keep _ _ _ st5 λb hb o e=>(I7.pin (b,o) (DU _ (DU _ (e8 hb e)))).1,λb hb=>?_,w7⟩;obtain⟨o,e,d⟩:=T.obj _ _ st5 b hb;exact (I7.pin (b,o) (DU _ (DU _ (e8 hb e)))).2.1
  cases f with
  | next=>obtain⟨σ7,H7,I7,n7⟩:=q7;exact again I7 n7
  | cont=>obtain⟨σ7,H7,I7,n7⟩:=q7;exact again I7 n7
  | brk=>obtain⟨σ7,H7,I7,q7⟩:=q7;exact⟨σ7,H7,I7.hU,q7⟩
  | ret v=>obtain⟨x7,σ7,H7,I7,r7,q7⟩:=q7;exact⟨x7,σ7,H7,I7.hU,r7,q7⟩
end
abbrev R2:=V->V->Hp->VK->Prop
def iG (X:Cx) (f:Value->Value->Sem Value) (r:R2):Prop :=
 ∀(pins:List (Addr×Obj)) (s:Shared) (σ:St) (H:Hp) (x y:V) (v u:Value) (Q:VK),Inv X pins σ H s->RelV x v->RelV y u->r x y H Q ->
  wpAny (model X.prog X.w) X.A (f v u) (EP X pins σ Q) X.xe s
def BL (X:Cx) (f:Value->Sem Value) (r:V->Hp->VK->Prop):Prop :=
 ∀(pins:List (Addr×Obj)) (s:Shared) (σ:St) (H:Hp) (x:V) (v:Value) (Q:VK),Inv X pins σ H s->RelV x v->r x H Q ->
  wpAny (model X.prog X.w) X.A (f v) (EP X pins σ Q) X.xe s
def dZ (X:Cx) (f:Value) (r:List V->Hp->VK->Prop):Prop :=
 ∀(pins:List (Addr×Obj)) (s:Shared) (σ:St) (H:Hp) (xs:List V) (us:List Value) (Q:VK),Inv X pins σ H s->Vals xs us->r xs H Q ->
  wpAny (model X.prog X.w) X.A (call f us) (EP X pins σ Q) X.xe s
def Av (r:R2) (ta tb:TE):TE:=λσ H Q=>ta σ H λx H1=>tb σ H1 λy H2=>r x y H2 Q
def C1 (r:V->Hp->VK->Prop) (ta:TE):TE:=λσ H Q=>ta σ H λx H1=>r x H1 Q
def rI (C:Int->Int->Prop) (g:Int->Int->V):R2:=λx y H Q=>∃i j,x=.int i/\y=.int j/\C i j/\Q (g i j) H
def wI (g:Int->Int->V):R2:=λx y H Q=>∃i j,x=.int i/\y=.int j/\Q (g i j) H
def rU (g:Int->V):V->Hp->VK->Prop:=λx H Q=>∃i,x=.int i/\Q (g i) H
section
variable {X:Cx} {a b c:Expr} {ta tb tc:TE} {pos:Pos}
theorem zF (ha:PE X a ta) (hb:PE X b tb) {pins:List (Addr×Obj)} {s:Shared} {σ:St} {H:Hp} {R:V->V->Hp->Prop} (I:Inv X pins σ H s)
  (h:ta σ H λx H1=>tb σ H1 λy H2=>R x y H2) {Q:Value->Shared->Prop} {f:Value->Value->Sem Value}
  (hf:∀v u s2 x y H2,Inv X pins σ H2 s2->RelV x v->RelV y u->R x y H2->wpAny (model X.prog X.w) X.A (f v u) Q X.xe s2) :
  wpAny (model X.prog X.w) X.A (eval a X.env) (λv s₁=>wpAny (model X.prog X.w) X.A (eval b X.env) (λu s₂=>wpAny (model X.prog X.w) X.A (f v u) Q X.xe s₂) X.xe s₁) X.xe s:=by
 refine bF (ha pins s σ H _ I h) λv s1 hq0=>?_;obtain⟨x,H1,I1,r1,q1⟩:=hq0;refine bF (hb pins s1 σ H1 _ I1 q1) λu s2 hq0=>?_;obtain⟨y,H2,I2,r2,q2⟩:=hq0;exact hf v u s2 x y H2 I2 r1 r2 q2
theorem AU {op:Operator} {r:R2} (ho:iG X (binaryOp op) r) (ha:PE X a ta) (hb:PE X b tb):PE X (.BinOp a op b pos) (Av r ta tb):=by
 intro pins s σ H Q I h;exact wpAny_BinOp (zF ha hb I h λv u s2 x y H2 I2 rx ry q=>ho pins s2 σ H2 x y v u Q I2 rx ry q)
theorem BA {op:UnaryOp} {r:V->Hp->VK->Prop} (ho:BL X (unaryOp op) r) (ha:PE X a ta):PE X (.UnaryOp op a pos) (C1 r ta):=by
 intro pins s σ H Q I h;exact UnaryOp_ (bF (ha pins s σ H _ I h) λv s1 ⟨x,H1,I1,r1,q1⟩=>ho pins s1 σ H1 x v Q I1 r1 q1)
theorem B4 {f:Value->Value->Sem Value} {C:Int->Int->Prop} {g:Int->Int->Int}
  (rule:∀(i j:Int) (t u:Tok) (s:Shared) (Q:Value->Shared->Prop) (E:Value->Shared->Prop),C i j->Q (.int (g i j) s.toks) { s with toks:=s.toks + 1 }->wpAny (model X.prog X.w) X.A (f (.int i t) (.int j u)) Q E s) :
  iG X f (rI C λi j=>.int (g i j)):=by
 intro pins s σ H x y v u Q I rx ry h;obtain⟨i,j,rfl,rfl,hc,q⟩:=h;obtain⟨t,rfl⟩:=rx;obtain⟨t',rfl⟩:=ry;exact rule i j t t' s _ _ hc ⟨.int (g i j),H,I.tok _,⟨_,rfl⟩,q⟩
theorem AZ {f:Value->Value->Sem Value} {g:Int->Int->Int}
  (rule:∀(i j:Int) (t u:Tok) (s:Shared) (Q:Value->Shared->Prop) (E:Value->Shared->Prop),Q (.int (g i j) s.toks) { s with toks:=s.toks + 1 }->wpAny (model X.prog X.w) X.A (f (.int i t) (.int j u)) Q E s) :
  iG X f (wI λi j=>.int (g i j)):=by
 intro pins s σ H x y v u Q I rx ry h;obtain⟨i,j,rfl,rfl,q⟩:=h;obtain⟨t,rfl⟩:=rx;obtain⟨t',rfl⟩:=ry;exact rule i j t t' s _ _ ⟨.int (g i j),H,I.tok _,⟨_,rfl⟩,q⟩
theorem Bq {f:Value->Value->Sem Value} {g:Int->Int->Bool}
  (rule:∀(i j:Int) (t u:Tok) (s:Shared) (Q:Value->Shared->Prop) (E:Value->Shared->Prop),Q (.bool (g i j)) s->wpAny (model X.prog X.w) X.A (f (.int i t) (.int j u)) Q E s) :
  iG X f (wI λi j=>.bl (g i j)):=by
 intro pins s σ H x y v u Q I rx ry h;obtain⟨i,j,rfl,rfl,q⟩:=h;obtain⟨t,rfl⟩:=rx;obtain⟨t',rfl⟩:=ry;exact rule i j t t' s _ _ ⟨.bl (g i j),H,I,rfl,q⟩
theorem za:iG X (binaryOp .Add) (wI λi j=>.int (i + j)):=AZ λ_ _ _ _ _ _ _ q=>add_int q
theorem y9:iG X (binaryOp .Sub) (wI λi j=>.int (i - j)):=AZ λ_ _ _ _ _ _ _ q=>sub_int q
theorem wQ:iG X (binaryOp .Mod) (rI (λ_ j=>j≠0) λi j=>.int (i.fmod j)):=B4 λ_ _ _ _ _ _ _ hc q=>mod_int' hc q
theorem C6 {f:Value->Sem Value} {g:Int->Int}
  (rule:∀(i:Int) (t:Tok) (s:Shared) (Q:Value->Shared->Prop) (E:Value->Shared->Prop),Q (.int (g i) s.toks) { s with toks:=s.toks + 1 }->wpAny (model X.prog X.w) X.A (f (.int i t)) Q E s) :
  BL X f (rU λi=>.int (g i)):=by
 intro pins s σ H x v Q I rx h;obtain⟨i,rfl,q⟩:=h;obtain⟨t,rfl⟩:=rx;exact rule i t s _ _ ⟨.int (g i),H,I.tok _,⟨_,rfl⟩,q⟩
theorem zI:BL X (unaryOp .USub) (rU λi=>.int (-i)):=C6 λ_ _ _ _ _ q=>neg_int q
end
section
variable {X:Cx} {a b c:Expr} {ta tb tc:TE} {pos:Pos}
theorem Bg:iG X (compareOp .Lt) (wI λi j=>.bl (decide (i < j))):=Bq λ_ _ _ _ _ _ _ q=>lt_int q
theorem Bi:iG X (compareOp .Gt) (wI λi j=>.bl (decide (j < i))):=Bq λ_ _ _ _ _ _ _ q=>gt_int q
theorem iG.or {f:Value->Value->Sem Value} {r r':R2} (h:iG X f r) (h':iG X f r'):iG X f (λx y H Q=>r x y H Q\/r' x y H Q):=by
 intro pins s σ H x y v u Q I rx ry q;rcases q with q|q
 ·exact h pins s σ H x y v u Q I rx ry q
 ·exact h' pins s σ H x y v u Q I rx ry q
theorem ji (b:Expr) {op:CmpOp} (h:op≠.In:=by decide) (h2:op≠.NotIn:=by decide):behindInMarks op b=false:=by
 have e1:(op == CmpOp.In)=false:=by cases op <;> first|rfl|exact absurd rfl h
 have e2:(op == CmpOp.NotIn)=false:=by cases op <;> first|rfl|exact absurd rfl h2
 cases b <;> simp [behindInMarks,e1,e2]
theorem wM {op:CmpOp} {r:R2} (ho:iG X (compareOp op) r) (ha:PE X a ta) (hb:PE X b tb) (hm:behindInMarks op b=false):PE X (.Compare a [op] [b] pos) (Av r ta tb):=by
 intro pins s σ H Q I h;exact wpAny_Compare1 (zF ha hb I h λv u s2 x y H2 I2 rx ry q=>ho pins s2 σ H2 x y v u Q I2 rx ry q) hm
def AL (t:TE):TT:=λσ H Q=>t σ H λx H'=>∃k,x=.bl k/\Q k H'
theorem rP {op:CmpOp} {r:R2} (ho:iG X (compareOp op) r) (ha:PE X a ta) (hb:PE X b tb) (hm:behindInMarks op b=false):PT X (.Compare a [op] [b] pos) (AL (Av r ta tb)):=by
 intro pins s σ H Q I h
 refine wpAny_isTrue_Compare1 (bF (ha pins s σ H _ I h) λv s1 ⟨x,H1,I1,r1,q1⟩=>bF (hb pins s1 σ H1 _ I1 q1) λu s2 ⟨y,H2,I2,r2,q2⟩ =>
  bF (ho pins s2 σ H2 x y v u _ I2 r1 r2 q2) λc s3 ⟨z,H3,I3,r3,k,e,q3⟩=>?_) hm
 subst e;cases r3;exact wpAny_truthy_bool ⟨H3,I3,q3⟩
theorem kG:(sizeLine:Nat) < 2 ^ 63:=by rw [sizeLine_eq];decide
theorem qH:iG X (binaryOp .Add) (λx y H Q=>∃i j,x=.str i/\y=.str j/\i.length + j.length<=sizeLine/\Q (.str (i ++ j)) H):=by
 intro pins s σ H x y v u Q I rx ry h;obtain⟨i,j,rfl,rfl,hz,q⟩:=h;obtain⟨t,rfl⟩:=rx;obtain⟨t',rfl⟩:=ry;exact add_str (λt' tk=>⟨.str (i ++ j),H,I.tok _,⟨_,rfl⟩,q⟩) hz
theorem vals1 {x:V} {us:List Value} (r:Vals [x] us):∃u,us=[u]/\RelV x u:=by
 cases r with
 | cons r1 r2=>cases r2;exact⟨_,rfl,r1⟩
theorem vals2 {x y:V} {us:List Value} (r:Vals [x,y] us):∃u w',us=[u,w']/\RelV x u/\RelV y w':=by
 cases r with
 | cons r1 r2 =>
  cases r2 with
  | cons r3 r4=>cases r4;exact⟨_,_,rfl,r1,r3⟩
theorem vp:dZ X (.builtin "abs") (λxs H Q=>∃i,xs=[.int i]/\Q (.int (if i < 0 then -i else i)) H):=by
 intro pins s σ H xs us Q I r h;obtain⟨i,rfl,q⟩:=h;obtain⟨u,rfl,t,rfl⟩:=vals1 r;exact call_abs_int λu tk=>⟨.int (if i < 0 then -i else i),H,I.tok _,⟨_,rfl⟩,q⟩
end
theorem qo.some_of {v:V} {o:Option Value} (r:qo (some v) o):∃u,o=some u/\RelV v u:=by
 cases o with
 | none=>exact (show False from r).elim
 | some u=>exact⟨u,rfl,r⟩
structure bR (k:Nat) (A:Around):Prop where
 hd:A.handled=none
 dp:A.depth + 3 * k + 5 < recursionLimit
 un:A.units + 16 * k + 200 < cLine
theorem bR.mono {j k:Nat} {A:Around} (r:bR k A) (h:j<=k):bR j A:=⟨r.hd,by have:=r.dp;omega,by have:=r.un;omega⟩
theorem bR.deeper {k:Nat} {A:Around} (r:bR (k + 1) A) (env:Env):bR k (A.deeper env) :=
 ⟨r.hd,by have:=r.dp;show A.depth + 1 + 3 * k + 5 < _;omega,by have:=r.un;show A.units + 3 + 16 * k + 200 < _;omega⟩
theorem bR.depth {k:Nat} {A:Around} (r:bR k A):A.depth < recursionLimit:=by have:=r.dp;omega
theorem bR.units {k:Nat} {A:Around} (r:bR k A):A.units + 64 < cLine:=by have:=r.un;omega
def B9:TA:=λ_ H Q=>Q [] H
def Ba (ta:TE) (tr:TA):TA:=λσ H Q=>ta σ H λx H1=>tr σ H1 λxs H2=>Q (x :: xs) H2
section
variable {X:Cx} {e:Expr} {es:List Expr} {te:TE} {t:TA} {pos:Pos}
theorem oi:PA X [] B9:=λ_ _ _ _ H Q I h=>Calls.spliced_nil ⟨[],H,I,.nil,h⟩
theorem iF (ha:PE X e te) (hr:PA X es t) (hs:starEach (e :: es) X.env=(false,eval e X.env) :: starEach es X.env:=by rfl):PA X (e :: es) (Ba te t):=by
 intro pos pins s σ H Q I h;rw [hs];show wpAny _ _ (spliced ((false,eval e X.env) :: backTo pos (starEach es X.env))) _ _ s
 refine EA (bF (ha pins s σ H _ I h) λu s1 hq0=>?_);obtain⟨x,H1,I1,r1,q1⟩:=hq0;exact bF (hr pos pins s1 σ H1 _ I1 q1) λus s2 ⟨xs,H2,I2,r2,q2⟩=>⟨x :: xs,H2,I2,.cons r1 r2,q2⟩
def Cf (t:TA):TE:=λσ H Q=>t σ H λxs H1=>xs.length<=sizeLine/\∀p,H1 p=none->Q (.ref p) (upd H1 p (.tup xs))
def Ct (t:TA):TE:=λσ H Q=>t σ H λxs H1=>xs.length<=sizeLine/\∀p,H1 p=none->Q (.ref p) (upd H1 p (.lst xs))
theorem yL {x1} (h:PA X es t):PE X (.Tuple es x1 pos) (Cf t):=by
 intro pins s σ H Q I hq;refine wpAny_Tuple_spliced (bF (h pos pins s σ H _ I hq) λus s1 ⟨xs,H1,I1,r,z,q⟩=>⟨by rw [<- r.length];exact z,?_⟩);have hf:H1 s1.heap.objs.size=none:=I1.hok.fresh (Du _);refine⟨.ref s1.heap.objs.size,upd H1 s1.heap.objs.size (.tup xs),I1.laid (t':=s1.toks) (λb u e=>Dp _ e) (Du _) ?_,rfl,q _ hf⟩;exact⟨z,us,r,⟨_,DI _ rfl,rfl,⟨_,rfl⟩,rfl⟩⟩
theorem wk (h:PA X es t):PE X (.List es pos) (Ct t):=by
 intro pins s σ H Q I hq;refine wpAny_List_spliced (bF (h pos pins s σ H _ I hq) λus s1 ⟨xs,H1,I1,r,z,q⟩=>⟨by rw [<- r.length];exact z,?_⟩);have hf:H1 s1.heap.objs.size=none:=I1.hok.fresh (Du _);refine⟨.ref s1.heap.objs.size,upd H1 s1.heap.objs.size (.lst xs),I1.laid (t':=s1.toks) (λb u e=>Dp _ e) (Du _) ?_,rfl,q _ hf⟩;exact⟨z,us,0,r,DI _ rfl⟩
end
abbrev Sp:=List V->Hp->VK->XK->Prop
abbrev ur:=List Env->Hp->Shared->XK->Value->Shared->Prop
structure rD (P:Program) (w:World) (K:Dj) (mg:Str->Option Value) (base:Heap) (A:Around) (outer:List Env) (s:Shared) (H:Hp):Prop where
 frames:A.frames=some outer
 mod:Mod K mg base
 bs:∀b o,base.get? b=some o->s.heap.get? b=some o/\H b=none
 bsz:base.objs.size<=s.heap.objs.size
 iO:s.heap.FunFrames base outer
 frf:(∀b∈gY outer,H b=none)/\xk K H
 hok:gC P w H s.heap
 bare:AllBare s.gens
def CE (outer:List Env) (P:Program) (w:World) (H:Hp) (s:Shared) (Q:VK) (u:Value) (s':Shared):Prop :=
 ∃v H',s'.os=s.os/\AllBare s'.gens/\Un (gY outer) [] H H' s.heap s'.heap/\gC P w H' s'.heap/\RelV v u/\Q v H'
def CR (CX:ur) (outer:List Env) (P:Program) (w:World) (H:Hp) (s:Shared) (Q:VK) (E:XK) (r:Result) (s':Shared):Prop :=
 match r with
 | .ok (.ret u)=>CE outer P w H s Q u s'
 | .ok _=>False
 | .error e=>CX outer H s E e s'
structure gM (P:Program) (w:World) (K:Dj) (mg:Str->Option Value) (base:Heap) (CX:ur) (k:Nat) (f:Addr) (fd:FuncData) (ps:List Str) (sp:Sp):Prop where
 len:∀vs H Q E,sp vs H Q E->vs.length=ps.length
 run:∀(A:Around) (outer:List Env) (s:Shared) (H:Hp) (args:Args) (us:List Value) (vs:List V) (Q:VK) (E:XK),bR k A->rD P w K mg base A outer s H->BindsTo s fd args (ps.zip us)->Vals vs us->sp vs H Q E ->
  codeAny (model P w) A (.call (.ref f) args) (CR CX outer P w H s Q E) s
theorem gM.imp {P:Program} {w:World} {K:Dj} {mg:Str->Option Value} {base:Heap} {CX:ur} {k:Nat} {f:Addr} {fd:FuncData} {ps:List Str} {sp sp':Sp} (F:gM P w K mg base CX k f fd ps sp)
  (h:∀vs H Q E,sp' vs H Q E->sp vs H Q E):gM P w K mg base CX k f fd ps sp' :=
 ⟨λvs H Q E q=>F.len vs H Q E (h _ _ _ _ q),λA outer s H args us vs Q E hr he hb hv hs=>F.run A outer s H args us vs Q E hr he hb hv (h _ _ _ _ hs)⟩
section
variable {X:Cx} {pins:List (Addr×Obj)} {σ:St} {H:Hp} {s s':Shared}
theorem Inv.b8 (I:Inv X pins σ H s):rD X.prog X.w X.K X.mg X.base X.A X.stack s H :=
 ⟨I.ok.frames,I.ok.mod,I.bs,Ej I.ok.bsz I.sz,I.stack,⟨I.jQ,I.tb⟩,I.hok,I.bare⟩
theorem Inv.after {Q:VK} {u:Value} (I:Inv X pins σ H s) (h:CE X.stack X.prog X.w H s Q u s'):EP X pins σ Q u s':=by
 obtain⟨v,H',os,bare,un,hok,r,q⟩:=h;obtain⟨hh,g,d,t,os'⟩:=s';obtain rfl:os'=s.os:=os;exact⟨v,H',I.call (h':=hh) (g':=g) (d':=d) (t':=t) (ch:=[]) un hok bare (λb z=>absurd z (by simp)),r,q⟩
end
def Bt (sp:Sp) (dvs:List V) (E:XK) (t:TA):TE:=λσ H Q=>t σ H λvs H1=>sp (vs ++ dvs) H1 Q E
def Binds (K:Dj) (fd:FuncData) (ps:List Str) (ds:List Value):Prop :=
 ∀(s:Shared) (us:List Value),K.In s.heap->(us ++ ds).length=ps.length->BindsTo s fd ⟨us,[]⟩ (ps.zip (us ++ ds))
theorem Binds.all {K:Dj} {fd:FuncData} {ps:List Str} (h:∀us:List Value,us.length=ps.length->bindArgs fd ⟨us,[]⟩=pure (ps.zip us)):Binds K fd ps []:=λs us _ hl=>by
 rw [Ea] at hl ⊢;exact .of_eq (h us hl)
def Passes (CX:ur) (X:Cx) (E:XK):Prop:=∀(pins:List (Addr×Obj)) (σ:St) (H:Hp) (s:Shared) (e:Value) (s':Shared),Inv X pins σ H s->CX X.stack H s E e s'->X.xe e s'
section
variable {X:Cx} {CX:ur} {k:Nat} {f C:Addr} {fd:FuncData} {ps:List Str} {sp:Sp} {dvs:List V} {ds:List Value} {E:XK} {x m:Str} {p pos apos:Pos} {e o:Expr} {es:List Expr} {ta:TE} {t:TA}
theorem Aj {pins:List (Addr×Obj)} {σ:St} {H:Hp} {s:Shared} {Q:VK} {us:List Value} {vs:List V} (F:gM X.prog X.w X.K X.mg X.base CX k f fd ps sp) (hr:bR k X.A) (hb:Binds X.K fd ps ds) (hd:Vals dvs ds) (hx:Passes CX X E)
  (I:Inv X pins σ H s) (r:Vals vs us) (h:sp (vs ++ dvs) H Q E):wpAny (model X.prog X.w) X.A (call (.ref f) us) (EP X pins σ Q) X.xe s:=by
 have r2:Vals (vs ++ dvs) (us ++ ds):=r.append hd;have hl:(us ++ ds).length=ps.length:=by rw [<- r2.length];exact F.len _ _ _ _ h
 refine wpAny_call (codeAny_mono (F.run X.A X.stack s H ⟨us,[]⟩ (us ++ ds) (vs ++ dvs) Q E hr I.b8 (hb s us I.r8 hl) r2 h) λr s' hq=>?_)
 cases r with
 | error e=>exact hx pins σ H s e s' I hq
 | ok fl =>
  cases fl with
  | ret u=>exact I.after hq
  | next=>exact False.elim hq
  | brk=>exact False.elim hq
  | cont=>exact False.elim hq
theorem xf (F:gM X.prog X.w X.K X.mg X.base CX k f fd ps sp) (hr:bR k X.A) (hg:Gl X x) (hm:X.mg x=some (.ref f)) (hk:PySem.W.keepIn X.K (.ref f)=true) (hb:Binds X.K fd ps ds) (hd:Vals dvs ds) (hx:Passes CX X E)
  (ha:PA X (e :: es) t) (hdb:(x == ("__debug__" : Str))=false:=by decide) (he:starEach (e :: es) X.env=(false,eval e X.env) :: starEach es X.env:=by rfl) (hpl:(backTo pos (starEach es X.env)).any (·.1)=false:=by rfl) :
  PE X (.Call (.Name x p) (e :: es) [] pos) (Bt sp dvs E t):=by
 intro pins s σ H Q I h;refine wpAny_Call_Name_kw (jU I hg hm ?_ hdb);refine PySem.W.callWith_K (h₀:=X.base) I.ok.mod.kin hk (bF (ha pos pins s σ H _ I h) λus s1 ⟨vs,H1,I1,r,q⟩=>⟨I1.r8,?_⟩) he hpl;exact Aj F hr hb hd hx I1 r q
end
structure aN (N P:List Str) (sc:Scope):Prop where
 kind:sc.kind=.function
 co:sc.isCoroutine=false
 gen:sc.isGenerator=false
 nd:N.Nodup
 pre:N.take P.length=P
 par:∀x∈P,sc.names.lookup x=some .local\/sc.names.lookup x=some .cell
 nofree:∀y∈sc.names,y.2≠.free
theorem mK {kindOf:Str->Option NameKind} {x:Str}:∀{binds:List (Str×Value)} {m:Str->Option Value},(∀v,(x,v)∉binds)->bindL kindOf binds m x=m x
 | [],_,_=>rfl
 | (n,v) :: r,m,h=>by
  unfold bindL;rw [mK λw hw=>h w (Dv _ hw)]
  split
  ·have:x≠n:=by rintro rfl;exact h v DC
   simp [this]
  ·rfl
theorem ny {kindOf:Str->Option NameKind} {x:Str}:∀{binds:List (Str×Value)} {m:Str->Option Value},(∀v,(x,v)∉binds)->bindC kindOf binds m x=m x
 | [],_,_=>rfl
 | (n,v) :: r,m,h=>by
  unfold bindC;rw [ny λw hw=>h w (Dv _ hw)]
  split
  ·rfl
  ·have:x≠n:=by rintro rfl;exact h v DC
   simp [this]
theorem nA {kindOf:Str->Option NameKind} {x:Str} {v:Value}:∀{P:List Str} {vs:List Value} {i:Nat} {m:Str->Option Value},P.Nodup->P[i]?=some x->vs[i]?=some v->kindOf x=some .local ->
  bindL kindOf (P.zip vs) m x=some v
 | [],_,_,_,_,h,_,_=>by simp at h
 | _ :: _,[],_,_,_,_,h,_=>by simp at h
 | p :: P,w :: vs,0,m,nd,h1,h2,hk=>by
  simp at h1 h2;subst h1;subst h2;show bindL kindOf ((p,w) :: P.zip vs) m p=_
  unfold bindL;rw [mK λv hv=>(Ee.mp nd).1 (List.of_mem_zip hv).1,if_pos hk]
  simp
 | p :: P,w :: vs,i + 1,m,nd,h1,h2,hk=>by
  show bindL kindOf ((p,w) :: P.zip vs) m x=_
  unfold bindL;exact nA (i:=i) (Ee.mp nd).2 (by simpa using h1) (by simpa using h2) hk
theorem nB {kindOf:Str->Option NameKind} {x:Str} {v:Value}:∀{P:List Str} {vs:List Value} {i:Nat} {m:Str->Option Value},P.Nodup->P[i]?=some x->vs[i]?=some v->kindOf x≠some .local ->
  bindC kindOf (P.zip vs) m x=some v
 | [],_,_,_,_,h,_,_=>by simp at h
 | _ :: _,[],_,_,_,_,h,_=>by simp at h
 | p :: P,w :: vs,0,m,nd,h1,h2,hk=>by
  simp at h1 h2;subst h1;subst h2;show bindC kindOf ((p,w) :: P.zip vs) m p=_
  unfold bindC;rw [ny λv hv=>(Ee.mp nd).1 (List.of_mem_zip hv).1,if_neg hk]
  simp
 | p :: P,w :: vs,i + 1,m,nd,h1,h2,hk=>by
  show bindC kindOf ((p,w) :: P.zip vs) m x=_
  unfold bindC;exact nB (i:=i) (Ee.mp nd).2 (by simpa using h1) (by simpa using h2) hk
def start (N:List Str) (vs:List V):St:=vs.map some ++ List.replicate (N.length - vs.length) none
def fH (CX:ur) (P:Program) (w:World) (K:Dj) (mg:Str->Option Value) (base:Heap) (N:List Str) (qual:Str) (scope:Scope) (f:Addr) (cd:Value) (A:Around) (outer:List Env) (s:Shared) (H:Hp) (E:XK):Cx where
 prog:=P
 w:=w
 K:=K
 mg:=mg
 base:=base
 A:=A.deeper (envOfC qual scope s.heap.objs.size f cd)
 N:=N
 s₀:=s
 H₀:=H
 env:=envOfC qual scope s.heap.objs.size f cd
 outer:=outer
 stack:=envOfC qual scope s.heap.objs.size f cd :: outer
 ex:=[]
 calm:=true
 fn:=λ_=>true
 pn:=[]
 xe:=λe s'=>wpAny (model P w) (A.deeper (envOfC qual scope s.heap.objs.size f cd)) (leaving (envOfC qual scope s.heap.objs.size f cd) e) (λ_ s''=>CX outer H s E e s'') (λe' s''=>CX outer H s E e' s'') s'
theorem pB {sc:Scope} {n:Nat} {x:Str} (h:sc.names.lookup x=some .cell):∃c,(cellsFrom n sc.names []).lookup x=some c:=by
 have q:=PySem.W.cellsFrom_some sc.names n [] (.inl h);exact Option.isSome_iff_exists.mp q
theorem sV {CX:ur} {P:Program} {w:World} {K:Dj} {mg:Str->Option Value} {base:Heap} {N ps:List Str} {qual:Str} {scope:Scope} {f:Addr} {cd:Value} {A:Around} {outer:List Env} {s s1:Shared} {H:Hp} {E:XK} {us:List Value} {vs:List V}
  (S:aN N ps scope) (hd:A.handled=none) (e0:rD P w K mg base A outer s H) (hl:vs.length=ps.length) (r:Vals vs us)
  (x:InCallC s s.heap.objs.size (bindL (envOfC qual scope s.heap.objs.size f cd).kindOf (ps.zip us) λ_=>none) (cellsFrom (s.heap.objs.size + 1) scope.names []) (bindC (envOfC qual scope s.heap.objs.size f cd).kindOf (ps.zip us) λ_=>none) s1) :
  Inv (fH CX P w K mg base N qual scope f cd A outer s H E) [] (start N vs) H s1:=by
 have hpl:ps.length<=N.length:=by have:=congrArg List.length S.pre;rw [List.length_take] at this;omega
 obtain⟨h1,tk,rfl,hk⟩:=x.done;have noA:∀b:Addr,b∉(fH CX P w K mg base N qual scope f cd A outer s H E).ex:=λb z=>absurd (show b∈([]:List Addr) from z) (by simp)
 refine⟨⟨e0.mod,S.kind,rfl,rfl,Du _,λy z c h1 h2=>?_,λy hy=>?_,λy c _ h=>?_,λ_=>hd,Around.frames_deeper e0.frames,.inr ⟨rfl,rfl⟩,λb z=>absurd z (noA b),e0.bs,e0.bsz,λb _ _=>noA b,λb z=>absurd z (noA b),e0.iO,e0.frf⟩,
  rfl,e0.bare,Un.kept hk,⟨_,x.toInCall.ns,λi y v h1 h2 h3=>?_⟩,λy c h=>⟨_,x.cell y c h⟩,e0.hok.fresh (Du _),λy c h=>?_,λp hp=>absurd (show p∈([]:List (Addr×Obj)) from hp) (by simp),e0.hok.kept hk,?_⟩
 ·exact name_of_addr x.apart (PySem.mem_of_lookup h1) (PySem.mem_of_lookup h2)
 ·have hy:scope.names.lookup y=some .cell\/scope.names.lookup y=some .free:=hy;rcases hy with hy|hy
  ·exact pB hy
  ·exact absurd rfl (S.nofree _ (PySem.mem_of_lookup hy))
 ·exact Ep (x.above y c (PySem.mem_of_lookup h))
 ·have hi:i < vs.length:=by
   unfold start at h2
   by_cases hi:i < vs.length
   ·exact hi
   ·rw [Dz (by simpa using hi)] at h2;rw [DW] at h2
    split at h2 <;> cases h2
  have ha:vs[i]?=some v:=by
   unfold start at h2;rw [Dw (by simpa using hi),Dt] at h2
   cases e:vs[i]? with
   | none=>rw [e] at h2;cases h2
   | some a=>rw [e] at h2;cases h2;rfl
  obtain⟨u,hu,rv⟩:=r.get ha
  have hp:ps[i]?=some y:=by
   rw [<- S.pre,List.getElem?_take_of_lt (by omega)];exact h1
  have ndP:ps.Nodup:=by rw [<- S.pre];exact S.nd.sublist (List.take_sublist _ _)
  refine⟨u,rv,?_⟩;rcases S.par y (Dy hp) with k|k
  ·exact .inl ⟨k,nA ndP hp hu k⟩
  ·obtain⟨c,e⟩:=pB (n:=s.heap.objs.size + 1) k;refine .inr ⟨.inl k,c,e,?_⟩;have q:=x.cell y c e;rw [nB ndP hp hu (by show scope.names.lookup y≠_;rw [k];decide)] at q;exact q
 ·exact e0.hok.fresh (Ep (x.above y c (PySem.mem_of_lookup h)))
 ·unfold start;show _=N.length
  rw [DN,DH,List.length_replicate];omega
theorem uK {CX:ur} {P:Program} {w:World} {K:Dj} {mg:Str->Option Value} {base:Heap} {k:Nat} {f:Addr} {name qual:Str} {params:Arguments} {body:List Stmt} {scope:Scope} {dV kV doc pm cdv ct oc:Value} {an od:Option Addr}
  {osl:Array (Option Value)} {N ps:List Str} {sp:Sp} (lk:K.lookup f=some ⟨oc,od,.func (PySem.W.fnOf name qual params body scope dV kV doc pm an cdv ct),osl⟩) (hcd:PySem.W.codeIn K cdv qual=true) (S:aN N ps scope)
  (len:∀vs H Q E,sp vs H Q E->vs.length=ps.length)
  (hbody:∀(A:Around) (outer:List Env) (s:Shared) (H:Hp) (vs:List V) (Q:VK) (E:XK),bR k (A.deeper (envOfC qual scope s.heap.objs.size f cdv))->sp vs H Q E ->
   ∃t,rF (fH CX P w K mg base N qual scope f cdv A outer s H E) body t/\t { nx:=λ_ H'=>Q .non H',rt:=Q } (start N vs) H) :
  gM P w K mg base CX (k + 1) f (PySem.W.fnOf name qual params body scope dV kV doc pm an cdv ct) ps sp:=by
 refine⟨len,λA outer s H args us vs Q E hr e0 hb r hsp=>?_⟩;have hl:=len _ _ _ _ hsp;have KX:K.In s.heap:=e0.mod.kin.keeps λb o e=>(e0.bs b o e).1;have lim:s.heap.NoLimit:=e0.mod.nolimit.keeps λb o e=>(e0.bs b o e).1
 have hkind:∀y∈ps.zip us,scope.names.lookup y.1=some .local\/(scope.names.lookup y.1=some .cell/\((cellsFrom (s.heap.objs.size + 1) scope.names []).lookup y.1).isSome=true):=fun⟨n,v⟩ hy=>by
  rcases S.par n (List.of_mem_zip hy).1 with q|q
  ·exact .inl q
  ·exact .inr ⟨q,PySem.W.cellsFrom_some _ _ _ (.inl q)⟩
 refine codeAny_call_function hr.depth (KX _ _ lk) rfl S.co S.gen rfl (PySem.W.codeRec_of KX hcd) (hb _ _ _ _ ?_);refine wpAny_newFunctionEnv_cells S.kind hkind λenv he s1 x=>?_;subst he;refine⟨lim.keeps x.toInCall.keep,codeAny_func ?_⟩;obtain⟨t,ht,hq⟩:=hbody A outer s H vs Q E (hr.deeper _) hsp;have I:Inv (fH CX P w K mg base N qual scope f cdv A outer s H E) [] (start N vs) H s1:=sV S hr.hd e0 hl r x
 refine DK (ht [] s1 (start N vs) H _ I hq) (λfl s' hs=>?_) λe s' hs=>hs
 have fin:∀{σ':St} {H':Hp} {v:V} {u:Value},Inv (fH CX P w K mg base N qual scope f cdv A outer s H E) [] σ' H' s'->RelV v u->Q v H'->CE outer P w H s Q u s' :=
  λ{σ' H' v u} J rv q=>⟨v,H',J.os,J.bare,J.base,J.hok,rv,q⟩
 cases fl with
 | ret u =>
  obtain⟨v,σ',H',J,rv,q⟩:=hs
  exact fin J rv q
 | next =>
  obtain⟨σ',H',J,q⟩:=hs
  exact fin (v:=V.non) (u:=Value.none) J rfl q
 | brk =>
  obtain⟨_,_,_,q⟩:=hs
  exact False.elim q
 | cont =>
  obtain⟨_,_,_,q⟩:=hs;exact False.elim q
section
variable {X:Cx} {x:Str} {p pos:Pos} {e:Expr} {es:List Expr} {t:TA} {id T:String} {r:List V->Hp->VK->Prop}
def Cc (r:List V->Hp->VK->Prop) (t:TA):TE:=λσ H Q=>t σ H λvs H1=>r vs H1 Q
theorem pF (hc:dZ X (.builtin id) r) (hg:Gl X x) (hm:X.mg x=none) (hv:bootBuiltins x=some (.builtin id)) (ha:PA X (e :: es) t) (hn:x≠"__name__":=by decide) (hdb:(x == ("__debug__" : Str))=false:=by decide)
  (he:starEach (e :: es) X.env=(false,eval e X.env) :: starEach es X.env:=by rfl) (hpl:(backTo pos (starEach es X.env)).any (·.1)=false:=by rfl):PE X (.Call (.Name x p) (e :: es) [] pos) (Cc r t):=by
 intro pins s σ H Q I h;refine wpAny_Call_Name_kw (lZ I hg hm hv ?_ hn hdb);exact PyProof.Rows.callWith_builtin1 (bF (ha pos pins s σ H _ I h) λus s1 ⟨vs,H1,I1,r1,q1⟩=>hc pins s1 σ H1 vs us Q I1 r1 q1) he hpl
theorem um (hc:dZ X (.type T) r) (hg:Gl X x) (hm:X.mg x=none) (hv:bootBuiltins x=some (.type T)) (ha:PA X (e :: es) t) (hn:x≠"__name__":=by decide) (hdb:(x == ("__debug__" : Str))=false:=by decide)
  (he:starEach (e :: es) X.env=(false,eval e X.env) :: starEach es X.env:=by rfl) (hpl:(backTo pos (starEach es X.env)).any (·.1)=false:=by rfl):PE X (.Call (.Name x p) (e :: es) [] pos) (Cc r t):=by
 intro pins s σ H Q I h;refine wpAny_Call_Name_kw (lZ I hg hm hv ?_ hn hdb);exact PyProof.Rows.callWith_type1 (bF (ha pos pins s σ H _ I h) λus s1 ⟨vs,H1,I1,r1,q1⟩=>hc pins s1 σ H1 vs us Q I1 r1 q1) he hpl
end
end L2
namespace HT
open PySem PyProof.Rows
section
variable {prog:Program} {w:World} {A:Around} {E:Value->Shared->Prop} {s:Shared}
theorem wF {t b:Addr} {vs ws:List Value} {Q:Value->Shared->Prop} (ht:IsTup s.heap t vs.toArray) (hb:IsTup s.heap b ws.toArray) (hv:vs≠[])
  (h1:ws=[]->Q (.ref t) s) (h2:ws≠[]->Q (.ref s.heap.objs.size) { s with heap:=s.heap.push { cls:=.type "tuple",data:=.seq (vs ++ ws).toArray } })
  (hsz:vs.length + ws.length<=sizeLine):wpAny (model prog w) A (binaryOp .Add (.ref t) (.ref b)) Q E s:=by
 obtain⟨⟨cls,dd,data,sl⟩,ho,hc,n,hd⟩:=id ht;obtain⟨⟨cls2,dd2,data2,sl2⟩,ho2,hc2,n2,hd2⟩:=id hb;simp only at hc hd hc2 hd2;subst hc hd hc2 hd2;have e:vs.toArray ++ ws.toArray=(vs ++ ws).toArray:=by simp
 by_cases hw:ws=[]
 ·exact concat_meets ⟨_,ho,rfl⟩ ⟨_,ho2,rfl⟩ noFill_tuple_add seq_tuple_add PySem.F.slot_tuple_add PySem.F.entry_tuple_add (PySem.F.args_tuple_add_2 _ _)
   (tuple_addW1 t b vs.toArray ws.toArray n n2 dd dd2 sl sl2 (by simpa using hv) (by simp [hw])) ⟨ho,ho2,h1 hw⟩
 ·refine concat_meets ⟨_,ho,rfl⟩ ⟨_,ho2,rfl⟩ noFill_tuple_add seq_tuple_add PySem.F.slot_tuple_add PySem.F.entry_tuple_add (PySem.F.args_tuple_add_2 _ _)
   (tuple_addW2 t b vs.toArray ws.toArray n n2 dd dd2 sl sl2 (by simpa using hv) (by simpa using hw) (by rw [DE,DE];exact hsz)) ⟨ho,ho2,?_⟩
  rw [e];exact h2 hw
end
end HT
namespace L2
open PySem PySem.Spec PyProof.Rows
section
variable {X:Cx} {e:Expr} {te:TE} {lo hi:Option Expr} {tl th:TO} {pos p2:Pos}
def xY (K:Dj):R2:=λx y H Q=>∃a b xs ys,x=.ref a/\y=.ref b/\gZ K H a xs/\gZ K H b ys/\xs≠[]/\xs.length + ys.length<=sizeLine /\
 (ys=[]->Q (.ref a) H)/\(ys≠[]->∀p,H p=none->Q (.ref p) (upd H p (.tup (xs ++ ys))))
theorem Vals.nN {xs:List V} {us:List Value} (r:Vals xs us):us=[]↔xs=[]:=by
 cases r with
 | nil=>simp
 | cons _ _=>simp
theorem xt:iG X (binaryOp .Add) (xY X.K):=by
 intro pins s σ H x y v u Q I rx ry h;obtain⟨a,b,xs,ys,rfl,rfl,ha,hb,hx,hz,q1,q2⟩:=h;cases rx;cases ry;obtain⟨its,r1,p1,_⟩:=I.tuple ha;obtain⟨its2,r2,p2,_⟩:=I.tuple hb;refine HT.wF p1 p2 (λz=>hx (r1.nN.mp z)) (λz=>⟨.ref a,H,I,rfl,q1 (r2.nN.mp z)⟩) (λz=>?_) (by rw [<- r1.length,<- r2.length];exact hz);refine⟨.ref s.heap.objs.size,_,I.laid (t':=s.toks) (o:=.tup (xs ++ ys)) (λb ob q=>Dp _ q) (Du _) ?_,rfl,q2 (λw=>z (r2.nN.mpr w)) _ (I.hok.fresh (Du _))⟩
 exact⟨by rw [DN];exact hz,_,r1.append r2,qA.new _ _⟩
end
def wx (n:Nat) (i:Int):Option Nat:=if 0<=i then (if i < n then some i.toNat else none) else if -(n:Int)<=i then some (i + n).toNat else none
def iV {α:Type} (xs:List α) (i:Int):Option α:=(wx xs.length i).bind λj=>xs[j]?
theorem xg {n:Nat} {i:Int} {j:Nat} (h:wx n i=some j):seqIndex? i n=some j/\j < n/\-(n:Int)<=i/\i < n:=by
 unfold wx at h
 by_cases h0:0<=i
 ·rw [if_pos h0] at h
  by_cases h1:i < n
  ·rw [if_pos h1] at h;have e:i.toNat=j:=DA h;exact⟨by rw [seqIndex_of h0 h1,e],by omega,by omega,h1⟩
  ·rw [if_neg h1] at h;cases h
 ·rw [if_neg h0] at h
  by_cases h1:-(n:Int)<=i
  ·rw [if_pos h1] at h;have e:(i + n).toNat=j:=DA h;exact⟨by rw [seqIndex_neg (by omega) h1,e],by omega,h1,by omega⟩
  ·rw [if_neg h1] at h;cases h
theorem oM {α:Type} {xs:List α} {i:Int} {v:α} (h:iV xs i=some v):∃j,seqIndex? i xs.length=some j/\xs[j]?=some v/\j < xs.length/\-(xs.length:Int)<=i/\i < xs.length:=by
 unfold iV at h
 cases e:wx xs.length i with
 | none=>rw [e] at h;cases h
 | some j =>
  rw [e] at h;obtain⟨h1,h2,h3,h4⟩:=xg e;exact⟨j,h1,h,h2,h3,h4⟩
def oJ (b:Expr):Prop:=∀o i,subscripted b false o i=operate [o,i] (getItem o i)
def wD (X:Cx) (r:R2):Prop :=
 ∀(value slice:Expr) (pins:List (Addr×Obj)) (s:Shared) (σ:St) (H:Hp) (x y:V) (v u:Value) (Q:VK),Inv X pins σ H s->RelV x v->RelV y u->r x y H Q ->
  subscripted slice false v u=operate [v,u] (getItem v u)->wpAny (model X.prog X.w) X.A (subscriptTail value slice v u) (EP X pins σ Q) X.xe s
def CS (X:Cx) (id:String) (r:V->List V->Hp->VK->Prop):Prop :=
 ∀(pins:List (Addr×Obj)) (s:Shared) (σ:St) (H:Hp) (x:V) (xs:List V) (v:Value) (us:List Value) (Q:VK),Inv X pins σ H s->RelV x v->Vals xs us->r x xs H Q ->
  wpAny (model X.prog X.w) X.A (call (.builtin id) (v :: us)) (EP X pins σ Q) X.xe s
section
variable {X:Cx} {a b:Expr} {ta tb:TE} {pos:Pos}
theorem wD.or {r r':R2} (h:wD X r) (h':wD X r'):wD X (λx y H Q=>r x y H Q\/r' x y H Q):=by
 intro value slice pins s σ H x y v u Q I rx ry q hs;rcases q with q|q
 ·exact h value slice pins s σ H x y v u Q I rx ry q hs
 ·exact h' value slice pins s σ H x y v u Q I rx ry q hs
theorem yd {r:R2} (hr:wD X r) (ha:PE X a ta) (hb:PE X b tb) (hs:oJ b):PE X (.Subscript a b pos) (Av r ta tb):=by
 intro pins s σ H Q I h;exact Subscript_ (zF ha hb I h λv u s2 x y H2 I2 rx ry q=>hr a b pins s2 σ H2 x y v u Q I2 rx ry q (hs _ _))
def A5 (K:Dj):R2:=λx y H Q=>∃p xs i v,x=.ref p/\y=.int i/\eY K H p xs/\iV xs i=some v/\Q v H
def AS (K:Dj):R2:=λx y H Q=>∃p xs i v,x=.ref p/\y=.int i/\gZ K H p xs/\iV xs i=some v/\Q v H
def A6:R2:=λx y H Q=>∃z i c,x=.str z/\y=.int i/\z.length<=sizeLine/\iV z.cps.toList i=some c/\Q (.str ⟨#[c]⟩) H
theorem rY:wD X (A5 X.K):=by
 intro value slice pins s σ H x y v u Q I rx ry h hs;obtain⟨p,xs,i,z,rfl,rfl,hq,he,q⟩:=h;cases rx;obtain⟨t,rfl⟩:=ry;obtain⟨its,r,pl,hz⟩:=I.list hq;obtain⟨j,h1,h2,h3,h4,h5⟩:=oM he;obtain⟨w,ew,rw'⟩:=r.get h2;have hl:=r.length;have hn:=kG;have fin:EP X pins σ Q w s:=⟨z,H,I,rw',q⟩
 by_cases h0:0<=i
 ·have hj:i.toNat=j:=by
   rw [seqIndex_of h0 h5] at h1;exact DA h1
  exact item_listR pl.isList h0 (by omega) (by rw [hj];simpa using ew) fin hs
 ·have hj:(i + (its.toArray.size:Int)).toNat=j:=by
   rw [seqIndex_neg (by omega) h4] at h1;rw [DE,<- hl];exact DA h1
  exact subscriptTail_builtinR (x:=w) pl.isList.typeIs slot_list_getitem.lookup
   (wpAny_getItem_list_neg (Q:=λr s'=>r=w/\EP X pins σ Q r s') pl.isList (by omega) (by rw [DE] <;> omega) (by omega) (by rw [hj];simpa using ew) ⟨rfl,fin⟩) hs
theorem zT:wD X (AS X.K):=by
 intro value slice pins s σ H x y v u Q I rx ry h hs;obtain⟨p,xs,i,z,rfl,rfl,hq,he,q⟩:=h;cases rx;obtain⟨t,rfl⟩:=ry;obtain⟨its,r,pl,hz⟩:=I.tuple hq;obtain⟨j,h1,h2,h3,h4,h5⟩:=oM he;obtain⟨w,ew,rw'⟩:=r.get h2;have hl:=r.length;have hn:=kG;have fin:EP X pins σ Q w s:=⟨z,H,I,rw',q⟩
 exact subscriptTail_builtinR (x:=w) pl.typeIs slot_tuple_getitem.lookup
  (getItem_tuple (j:=j) (Q:=λr s'=>r=w/\EP X pins σ Q r s') pl (by omega) (by omega) (by rw [DE,<- hl];exact h1) (by simpa using ew) ⟨rfl,fin⟩) hs
theorem zY:wD X A6:=by
 intro value slice pins s σ H x y v u Q I rx ry h hs;obtain⟨z,i,c,rfl,rfl,hz,he,q⟩:=h;obtain⟨t,rfl⟩:=rx;obtain⟨t',rfl⟩:=ry;obtain⟨j,h1,h2,h3,h4,h5⟩:=oM he;have hl:z.cps.toList.length=z.length:=by simp [Str.length]
 rw [hl] at h1 h4 h5;have hn:=kG
 exact tail_any (typeIs_str s z t) slot_str_getitem.lookup (getItem_str (c:=c) (by
  have e1:decide (i < -(2 ^ 63:Int))=false:=decide_eq_false (by omega);have e2:decide (i≥2 ^ 63)=false:=decide_eq_false (by omega)
  rw [e1,e2,Bool.or_false]) (by rw [h1];simpa using h2) ⟨.str ⟨#[c]⟩,H,I.tok _,⟨_,rfl⟩,q⟩) hs
def CC (K:Dj):R2:=λx y H Q=>A5 K x y H Q\/AS K x y H Q\/A6 x y H Q
theorem yP:wD X (CC X.K):=rY.or (zT.or zY)
theorem ik:dZ X (.builtin "len") (λxs H Q=>∃p ys,xs=[.ref p]/\(eY X.K H p ys\/gZ X.K H p ys)/\Q (.int ys.length) H):=by
 intro pins s σ H xs us Q I r h;obtain⟨p,ys,rfl,hq,q⟩:=h;obtain⟨u,rfl,rx⟩:=vals1 r;cases rx;have hn:=kG;rcases hq with hq|hq
 ·obtain⟨its,r',pl,hz⟩:=I.list hq;have hlen:=r'.length;exact Calls.call_len_list pl.isList (by simp only [DE] <;> omega) ⟨.int ys.length,H,I.tok _,⟨s.toks + 1,by rw [DE,hlen]⟩,q⟩
 ·obtain⟨its,r',pl,hz⟩:=I.tuple hq;have hlen:=r'.length;exact len_tuple pl (by simp only [DE] <;> omega) ⟨.int ys.length,H,I.tok _,⟨s.toks + 1,by rw [DE,hlen]⟩,q⟩
theorem oa:dZ X (.builtin "len") (λxs H Q=>∃z,xs=[.str z]/\z.length<=sizeLine/\Q (.int z.length) H):=by
 intro pins s σ H xs us Q I r h;obtain⟨z,rfl,hz,q⟩:=h;obtain⟨u,rfl,t,rfl⟩:=vals1 r;have hn:=kG;exact len_str (by omega) ⟨.int z.length,H,I.tok _,⟨_,rfl⟩,q⟩
theorem dZ.or {f:Value} {r r':List V->Hp->VK->Prop} (h:dZ X f r) (h':dZ X f r'):dZ X f (λxs H Q=>r xs H Q\/r' xs H Q):=by
 intro pins s σ H xs us Q I rs q;rcases q with q|q
 ·exact h pins s σ H xs us Q I rs q
 ·exact h' pins s σ H xs us Q I rs q
theorem mq:dZ X (.type "tuple") (λxs H Q=>∃p ys,xs=[.ref p]/\((eY X.K H p ys/\∀l,H l=none->Q (.ref l) (upd H l (.tup ys)))\/(gZ X.K H p ys/\Q (.ref p) H))):=by
 intro pins s σ H xs us Q I r h;obtain⟨p,ys,rfl,h⟩:=h;obtain⟨u,rfl,rx⟩:=vals1 r;cases rx;rcases h with ⟨hq,q⟩|⟨hq,q⟩
 ·obtain⟨its,r',pl,hz⟩:=I.list hq;have hlen:=r'.length;refine call_tuple_list pl.isList (λh' kp=>?_) (by simp only [DE] <;> omega)
  have I1:Inv X pins σ H { s with heap:=h' }:=I.kept (t':=s.toks) kp
  have I2:Inv X pins σ (upd H h'.objs.size (.tup ys)) { s with heap:=h'.push { cls:=.type "tuple",data:=.seq its.toArray } } :=
   I1.laid (t':=s.toks) (λb o e=>Dp _ e) (Du _) (show bw X.prog X.w _ _ _ (.tup ys) from ⟨hz,its,r',qA.new _ _⟩)
  exact⟨.ref h'.objs.size,_,I2,rfl,q _ (I1.hok.fresh (Du _))⟩
 ·obtain⟨its,r',pl,hz⟩:=I.tuple hq;exact call_tuple_same pl ⟨.ref p,H,I,rfl,q⟩
def CD (K:Dj) (T:String) (x:V) (H:Hp):Prop:=match x with
 | .str _=>T = "str"
 | .int _=>T = "int"
 | .ref p=>(T = "list"/\∃xs,eY K H p xs)\/(T = "tuple"/\∃o,K.lookup p=some o/\o.cls=.type "tuple"/\o.dict=none) \/
   (T = "dict"/\((∃kvs,H p=some (.dK kvs))\/∃kvs,H p=some (.dT kvs)))\/(T = "set"/\∃S n,H p=some (.set S n))
 | _=>False
theorem zX {pins:List (Addr×Obj)} {σ:St} {H:Hp} {s:Shared} {T:String} {x:V} {v:Value} (I:Inv X pins σ H s) (r:RelV x v) (ty:CD X.K T x H) :
  s.TypeIs v T/\∀a,v=.ref a->∃ob,s.heap.get? a=some ob/\ob.dict=none:=by
 cases x with
 | str z =>
  obtain⟨t,rfl⟩:=r;cases (show T = "str" from ty)
  exact⟨typeIs_str s z t,λ_ e=>nomatch e⟩
 | int i =>
  obtain⟨t,rfl⟩:=r;cases (show T = "int" from ty)
  exact⟨typeIs_int s i t,λ_ e=>nomatch e⟩
 | ref p =>
  cases r;rcases ty with ⟨rfl,xs,hq⟩|⟨rfl,o,hk,hc,hd⟩|⟨rfl,hk⟩|⟨rfl,S,n,hk⟩
  ·obtain⟨its,_,pl,_⟩:=I.list hq;refine⟨pl.isList.typeIs,λa e=>?_⟩;cases e;obtain⟨o,n,e,c,hd,_⟩:=pl;exact⟨o,e,hd⟩
  ·refine⟨⟨o,I.r8 p o hk,hc⟩,λa e=>?_⟩;cases e;exact⟨o,I.r8 _ o hk,hd⟩
  ·have z:∃o,s.heap.get? p=some o/\o.ExactDict:=by
    rcases hk with ⟨kvs,hk⟩|⟨kvs,hk⟩
    ·obtain⟨_,_,_,_,o,_,_,e,ex,_⟩:=I.hok p _ hk;exact⟨o,e,ex⟩
    ·obtain⟨_,_,_,_,o,_,_,e,ex,_⟩:=I.hok p _ hk;exact⟨o,e,ex⟩
   obtain⟨o,e,ex⟩:=z;refine⟨⟨o,e,ex.1⟩,λa e2=>?_⟩;cases e2;exact⟨o,e,ex.2.1⟩
  ·obtain⟨o,_,_,_,e,ex,_⟩:=I.hok p _ hk;refine⟨⟨o,e,ex.1⟩,λa e2=>?_⟩;cases e2
   exact⟨o,e,ex.2.1⟩
 | _=>exact False.elim ty
def CN (K:Dj) (T:String) (r:V->List V->Hp->VK->Prop) (to:TE) (t:TA):TE:=λσ H Q=>to σ H λx H1=>CD K T x H1/\t σ H1 λxs H2=>r x xs H2 Q
variable {o e:Expr} {es:List Expr} {to:TE} {t:TA} {name:Str} {apos cpos:Pos} {T id:String} {r:V->List V->Hp->VK->Prop}
theorem Be (pa:PlainAttrs T) (slot:Slot T name id) (hty:typeOf (.builtin id)=pure (.type "method_descriptor")) (hm:CS X id r) (ho:PE X o to) (ha:PA X (e :: es) t)
  (hbase:attributeBase o name X.env (eval o X.env)=eval o X.env:=by rfl)
  (hfew:((backTo cpos (starEach (e :: es) X.env)).all (λx=>!x.1) && (backToKw cpos (keywordEach [] X.env)).all (λx=>x.1.isSome)
   && decide ((e :: es).length + ([]:List Keyword).length + (if ([]:List Keyword).isEmpty then 0 else 1) < 30))=true:=by rfl)
  (hline:(apos.endLine == cpos.line)=true:=by rfl) (hs:starEach (e :: es) X.env=(false,eval e X.env) :: starEach es X.env:=by rfl) (hplain:(backTo cpos (starEach es X.env)).any (·.1)=false:=by rfl) :
  PE X (.Call (.Attribute o name apos) (e :: es) [] cpos) (CN X.K T r to t):=by
 intro pins s σ H Q I h;refine wpAny_Call_method_late hbase hfew hline rfl (bF (ho pins s σ H _ I h) λv s1 hq0=>?_);obtain⟨x,H1,I1,r1,ty,q1⟩:=hq0;obtain⟨h1,h2⟩:=zX I1 r1 ty;refine⟨T,id,pa,slot,hty,h1,h2,?_⟩;have hA:=ha cpos pins s1 σ H1 _ I1 q1;rw [hs] at hA ⊢;refine Calls.callWith_builtin (by show (false || (backTo cpos (starEach es X.env)).any (·.1))=false;rw [hplain] <;> rfl) (Calls.evalArgs_plain ?_)
 exact bF hA λus s2 ⟨vs,H2,I2,r2,q2⟩=>hm pins s2 σ H2 x vs v us Q I2 r1 r2 q2
end
def CW (X:Cx) (id:String) (r:V->List V->Hp->VK->Prop):Prop :=
 ∀(pins:List (Addr×Obj)) (s:Shared) (σ:St) (H:Hp) (x:V) (xs:List V) (v:Value) (us:List Value) (Q:VK),Inv X pins σ H s->RelV x v->Vals xs us->r x xs H Q ->
  wpAny (model X.prog X.w) X.A (call (.builtin id) (v :: us)) (EP X pins σ Q) X.xe s
theorem Vals.one:∀{x:V} {us:List Value},Vals [x] us->∃u,us=[u]/\RelV x u
 | _,_,.cons r .nil=>⟨_,rfl,r⟩
section
variable {X:Cx} {pins:List (Addr×Obj)} {σ:St} {H:Hp} {s:Shared} {l b:Addr} {xs ys zs:List V}
theorem Inv.CA {its its':List Value} {n:Nat} {f:Array Value->Array Value} {t':Nat} (I:Inv X pins σ H s) (hH:H l=some (.lst xs))
  (e:s.heap.get? l=some { cls:=.type "list",data:=.seq its.toArray n }) (hf:f its.toArray=its'.toArray) (hv:Vals ys its') (hz:ys.length<=sizeLine) :
  Inv X pins σ (upd H l (.lst ys)) { s with heap:=s.heap.update l (Obj.mapSeq f),toks:=t' }:=by
 have q:=PySem.IsL.update e f;rw [hf] at q;refine I.write (x:=l) (e:=l) (by rw [hH];exact trivial) (.inl rfl) (λb' u hb hu=>(Heap.get?_update_other s.heap (Obj.mapSeq f) (Ne.symm hb)).trans hu) ⟨_,q⟩ ?_;exact⟨hz,its',_,hv,q⟩
theorem Inv.BY {its:List Value} {t':Nat} (I:Inv X pins σ H s) (hv:Vals ys its) (hz:ys.length<=sizeLine) :
  Inv X pins σ (upd H s.heap.objs.size (.lst ys)) { s with heap:=s.heap.push { cls:=.type "list",data:=.seq its.toArray },toks:=t' } :=
 I.laid (λ_ _ q=>Dp _ q) (Du _) ⟨hz,its,0,hv,DI _ rfl⟩
theorem Inv.fresh (I:Inv X pins σ H s):H s.heap.objs.size=none:=I.hok.fresh (Du _)
theorem Inv.Ci (I:Inv X pins σ H s) (hH:H l=some (.lst xs)):xs.length<=sizeLine/\∃(its:List Value) (n:Nat),Vals xs its/\xs.length=its.length/\s.heap.get? l=some { cls:=.type "list",data:=.seq its.toArray n }:=by
 obtain⟨z,its,n,r,e⟩:=I.hok l _ hH;exact⟨z,its,n,r,r.length,e⟩
end
section
variable {X:Cx}
def xC:V->List V->Hp->VK->Prop:=λx vs H Q=>∃l xs y,x=.ref l/\vs=[y]/\H l=some (.lst xs)/\xs.length < sizeLine/\Q .non (upd H l (.lst (xs ++ [y])))
theorem nj:CW X "list.append" xC:=by
 intro pins s σ H x vs v us Q I rx rv h;obtain⟨l,xs,y,rfl,rfl,hH,hz,q⟩:=h;cases rx;obtain⟨u,rfl,ru⟩:=rv.one;obtain⟨z,its,n,r,hl,e⟩:=I.Ci hH;refine call_meets F.slot_list_append ⟨_,e,rfl⟩ F.entry_list_append (F.args_list_append_2 _ _) (PySem.list_append l its.toArray n u (by rw [DE];omega)) ⟨e,?_⟩;refine⟨.non,_,I.CA (its':=its ++ [u]) hH e (by simp) (r.append (.cons ru .nil)) ?_,rfl,q⟩;rw [DN,List.length_singleton]
 omega
end
end L2
namespace Att
open PySem PySem.W PySem.Calls PyProof.Rows
theorem jG {P:Params} {h:Heap}:∀(ns:List Int) (vs:List Value),WellAll P h vs (ns.map WData.int)->IntsAre vs ns:=by
 intro ns
 induction ns with
 | nil =>
  intro vs w;rw [List.map_nil] at w;cases w
  exact .nil
 | cons n ns ih =>
  intro vs w;rw [DF] at w
  cases w with
  | cons a b =>
   cases a;exact .cons _ _ (ih _ b)
theorem tJ {l:OpenLaw} {n:Nat} (hn:l.most=some n) {P:Params} {h:Heap} {args:List WData} {vals:List Value}
  (hpre:l.row.toRowW.claim.pre args=true) (hwl:WellAll P h vals args) :
  ∃a vs ns,vals=[Value.ref a]/\args=[WData.list (ns.map WData.int)]/\h.get? a=some { cls:=.type "list",data:=.seq vs.toArray }/\IntsAre vs ns/\ns.length<=n:=by
 have hsh:WShape.hasAll [] args [.list .int]=true:=(pre_splitW hpre).1;have hc:l.pre.holds [] { args:=args }=true:=(pre_splitW hpre).2;obtain⟨d,r,rfl,h1,h2⟩:=hasAllW_cons hsh;obtain rfl:=hasAllW_nil h2;obtain⟨xs,rfl,h3⟩:=hasW_list h1;obtain⟨ns,rfl⟩:=items_int h3
 have hlen:ns.length<=n:=by
  unfold OpenLaw.pre at hc
  have h4:(WTm.not (.lt (.lit (.int (n:Int))) (.len (.arg 0)))).holds [] { args:=[.list (ns.map .int)] }=true:=by
   have h4:=(holds_andW hc).1;rw [hn] at h4;exact h4
  have h5:=condW_of h4 (w_not (w_lt w_lit (w_len_list (w_arg rfl))));rw [DH] at h5;refine Nat.le_of_not_lt λq=>?_;have q':(n:Int) < ((ns.length:Nat):Int):=by omega
  first
   | (rw [decide_eq_true q'] at h5;exact absurd h5 (by decide))
   | (simp at h5;omega)
 cases hwl with
 | cons w1 w2 =>
  cases w2
  cases w1 with
  | list ho hall=>exact⟨_,_,ns,rfl,rfl,ho,jG ns _ hall,hlen⟩
theorem tG (l:OpenLaw) (args:List WData):l.row.toRowW.claim.post args (.bool true) args=true :=
 postW_of (r:=l.row.toRowW) (X:=(true == true))
  (show WShape.has [] (.bool true) .bool=true by first|rfl|decide|simp [WShape.has,WShape.arms,WShape.armsAll])
  (show (WTm.eq .res (.lit (.bool true))).value [] { args:=args,res:=some (.bool true),after:=args }=some (.bool (true == true)) from w_eq_bool (w_res rfl) w_lit) rfl
theorem o4 {l:OpenLaw} {n:Nat} {q:Program} {loose:List Str} {XP:(Str->Option Value)->Heap->Prop} {YP:World->Heap->Prop} {d:DefRec}
  (hn:l.most=some n) (hdf:d.params.defaults=[])
  (call:∀(w:World) (s₀ s₁:Shared) (mg mb:Str->Option Value) (fa:Addr) (o:Obj) (pm cd doc:Value) (a:Addr) (vs:List Value) (ns:List Int),
   Ground q loose [] XP w s₀ mg mb s₁.heap->YP w s₁.heap ->
   s₁.heap.get? fa=some o->o.data=.func (docDef d.name d.params d.body d.scope pm cd doc)->s₁.heap.CodeRec cd d.name->mg d.name=some (.ref fa) ->
   s₁.heap.get? a=some { cls:=.type "list",data:=.seq vs.toArray }->IntsAre vs ns->ns.length<=n->s₁.gens=#[] ->
   codeAny (model l.prog w) callerA (.call (.ref fa) ⟨[.ref a],[]⟩) (λr s'=>r=.ok (.ret (.bool true))/\OldK s₁.heap s'.heap/\s'.os=s₁.os/\AllBare s'.gens) s₁) :
  WalkO q loose XP YP l.row.toRowW d [] (λf vs=>PySem.call f vs):=by
 intro w s₀ s₁ mg mb G Y fa o pm cd doc dV kV ho hd hcd hD hmg hg args vals as hpre hlay hrd hwl hlo;obtain rfl:dV=.none:=Dflts.none hD hdf;obtain rfl:kV=.none:=Dflts.noKw hD;obtain⟨a,vs,ns,rfl,rfl,hobj,hints,hlen⟩:=tJ hn hpre hwl;refine enter_call (codeAny_mono (call w s₀ s₁ mg mb fa o pm cd doc a vs ns G Y ho (fd_plain hd) hcd hmg hobj hints hlen hg) λr s' hq=>?_);obtain⟨rfl,h2,h3,h4⟩:=hq;exact⟨.inl ⟨.bool true,.bool true,[],rfl,λ_=>rfl,.bool true,tG l _,λ_=>⟨List.Pairwise.nil,λ_ hm=>(nomatch hm)⟩⟩,h2,h3,h4⟩
end Att
namespace L2
open PySem PySem.Spec PyProof.Rows
theorem nz:∀{vs:List Value} {ns:List Int},IntsAre vs ns->Vals (ns.map V.int) vs
 | _,_,.nil=>.nil
 | _,_,.cons n t h=>.cons ⟨t,rfl⟩ (nz h)
theorem wX {K:Dj} {b:Addr} {q:Str} (h:tq K b=some q):∃x c,(x,q)∈iJ/\PySem.W.tabIn K x=some (c,b):=by
 unfold tq at h
 cases e:iJ.find? λp=>match PySem.W.tabIn K p.1 with|some (_,P)=>P == b|none=>false with
 | none=>rw [e] at h;cases h
 | some p =>
  rw [e] at h;cases h;have m:=List.mem_of_find?_eq_some e;have z:=List.find?_some e;refine⟨p.1,?_⟩
  cases t:PySem.W.tabIn K p.1 with
  | none=>rw [t] at z;cases z
  | some r =>
   obtain⟨c,P⟩:=r;rw [t] at z;obtain rfl:P=b:=by simpa using z
   exact⟨c,m,rfl⟩
theorem uZ {P:Program} {w:World} {K:Dj} {mg mb:Str->Option Value} {CX:ur} {k:Nat} {fa a:Addr} {fd:FuncData} {x:Str} {sp:Sp} {s₁:Shared} {vs:List Value} {ns:List Int}
  (KX:K.In s₁.heap) (hns:s₁.heap.Ns mainGlobals mg) (hb:s₁.heap.Ns builtinsNs mb) (hbb:∀x:Str,x≠"__name__"->mb x=bootBuiltins x) (hlim:s₁.heap.NoLimit) (hg:s₁.gens=#[])
  (ha:s₁.heap.get? a=some { cls:=.type "list",data:=.seq vs.toArray }) (hi:IntsAre vs ns) (hl:ns.length<=sizeLine) (hr:bR k callerA)
  (hbm:∃bm ob,mg "__builtins__" = some (.ref bm)/\bm≠builtinsNs/\s₁.heap.get? bm=some ob/\ob.cls=.type "module"/\ob.dict=some builtinsNs/\ob.data=.plain)
  (hnt:PySem.W.noTabs K=true) (htb:∀x c b,x∈iJ.map (·.1)->PySem.W.tabIn K x=some (c,b)->PySem.W.CodeHd s₁.heap c b/\s₁.heap.get? b=some (PySem.W.tabObj #[]))
  (F:∀base:Heap,K.In base->base.Ns mainGlobals mg->gM P w K mg base CX k fa fd [x] sp) (hbind:∀(s:Shared) (u:Value),BindsTo s fd ⟨[u],[]⟩ [(x,u)])
  (hsp:∀H:Hp,eY K H a (ns.map V.int)->sp [.ref a] H (λv _=>v=.bl true) λ_ _ _=>False)
  (hCX:∀H e s',CX [] H s₁ (λ_ _ _=>False) e s'->False) :
  codeAny (model P w) callerA (.call (.ref fa) ⟨[.ref a],[]⟩) (λr s'=>r=.ok (.ret (.bool true))/\OldK s₁.heap s'.heap/\s'.os=s₁.os/\AllBare s'.gens) s₁:=by
 have rv:=nz hi;have lenV:=hi.length
 have tab:∀{b:Addr} {q:Str},tq K b=some q->(∃c,PySem.W.CodeHd s₁.heap c b)/\s₁.heap.get? b=some (PySem.W.tabObj #[]):=λ{b q} e=>by
  obtain⟨x,c,m,t⟩:=wX e;obtain⟨h1,h2⟩:=htb x c b (DB.mpr ⟨_,m,rfl⟩) t;exact⟨⟨c,h1⟩,h2⟩
 have notab:∀{b:Addr} {o:Obj} {q:Str},K.lookup b=some o->tq K b=some q->False:=λ{b o q} e z=>by
  have e2:=(tab z).2;rw [KX b o e] at e2;cases e2;have h2:=List.all_eq_true.mp hnt (b,_) (PySem.W.mem_of_lookupK e);exact absurd (show false=true from h2) Bool.false_ne_true
 have core:∀H:Hp,(∀b,(H b=none/\tq K b=none)\/(∃o xs,H b=some (.frz o (.lst xs))/\b=a/\tq K b=none)\/∃q,H b=some (.mw q)/\tq K b=some q)->eY K H a (ns.map V.int)->gC P w H s₁.heap->(H a≠none->K.lookup a=none) ->
   codeAny (model P w) callerA (.call (.ref fa) ⟨[.ref a],[]⟩) (λr s'=>r=.ok (.ret (.bool true))/\OldK s₁.heap s'.heap/\s'.os=s₁.os/\AllBare s'.gens) s₁:=by
  intro H hO hS hok hK;have base_of:∀{b:Addr} {o:Obj},s₁.heap.get? b=some o->H b=none->(nS s₁.heap H).get? b=some o:=λe n=>vY e n
  have noA:∀{b:Addr} {o:Obj} {es:Array DictEntry} {ep:Nat},s₁.heap.get? b=some o->o.data=.dict es ep->H b=none:=λ{b o es ep} e d=>by
   rcases hO b with z|⟨_,_,_,rfl,_⟩|⟨q,z,t⟩
   ·exact z.1
   ·rw [ha] at e;cases e;have d':Data.seq vs.toArray _=Data.dict es ep:=d;cases d'
   ·rw [(tab t).2] at e;cases e;have d':Data.fields #[]=Data.dict es ep:=d;cases d'
  have nsK:∀{b:Addr} {m:Str->Option Value},s₁.heap.Ns b m->(nS s₁.heap H).Ns b m:=λ{b m} ⟨o,es,ep,e,d,r⟩=>⟨o,es,ep,base_of e (noA e d),d,r⟩
  have hKb:K.In (nS s₁.heap H):=λb o e=>base_of (KX b o e) (by
   rcases hO b with z|⟨_,_,z,rfl,_⟩|⟨q,z,t⟩
   ·exact z.1
   ·rw [hK (by rw [z];simp)] at e;cases e
   ·exact (notab e t).elim)
  have hM:Mod K mg (nS s₁.heap H):=⟨hKb,nsK hns,⟨mb,nsK hb,hbb⟩,let ⟨mc,h1,h2⟩:=hlim;⟨mc,nsK h1,h2⟩,by
   obtain⟨bm,ob,b1,b2,b3,b4,b5⟩:=hbm;refine⟨bm,ob,b1,b2,base_of b3 ?_,b4,b5⟩;rcases hO bm with z|⟨_,_,_,rfl,_⟩|⟨q,z,t⟩
   ·exact z.1
   ·rw [ha] at b3;cases b3;simp at b4
   ·rw [(tab t).2] at b3;cases b3;simp at b4⟩
  have hTb:xk K H:=λb q e=>by
   rcases hO b with z|⟨_,_,_,_,z⟩|⟨q',z,t⟩
   ·rw [z.2] at e;cases e
   ·rw [z] at e;cases e
   ·rw [t] at e;cases e;exact z
  have e0:rD P w K mg (nS s₁.heap H) callerA [] s₁ H:=⟨rfl,hM,λb o e=>wH e,Nat.le_of_eq (uo _ _),trivial,⟨λb hb=>absurd (show b∈([]:List Addr) from hb) (by simp),hTb⟩,hok,.of_eq hg⟩;refine codeAny_mono ((F _ hKb (nsK hns)).run callerA [] s₁ H ⟨[.ref a],[]⟩ [.ref a] [.ref a] _ _ hr e0 (hbind s₁ (.ref a)) (.cons rfl .nil) (hsp H hS)) λr s' h=>?_
  cases r with
  | error e=>exact (hCX H e s' h).elim
  | ok fl =>
   cases fl with
   | next=>exact False.elim h
   | brk=>exact False.elim h
   | cont=>exact False.elim h
   | ret u =>
    obtain⟨v,H',os,bare,un,hok',r',q⟩:=h;have q':v=.bl true:=q;subst q';obtain rfl:u=Value.bool true:=r'
    have look:∀b o,s₁.heap.get? b=some o->s'.heap.get? b=some o\/(isCodeTable s₁.heap b/\o=PySem.W.tabObj #[]/\∃ps,s'.heap.get? b=some (PySem.W.tabObj ps)):=λb o e=>by
     rcases hO b with z|⟨ob,xs,z,rfl,_⟩|⟨q,z,t⟩
     ·exact .inl (un.keep b o e z.1 (by intro z;exact absurd (show b∈([]:List Addr) from z) (by simp)) (by simp))
     ·have z2:=un.frzs _ ob _ z;obtain⟨e1,_⟩:=hok _ _ z;obtain⟨e2,_⟩:=hok' _ _ z2;rw [e] at e1;cases e1;exact .inl e2
     ·obtain⟨⟨c,hc⟩,e1⟩:=tab t;obtain⟨ps,e2,_⟩:=hok' b _ (un.tbls b q z);rw [e] at e1;cases e1;exact .inr ⟨(hc.tab e).isCodeTable,rfl,ps,e2⟩
    refine⟨rfl,⟨λb o e=>?_,λb o e=>?_⟩,os,bare⟩
    ·rcases look b o e with z|⟨t,rfl,ps,z⟩
     ·exact .inl z
     ·exact .inr (.inl ⟨t,rfl,#[],ps,rfl,by rw [Array.empty_append];exact z⟩)
    ·rcases look b o e with z|⟨t,rfl,ps,z⟩
     ·exact⟨o,z⟩
     ·exact⟨_,z⟩
 have aTab:tq K a=none:=by
  cases e:tq K a with
  | none=>rfl
  | some q=>have z:=(tab e).2;rw [ha] at z;cases z
 have tblOk:∀(H:Hp) {b:Addr} {q:Str},tq K b=some q->bw P w H s₁.heap b (.mw q):=λH {b q} e=>⟨#[],(tab e).2,trivial,λpos cv z=>by cases z⟩
 cases hk:K.lookup a with
 | some o =>
  have e:=KX a o hk;rw [ha] at e;cases e;refine core (λb=>(tq K b).map HO.mw) (λb=>?_) (.inr ⟨_,vs.toArray,_,hk,rfl,rfl,rfl,by rw [DE,lenV];exact hl,by simpa using rv⟩) (λb u z=>?_) λz=>absurd (by show (tq K a).map HO.mw=none;rw [aTab];rfl) z
  ·cases e:tq K b with
   | none=>exact .inl ⟨by rw [Option.map_none],rfl⟩
   | some q=>exact .inr (.inr ⟨q,by rw [Option.map_some],rfl⟩)
  ·have z':(tq K b).map HO.mw=some u:=z
   cases e:tq K b with
   | none=>rw [e] at z';cases z'
   | some q=>rw [e] at z';cases z';exact tblOk _ e
 | none =>
  refine core (λb=>if b=a then some (.frz { cls:=.type "list",data:=.seq vs.toArray } (.lst (ns.map V.int))) else (tq K b).map HO.mw) (λb=>?_) (.inl (.inr ⟨{ cls:=.type "list",data:=.seq vs.toArray },if_pos rfl⟩)) (λb u z=>?_) λ_=>hk
  ·by_cases hb:b=a
   ·exact .inr (.inl ⟨_,_,if_pos hb,hb,by rw [hb];exact aTab⟩)
   ·cases e:tq K b with
    | none=>exact .inl ⟨by rw [if_neg hb,Option.map_none],rfl⟩
    | some q=>exact .inr (.inr ⟨q,by rw [if_neg hb,Option.map_some],rfl⟩)
  ·by_cases hb:b=a
   ·have z':=(if_pos hb).symm.trans z;cases z';subst hb;exact⟨ha,by rw [DH];exact hl,vs,_,rv,ha⟩
   ·have z':=(if_neg hb).symm.trans z
    cases e:tq K b with
    | none=>rw [e] at z';cases z'
    | some q=>rw [e] at z';cases z';exact tblOk _ e
theorem xa {l:PySem.W.OpenLaw} {n k:Nat} {q:Program} {loose:List Str} {XP:(Str->Option Value)->Heap->Prop} {YP:World->Heap->Prop} {d:DefRec} {K:Params->Dj} {CX:World->ur} {sp:World->Sp} {x:Str}
  (hn:l.most=some n) (hn2:n<=sizeLine) (hdf:d.params.defaults=[]) (hr:bR k callerA)
  (hnt:∀w:World,PySem.W.noTabs (K w.params)=true) (hrc:∀w:World,iJ.all (λp=>(PySem.W.tabIn (K w.params) p.1).isNone || ((recsOf q).find? λe=>e.name == p.1).isSome)=true)
  (hY:∀(w:World) (h:Heap),YP w h->(K w.params).In h)
  (F:∀(w:World) (mg:Str->Option Value) (fa:Addr) (h:Heap),(K w.params).In h->h.Ns mainGlobals mg->mg d.name=some (.ref fa) ->
   ∃fd:FuncData,(∀(s:Shared) (u:Value),BindsTo s fd ⟨[u],[]⟩ [(x,u)]) /\
    ∀base:Heap,(K w.params).In base->base.Ns mainGlobals mg->gM l.prog w (K w.params) mg base (CX w) k fa fd [x] (sp w))
  (hsp:∀(w:World) (H:Hp) (a:Addr) (ns:List Int),ns.length<=n->eY (K w.params) H a (ns.map V.int)->sp w [.ref a] H (λv _=>v=.bl true) λ_ _ _=>False)
  (hCX:∀(w:World) (H:Hp) (s:Shared) (e:Value) (s':Shared),CX w [] H s (λ_ _ _=>False) e s'->False) :
  PySem.W.WalkO q loose XP YP l.row.toRowW d [] (λf vs=>PySem.call f vs):=by
 refine Att.o4 hn hdf λw s₀ s₁ mg mb fa o pm cd doc a vs ns G Y ho hd hcd hmg hobj hints hlen hg=>?_;have KX:=hY w _ Y;obtain⟨fd,hb,hF⟩:=F w mg fa _ KX G.T.g hmg;refine uZ KX G.T.g G.T.b G.T.builtins G.T.nolimit hg hobj hints (Ej hlen hn2) hr G.T.bmain (hnt w) (λx c b hx ht=>?_) hF hb (λH hS=>hsp w H a ns hlen hS) λH e s'=>hCX w H s₁ e s';obtain⟨p,hp,rfl⟩:=DB.mp hx;have z:=List.all_eq_true.mp (hrc w) p hp
 rw [ht] at z;have z2:((recsOf q).find? λe=>e.name == p.1).isSome=true:=by simpa using z
 obtain⟨dd,hd'⟩:=Option.isSome_iff_exists.mp z2;exact PySem.W.tab_of G.T KX hd' ht
def cJ (s:Stmt):Arguments:=match s with
 | .FunctionDef _ a _ _ _ _ _ _ _ _=>a
 | _=>{ posonlyargs:=[],args:=[],vararg:=none,kwonlyargs:=[],kw_defaults:=[],kwarg:=none,defaults:=[] }
def aX (s:Stmt):List Stmt:=match s with
 | .FunctionDef _ _ b _ _ _ _ _ _ _=>b
 | _=>[]
def ak (s:Stmt):Scope:=match s with
 | .FunctionDef _ _ _ _ _ _ sc _ _ _=>sc
 | _=>{ kind:=.function,names:=[],isGenerator:=false,isCoroutine:=false }
abbrev qS:ur:=λ_ _ _ _ _ _=>False
abbrev E0:XK:=λ_ _ _=>False
theorem Bf {X:Cx}:Passes qS X E0:=λ_ _ _ _ _ _ _ h=>h.elim
structure l8 (K:Dj) (x qual:Str) (st:Stmt) (f:Addr) (fd:FuncData):Prop where
 ex:∃(oc:Value) (od:Option Addr) (kV doc pm:Value) (an:Option Addr) (cdv ct:Value) (osl:Array (Option Value)),
  fd=PySem.W.fnOf x qual (cJ st) (aX st) (ak st) .none kV doc pm an cdv ct/\K.lookup f=some ⟨oc,od,.func fd,osl⟩/\PySem.W.codeIn K cdv qual=true
 kp:PySem.W.keepIn K (.ref f)=true
section
variable {P:Program} {w:World} {K:Dj} {mg:Str->Option Value} {base:Heap}
theorem l8.ok {x qual:Str} {st:Stmt} {f:Addr} {fd:FuncData} {N ps:List Str} {k:Nat} {sp:Sp} (F:l8 K x qual st f fd) (S:aN N ps (ak st)) (len:∀vs H Q E,sp vs H Q E->vs.length=ps.length)
  (hbody:∀(cdv:Value) (A:Around) (outer:List Env) (s:Shared) (H:Hp) (vs:List V) (Q:VK) (E:XK),bR k (A.deeper (envOfC qual (ak st) s.heap.objs.size f cdv))->sp vs H Q E ->
   ∃t,rF (fH qS P w K mg base N qual (ak st) f cdv A outer s H E).l5 (aX st) t/\t { nx:=λ_ H'=>Q .non H',rt:=Q } (start N vs) H):gM P w K mg base qS (k + 1) f fd ps sp:=by
 obtain⟨oc,od,kV,doc,pm,an,cdv,ct,osl,rfl,lk,hcd⟩:=F.ex;refine uK lk hcd S len λA outer s H vs Q E hr hsp=>?_;obtain⟨t,h,q⟩:=hbody cdv A outer s H vs Q E hr hsp;exact⟨t,h.l5,q⟩
theorem l8.binds {x qual:Str} {st:Stmt} {f:Addr} {fd:FuncData} {ps:List Str} (F:l8 K x qual st f fd)
  (h:∀(kV doc pm:Value) (an:Option Addr) (cdv ct:Value) (us:List Value),us.length=ps.length->bindArgs (PySem.W.fnOf x qual (cJ st) (aX st) (ak st) .none kV doc pm an cdv ct) ⟨us,[]⟩=pure (ps.zip us)):Binds K fd ps []:=by
 obtain⟨oc,od,kV,doc,pm,an,cdv,ct,osl,rfl,lk,hcd⟩:=F.ex;exact .all (h kV doc pm an cdv ct)
theorem qY {x qual:Str} {st:Stmt} {f:Addr} {oc:Value} {od an:Option Addr} {osl:Array (Option Value)} {kV doc pm cdv ct:Value} (l:K.lookup f=some ⟨oc,od,.func (PySem.W.fnOf x qual (cJ st) (aX st) (ak st) .none kV doc pm an cdv ct),osl⟩)
  (c:PySem.W.codeIn K cdv qual=true) (k:PySem.W.keepIn K (.ref f)=true):l8 K x qual st f (PySem.W.fnOf x qual (cJ st) (aX st) (ak st) .none kV doc pm an cdv ct):=⟨⟨oc,od,kV,doc,pm,an,cdv,ct,osl,rfl,l,c⟩,k⟩
end
def ah (H H':Hp):Prop:=∀b o,H b=some o->H' b=some o
theorem ah.refl (H:Hp):ah H H:=λ_ _ h=>h
theorem ah.trans {H H1 H2:Hp} (a:ah H H1) (b:ah H1 H2):ah H H2:=λc o h=>b c o (a c o h)
theorem ah.free {H H':Hp} (e:ah H H') {l:Addr} (h:H' l=Option.none):H l=Option.none:=by
 cases q:H l with
 | none=>rfl
 | some o =>
  rw [e l o q] at h;cases h
theorem ah.seq {K:Dj} {H H':Hp} {a:Addr} {xs:List V} (e:ah H H') (h:eY K H a xs):eY K H' a xs:=by
 rcases h with (h|⟨o,h⟩)|h
 ·exact .inl (.inl (e _ _ h))
 ·exact .inl (.inr ⟨o,e _ _ h⟩)
 ·exact .inr h
end L2
set_option maxHeartbeats 8000000
namespace L2
open PySem PySem.Spec PyProof.Rows
section
variable {κ:Type} [DecidableEq κ]
def g9 (kvs:List (κ×V)) (k:κ):Option V:=(kvs.find? λkv=>decide (kv.1=k)).map (·.2)
def putK (kvs:List (κ×V)) (k:κ) (v:V):List (κ×V) :=
 if (kvs.any λkv=>decide (kv.1=k))=true then kvs.map (λkv=>if kv.1=k then (kv.1,v) else kv) else kvs ++ [(k,v)]
theorem il {p:κ×V} {r:List (κ×V)} {k:κ} (e:p.1=k):g9 (p :: r) k=some p.2:=by simp [g9,List.find?_cons,e]
theorem iy {p:κ×V} {r:List (κ×V)} {k:κ} (e:¬ p.1=k):g9 (p :: r) k=g9 r k:=by simp [g9,List.find?_cons,e]
theorem kP (k:κ):∀kvs:List (κ×V),(kvs.any λkv=>decide (kv.1=k))=(g9 kvs k).isSome
 | []=>rfl
 | p :: r=>by
  rw [List.any_cons]
  by_cases e:p.1=k
  ·simp only [il e,decide_eq_true e,Bool.true_or,Option.isSome_some]
  ·rw [iy e,decide_eq_false e,Bool.false_or];exact kP k r
theorem p8 (kvs:List (κ×V)) (k:κ) (v:V):(putK kvs k v).length<=kvs.length + 1:=by
 unfold putK
 split
 ·rw [DH];omega
 ·rw [DN,DV,Ec];omega
theorem vh {kvs:List (κ×V)} {k:κ} (v:V) (h:g9 kvs k=none):putK kvs k v=kvs ++ [(k,v)]:=by
 unfold putK;rw [kP,h];exact if_neg (by decide)
theorem KV.val {kvs:List (κ×V)} {vs:List (κ×Value)} (r:KV kvs vs) (k:κ):qo (g9 kvs k) (valueAt vs k):=by
 unfold KV at r
 induction r with
 | nil=>exact True.intro
 | @cons p q ps qs h t ih =>
  obtain⟨h1,h2⟩:=h
  by_cases e:p.1=k
  ·have e':q.1=k:=h1.symm.trans e;have b:valueAt (q :: qs) k=some q.2:=by simp [valueAt,List.find?_cons,e']
   rw [il e,b];exact h2
  ·have e':¬ q.1=k:=λz=>e (h1.trans z);have b:valueAt (q :: qs) k=valueAt qs k:=by simp [valueAt,List.find?_cons,e']
   rw [iy e,b];exact ih
theorem KV.any {kvs:List (κ×V)} {vs:List (κ×Value)} (r:KV kvs vs) (k:κ):(kvs.any λkv=>decide (kv.1=k))=vs.any λkv=>decide (kv.1=k):=by
 unfold KV at r
 induction r with
 | nil=>rfl
 | cons h t ih=>rw [List.any_cons,List.any_cons,ih,h.1]
theorem KV.Cy {kvs:List (κ×V)} {vs:List (κ×Value)} (r:KV kvs vs) (k:κ) {y:V} {u:Value} (ry:RelV y u) :
  KV (kvs.map λkv=>if kv.1=k then (kv.1,y) else kv) (vs.map λkv=>if kv.1=k then (kv.1,u) else kv):=by
 unfold KV at r ⊢
 induction r with
 | nil=>exact .nil
 | @cons p q ps qs h t ih =>
  rw [DF,DF];refine .cons ?_ ih;obtain⟨h1,h2⟩:=h
  by_cases e:p.1=k
  ·rw [if_pos e,if_pos (h1.symm.trans e)];exact⟨h1,ry⟩
  ·rw [if_neg e,if_neg (λz=>e (h1.trans z))];exact⟨h1,h2⟩
theorem KV.put {kvs:List (κ×V)} {vs:List (κ×Value)} (r:KV kvs vs) (k:κ) {y:V} {u:Value} (ry:RelV y u):KV (putK kvs k y) (stored vs k u):=by
 unfold putK stored;rw [r.any k]
 by_cases e:(vs.any λkv=>decide (kv.1=k))=true
 ·rw [if_pos e,if_pos e];exact r.Cy k ry
 ·rw [if_neg e,if_neg e];exact Paired.snoc r ⟨rfl,ry⟩
theorem KV.length {kvs:List (κ×V)} {vs:List (κ×Value)} (r:KV kvs vs):kvs.length=vs.length:=Paired.length r
end
theorem vP {P:Program} {w:World} {k:Key} {u:Value} (r:RelV (kV k) u):(bg P w).is k u=true:=by
 cases k with
 | inl i=>obtain⟨t,e⟩:=(show ∃t,u=Value.int i t from r);subst e;exact qt P w i t
 | inr x=>obtain⟨t,e⟩:=(show ∃t,u=Value.str x t from r);subst e;exact qe P w x t
theorem nu {P:Program} {w:World}:∀{ks:List Key} {us:List Value},Vals (ks.map kV) us->ItemsAre (bg P w) ks us
 | [],_,r=>by rw [List.map_nil] at r;cases r;exact .nil
 | k :: ks,_,r=>by
  rw [DF] at r
  cases r with
  | cons h t=>exact .cons (vP h) (nu t)
abbrev KT (H:Hp):List (List Key×V)->List (List Key×Addr×Value)->Prop:=Paired λp q=>p.1=q.1/\H q.2.1=some (.tup (p.1.map kV))/\RelV p.2 q.2.2
theorem KT.val {H:Hp} {kvs:List (List Key×V)} {xs:List (List Key×Addr×Value)} (r:KT H kvs xs) (k:List Key):qo (g9 kvs k) ((atKey xs k).map (·.2)):=by
 induction r with
 | nil=>exact True.intro
 | @cons p q ps qs h t ih =>
  obtain⟨h1,_,h2⟩:=h
  by_cases e:p.1=k
  ·have e':q.1=k:=h1.symm.trans e;have b:atKey (q :: qs) k=some q.2:=by simp [atKey,List.find?_cons,e']
   rw [il e,b];exact h2
  ·have e':¬ q.1=k:=λz=>e (h1.trans z);have b:atKey (q :: qs) k=atKey qs k:=by simp [atKey,List.find?_cons,e']
   rw [iy e,b];exact ih
section
variable {P:Program} {w:World} {H:Hp} {h:Heap} {a:Addr}
theorem xR {u:HO} (ok:gC P w H h) (e:Rd H a u):bw P w H h a u:=e.ok ok
theorem va {kvs:List (Key×V)} (ok:gC P w H h) (e:Rd H a (.dK kvs)):kvs.length<=sizeLine/\(a == sysModules)=false/\∃vs,KV kvs vs/\h.DictOf (bg P w) a vs :=
 show bw P w H h a (.dK kvs) from xR ok e
theorem BE {kvs:List (Key×V)} (ok:gC P w H h) (e:H a=some (.dK kvs)):kvs.length<=sizeLine/\(a == sysModules)=false/\∃vs,KV kvs vs/\h.DictOf (bg P w) a vs:=va ok (.inl e)
theorem vW {ks:List Key} (ok:gC P w H h) (e:H a=some (.tup (ks.map kV))):(tupleKind (bg P w)).is h ks a:=by
 obtain⟨_,its,r,o,h1,h2,⟨n,h3⟩,_⟩:=(show bw P w H h a (.tup (ks.map kV)) from ok a _ e);exact⟨o,its.toArray,n,h1,h2,h3,by simpa using nu r⟩
theorem yh {kvs:List (List Key×V)} (ok:gC P w H h) (e:Rd H a (.dT kvs)):kvs.length<=sizeLine/\(a == sysModules)=false /\
  ∃xs,KT H kvs xs/\h.DictOfH (tupleKind (bg P w)) a xs:=by
 obtain⟨z,y,xs,r,o,es,ep,h1,h2,h3,h4,h5⟩:=(show bw P w H h a (.dT kvs) from xR ok e);refine⟨z,y,xs,r,o,es,ep,h1,h2,h3,h4,λx hx=>?_,h5⟩
 have all:∀{l:List (List Key×V)} {m:List (List Key×Addr×Value)},KT H l m->∀x∈m,(tupleKind (bg P w)).is h x.1 x.2.1:=by
  intro l m q
  induction q with
  | nil=>intro x hx;exact nomatch hx
  | @cons p q ps qs hq t ih =>
   intro x hx;rcases DD.mp hx with e|hx
   ·subst e;exact vW ok (by rw [<- hq.1];exact hq.2.1)
   ·exact ih x hx
 exact all r x hx
end
def uE (H:Hp) (a:Addr) (y:V) (r:Option V):Prop :=
 (∃kvs k,Rd H a (.dK kvs)/\y=kV k/\r=g9 kvs k)\/∃kvs k b,Rd H a (.dT kvs)/\y=.ref b/\H b=some (.tup (k.map kV))/\r=g9 kvs k
theorem uE.k {H:Hp} {a:Addr} {kvs:List (Key×V)} {k:Key} (e:H a=some (.dK kvs)):uE H a (kV k) (g9 kvs k):=.inl ⟨kvs,k,.inl e,rfl,rfl⟩
section
variable {X:Cx} {pins:List (Addr×Obj)} {σ:St} {H:Hp} {s:Shared} {a:Addr} {y v:V} {u r:Value} {o:Option V} {A:Around} {E:Value->Shared->Prop}
theorem Inv.big (I:Inv X pins σ H s):sysModules < s.heap.objs.size:=by
 have h:mainGlobals < s.heap.objs.size:=(I.mod.glob.keeps I.bk).lt;exact Nat.lt_trans (by decide) h
theorem tW {Q:Value->Shared->Prop} (hu:A.units + 1 < cLine) (I:Inv X pins σ H s) (g:uE H a y (some v)) (ry:RelV y u) (h:∀w' s',Inv X pins σ H s'->RelV v w'->Q w' s') :
  wpAny (model X.prog X.w) A (getItem (.ref a) u) Q E s:=by
 rcases g with ⟨kvs,k,e,ey,l⟩|⟨kvs,k,b,e,ey,eb,l⟩
 ·subst ey;obtain⟨z,hd,vs,rel,dd⟩:=va I.hok e;obtain⟨w',hw,rw'⟩:=qo.some_of (v:=v) (o:=valueAt vs k) (by rw [l];exact rel.val k);exact wpAny_getItem_of (vP ry) dd.mapOf hw (h w' _ (I.tok _) rw')
 ·subst ey;cases (show u=Value.ref b from ry);obtain⟨z,hd,xs,rel,dd⟩:=yh I.hok e;obtain⟨w',hw,rw'⟩:=qo.some_of (v:=v) (o:=(atKey xs k).map (·.2)) (by rw [l];exact rel.val k);obtain⟨p,hp,hp2⟩:=DP.mp hw;refine wpAny_getItem_heap (tupleKind_room_in1 hu) (vW I.hok eb) dd hp ?_;rw [hp2];exact h w' _ (I.tok _) rw'
theorem gb {h':Heap} {t':Nat} {ob:HO} (I:Inv X pins σ H s) (mu:A2 (H a)) (hs:Heap.SameBut a s.heap h') (he:∃q,h'.get? a=some q) (new:bw X.prog X.w (upd H a ob) h' a ob) :
  Inv X pins σ (upd H a ob) { s with heap:=h',toks:=t' } :=
 I.write (x:=a) (e:=a) mu (.inl rfl) (λb q hb z=>(hs.2 b hb).trans z) he new
theorem zu {P:Program} {w:World} {H':Hp} {h':Heap} {kvs:List (Key×V)} {vs:List (Key×Value)} (z:kvs.length<=sizeLine) (hd:(a == sysModules)=false) (rel:KV kvs vs) (dd:h'.DictOf (bg P w) a vs) :
  bw P w H' h' a (.dK kvs):=⟨z,hd,vs,rel,dd⟩
end
def tu (i:Expr):Prop:=∀ov iv,subscripted i false ov iv=operate [ov,iv] (getItem ov iv)
theorem r9 {prog:Program} {w:World} {A:Around} {E:Value->Shared->Prop} {s:Shared} {env:Env} {value slice:Expr} {pos:Pos} {T id:String} {Q:Value->Shared->Prop}
  (hl:typeLookup (.type T) "__getitem__" = pure (some (.builtin id))) (hs:tu slice)
  (h:wpAny (model prog w) A (eval value env) (λo s₁=>wpAny (model prog w) A (eval slice env) (λi s₂=>s₂.TypeIs o T/\wpAny (model prog w) A (getItem o i) Q E s₂) E s₁) E s) :
  wpAny (model prog w) A (eval (.Subscript value slice pos) env) Q E s:=by
 refine Subscript_ (DK h (λo s₁ h₁=>DK h₁ (λi s₂ h₂=>?_) λ_ _ x=>x) λ_ _ x=>x);obtain⟨hT,h₂⟩:=h₂;unfold subscriptTail;refine Dk ?_;rw [getitemInPython_of_ne hT.not_modules];refine Dk (wpAny_specialOf hT hl ?_)
 have fin:wpAny (model prog w) A (subscripted slice false o i) (λr s₃=>wpAny (model prog w) A (letTemporaryGo value o r >>= λ_=>pure r) Q E s₃) E s₂:=by
  rw [hs o i];exact wpAny_operating (DK h₂ (λr s₃ h₃=>Dk (wpAny_letTemporaryGo (Ds h₃))) λ_ _ x=>x)
 first
  | exact Ds (Dk fin)
  | exact Dk (Ds (Dk fin))
  | exact Dk fin
theorem qb {X:Cx} {pins:List (Addr×Obj)} {σ:St} {H:Hp} {s:Shared} {a:Addr} {y:V} {o:Option V} (I:Inv X pins σ H s) (g:uE H a y o):s.TypeIs (.ref a) "dict":=by
 rcases g with ⟨kvs,k,e,_,_⟩|⟨kvs,k,b,e,_,_,_⟩
 ·obtain⟨_,_,vs,_,dd⟩:=va I.hok e;exact dd.typeIs
 ·obtain⟨_,_,xs,_,dd⟩:=yh I.hok e;exact dd.typeIs
def Bs (td ty:TE):TE:=λσ H Q=>td σ H λx H1=>ty σ H1 λy H2=>∃a v,x=.ref a/\uE H2 a y (some v)/\Q v H2
section
variable {X:Cx} {o i e value:Expr} {pos pos' tpos:Pos} {td ty tv:TE}
theorem xI (hu:X.A.units + 1 < cLine) (ho:PE X o td) (hi:PE X i ty) (hs:tu i):PE X (.Subscript o i pos) (Bs td ty):=by
 intro pins s σ H Q I h;refine r9 PySem.F.slot_dict_getitem.lookup hs (bF (ho pins s σ H _ I h) λu s1 ⟨x,H1,I1,rx,q1⟩=>bF (hi pins s1 σ H1 _ I1 q1) λiv s2 hq0=>?_);obtain⟨y,H2,I2,ry,a,v,ex,g,q2⟩:=hq0;subst ex;obtain rfl:u=Value.ref a:=rx;exact⟨qb I2 g,tW hu I2 g ry λw' s3 I3 rw'=>⟨v,H2,I3,rw',q2⟩⟩
end
theorem uD {P:Program} {w:World} {H:Hp} (h:Heap) (hb:sysModules < h.objs.size):bw P w H (h.push { cls:=.type "dict",data:=.dict #[] }) h.objs.size (.dK []) :=
 ⟨DZ _,beq_eq_false_iff_ne.mpr (Ne.symm (DO hb)),[],.nil,Heap.DictOf.new h⟩
def iQ:List (TE×TE)->St->Hp->(List (V×V)->Hp->Prop)->Prop
 | [],_,H,Q=>Q [] H
 | (tk,tv) :: r,σ,H,Q=>tk σ H λx H1=>tv σ H1 λy H2=>iQ r σ H2 λps H3=>Q ((x,y) :: ps) H3
abbrev VV:List (V×V)->List (Value×Value)->Prop:=Paired λp q=>RelV p.1 q.1/\RelV p.2 q.2
def Bx (X:Cx) (pos:Pos) (keys:List (Option Expr)) (values:List Expr) (trs:List (TE×TE)):Prop :=
 ∀(pins:List (Addr×Obj)) (s:Shared) (σ:St) (H:Hp) (Q:List (V×V)->Hp->Prop),Inv X pins σ H s->iQ trs σ H Q ->
  wpAny (model X.prog X.w) X.A (evalPairs (pairTrees keys values X.env pos)) (λvs s'=>∃ps H',Inv X pins σ H' s'/\VV ps vs/\Q ps H') X.xe s
theorem oN {X:Cx} {pos:Pos}:Bx X pos [] [] []:=λpins s σ H Q I h=>pairTrees_nil_walk ⟨[],H,I,.nil,h⟩
theorem lK {X:Cx} {pos:Pos} {k v:Expr} {ks:List (Option Expr)} {vs:List Expr} {tk tv:TE} {trs:List (TE×TE)} (hk:PE X k tk) (hv:PE X v tv) (hr:Bx X pos ks vs trs) :
  Bx X pos (some k :: ks) (v :: vs) ((tk,tv) :: trs):=λpins s σ H Q I h =>
 pairTrees_cons_walk (bF (hk pins s σ H _ I h) λu s1 ⟨x,H1,I1,rx,q1⟩=>bF (hv pins s1 σ H1 _ I1 q1) λw2 s2 ⟨y,H2,I2,ry,q2⟩ =>
  bF (hr pins s2 σ H2 _ I2 q2) λws s3 ⟨ps,H3,I3,rel,q3⟩=>⟨(x,y) :: ps,H3,I3,.cons ⟨rx,ry⟩ rel,q3⟩)
def d8 (kvs more:List (Key×V)):List (Key×V):=more.foldl (λacc kv=>putK acc kv.1 kv.2) kvs
theorem KV.merge:∀{more:List (Key×V)} {rs:List (Key×Value)} {kvs:List (Key×V)} {vs:List (Key×Value)},KV more rs->KV kvs vs->KV (d8 kvs more) (merged vs rs):=by
 intro more rs kvs vs r;unfold KV at r
 induction r generalizing kvs vs with
 | nil=>intro q;exact q
 | @cons p q ps qs h t ih =>
  intro r0
  have e:KV (putK kvs p.1 p.2) (stored vs q.1 q.2):=by
   have:=r0.put p.1 h.2;rw [<- h.1];exact this
  exact ih e
theorem gH:∀(more kvs:List (Key×V)),(d8 kvs more).length<=kvs.length + more.length
 | [],kvs=>by show kvs.length<=kvs.length + 0;omega
 | p :: r,kvs=>by
  have h1:=gH r (putK kvs p.1 p.2);have h2:=p8 kvs p.1 p.2;show (d8 (putK kvs p.1 p.2) r).length<=_
  rw [DV];omega
theorem j3 {P:Program} {w:World}:∀{kvs:List (Key×V)} {ws:List (Value×Value)},VV (kvs.map λkv=>(kV kv.1,kv.2)) ws->∃rs,Carries (bg P w) ws rs/\KV kvs rs
 | [],_,r=>by rw [List.map_nil] at r;cases r;exact⟨[],True.intro,.nil⟩
 | p :: kvs,_,r=>by
  rw [DF] at r
  cases r with
  | @cons a b as bs h t =>
   obtain⟨rs,c,q⟩:=j3 (P:=P) (w:=w) t;obtain⟨b1,b2⟩:=b;exact⟨(p.1,b2) :: rs,⟨vP h.1,rfl,c⟩,.cons ⟨rfl,h.2⟩ q⟩
def AD (trs:List (TE×TE)):TE:=λσ H Q=>∀p,H p=none->iQ trs σ (upd H p (.dK [])) λps H2=>H2 p=some (.dK [])/\∃kvs:List (Key×V),ps=kvs.map (λkv=>(kV kv.1,kv.2))/\kvs.length<=15/\Q (.ref p) (upd H2 p (.dK (d8 [] kvs)))
theorem sA {X:Cx} {pos:Pos} {keys:List (Option Expr)} {values:List Expr} {trs:List (TE×TE)} (h:Bx X pos keys values trs) (hall:keys.all (·.isSome)=true) (hl:keys.length=values.length) (h0:keys≠[])
  (h15:keys.length<=15):PE X (.Dict keys values pos) (AD trs):=by
 intro pins s σ H Q I q;have hn:=I.hok.fresh (Du s.heap.objs.size);have I1:=I.laid (a:=s.heap.objs.size) (o:=.dK []) (h':=s.heap.push { cls:=.type "dict",data:=.dict #[] }) (t':=s.toks) (λ_ _ q=>Dp _ q) (Du _) (uD s.heap I.big)
 refine wpAny_Dict_walk (knd:=bg X.prog X.w) hall hl h0 h15 (bF (h pins _ σ _ _ I1 (q _ hn)) λws s2 hq0=>?_);obtain⟨ps,H2,I2,rel,e,kvs,ep,lk,q2⟩:=hq0;subst ep;obtain⟨rs,c,rk⟩:=j3 (P:=X.prog) (w:=X.w) rel;obtain⟨z,hd,vs0,r0,dd⟩:=BE I2.hok e;cases r0;refine⟨rs,c,dd,λh' dd' hs=>⟨.ref s.heap.objs.size,_,?_,rfl,q2⟩⟩
 have hz:(d8 [] kvs).length<=sizeLine:=by
  have h1:=gH kvs [];rw [Ec] at h1;rw [sizeLine_eq];omega
 have he:∃q,h'.get? s.heap.objs.size=some q:=let ⟨q,_,_,hq,_⟩:=dd';⟨q,hq⟩
 exact gb I2 (by rw [e];exact True.intro) hs he (zu hz hd (rk.merge .nil) dd')
structure M1 (X:Cx) (o:Expr) (m:Str) (apos:Pos) (e:Expr) (cpos:Pos):Prop where
 base:attributeBase o m X.env (eval o X.env)=eval o X.env
 few:((backTo cpos (starEach [e] X.env)).all (λx=>!x.1) && (backToKw cpos (keywordEach [] X.env)).all (λx=>x.1.isSome)
  && decide (([e]:List Expr).length + ([]:List Keyword).length + (if ([]:List Keyword).isEmpty then 0 else 1) < 30))=true
 line:(apos.endLine == cpos.line)=true
 trees:backTo cpos (starEach [e] X.env)=[(false,eval e X.env)]
end L2
namespace L2.L3
open PySem PySem.Spec PyProof.Rows
inductive D where
 | non|bl (b:Bool)|int (i:Int)|str (x:Str)|tup (xs:List D)|lst (xs:List D)|dct (ks:List Key) (xs:List D)|ty (n:String)|exc (c:Str)|cls (c:Str)|obj (P:Dj->Hp->Addr->Prop)
def excAt (a C:Addr) (h:Heap):Prop:=∃o vs,h.get? a=some o/\o.cls=.ref C/\o.dict=none/\o.data=.fields vs
mutual
def Den (K:Dj) (F:Hp):D->V->Prop
 | .non,v=>v=V.non
 | .bl b,v=>v=V.bl b
 | .int i,v=>v=V.int i
 | .str x,v=>v=V.str x
 | .ty n,v=>v=V.ty n
 | .exc c,v=>∃a C,v=V.ref a/\PySem.W.nsIn K mainGlobals c=some (some (.ref C))/\F a=some (.ext (excAt a C))
 | .cls c,v=>∃C,v=V.ref C/\PySem.W.nsIn K mainGlobals c=some (some (.ref C))
 | .tup ds,v=>∃a vs,v=V.ref a/\gZ K F a vs/\aj K F ds vs
 | .lst ds,v=>∃a vs,v=V.ref a/\eY K F a vs/\aj K F ds vs
 | .obj P,v=>∃a,v=V.ref a/\∀G,ah F G->P K G a
 | .dct ks ds,v=>∃a vs,v=V.ref a/\F a=some (.dK (ks.zip vs))/\vs.length=ks.length/\aj K F ds vs
def aj (K:Dj) (F:Hp):List D->List V->Prop
 | [],vs=>vs=[]
 | d :: ds,vs=>∃v r,vs=v :: r/\Den K F d v/\aj K F ds r
end
theorem ah.bG {K:Dj} {H H':Hp} {a:Addr} {xs:List V} (e:ah H H') (h:gZ K H a xs):gZ K H' a xs:=by
 rcases h with (h|⟨o,h⟩)|h
 ·exact .inl (.inl (e _ _ h))
 ·exact .inl (.inr ⟨o,e _ _ h⟩)
 ·exact .inr h
mutual
theorem Den.mono {K:Dj} {F F':Hp} (s:ah F F'):∀(d:D) (v:V),Den K F d v->Den K F' d v
 | .non,_,h=>by simpa only [Den] using h
 | .bl _,_,h=>by simpa only [Den] using h
 | .int _,_,h=>by simpa only [Den] using h
 | .str _,_,h=>by simpa only [Den] using h
 | .ty _,_,h=>by simpa only [Den] using h
 | .cls _,_,h=>by simpa only [Den] using h
 | .exc _,v,h=>by
  simp only [Den] at h ⊢;obtain⟨a,C,e,z,q⟩:=h
  exact⟨a,C,e,z,s _ _ q⟩
 | .tup ds,v,h=>by
  simp only [Den] at h ⊢;obtain⟨a,vs,e,q,r⟩:=h
  exact⟨a,vs,e,ah.bG s q,aj.mono s ds vs r⟩
 | .lst ds,v,h=>by
  simp only [Den] at h ⊢;obtain⟨a,vs,e,q,r⟩:=h
  exact⟨a,vs,e,s.seq q,aj.mono s ds vs r⟩
 | .obj _,v,h=>by
  simp only [Den] at h ⊢;obtain⟨a,e,q⟩:=h
  exact⟨a,e,λG sG=>q G (s.trans sG)⟩
 | .dct ks ds,v,h=>by
  simp only [Den] at h ⊢;obtain⟨a,vs,e,q,l,r⟩:=h;exact⟨a,vs,e,s _ _ q,l,aj.mono s ds vs r⟩
theorem aj.mono {K:Dj} {F F':Hp} (s:ah F F'):∀(ds:List D) (vs:List V),aj K F ds vs->aj K F' ds vs
 | [],_,h=>by simpa only [aj] using h
 | d :: ds,vs,h=>by
  simp only [aj] at h ⊢;obtain⟨v,r,e,a,b⟩:=h;exact⟨v,r,e,Den.mono s d v a,aj.mono s ds r b⟩
end
section
variable {K:Dj} {F:Hp}
theorem bA {i:Int}:Den K F (.int i) (.int i):=by simp only [Den]
theorem eB {b:Bool}:Den K F (.bl b) (.bl b):=by simp only [Den]
theorem nZ:Den K F .non .non:=by simp only [Den]
theorem iI {x:Str}:Den K F (.str x) (.str x):=by simp only [Den]
theorem zm {x:String}:Den K F (.ty x) (.ty x):=by simp only [Den]
theorem gv {a:Addr} {vs:List V} {ds:List D} (h:gZ K F a vs) (r:aj K F ds vs):Den K F (.tup ds) (.ref a):=by
 simp only [Den];exact⟨a,vs,rfl,h,r⟩
theorem ib {a:Addr} {vs:List V} {ds:List D} (h:eY K F a vs) (r:aj K F ds vs):Den K F (.lst ds) (.ref a):=by
 simp only [Den];exact⟨a,vs,rfl,h,r⟩
theorem aK:aj K F [] []:=by simp only [aj]
theorem aH {d:D} {v:V} {ds:List D} {vs:List V} (h:Den K F d v) (r:aj K F ds vs):aj K F (d :: ds) (v :: vs):=by
 simp only [aj];exact⟨v,vs,rfl,h,r⟩
theorem aj.length:∀{ds:List D} {vs:List V},aj K F ds vs->ds.length=vs.length
 | [],vs,h=>by simp only [aj] at h;subst h;rfl
 | d :: ds,vs,h=>by
  simp only [aj] at h;obtain⟨v,r,rfl,_,b⟩:=h;simp [aj.length b]
theorem aj.get:∀{ds:List D} {vs:List V} {i:Nat} {d:D},aj K F ds vs->ds[i]?=some d->∃v,vs[i]?=some v/\Den K F d v
 | [],vs,i,d,h,e=>by simp at e
 | x :: ds,vs,i,d,h,e=>by
  simp only [aj] at h;obtain⟨v,r,rfl,a,b⟩:=h
  cases i with
  | zero=>simp at e;subst e;exact⟨v,rfl,a⟩
  | succ i=>simpa using aj.get b (by simpa using e)
theorem aj.yI:∀{ds:List D} {vs:List V} {i:Nat} {v:V},aj K F ds vs->vs[i]?=some v->∃d,ds[i]?=some d/\Den K F d v
 | [],vs,i,d,h,e=>by simp only [aj] at h;subst h;simp at e
 | x :: ds,vs,i,d,h,e=>by
  simp only [aj] at h;obtain⟨v,r,rfl,a,b⟩:=h
  cases i with
  | zero=>simp at e;subst e;exact⟨x,rfl,a⟩
  | succ i=>simpa using aj.yI b (by simpa using e)
theorem aj.append:∀{ds es:List D} {vs us:List V},aj K F ds vs->aj K F es us->aj K F (ds ++ es) (vs ++ us)
 | [],es,vs,us,h,g=>by simp only [aj] at h;subst h;exact g
 | x :: ds,es,vs,us,h,g=>by
  simp only [aj] at h;obtain⟨v,r,rfl,a,b⟩:=h;exact aH a (aj.append b g)
theorem aj.set {x:D} {v:V} (q:Den K F x v):∀{ds:List D} {vs:List V} (n:Nat),aj K F ds vs->aj K F (ds.set n x) (vs.set n v)
 | [],vs,n,h=>by simp only [aj] at h;subst h;simpa using aK
 | y :: ds,vs,0,h=>by
  simp only [aj] at h;obtain⟨w,r,rfl,a,b⟩:=h
  exact aH q b
 | y :: ds,vs,n + 1,h=>by
  simp only [aj] at h;obtain⟨w,r,rfl,a,b⟩:=h;exact aH a (aj.set q n b)
theorem ua (ns:List Int):aj K F (ns.map D.int) (ns.map V.int):=by
 induction ns with
 | nil=>exact aK
 | cons n r ih=>exact aH bA ih
end
mutual
def qT:D->Int
 | .int i=>hashInt i
 | .tup ds=>reduceHash (Builtin.Tuple.tupleHashOf (lS ds))
 | .non=>4238894112
 | _=>0
def lS:List D->List Int
 | []=>[]
 | d :: ds=>qT d :: lS ds
end
def bj (h:Heap) (d:Addr) (es:Array DictEntry) (ep:Nat):Prop:=∃o,h.get? d=some o/\o.ExactDict/\o.data=.dict es ep
def pk (row:Int×V×V) (e:DictEntry):Prop:=e.hash=row.1/\RelV row.2.1 e.key/\RelV row.2.2 e.val
def fb (p:Addr) (ep:Nat) (rows:List (Int×V×V)):HO:=.ext λh=>rows.length<=sizeLine/\(p == sysModules)=false/\∃es,bj h p es ep/\Paired pk rows es.toList
def bH (kvs:List (D×D)) (us vs:List V):List (Int×V×V):=(kvs.map λkv=>qT kv.1).zip (us.zip vs)
inductive Lo where
 | d (x:D)|own (xs:List D)|dic (kvs:List (D×D))
abbrev En:=List (Option Lo)
structure Base where
 F:Hp
 H:Hp
 N:Addr->Prop
 nb:∀p,N p->H p≠none
structure Rep (K:Dj) (B:Base) (F H:Hp) (σ:St) (e:En):Prop where
 f0:ah B.F F
 fh:ah F H
 h0:ah B.H H
 nf:∀p,B.N p->F p=none
 dv:∀(i:Nat) x,e[i]?=some (some (.d x))->∃v,σ[i]?=some (some v)/\Den K F x v
 ov:∀(i:Nat) xs,e[i]?=some (some (.own xs))->∃p vs,σ[i]?=some (some (.ref p))/\H p=some (.lst vs)/\F p=none/\B.H p=none/\aj K F xs vs
 ne:∀(i j:Nat) xs ys p,i≠j->e[i]?=some (some (.own xs))->e[j]?=some (some (.own ys))->σ[i]?=some (some (.ref p))->σ[j]?=some (some (.ref p))->False
 mv:∀(i:Nat) kvs,e[i]?=some (some (.dic kvs))->∃p ep us vs,σ[i]?=some (some (.ref p))/\H p=some (fb p ep (bH kvs us vs))/\F p=none/\B.H p=none/\aj K F (kvs.map (·.1)) us/\aj K F (kvs.map (·.2)) vs
 nm:∀(i j:Nat) xs ys p,i≠j->e[i]?=some (some (.dic xs))->e[j]?=some (some (.dic ys))->σ[i]?=some (some (.ref p))->σ[j]?=some (some (.ref p))->False
section
variable {K:Dj} {B:Base} {F H F' H':Hp} {σ:St} {e:En}
theorem Rep.ext (r:Rep K B F H σ e) (a:ah F F') (b:ah F' H') (c:ah H H') (n:∀p,H p≠none->F p=none->F' p=none):Rep K B F' H' σ e where
 f0:=r.f0.trans a
 fh:=b
 h0:=r.h0.trans c
 nf:=λp hp=>by
  refine n p (λz=>?_) (r.nf p hp);have q:=B.nb p hp
  cases w:B.H p with
  | none=>exact q w
  | some o=>rw [r.h0 _ _ w] at z;cases z
 dv:=λi x h=>let ⟨v,h1,h2⟩:=r.dv i x h;⟨v,h1,Den.mono a _ _ h2⟩
 ov:=λi xs h=>by
  obtain⟨p,vs,h1,h2,h3,h4,h5⟩:=r.ov i xs h;exact⟨p,vs,h1,c _ _ h2,n p (by rw [h2];simp) h3,h4,aj.mono a _ _ h5⟩
 ne:=r.ne
 mv:=λi xs h=>by
  obtain⟨p,ep,us,vs,h1,h2,h3,h4,h5,h6⟩:=r.mv i xs h;exact⟨p,ep,us,vs,h1,c _ _ h2,n p (by rw [h2];simp) h3,h4,aj.mono a _ _ h5,aj.mono a _ _ h6⟩
 nm:=r.nm
theorem Rep.jw (r:Rep K B F H σ e) {p:Addr} (h:H p=none):F p=none:=r.fh.free h
theorem aR {H:Hp} {p:Addr} {o:HO} (h:H p=none):ah H (upd H p o):=λb u q=>by rw [ar (cw q h)];exact q
theorem iX {F H:Hp} {p:Addr} {o:HO} (h:ah F H):ah (upd F p o) (upd H p o):=λb u q=>by
 by_cases e:b=p
 ·subst e;rw [aq] at q ⊢;exact q
 ·rw [ar e] at q ⊢;exact h _ _ q
theorem Rep.laid (r:Rep K B F H σ e) {p:Addr} {o:HO} (h:H p=none):Rep K B (upd F p o) (upd H p o) σ e/\ah F (upd F p o):=by
 have hf:=r.jw h;refine⟨r.ext (aR hf) (iX r.fh) (aR h) λq hq hn=>?_,aR hf⟩
 by_cases z:q=p
 ·subst z;exact absurd h hq
 ·rw [ar z];exact hn
theorem Rep.loose (r:Rep K B F H σ e) {p:Addr} {o:HO} (h:H p=none):Rep K B F (upd H p o) σ e :=
 r.ext (ah.refl _) (r.fh.trans (aR h)) (aR h) λ_ _ hn=>hn
theorem Rep.now (r:Rep K B F H σ e):Rep K ⟨F,B.H,B.N,B.nb⟩ F H σ e:=⟨ah.refl _,r.fh,r.h0,r.nf,r.dv,r.ov,r.ne,r.mv,r.nm⟩
theorem Rep.back {G:Hp} (s:ah B.F G) (r:Rep K ⟨G,B.H,B.N,B.nb⟩ F H σ e):Rep K B F H σ e:=⟨s.trans r.f0,r.fh,r.h0,r.nf,r.dv,r.ov,r.ne,r.mv,r.nm⟩
theorem aT {e:En} {i j:Nat} {l:Lo} {kvs:List (D×D)} (hl:∀z,l≠.dic z) (q:(e.set i (some l))[j]?=some (some (.dic kvs))):i≠j:=λz=>by
 subst z
 by_cases w:i < e.length
 ·rw [Dn w] at q;cases q;exact hl _ rfl
 ·rw [DG (by simpa using w)] at q;cases q
theorem Rep.set (r:Rep K B F H σ e) {i:Nat} {v:V} {x:D} (h:Den K F x v) (hl:i < σ.length):Rep K B F H (σ.set i (some v)) (e.set i (some (.d x))) where
 f0:=r.f0
 fh:=r.fh
 h0:=r.h0
 nf:=r.nf
 dv:=λj y q=>by
  by_cases z:i=j
  ·subst z
   by_cases w:i < e.length
   ·rw [Dn w] at q;cases q;exact⟨v,Dn hl,h⟩
   ·rw [DG (by simpa using w)] at q;cases q
  ·rw [Di z] at q ⊢;exact r.dv j y q
 ov:=λj y q=>by
  by_cases z:i=j
  ·subst z
   by_cases w:i < e.length
   ·rw [Dn w] at q;cases q
   ·rw [DG (by simpa using w)] at q;cases q
  ·rw [Di z] at q ⊢;exact r.ov j y q
 ne:=λj k xs ys p hjk q1 q2 q3 q4=>by
  have own_ne:∀(j:Nat) (ys:List D),(e.set i (some (.d x)))[j]?=some (some (.own ys))->i≠j:=λj ys q z=>by
   subst z
   by_cases w:i < e.length
   ·rw [Dn w] at q;cases q
   ·rw [DG (by simpa using w)] at q;cases q
  have z1:=own_ne j xs q1;have z2:=own_ne k ys q2;rw [Di z1] at q1 q3;rw [Di z2] at q2 q4;exact r.ne j k xs ys p hjk q1 q2 q3 q4
 mv:=λj y q=>by
  have z:i≠j:=aT (λ_ w=>by cases w) q;rw [Di z] at q ⊢;exact r.mv j y q
 nm:=λj k xs ys p hjk q1 q2 q3 q4=>by
  have z1:=aT (λ_ w=>by cases w) q1;have z2:=aT (λ_ w=>by cases w) q2;rw [Di z1] at q1 q3;rw [Di z2] at q2 q4;exact r.nm j k xs ys p hjk q1 q2 q3 q4
theorem Rep.yR (r:Rep K B F H σ e) {i:Nat} {p:Addr} {vs:List V} {xs:List D} (h:H p=none) (hd:aj K F xs vs) (hl:i < σ.length) :
  Rep K B F (upd H p (.lst vs)) (σ.set i (some (.ref p))) (e.set i (some (.own xs))):=by
 have r1:=r.loose (o:=.lst vs) h;have hb:B.H p=none:=r.h0.free h
 have old:∀(j:Nat) (ys:List D),e[j]?=some (some (.own ys))->σ[j]?≠some (some (.ref p)):=λj ys q z=>by
  obtain⟨q1,_,h1,h2,_⟩:=r.ov j ys q;rw [z] at h1;cases h1;rw [h] at h2;cases h2
 refine⟨r1.f0,r1.fh,r1.h0,r1.nf,λj y q=>?_,λj y q=>?_,λj k ys zs q hjk q1 q2 q3 q4=>?_,λj y q=>?_,λj k ys zs q hjk q1 q2 q3 q4=>?_⟩
 ·by_cases z:i=j
  ·subst z
   by_cases w:i < e.length
   ·rw [Dn w] at q;cases q
   ·rw [DG (by simpa using w)] at q;cases q
  ·rw [Di z] at q ⊢;exact r1.dv j y q
 ·by_cases z:i=j
  ·subst z
   by_cases w:i < e.length
   ·rw [Dn w] at q;cases q;exact⟨p,vs,Dn hl,aq,r.jw h,hb,hd⟩
   ·rw [DG (by simpa using w)] at q;cases q
  ·rw [Di z] at q ⊢;exact r1.ov j y q
 ·by_cases z1:i=j
  ·subst z1;rw [Di hjk] at q2 q4
   by_cases w:i < e.length
   ·rw [Dn hl] at q3;cases q3;exact old k zs q2 q4
   ·rw [DG (by simpa using w)] at q1;cases q1
  ·rw [Di z1] at q1 q3
   by_cases z2:i=k
   ·subst z2;rw [Dn hl] at q4;cases q4;exact old j ys q1 q3
   ·rw [Di z2] at q2 q4;exact r.ne j k ys zs q hjk q1 q2 q3 q4
 ·have z:i≠j:=aT (λ_ w=>by cases w) q;rw [Di z] at q ⊢;exact r1.mv j y q
 ·have z1:=aT (λ_ w=>by cases w) q1;have z2:=aT (λ_ w=>by cases w) q2;rw [Di z1] at q1 q3;rw [Di z2] at q2 q4;exact r.nm j k ys zs q hjk q1 q2 q3 q4
theorem Rep.change (r:Rep K B F H σ e) {i:Nat} {p:Addr} {vs:List V} {xs ys:List D} (h:e[i]?=some (some (.own xs))) (hp:σ[i]?=some (some (.ref p))) (hd:aj K F ys vs) :
  Rep K B F (upd H p (.lst vs)) σ (e.set i (some (.own ys))):=by
 obtain⟨p',_,h1,h2,h3,h4,_⟩:=r.ov i xs h;rw [hp] at h1;cases h1;have wl:i < e.length:=(Dh.mp h).1;have fk:∀q o,F q=some o->q≠p:=λq o z w=>by subst w;rw [h3] at z;cases z
 have bk:∀q o,B.H q=some o->q≠p:=λq o z w=>by subst w;rw [h4] at z;cases z
 have ownAt:∀(j:Nat) (zs:List D),(e.set i (some (.own ys)))[j]?=some (some (.own zs))->∃ws,e[j]?=some (some (.own ws)):=λj zs q=>by
  by_cases z:i=j
  ·subst z;exact⟨xs,h⟩
  ·rw [Di z] at q;exact⟨zs,q⟩
 refine⟨r.f0,λb o z=>by rw [ar (fk b o z)];exact r.fh _ _ z,λb o z=>by rw [ar (bk b o z)];exact r.h0 _ _ z,r.nf,λj y q=>?_,λj y q=>?_,λj k as bs q hjk q1 q2 q3 q4=>?_,λj y q=>?_,λj k as bs q hjk q1 q2 q3 q4=>?_⟩
 ·by_cases z:i=j
  ·subst z;rw [Dn wl] at q;cases q
  ·rw [Di z] at q;exact r.dv j y q
 ·by_cases z:i=j
  ·subst z;rw [Dn wl] at q;cases q;exact⟨p,vs,hp,aq,h3,h4,hd⟩
  ·rw [Di z] at q;obtain⟨p2,us,g1,g2,g3,g4,g5⟩:=r.ov j y q;have:p2≠p:=λw=>by subst w;exact r.ne j i y xs p2 (Ne.symm z) q h g1 hp
   exact⟨p2,us,g1,by rw [ar this];exact g2,g3,g4,g5⟩
 ·obtain⟨as',w1⟩:=ownAt j as q1;obtain⟨bs',w2⟩:=ownAt k bs q2;exact r.ne j k as' bs' q hjk w1 w2 q3 q4
 ·have z:i≠j:=aT (λ_ w=>by cases w) q;rw [Di z] at q;obtain⟨p2,ep,us,ws,g1,g2,g3,g4,g5,g6⟩:=r.mv j y q;have:p2≠p:=λw=>by subst w;rw [h2] at g2;cases g2
  exact⟨p2,ep,us,ws,g1,by rw [ar this];exact g2,g3,g4,g5,g6⟩
 ·have z1:=aT (λ_ w=>by cases w) q1;have z2:=aT (λ_ w=>by cases w) q2;rw [Di z1] at q1;rw [Di z2] at q2;exact r.nm j k as bs q hjk q1 q2 q3 q4
theorem Rep.freeze (r:Rep K B F H σ e) {i:Nat} {xs:List D} (h:e[i]?=some (some (.own xs))):∃F',ah F F'/\Rep K B F' H σ (e.set i (some (.d (.lst xs)))):=by
 obtain⟨p,vs,h1,h2,h3,h4,h5⟩:=r.ov i xs h;have wl:i < e.length:=(Dh.mp h).1;have s1:ah F (upd F p (.lst vs)):=aR h3;refine⟨upd F p (.lst vs),s1,r.f0.trans s1,λb o z=>?_,r.h0,λq hq=>?_,λj y q=>?_,λj y q=>?_,λj k as bs q hjk q1 q2 q3 q4=>?_,λj y q=>?_,λj k as bs q hjk q1 q2 q3 q4=>?_⟩
 ·by_cases w:b=p
  ·subst w;rw [aq] at z;cases z;exact h2
  ·rw [ar w] at z;exact r.fh _ _ z
 ·have:q≠p:=λw=>by subst w;exact B.nb _ hq h4
  rw [ar this];exact r.nf q hq
 ·by_cases z:i=j
  ·subst z;rw [Dn wl] at q;cases q;exact⟨_,h1,ib (eY.of aq) (aj.mono s1 _ _ h5)⟩
  ·rw [Di z] at q;obtain⟨v,a,b⟩:=r.dv j y q;exact⟨v,a,Den.mono s1 _ _ b⟩
 ·by_cases z:i=j
  ·subst z;rw [Dn wl] at q;cases q
  ·rw [Di z] at q;obtain⟨p2,us,g1,g2,g3,g4,g5⟩:=r.ov j y q;have:p2≠p:=λw=>by subst w;exact r.ne j i y xs p2 (Ne.symm z) q h g1 h1
   exact⟨p2,us,g1,g2,by rw [ar this];exact g3,g4,aj.mono s1 _ _ g5⟩
 ·have ownAt:∀(j:Nat) (zs:List D),(e.set i (some (.d (.lst xs))))[j]?=some (some (.own zs))->e[j]?=some (some (.own zs)):=λj zs q=>by
   by_cases z:i=j
   ·subst z;rw [Dn wl] at q;cases q
   ·rw [Di z] at q;exact q
  exact r.ne j k as bs q hjk (ownAt j as q1) (ownAt k bs q2) q3 q4
 ·have z:i≠j:=aT (λ_ w=>by cases w) q;rw [Di z] at q;obtain⟨p2,ep,us,ws,g1,g2,g3,g4,g5,g6⟩:=r.mv j y q;have:p2≠p:=λw=>by subst w;rw [h2] at g2;cases g2
  exact⟨p2,ep,us,ws,g1,g2,by rw [ar this];exact g3,g4,aj.mono s1 _ _ g5,aj.mono s1 _ _ g6⟩
 ·have z1:=aT (λ_ w=>by cases w) q1;have z2:=aT (λ_ w=>by cases w) q2;rw [Di z1] at q1;rw [Di z2] at q2;exact r.nm j k as bs q hjk q1 q2 q3 q4
end
end L2.L3
namespace L2.L3
open PySem PySem.Spec PyProof.Rows
def notStar:Expr->Bool
 | .Starred _ _=>false
 | _=>true
theorem bh {e:Expr} {es:List Expr} {env:Env} (h:notStar e=true):starEach (e :: es) env=(false,eval e env) :: starEach es env:=by
 cases e <;> first|rfl|cases h
abbrev TD:=En->(D->Prop)->Prop
abbrev TB:=En->(Bool->Prop)->Prop
abbrev dR:=En->(List D->Prop)->Prop
structure Ends3 where
 nx:En->Prop
 rt:D->Prop
 bk:En->Prop:=λ_=>False
 ct:En->Prop:=λ_=>False
abbrev cy:=Ends3->En->Prop
def wE (X:Cx) (e:Expr):TE:=λσ H Q=>∀(pins:List (Addr×Obj)) (s:Shared),Inv X pins σ H s->wpAny (model X.prog X.w) X.A (eval e X.env) (EP X pins σ Q) X.xe s
def wT (X:Cx) (e:Expr):TT:=λσ H Q=>∀(pins:List (Addr×Obj)) (s:Shared),Inv X pins σ H s->wpAny (model X.prog X.w) X.A (isTrue e X.env (eval e X.env)) (TP X pins σ Q) X.xe s
def wW (X:Cx) (e:Expr):TT:=λσ H Q=>∀(whole:Sem Value) (pins:List (Addr×Obj)) (s:Shared),Inv X pins σ H s->wpAny (model X.prog X.w) X.A (isTrue e X.env whole) (TP X pins σ Q) X.xe s
def wA (X:Cx) (es:List Expr):TA:=λσ H Q=>∀(pos:Pos) (pins:List (Addr×Obj)) (s:Shared),Inv X pins σ H s->wpAny (model X.prog X.w) X.A (spliced (backTo pos (starEach es X.env))) (AP X pins σ Q) X.xe s
def wS (X:Cx) (st:Stmt):TS:=λD σ H=>∀(pins:List (Addr×Obj)) (s:Shared),Inv X pins σ H s->wpAny (model X.prog X.w) X.A (exec st X.env) (SP X pins D) X.xe s
def wSs (X:Cx) (st:List Stmt):TS:=λD σ H=>∀(pins:List (Addr×Obj)) (s:Shared),Inv X pins σ H s->wpAny (model X.prog X.w) X.A (execs st X.env) (SP X pins D) X.xe s
section
variable {X:Cx} {e:Expr} {es:List Expr} {st:Stmt} {sts:List Stmt} {σ:St} {H:Hp}
theorem bc:PE X e (wE X e):=λpins s σ H Q I h=>h pins s I
theorem mJ:PT X e (wT X e):=λpins s σ H Q I h=>h pins s I
theorem AM:PW X e (wW X e):=λwh pins s σ H Q I h=>h wh pins s I
theorem kY:PA X es (wA X es):=λpos pins s σ H Q I h=>h pos pins s I
theorem qy:PS X st (wS X st):=λpins s σ H D I h=>h pins s I
theorem cO:rF X sts (wSs X sts):=λpins s σ H D I h=>h pins s I
theorem bK {te:TE} {Q:VK} (h:PE X e te) (q:te σ H Q):wE X e σ H Q:=λpins s I=>h pins s σ H Q I q
theorem rT {te:TT} {Q:Bool->Hp->Prop} (h:PT X e te) (q:te σ H Q):wT X e σ H Q:=λpins s I=>h pins s σ H Q I q
theorem sh {te:TT} {Q:Bool->Hp->Prop} (h:PW X e te) (q:te σ H Q):wW X e σ H Q:=λwh pins s I=>h wh pins s σ H Q I q
theorem xW {te:TA} {Q:List V->Hp->Prop} (h:PA X es te) (q:te σ H Q):wA X es σ H Q:=λpos pins s I=>h pos pins s σ H Q I q
theorem eS {te:TS} {D:Ends} (h:PS X st te) (q:te D σ H):wS X st D σ H:=λpins s I=>h pins s σ H D I q
theorem fB {te:TS} {D:Ends} (h:rF X sts te) (q:te D σ H):wSs X sts D σ H:=λpins s I=>h pins s σ H D I q
theorem az {Q Q':VK} (h:wE X e σ H Q) (i:∀v H',Q v H'->Q' v H'):wE X e σ H Q':=λpins s I=>bF (h pins s I) λ_ _ ⟨v,H',I',r,q⟩=>⟨v,H',I',r,i v H' q⟩
theorem dU {Q Q':Bool->Hp->Prop} (h:wT X e σ H Q) (i:∀v H',Q v H'->Q' v H'):wT X e σ H Q':=λpins s I=>bF (h pins s I) λb _ ⟨H',I',q⟩=>⟨H',I',i b H' q⟩
theorem sq {Q Q':Bool->Hp->Prop} (h:wW X e σ H Q) (i:∀v H',Q v H'->Q' v H'):wW X e σ H Q':=λwh pins s I=>bF (h wh pins s I) λb _ ⟨H',I',q⟩=>⟨H',I',i b H' q⟩
theorem cY {Q Q':List V->Hp->Prop} (h:wA X es σ H Q) (i:∀v H',Q v H'->Q' v H'):wA X es σ H Q':=λpos pins s I=>bF (h pos pins s I) λ_ _ ⟨v,H',I',r,q⟩=>⟨v,H',I',r,i v H' q⟩
theorem jO {pins:List (Addr×Obj)} {D D':Ends} {f:Flow} {s':Shared} (h:SP X pins D f s') (nx:∀σ H,D.nx σ H->D'.nx σ H) (rt:∀v H,D.rt v H->D'.rt v H) (bk:∀σ H,D.bk σ H->D'.bk σ H) (ct:∀σ H,D.ct σ H->D'.ct σ H):SP X pins D' f s':=by
 cases f with
 | next=>obtain⟨σ',H',I,q⟩:=h;exact⟨σ',H',I,nx _ _ q⟩
 | brk=>obtain⟨σ',H',I,q⟩:=h;exact⟨σ',H',I,bk _ _ q⟩
 | cont=>obtain⟨σ',H',I,q⟩:=h;exact⟨σ',H',I,ct _ _ q⟩
 | ret u=>obtain⟨v,σ',H',I,r,q⟩:=h;exact⟨v,σ',H',I,r,rt _ _ q⟩
theorem jK {D D':Ends} (h:wS X st D σ H) (nx:∀σ H,D.nx σ H->D'.nx σ H) (rt:∀v H,D.rt v H->D'.rt v H) (bk:∀σ H,D.bk σ H->D'.bk σ H) (ct:∀σ H,D.ct σ H->D'.ct σ H):wS X st D' σ H :=
 λpins s I=>bF (h pins s I) λ_ _ q=>jO q nx rt bk ct
theorem hJ {D D':Ends} (h:wSs X sts D σ H) (nx:∀σ H,D.nx σ H->D'.nx σ H) (rt:∀v H,D.rt v H->D'.rt v H) (bk:∀σ H,D.bk σ H->D'.bk σ H) (ct:∀σ H,D.ct σ H->D'.ct σ H):wSs X sts D' σ H :=
 λpins s I=>bF (h pins s I) λ_ _ q=>jO q nx rt bk ct
end
def RV (X:Cx) (B:Base) (σ:St) (env:En) (F:Hp) (Q:D->Prop):VK:=λv H'=>∃F' d,Rep X.K B F' H' σ env/\ah F F'/\Den X.K F' d v/\Q d
def RB (X:Cx) (B:Base) (σ:St) (env:En) (F:Hp) (Q:Bool->Prop):Bool->Hp->Prop:=λb H'=>∃F',Rep X.K B F' H' σ env/\ah F F'/\Q b
def RA (X:Cx) (B:Base) (σ:St) (env:En) (F:Hp) (Q:List D->Prop):List V->Hp->Prop:=λvs H'=>∃F' ds,Rep X.K B F' H' σ env/\ah F F'/\aj X.K F' ds vs/\Q ds
def RS (X:Cx) (B:Base) (D:Ends3):Ends where
 nx:=λσ' H'=>∃F' env',Rep X.K B F' H' σ' env'/\D.nx env'
 rt:=λv H'=>∃F' d,Rep X.K B F' H' [] []/\Den X.K F' d v/\D.rt d
 bk:=λσ' H'=>∃F' env',Rep X.K B F' H' σ' env'/\D.bk env'
 ct:=λσ' H'=>∃F' env',Rep X.K B F' H' σ' env'/\D.ct env'
structure QE (X:Cx) (e:Expr) (t:TD):Prop where
 of ::
 run:∀(B:Base) (σ:St) (F H:Hp) (env:En) (Q:D->Prop),Rep X.K B F H σ env->t env Q->wE X e σ H (RV X B σ env F Q)
instance {X:Cx} {e:Expr} {t:TD}:CoeFun (QE X e t) (λ_=>∀(B:Base) (σ:St) (F H:Hp) (env:En) (Q:D->Prop),Rep X.K B F H σ env->t env Q->wE X e σ H (RV X B σ env F Q)):=⟨QE.run⟩
structure QT (X:Cx) (e:Expr) (t:TB):Prop where
 of ::
 run:∀(B:Base) (σ:St) (F H:Hp) (env:En) (Q:Bool->Prop),Rep X.K B F H σ env->t env Q->wT X e σ H (RB X B σ env F Q)
instance {X:Cx} {e:Expr} {t:TB}:CoeFun (QT X e t) (λ_=>∀(B:Base) (σ:St) (F H:Hp) (env:En) (Q:Bool->Prop),Rep X.K B F H σ env->t env Q->wT X e σ H (RB X B σ env F Q)):=⟨QT.run⟩
structure QW (X:Cx) (e:Expr) (t:TB):Prop where
 of ::
 run:∀(B:Base) (σ:St) (F H:Hp) (env:En) (Q:Bool->Prop),Rep X.K B F H σ env->t env Q->wW X e σ H (RB X B σ env F Q)
instance {X:Cx} {e:Expr} {t:TB}:CoeFun (QW X e t) (λ_=>∀(B:Base) (σ:St) (F H:Hp) (env:En) (Q:Bool->Prop),Rep X.K B F H σ env->t env Q->wW X e σ H (RB X B σ env F Q)):=⟨QW.run⟩
structure QA (X:Cx) (es:List Expr) (t:dR):Prop where
 of ::
 run:∀(B:Base) (σ:St) (F H:Hp) (env:En) (Q:List D->Prop),Rep X.K B F H σ env->t env Q->wA X es σ H (RA X B σ env F Q)
instance {X:Cx} {es:List Expr} {t:dR}:CoeFun (QA X es t) (λ_=>∀(B:Base) (σ:St) (F H:Hp) (env:En) (Q:List D->Prop),Rep X.K B F H σ env->t env Q->wA X es σ H (RA X B σ env F Q)):=⟨QA.run⟩
structure QS (X:Cx) (st:Stmt) (t:cy):Prop where
 of ::
 run:∀(B:Base) (σ:St) (F H:Hp) (env:En) (D:Ends3),Rep X.K B F H σ env->t D env->wS X st (RS X B D) σ H
instance {X:Cx} {st:Stmt} {t:cy}:CoeFun (QS X st t) (λ_=>∀(B:Base) (σ:St) (F H:Hp) (env:En) (D:Ends3),Rep X.K B F H σ env->t D env->wS X st (RS X B D) σ H):=⟨QS.run⟩
structure pT (X:Cx) (st:List Stmt) (t:cy):Prop where
 of ::
 run:∀(B:Base) (σ:St) (F H:Hp) (env:En) (D:Ends3),Rep X.K B F H σ env->t D env->wSs X st (RS X B D) σ H
instance {X:Cx} {st:List Stmt} {t:cy}:CoeFun (pT X st t) (λ_=>∀(B:Base) (σ:St) (F H:Hp) (env:En) (D:Ends3),Rep X.K B F H σ env->t D env->wSs X st (RS X B D) σ H):=⟨pT.run⟩
section
variable {X:Cx} {a b c e:Expr} {es:List Expr} {ta tb tc:TD} {tA tB':TB} {ts:dR} {pos:Pos} {rest:List Expr}
def ag (i:Nat):TD:=λenv Q=>∃x,env[i]?=some (some (.d x))/\Q x
def cC (x:D):TD:=λ_ Q=>Q x
theorem qv (i:Nat) {x:Str} {pos:Pos} (hN:X.N[i]?=some x:=by rfl) (hv:rX X.env.scope x:=by first | exact Or.inl rfl | exact Or.inr (Or.inl rfl) | exact Or.inr (Or.inr rfl)) (hd:(x == ("__debug__" : Str))=false:=by decide)
  (hcd:(x == ("__classdict__" : Str))=false:=by decide):QE X (.Name x pos) (ag i):=by
 refine⟨?_⟩;intro B σ F H env Q r ⟨x,hx,q⟩;obtain⟨v,hv',hd'⟩:=r.dv i x hx;exact bK (dO hN hv hd hcd) ⟨v,hv',F,x,r,ah.refl _,hd',q⟩
theorem qc {te:TE} {v:V} {x:D} (h:PE X e (tC v)) (hd:∀F,Den X.K F x v):QE X e (cC x):=⟨λB σ F H env Q r q=>bK h ⟨F,x,r,ah.refl _,hd F,q⟩⟩
theorem aP {i j pos}:QE X (.Constant (.int i) j pos) (cC (.int i)):=qc (te:=tC (.int i)) zg λ_=>bA
theorem Au {b j pos}:QE X (.Constant (.bool b) j pos) (cC (.bl b)):=qc (te:=tC (.bl b)) Ay λ_=>eB
theorem gT {x j pos}:QE X (.Constant (.str x) j pos) (cC (.str x)):=qc (te:=tC (.str x)) vR λ_=>iI
theorem C9 {x:Str} {n:String} {pos:Pos} (hg:Gl X x) (hm:X.mg x=none) (hv:bootBuiltins x=some (.type n)) (hn:x≠"__name__":=by decide) (hd:(x == ("__debug__" : Str))=false:=by decide):QE X (.Name x pos) (cC (.ty n)) :=
 qc (te:=tC (.ty n)) (xB (v:=.ty n) hg hm hv rfl hn hd) λ_=>zm
def Kont (X:Cx) (B:Base) (σ:St) (env:En) (F:Hp) (Q:D->Prop) (Z:VK):Prop:=∀(v:V) (H' F':Hp) (d:D),Rep X.K B F' H' σ env->ah F F'->Den X.K F' d v->Q d->Z v H'
def uq (X:Cx) (r:R2) (f:D->D->(D->Prop)->Prop):Prop:=∀(B:Base) (σ:St) (F H:Hp) (env:En) (Q:D->Prop) (d d':D) (x y:V) (Z:VK),Rep X.K B F H σ env->Den X.K F d x->Den X.K F d' y->Kont X B σ env F Q Z->f d d' Q->r x y H Z
def aM (f:D->D->(D->Prop)->Prop) (ta tb:TD):TD:=λenv Q=>ta env λx=>tb env λy=>f x y Q
theorem RV.weaken {B:Base} {σ:St} {env:En} {F F':Hp} {Q:D->Prop} (s:ah F F') {v:V} {H:Hp} (h:RV X B σ env F' Q v H):RV X B σ env F Q v H:=by
 obtain⟨G,d,r,s',hd,q⟩:=h;exact⟨G,d,r,s.trans s',hd,q⟩
theorem two {r:R2} {f:D->D->(D->Prop)->Prop} (hf:uq X r f) (ha:QE X a ta) (hb:QE X b tb) {B:Base} {σ:St} {F H:Hp} {env:En} {Q:D->Prop} {Z:VK} (rp:Rep X.K B F H σ env) (hz:Kont X B σ env F Q Z) (h:aM f ta tb env Q) :
  Av r (wE X a) (wE X b) σ H Z:=by
 refine az (ha B σ F H env _ rp h) λx H1 hq0=>?_;obtain⟨F1,d,r1,s1,d1,q1⟩:=hq0;refine az (hb B σ F1 H1 env _ r1 q1) λy H2 hq0=>?_;obtain⟨F2,d',r2,s2,d2,q2⟩:=hq0;exact hf B σ F2 H2 env Q d d' x y Z r2 (Den.mono s2 _ _ d1) d2 (λv H' F' d' r' s'=>hz v H' F' d' r' ((s1.trans s2).trans s')) q2
theorem Cu {B:Base} {σ:St} {env:En} {F:Hp} {Q:D->Prop}:Kont X B σ env F Q (RV X B σ env F Q):=λv H' F' d r s hd q=>⟨F',d,r,s,hd,q⟩
theorem uW {op:Operator} {r:R2} {f:D->D->(D->Prop)->Prop} (ho:iG X (binaryOp op) r) (hf:uq X r f) (ha:QE X a ta) (hb:QE X b tb):QE X (.BinOp a op b pos) (aM f ta tb) :=
 ⟨λB σ F H env Q rp h=>bK (AU ho bc bc) (two hf ha hb rp Cu h)⟩
theorem xP {op:CmpOp} {r:R2} {f:D->D->(D->Prop)->Prop} (ho:iG X (compareOp op) r) (hf:uq X r f) (ha:QE X a ta) (hb:QE X b tb) (hm:behindInMarks op b=false):QE X (.Compare a [op] [b] pos) (aM f ta tb) :=
 ⟨λB σ F H env Q rp h=>bK (wM ho bc bc hm) (two hf ha hb rp Cu h)⟩
def a7 (t:TD):TB:=λenv Q=>t env λx=>∃k,x=.bl k/\Q k
theorem ft {K:Dj} {F:Hp} {k:Bool} {v:V} (h:Den K F (.bl k) v):v=.bl k:=by simpa only [Den] using h
theorem kQ {op:CmpOp} {r:R2} {f:D->D->(D->Prop)->Prop} (ho:iG X (compareOp op) r) (hf:uq X r f) (ha:QE X a ta) (hb:QE X b tb) (hm:behindInMarks op b=false):QT X (.Compare a [op] [b] pos) (a7 (aM f ta tb)):=by
 refine⟨?_⟩;intro B σ F H env Q rp h;refine rT (rP ho bc bc hm) ?_;show Av r (wE X a) (wE X b) σ H λx H'=>∃k,x=.bl k/\RB X B σ env F Q k H'
 refine two hf ha hb rp (λv H' F' d r' s' hd q=>?_) h;obtain⟨k,rfl,q⟩:=q;exact⟨k,ft hd,F',r',s',q⟩
theorem nO {t:TD} (h:QE X e t) (he:∀whole,isTrue e X.env whole=(do let v <- whole;standAt e.pos;holding [v] (truthy v)):=by intro _;rfl):QT X e (a7 t):=by
 refine⟨?_⟩;intro B σ F H env Q rp hq;refine rT (zN bc he) ?_;refine az (h B σ F H env _ rp hq) λv H' w=>?_;obtain⟨F',d,r',s',hd,k,rfl,q⟩:=w;exact⟨k,ft hd,F',r',s',q⟩
def pq (t u:TB):TB:=λenv Q=>t env λk=>if k=true then u env Q else Q false
def wt (t u:TB):TB:=λenv Q=>t env λk=>if k=true then Q true else u env Q
def nL (t:TB):TB:=λenv Q=>t env λk=>Q (!k)
theorem QW.t (h:QW X e tA):QT X e tA:=⟨λB σ F H env Q rp hq pins s I=>h B σ F H env Q rp hq _ pins s I⟩
theorem wZ (ha:QT X a tA):QW X (.BoolOp .And [a] pos) tA:=⟨λB σ F H env Q rp h=>sh (xN mJ) (ha B σ F H env Q rp h)⟩
theorem yx (ha:QT X a tA):QW X (.BoolOp .Or [a] pos) tA:=⟨λB σ F H env Q rp h=>sh (zp mJ) (ha B σ F H env Q rp h)⟩
theorem yJ (ha:QT X a tA) (hb:QW X (.BoolOp .And (b :: rest) pos) tB'):QW X (.BoolOp .And (a :: b :: rest) pos) (pq tA tB'):=by
 refine⟨?_⟩;intro B σ F H env Q rp h;refine sh (zo mJ AM) ?_;refine dU (ha B σ F H env _ rp h) λk H1 ⟨F1,r1,s1,q1⟩=>?_
 cases k with
 | true=>exact sq (hb B σ F1 H1 env Q r1 q1) λk2 H2 ⟨F2,r2,s2,q2⟩=>⟨F2,r2,s1.trans s2,q2⟩
 | false=>exact⟨F1,r1,s1,q1⟩
theorem vB (ha:QT X a tA) (hb:QW X (.BoolOp .Or (b :: rest) pos) tB'):QW X (.BoolOp .Or (a :: b :: rest) pos) (wt tA tB'):=by
 refine⟨?_⟩;intro B σ F H env Q rp h;refine sh (Bl mJ AM) ?_;refine dU (ha B σ F H env _ rp h) λk H1 ⟨F1,r1,s1,q1⟩=>?_
 cases k with
 | false=>exact sq (hb B σ F1 H1 env Q r1 q1) λk2 H2 ⟨F2,r2,s2,q2⟩=>⟨F2,r2,s1.trans s2,q2⟩
 | true=>exact⟨F1,r1,s1,q1⟩
theorem vO (ha:QT X a tA):QT X (.UnaryOp .Not a pos) (nL tA):=⟨λB σ F H env Q rp h=>rT (zq mJ) (dU (ha B σ F H env _ rp h) λk H1 q=>q)⟩
def jo (t u:TD):TD:=λenv Q=>t env λx=>∃k,x=.bl k/\if k=true then u env Q else Q (.bl false)
def oy (t u:TD):TD:=λenv Q=>t env λx=>∃k,x=.bl k/\if k=true then Q (.bl true) else u env Q
theorem qN {op} (h:QE X a ta):QE X (.BoolOp op [a] pos) ta:=⟨λB σ F H env Q rp q=>bK (zM bc) (h B σ F H env Q rp q)⟩
theorem yz (ha:QE X a ta) (hb:QE X (.BoolOp .And (b :: rest) pos) tb):QE X (.BoolOp .And (a :: b :: rest) pos) (jo ta tb):=by
 refine⟨?_⟩;intro B σ F H env Q rp h;refine bK (zt bc bc) ?_;refine az (ha B σ F H env _ rp h) λv H1 hq0=>?_;obtain⟨F1,d,r1,s1,d1,k,hk,q1⟩:=hq0;subst hk;refine⟨k,ft d1,?_⟩
 cases k with
 | true=>exact az (hb B σ F1 H1 env Q r1 q1) λv H2 z=>z.weaken s1
 | false=>exact⟨F1,_,r1,s1,eB,q1⟩
theorem xQ (ha:QE X a ta) (hb:QE X (.BoolOp .Or (b :: rest) pos) tb):QE X (.BoolOp .Or (a :: b :: rest) pos) (oy ta tb):=by
 refine⟨?_⟩;intro B σ F H env Q rp h;refine bK (AG bc bc) ?_;refine az (ha B σ F H env _ rp h) λv H1 hq0=>?_;obtain⟨F1,d,r1,s1,d1,k,hk,q1⟩:=hq0;subst hk;refine⟨k,ft d1,?_⟩
 cases k with
 | false=>exact az (hb B σ F1 H1 env Q r1 q1) λv H2 z=>z.weaken s1
 | true=>exact⟨F1,_,r1,s1,eB,q1⟩
def x5 (t:TB) (ta tb:TD):TD:=λenv Q=>t env λk=>if k=true then ta env Q else tb env Q
theorem Bk (hc:QT X c tA) (ha:QE X a ta) (hb:QE X b tb):QE X (.IfExp c a b pos) (x5 tA ta tb):=by
 refine⟨?_⟩;intro B σ F H env Q rp h;refine bK (uY mJ bc bc) ?_;refine dU (hc B σ F H env _ rp h) λk H1 ⟨F1,r1,s1,q1⟩=>?_
 cases k with
 | true=>exact az (ha B σ F1 H1 env Q r1 q1) λv H2 z=>z.weaken s1
 | false=>exact az (hb B σ F1 H1 env Q r1 q1) λv H2 z=>z.weaken s1
def aB:dR:=λ_ Q=>Q []
def af (ta:TD) (tr:dR):dR:=λenv Q=>ta env λx=>tr env λxs=>Q (x :: xs)
theorem ao:QA X [] aB:=⟨λB σ F H env Q rp h=>xW oi ⟨F,[],rp,ah.refl _,aK,h⟩⟩
theorem ae (ha:QE X e ta) (hr:QA X es ts) (hs:starEach (e :: es) X.env=(false,eval e X.env) :: starEach es X.env:=by exact bh rfl):QA X (e :: es) (af ta ts):=by
 refine⟨?_⟩;intro B σ F H env Q rp h;refine xW (iF bc kY hs) ?_;refine az (ha B σ F H env _ rp h) λx H1 hq0=>?_;obtain⟨F1,d,r1,s1,d1,q1⟩:=hq0;exact cY (hr B σ F1 H1 env _ r1 q1) λxs H2 ⟨F2,ds,r2,s2,d2,q2⟩=>⟨F2,d :: ds,r2,s1.trans s2,aH (Den.mono s2 _ _ d1) d2,q2⟩
def bW (t:dR):TD:=λenv Q=>t env λxs=>xs.length<=sizeLine/\Q (.tup xs)
def lQ (t:dR):TD:=λenv Q=>t env λxs=>xs.length<=sizeLine/\Q (.lst xs)
theorem RV.zS {B:Base} {σ:St} {env:En} {F H:Hp} {Q:D->Prop} {ds:List D} {vs:List V} (r:Rep X.K B F H σ env) (hd:aj X.K F ds vs) (q:Q (.tup ds)):∀p,H p=none->RV X B σ env F Q (.ref p) (upd H p (.tup vs)):=λp hp=>by
 obtain⟨r2,s2⟩:=r.laid (o:=.tup vs) hp;exact⟨_,_,r2,s2,gv (gZ.of aq) (aj.mono s2 _ _ hd),q⟩
theorem RV.vI {B:Base} {σ:St} {env:En} {F H:Hp} {Q:D->Prop} {ds:List D} {vs:List V} (r:Rep X.K B F H σ env) (hd:aj X.K F ds vs) (q:Q (.lst ds)):∀p,H p=none->RV X B σ env F Q (.ref p) (upd H p (.lst vs)):=λp hp=>by
 obtain⟨r2,s2⟩:=r.laid (o:=.lst vs) hp;exact⟨_,_,r2,s2,ib (eY.of aq) (aj.mono s2 _ _ hd),q⟩
theorem aZ {x1} (h:QA X es ts):QE X (.Tuple es x1 pos) (bW ts):=by
 refine⟨?_⟩;intro B σ F H env Q rp hq;refine bK (yL kY) ?_;refine cY (h B σ F H env _ rp hq) λvs H1 ⟨F1,ds,r1,s1,d1,z,q1⟩=>⟨by rw [<- d1.length];exact z,λp hp=>(RV.zS r1 d1 q1 p hp).weaken s1⟩
theorem oq (h:QA X es ts):QE X (.List es pos) (lQ ts):=by
 refine⟨?_⟩;intro B σ F H env Q rp hq;refine bK (wk kY) ?_;refine cY (h B σ F H env _ rp hq) λvs H1 ⟨F1,ds,r1,s1,d1,z,q1⟩=>⟨by rw [<- d1.length];exact z,λp hp=>(RV.vI r1 d1 q1 p hp).weaken s1⟩
end
mutual
def aS:D->D->Bool
 | .non,.non=>true
 | .bl a,.bl b=>a == b
 | .bl a,.int b=>(if a then 1 else 0) == b
 | .int a,.bl b=>a == (if b then 1 else 0)
 | .int a,.int b=>a == b
 | .str a,.str b=>a == b
 | .tup a,.tup b=>cH a b
 | .lst a,.lst b=>cH a b
 | _,_=>false
def cH:List D->List D->Bool
 | [],[]=>true
 | a :: as,b :: bs=>aS a b && cH as bs
 | _,_=>false
end
mutual
def dep:D->Nat
 | .tup ds=>cZ ds + 1
 | .lst ds=>cZ ds + 1
 | .dct _ _=>1000
 | .obj _=>1000
 | .ty _=>1000
 | .exc _=>1000
 | .cls _=>1000
 | _=>0
def cZ:List D->Nat
 | []=>0
 | d :: ds=>max (dep d) (cZ ds)
end
def qa (ds es:List D) (j:Nat):Bool:=match ds[j]?,es[j]? with
 | some a,some b=>aS a b
 | _,_=>true
theorem lX (n:Nat) (e:Nat->Bool):(List.range (n + 1)).all e=(e 0 && (List.range n).all λi=>e (i + 1)):=by
 rw [List.range_succ_eq_map,List.all_cons,List.all_map];rfl
theorem oH:∀ds es:List D,((List.range (min ds.length es.length)).all (qa ds es) && (ds.length == es.length))=cH ds es
 | [],[]=>by simp [cH]
 | [],b :: es=>by simp [cH]
 | a :: ds,[]=>by simp [cH]
 | a :: ds,b :: es=>by
  have ih:=oH ds es;rw [DV,DV,Nat.succ_min_succ,lX];have e1:qa (a :: ds) (b :: es) 0=aS a b:=by simp [qa]
  have e2:(λi=>qa (a :: ds) (b :: es) (i + 1))=qa ds es:=by funext i;simp [qa]
  have e3:(ds.length + 1 == es.length + 1)=(ds.length == es.length):=by
   rw [Bool.eq_iff_iff];simp
  rw [e1,e2,e3,Bool.and_assoc,ih,cH]
section
variable {X:Cx} {pins:List (Addr×Obj)} {σ:St} {H F:Hp} {s:Shared}
theorem Inv.p7 (I:Inv X pins σ H s) {a:Addr} {xs ys:List V} (h:gZ X.K H a xs) (h':eY X.K H a ys):False:=by
 obtain⟨_,_,⟨o,e1,c1,_⟩,_⟩:=I.tuple h;obtain⟨_,_,⟨o2,_,e2,c2,_⟩,_⟩:=I.list h';rw [e1] at e2;cases e2;rw [c1] at c2;injection c2 with z;exact absurd z (by decide)
mutual
theorem jL (I:Inv X pins σ H s) (fh:ah F H):∀(d d':D) (v:V),dep d < 1000->dep d' < 1000->Den X.K F d v->Den X.K F d' v->aS d d'=true
 | .non,d',v,h1,h2,e1,e2=>by
  simp only [Den] at e1;subst e1
  cases d' <;> simp only [Den] at e2 <;> first|rfl|(obtain⟨a,vs,z,_⟩:=e2;cases z;done)|(obtain⟨a,z,_⟩:=e2;cases z;done)|cases e2
 | .bl b,d',v,h1,h2,e1,e2=>by
  simp only [Den] at e1;subst e1
  cases d' <;> simp only [Den] at e2 <;> first|(obtain⟨a,vs,z,_⟩:=e2;cases z;done)|(obtain⟨a,z,_⟩:=e2;cases z;done)|(cases e2;simp [aS];done)|cases e2
 | .int b,d',v,h1,h2,e1,e2=>by
  simp only [Den] at e1;subst e1
  cases d' <;> simp only [Den] at e2 <;> first|(obtain⟨a,vs,z,_⟩:=e2;cases z;done)|(obtain⟨a,z,_⟩:=e2;cases z;done)|(cases e2;simp [aS];done)|cases e2
 | .str b,d',v,h1,h2,e1,e2=>by
  simp only [Den] at e1;subst e1
  cases d' <;> simp only [Den] at e2 <;> first|(obtain⟨a,vs,z,_⟩:=e2;cases z;done)|(obtain⟨a,z,_⟩:=e2;cases z;done)|(cases e2;simp [aS];done)|cases e2
 | .ty b,d',v,h1,h2,e1,e2=>by simp [dep] at h1
 | .exc b,d',v,h1,h2,e1,e2=>by simp [dep] at h1
 | .cls b,d',v,h1,h2,e1,e2=>by simp [dep] at h1
 | .dct _ _,d',v,h1,h2,e1,e2=>by simp [dep] at h1
 | .obj _,d',v,h1,h2,e1,e2=>by simp [dep] at h1
 | .tup ds,d',v,h1,h2,e1,e2=>by
  simp only [Den] at e1;obtain⟨a,vs,rfl,q,r⟩:=e1
  cases d' with
  | tup es =>
   simp only [Den] at e2;obtain⟨a',us,z,q',r'⟩:=e2;cases z;have:=I.m8 (ah.bG fh q) (ah.bG fh q');subst this;simp only [aS]
   exact kB I fh ds es vs (by simp [dep] at h1;omega) (by simp [dep] at h2;omega) r r'
  | lst es =>
   simp only [Den] at e2;obtain⟨a',us,z,q',r'⟩:=e2;cases z
   exact (Inv.p7 I (ah.bG fh q) (fh.seq q')).elim
  | dct _ _=>simp [dep] at h2
  | obj _=>simp [dep] at h2
  | exc _=>simp [dep] at h2
  | cls _=>simp [dep] at h2
  | _=>simp only [Den] at e2;cases e2
 | .lst ds,d',v,h1,h2,e1,e2=>by
  simp only [Den] at e1;obtain⟨a,vs,rfl,q,r⟩:=e1
  cases d' with
  | lst es =>
   simp only [Den] at e2;obtain⟨a',us,z,q',r'⟩:=e2;cases z;have:=I.ph (fh.seq q) (fh.seq q');subst this;simp only [aS]
   exact kB I fh ds es vs (by simp [dep] at h1;omega) (by simp [dep] at h2;omega) r r'
  | tup es =>
   simp only [Den] at e2;obtain⟨a',us,z,q',r'⟩:=e2;cases z
   exact (Inv.p7 I (ah.bG fh q') (fh.seq q)).elim
  | dct _ _=>simp [dep] at h2
  | obj _=>simp [dep] at h2
  | exc _=>simp [dep] at h2
  | cls _=>simp [dep] at h2
  | _=>simp only [Den] at e2;cases e2
theorem kB (I:Inv X pins σ H s) (fh:ah F H):∀(ds es:List D) (vs:List V),cZ ds < 1000->cZ es < 1000->aj X.K F ds vs->aj X.K F es vs->cH ds es=true
 | [],es,vs,h1,h2,e1,e2=>by
  simp only [aj] at e1;subst e1
  cases es with
  | nil=>rfl
  | cons _ _=>simp only [aj] at e2;obtain⟨_,_,z,_⟩:=e2;cases z
 | d :: ds,es,vs,h1,h2,e1,e2=>by
  simp only [aj] at e1;obtain⟨v,r,rfl,a,b⟩:=e1
  cases es with
  | nil=>simp only [aj] at e2;cases e2
  | cons e es =>
   simp only [aj] at e2;obtain⟨v',r',z,a',b'⟩:=e2;cases z;simp only [cZ] at h1 h2;simp only [cH,Bool.and_eq_true];exact⟨jL I fh d e v (by omega) (by omega) a a',kB I fh ds es r (by omega) (by omega) b b'⟩
end
theorem units_in1 (A:Around):A.in1.units=A.units + 1:=rfl
def AF:D->Bool
 | .non=>true
 | .bl _=>true
 | .int _=>true
 | .str _=>true
 | _=>false
theorem oE (I:Inv X pins σ H s) (fh:ah F H):∀(d d':D) (A:Around) (x y:V) (u v:Value),AF d=true->A.units + dep d < cLine->dep d' < 1000->Den X.K F d x->Den X.K F d' y->RelV x u->RelV y v ->
  SeqAt.RcAt A s u v (aS d d')/\SeqAt.RcNeAt A s u v (!aS d d')
 | .non,d',A,x,y,u,v,lf,hu,h2,e1,e2,r1,r2=>by
  simp only [Den] at e1;subst e1;cases r1;have hu0:A.units < cLine:=by omega
  cases d' with
  | ty _=>simp [dep] at h2
  | dct _ _=>simp [dep] at h2
  | obj _=>simp [dep] at h2
  | exc _=>simp [dep] at h2
  | cls _=>simp [dep] at h2
  | non=>simp only [Den] at e2;subst e2;cases r2;exact⟨SeqAt.RcAt.none_none,SeqAt.RcNeAt.none_none⟩
  | bl b=>simp only [Den] at e2;subst e2;cases r2;exact⟨SeqAt.RcAt.none_bool b,SeqAt.RcNeAt.none_bool b⟩
  | int b=>simp only [Den] at e2;subst e2;obtain⟨t,rfl⟩:=r2;exact⟨SeqAt.RcAt.none_int b t,SeqAt.RcNeAt.none_int b t⟩
  | str b=>simp only [Den] at e2;subst e2;obtain⟨t,rfl⟩:=r2;exact⟨SeqAt.RcAt.none_str b t,SeqAt.RcNeAt.none_str b t⟩
  | tup es =>
   simp only [Den] at e2;obtain⟨a,vs,rfl,q,r⟩:=e2;cases r2;obtain⟨its,rv,ht,hz⟩:=I.tuple (ah.bG fh q)
   exact⟨SeqAt.RcAt.none_tuple ht hu0,SeqAt.RcNeAt.none_tuple ht hu0⟩
  | lst es =>
   simp only [Den] at e2;obtain⟨a,vs,rfl,q,r⟩:=e2;cases r2;obtain⟨its,rv,ht,hz⟩:=I.list (fh.seq q)
   exact⟨SeqAt.RcAt.none_list ht.isList hu0,SeqAt.RcNeAt.none_list ht.isList hu0⟩
 | .bl b',d',A,x,y,u,v,lf,hu,h2,e1,e2,r1,r2=>by
  simp only [Den] at e1;subst e1;cases r1;have hu0:A.units < cLine:=by omega
  cases d' with
  | ty _=>simp [dep] at h2
  | dct _ _=>simp [dep] at h2
  | obj _=>simp [dep] at h2
  | exc _=>simp [dep] at h2
  | cls _=>simp [dep] at h2
  | non=>simp only [Den] at e2;subst e2;cases r2;exact⟨SeqAt.RcAt.bool_none b',SeqAt.RcNeAt.bool_none b'⟩
  | bl b=>simp only [Den] at e2;subst e2;cases r2;exact⟨by simpa only [aS] using SeqAt.RcAt.bool_bool b' b,by simpa only [aS] using SeqAt.RcNeAt.bool_bool b' b⟩
  | int b=>simp only [Den] at e2;subst e2;obtain⟨t,rfl⟩:=r2;exact⟨by simpa only [aS] using SeqAt.RcAt.bool_int b' b t,by simpa only [aS] using SeqAt.RcNeAt.bool_int b' b t⟩
  | str b=>simp only [Den] at e2;subst e2;obtain⟨t,rfl⟩:=r2;exact⟨SeqAt.RcAt.bool_str b' b t,SeqAt.RcNeAt.bool_str b' b t⟩
  | tup es =>
   simp only [Den] at e2;obtain⟨a,vs,rfl,q,r⟩:=e2;cases r2;obtain⟨its,rv,ht,hz⟩:=I.tuple (ah.bG fh q)
   exact⟨SeqAt.RcAt.bool_tuple b' ht hu0,SeqAt.RcNeAt.bool_tuple b' ht hu0⟩
  | lst es =>
   simp only [Den] at e2;obtain⟨a,vs,rfl,q,r⟩:=e2;cases r2;obtain⟨its,rv,ht,hz⟩:=I.list (fh.seq q)
   exact⟨SeqAt.RcAt.bool_list b' ht.isList hu0,SeqAt.RcNeAt.bool_list b' ht.isList hu0⟩
 | .int b',d',A,x,y,u,v,lf,hu,h2,e1,e2,r1,r2=>by
  simp only [Den] at e1;subst e1;obtain⟨t',rfl⟩:=r1;have hu0:A.units < cLine:=by omega
  cases d' with
  | ty _=>simp [dep] at h2
  | dct _ _=>simp [dep] at h2
  | obj _=>simp [dep] at h2
  | exc _=>simp [dep] at h2
  | cls _=>simp [dep] at h2
  | non=>simp only [Den] at e2;subst e2;cases r2;exact⟨SeqAt.RcAt.int_none b' t',SeqAt.RcNeAt.int_none b' t'⟩
  | bl b=>simp only [Den] at e2;subst e2;cases r2;exact⟨by simpa only [aS] using SeqAt.RcAt.int_bool b' t' b,by simpa only [aS] using SeqAt.RcNeAt.int_bool b' t' b⟩
  | int b=>simp only [Den] at e2;subst e2;obtain⟨t,rfl⟩:=r2;exact⟨by simpa only [aS] using SeqAt.RcAt.int_int b' t' b t,by simpa only [aS] using SeqAt.RcNeAt.int_int b' t' b t⟩
  | str b=>simp only [Den] at e2;subst e2;obtain⟨t,rfl⟩:=r2;exact⟨SeqAt.RcAt.int_str b' t' b t,SeqAt.RcNeAt.int_str b' t' b t⟩
  | tup es =>
   simp only [Den] at e2;obtain⟨a,vs,rfl,q,r⟩:=e2;cases r2;obtain⟨its,rv,ht,hz⟩:=I.tuple (ah.bG fh q)
   exact⟨SeqAt.RcAt.int_tuple b' t' ht hu0,SeqAt.RcNeAt.int_tuple b' t' ht hu0⟩
  | lst es =>
   simp only [Den] at e2;obtain⟨a,vs,rfl,q,r⟩:=e2;cases r2;obtain⟨its,rv,ht,hz⟩:=I.list (fh.seq q)
   exact⟨SeqAt.RcAt.int_list b' t' ht.isList hu0,SeqAt.RcNeAt.int_list b' t' ht.isList hu0⟩
 | .str b',d',A,x,y,u,v,lf,hu,h2,e1,e2,r1,r2=>by
  simp only [Den] at e1;subst e1;obtain⟨t',rfl⟩:=r1;have hu0:A.units < cLine:=by omega
  cases d' with
  | ty _=>simp [dep] at h2
  | dct _ _=>simp [dep] at h2
  | obj _=>simp [dep] at h2
  | exc _=>simp [dep] at h2
  | cls _=>simp [dep] at h2
  | non=>simp only [Den] at e2;subst e2;cases r2;exact⟨SeqAt.RcAt.str_none b' t',SeqAt.RcNeAt.str_none b' t'⟩
  | bl b=>simp only [Den] at e2;subst e2;cases r2;exact⟨SeqAt.RcAt.str_bool b' t' b,SeqAt.RcNeAt.str_bool b' t' b⟩
  | int b=>simp only [Den] at e2;subst e2;obtain⟨t,rfl⟩:=r2;exact⟨SeqAt.RcAt.str_int b' t' b t,SeqAt.RcNeAt.str_int b' t' b t⟩
  | str b=>simp only [Den] at e2;subst e2;obtain⟨t,rfl⟩:=r2;exact⟨by simpa only [aS] using SeqAt.RcAt.str_str b' t' b t,by simpa only [aS] using SeqAt.RcNeAt.str_str b' t' b t⟩
  | tup es =>
   simp only [Den] at e2;obtain⟨a,vs,rfl,q,r⟩:=e2;cases r2;obtain⟨its,rv,ht,hz⟩:=I.tuple (ah.bG fh q)
   exact⟨SeqAt.RcAt.str_tuple b' t' ht hu0,SeqAt.RcNeAt.str_tuple b' t' ht hu0⟩
  | lst es =>
   simp only [Den] at e2;obtain⟨a,vs,rfl,q,r⟩:=e2;cases r2;obtain⟨its,rv,ht,hz⟩:=I.list (fh.seq q)
   exact⟨SeqAt.RcAt.str_list b' t' ht.isList hu0,SeqAt.RcNeAt.str_list b' t' ht.isList hu0⟩
 | .ty _,d',A,x,y,u,v,lf,hu,h2,e1,e2,r1,r2=>(by cases lf)
 | .exc _,d',A,x,y,u,v,lf,hu,h2,e1,e2,r1,r2=>(by cases lf)
 | .cls _,d',A,x,y,u,v,lf,hu,h2,e1,e2,r1,r2=>(by cases lf)
 | .dct _ _,d',A,x,y,u,v,lf,hu,h2,e1,e2,r1,r2=>(by cases lf)
 | .obj _,d',A,x,y,u,v,lf,hu,h2,e1,e2,r1,r2=>(by cases lf)
 | .tup _,d',A,x,y,u,v,lf,hu,h2,e1,e2,r1,r2=>(by cases lf)
 | .lst _,d',A,x,y,u,v,lf,hu,h2,e1,e2,r1,r2=>(by cases lf)
theorem sr (I:Inv X pins σ H s) (fh:ah F H) (d d':D) (A:Around) (x y:V) (u v:Value) (hu:A.units + dep d < cLine) (h1:dep d < 1000) (h2:dep d' < 1000) (e1:Den X.K F d x) (e2:Den X.K F d' y) (r1:RelV x u) (r2:RelV y v) (k:SeqAt.RcAt A s u v (aS d d')) :
  SeqAt.EqAt A s u v (aS d d'):=by
 have hu0:A.units < cLine:=by omega
 by_cases z:u=v
 ·subst z;have:x=y:=r1.inj r2;subst this;rw [jL I fh d d' x h1 h2 e1 e2];exact SeqAt.EqAt.same u
 ·intro prog w E Q hq;unfold eqBool;refine wpAny_holding ?_;refine wpAny_ite_split (λhab=>absurd (eq_of_beq hab) z) (λ_=>?_)
  have nf:∀b t,u≠.float b t:=λb t w=>by
   subst w;cases x <;> first|(obtain⟨_,q⟩:=r1;cases q;done)|(cases r1;done)|skip
   cases d <;> simp only [Den] at e1 <;> first|(cases e1;done)|(obtain⟨_,_,z,_⟩:=e1;cases z;done)|(obtain⟨_,z,_⟩:=e1;cases z;done)
  cases u <;> cases v <;> first|exact absurd rfl (nf _ _)|exact Dk (k prog w E _ (wpAny_truthy_bool hq))
theorem yc (I:Inv X pins σ H s) (fh:ah F H) (ds0:List D) (d d':D) (A:Around) (x y:V) (u v:Value) (hl:d=.tup ds0\/d=.lst ds0) (hu:A.units + dep d < cLine) (h1:dep d < 1000) (h2:dep d' < 1000) (e1:Den X.K F d x) (e2:Den X.K F d' y) (r1:RelV x u) (r2:RelV y v)
  (rec:∀(es:List D),(d'=.tup es\/d'=.lst es)->∀(vs1 vs:List V) (its1 its:List Value),aj X.K F ds0 vs1->aj X.K F es vs->Vals vs1 its1->Vals vs its->∀(j:Nat) (h1:j < its1.length) (h2:j < its.length),SeqAt.EqAt A.in1 s its1[j] its[j] (qa ds0 es j)) :
  SeqAt.RcAt A s u v (aS d d')/\SeqAt.RcNeAt A s u v (!aS d d'):=by
 cases d with
 | non=>rcases hl with hl|hl <;> cases hl
 | bl _=>rcases hl with hl|hl <;> cases hl
 | int _=>rcases hl with hl|hl <;> cases hl
 | str _=>rcases hl with hl|hl <;> cases hl
 | ty _=>simp [dep] at h1
 | exc _=>simp [dep] at h1
 | cls _=>simp [dep] at h1
 | dct _ _=>simp [dep] at h1
 | obj _=>simp [dep] at h1
 | tup ds =>
  have z:ds=ds0:=by rcases hl with hl|hl <;> cases hl <;> rfl
  subst z;simp only [Den] at e1;obtain⟨a1,vs1,rfl,q1,g1⟩:=e1;cases r1;obtain⟨its1,rv1,ht1,hz1⟩:=I.tuple (ah.bG fh q1);simp only [dep] at hu h1;have hu0:A.units < cLine:=by omega
  cases d' with
  | ty _=>simp [dep] at h2
  | dct _ _=>simp [dep] at h2
  | obj _=>simp [dep] at h2
  | exc _=>simp [dep] at h2
  | cls _=>simp [dep] at h2
  | non=>simp only [Den] at e2;subst e2;cases r2;exact⟨SeqAt.RcAt.tuple_none ht1 hu0,SeqAt.RcNeAt.tuple_none ht1 hu0⟩
  | bl b=>simp only [Den] at e2;subst e2;cases r2;exact⟨SeqAt.RcAt.tuple_bool b ht1 hu0,SeqAt.RcNeAt.tuple_bool b ht1 hu0⟩
  | int b=>simp only [Den] at e2;subst e2;obtain⟨t,rfl⟩:=r2;exact⟨SeqAt.RcAt.tuple_int b t ht1 hu0,SeqAt.RcNeAt.tuple_int b t ht1 hu0⟩
  | str b=>simp only [Den] at e2;subst e2;obtain⟨t,rfl⟩:=r2;exact⟨SeqAt.RcAt.tuple_str b t ht1 hu0,SeqAt.RcNeAt.tuple_str b t ht1 hu0⟩
  | lst es =>
   simp only [Den] at e2;obtain⟨a,vs,rfl,q,r⟩:=e2;cases r2;obtain⟨its,rv,ht,hz⟩:=I.list (fh.seq q)
   exact⟨SeqAt.RcAt.tuple_list ht1 ht.isList hu0,SeqAt.RcNeAt.tuple_list ht1 ht.isList hu0⟩
  | tup es =>
   simp only [Den] at e2;obtain⟨a,vs,rfl,q,r⟩:=e2;cases r2;obtain⟨its,rv,ht,hz⟩:=I.tuple (ah.bG fh q);simp only [dep] at h2;have he:=rec es (.inl rfl) vs1 vs its1 its g1 r rv1 rv;have l1:its1.length=ds.length:=by rw [g1.length,rv1.length]
   have l2:its.length=es.length:=by rw [r.length,rv.length]
   have k1:=SeqAt.RcAt.tuples (e:=qa ds es) ht1 ht hu0 (λj h1 h2=>he j (by simpa using h1) (by simpa using h2));have k2:=SeqAt.RcNeAt.tuples (e:=qa ds es) ht1 ht hu0 (λj h1 h2=>he j (by simpa using h1) (by simpa using h2));rw [DE,DE,l1,l2,oH] at k1 k2
   exact⟨by simpa only [aS] using k1,by simpa only [aS] using k2⟩
 | lst ds =>
  have z:ds=ds0:=by rcases hl with hl|hl <;> cases hl <;> rfl
  subst z;simp only [Den] at e1;obtain⟨a1,vs1,rfl,q1,g1⟩:=e1;cases r1;obtain⟨its1,rv1,ht1,hz1⟩:=I.list (fh.seq q1);simp only [dep] at hu h1;have hu0:A.units < cLine:=by omega
  cases d' with
  | ty _=>simp [dep] at h2
  | dct _ _=>simp [dep] at h2
  | obj _=>simp [dep] at h2
  | exc _=>simp [dep] at h2
  | cls _=>simp [dep] at h2
  | non=>simp only [Den] at e2;subst e2;cases r2;exact⟨SeqAt.RcAt.list_none ht1.isList hu0,SeqAt.RcNeAt.list_none ht1.isList hu0⟩
  | bl b=>simp only [Den] at e2;subst e2;cases r2;exact⟨SeqAt.RcAt.list_bool b ht1.isList hu0,SeqAt.RcNeAt.list_bool b ht1.isList hu0⟩
  | int b=>simp only [Den] at e2;subst e2;obtain⟨t,rfl⟩:=r2;exact⟨SeqAt.RcAt.list_int b t ht1.isList hu0,SeqAt.RcNeAt.list_int b t ht1.isList hu0⟩
  | str b=>simp only [Den] at e2;subst e2;obtain⟨t,rfl⟩:=r2;exact⟨SeqAt.RcAt.list_str b t ht1.isList hu0,SeqAt.RcNeAt.list_str b t ht1.isList hu0⟩
  | tup es =>
   simp only [Den] at e2;obtain⟨a,vs,rfl,q,r⟩:=e2;cases r2;obtain⟨its,rv,ht,hz⟩:=I.tuple (ah.bG fh q)
   exact⟨SeqAt.RcAt.list_tuple ht1.isList ht hu0,SeqAt.RcNeAt.list_tuple ht1.isList ht hu0⟩
  | lst es =>
   simp only [Den] at e2;obtain⟨a,vs,rfl,q,r⟩:=e2;cases r2;obtain⟨its,rv,ht,hz⟩:=I.list (fh.seq q);simp only [dep] at h2;have he:=rec es (.inr rfl) vs1 vs its1 its g1 r rv1 rv;have l1:its1.length=ds.length:=by rw [g1.length,rv1.length]
   have l2:its.length=es.length:=by rw [r.length,rv.length]
   simp only [aS];rw [<- oH]
   by_cases hsz:ds.length=es.length
   ·have k1:=SeqAt.RcAt.lists (e:=qa ds es) ht1.isList ht.isList (by simp [l1,l2,hsz]) hu0 (λj h1 h2=>he j (by simpa using h1) (by simpa using h2));have k2:=SeqAt.RcNeAt.lists (e:=qa ds es) ht1.isList ht.isList (by simp [l1,l2,hsz]) hu0 (λj h1 h2=>he j (by simpa using h1) (by simpa using h2));rw [DE,l1] at k1 k2;have e:(ds.length == es.length)=true:=by simp [hsz]
    rw [e,EB,<- hsz,Nat.min_self];exact⟨k1,k2⟩
   ·have e:(ds.length == es.length)=false:=by simp [hsz]
    rw [e,Bool.and_false];have e2:(its1.toArray.size != its.toArray.size)=true:=by simp [l1,l2,hsz]
    exact⟨SeqAt.RcAt.lists_lengths ht1.isList ht.isList e2 hu0,SeqAt.RcNeAt.lists_lengths ht1.isList ht.isList e2 hu0⟩
mutual
theorem xh (I:Inv X pins σ H s) (fh:ah F H):∀(d d':D) (A:Around) (x y:V) (u v:Value),A.units + dep d < cLine->dep d < 1000->dep d' < 1000->Den X.K F d x->Den X.K F d' y->RelV x u->RelV y v ->
  SeqAt.RcAt A s u v (aS d d')/\SeqAt.RcNeAt A s u v (!aS d d')
 | .ty _,d',A,x,y,u,v,hu,h1,h2,e1,e2,r1,r2=>by simp [dep] at h1
 | .exc _,d',A,x,y,u,v,hu,h1,h2,e1,e2,r1,r2=>by simp [dep] at h1
 | .cls _,d',A,x,y,u,v,hu,h1,h2,e1,e2,r1,r2=>by simp [dep] at h1
 | .dct _ _,d',A,x,y,u,v,hu,h1,h2,e1,e2,r1,r2=>by simp [dep] at h1
 | .obj _,d',A,x,y,u,v,hu,h1,h2,e1,e2,r1,r2=>by simp [dep] at h1
 | .non,d',A,x,y,u,v,hu,h1,h2,e1,e2,r1,r2=>oE I fh _ d' A x y u v rfl hu h2 e1 e2 r1 r2
 | .bl _,d',A,x,y,u,v,hu,h1,h2,e1,e2,r1,r2=>oE I fh _ d' A x y u v rfl hu h2 e1 e2 r1 r2
 | .int _,d',A,x,y,u,v,hu,h1,h2,e1,e2,r1,r2=>oE I fh _ d' A x y u v rfl hu h2 e1 e2 r1 r2
 | .str _,d',A,x,y,u,v,hu,h1,h2,e1,e2,r1,r2=>oE I fh _ d' A x y u v rfl hu h2 e1 e2 r1 r2
 | .tup ds,d',A,x,y,u,v,hu,h1,h2,e1,e2,r1,r2=>yc I fh ds _ d' A x y u v (.inl rfl) hu h1 h2 e1 e2 r1 r2 λes z2 vs1 vs its1 its g1 r rv1 rv =>
  vk I fh ds es A.in1 vs1 vs its1 its (by rw [units_in1];simp only [dep] at hu;omega) (by simp only [dep] at h1;omega) (by rcases z2 with rfl|rfl <;> (simp only [dep] at h2;omega)) g1 r rv1 rv
 | .lst ds,d',A,x,y,u,v,hu,h1,h2,e1,e2,r1,r2=>yc I fh ds _ d' A x y u v (.inr rfl) hu h1 h2 e1 e2 r1 r2 λes z2 vs1 vs its1 its g1 r rv1 rv =>
  vk I fh ds es A.in1 vs1 vs its1 its (by rw [units_in1];simp only [dep] at hu;omega) (by simp only [dep] at h1;omega) (by rcases z2 with rfl|rfl <;> (simp only [dep] at h2;omega)) g1 r rv1 rv
theorem vk (I:Inv X pins σ H s) (fh:ah F H):∀(ds es:List D) (A:Around) (xs ys:List V) (us vs:List Value),A.units + cZ ds < cLine->cZ ds < 1000->cZ es < 1000->aj X.K F ds xs->aj X.K F es ys->Vals xs us->Vals ys vs ->
  ∀(j:Nat) (h1:j < us.length) (h2:j < vs.length),SeqAt.EqAt A s us[j] vs[j] (qa ds es j)
 | [],es,A,xs,ys,us,vs,hu,h1,h2,e1,e2,r1,r2,j,hj1,hj2=>by
  simp only [aj] at e1;subst e1;cases r1;simp at hj1
 | d :: ds,es,A,xs,ys,us,vs,hu,h1,h2,e1,e2,r1,r2,j,hj1,hj2=>by
  simp only [aj] at e1;obtain⟨x,xr,rfl,ax,bx⟩:=e1
  cases r1 with
  | cons rx rrx =>
  cases es with
  | nil=>simp only [aj] at e2;subst e2;cases r2;simp at hj2
  | cons e es =>
   simp only [aj] at e2;obtain⟨y,yr,rfl,ay,by'⟩:=e2
   cases r2 with
   | cons ry rry =>
   simp only [cZ] at hu h1 h2
   cases j with
   | zero =>
    simp only [List.getElem_cons_zero];have e0:qa (d :: ds) (e :: es) 0=aS d e:=by simp [qa]
    rw [e0]
    exact sr I fh d e A x y _ _ (by omega) (by omega) (by omega) ax ay rx ry (xh I fh d e A x y _ _ (by omega) (by omega) (by omega) ax ay rx ry).1
   | succ j =>
    simp only [List.getElem_cons_succ];have e0:qa (d :: ds) (e :: es) (j + 1)=qa ds es j:=by simp [qa]
    rw [e0];exact vk I fh ds es A xr yr _ _ (by omega) (by omega) (by omega) bx by' rrx rry j (by simpa using hj1) (by simpa using hj2)
end
theorem lV (I:Inv X pins σ H s) (fh:ah F H) (d d':D) (A:Around) (x y:V) (u v:Value) (hu:A.units + dep d < cLine) (h1:dep d < 1000) (h2:dep d' < 1000) (e1:Den X.K F d x) (e2:Den X.K F d' y) (r1:RelV x u) (r2:RelV y v) :
  SeqAt.EqAt A s u v (aS d d'):=sr I fh d d' A x y u v hu h1 h2 e1 e2 r1 r2 (xh I fh d d' A x y u v hu h1 h2 e1 e2 r1 r2).1
end
end L2.L3
namespace L2.L3
open PySem PySem.Spec PyProof.Rows
section
variable {X:Cx} {a b c e:Expr} {es:List Expr} {ta tb tc:TD} {tA tB':TB} {ts:dR} {pos:Pos} {rest:List Expr}
def yu (K:Dj):R2:=λx y H Q=>∃l b xs zs,x=.ref l/\y=.ref b/\eY K H l xs/\eY K H b zs/\xs.length + zs.length<=sizeLine/\∀p,H p=none->Q (.ref p) (upd H p (.lst (xs ++ zs)))
theorem xy:iG X (binaryOp .Add) (yu X.K):=by
 intro pins s σ H x y v u Q I rx ry h;obtain⟨l,b,xs,zs,rfl,rfl,hH,hB,hz,q⟩:=h;cases rx;cases ry;obtain⟨its,r,⟨⟨cls,dd,data,sl⟩,n,ho,hc,hdd,hd⟩,z⟩:=I.list hH;obtain⟨its2,r2,⟨⟨cls2,dd2,data2,sl2⟩,n2,ho2,hc2,hdd2,hd2⟩,z2⟩:=I.list hB;simp only at hc hdd hd hc2 hdd2 hd2;subst hc hdd hd hc2 hdd2 hd2;have ea:its.toArray ++ its2.toArray=(its ++ its2).toArray:=by simp
 refine concat_meets ⟨_,ho,rfl⟩ ⟨_,ho2,rfl⟩ noFill_list_add seq_list_add PySem.F.slot_list_add PySem.F.entry_list_add (PySem.F.args_list_add_2 _ _)
  (list_addW l b its.toArray its2.toArray n n2 none none sl sl2 (by rw [DE,DE,<- r.length,<- r2.length];exact hz)) ⟨ho,ho2,?_⟩
 rw [ea];exact⟨.ref _,_,I.BY (t':=s.toks) (r.append r2) (by rw [DN];omega),rfl,q _ I.fresh⟩
def vJ (K:Dj):R2:=λx y H Q=>∃a b ys,x=.ref a/\y=.ref b/\gZ K H a []/\gZ K H b ys/\Q (.ref b) H
theorem vV:iG X (binaryOp .Add) (vJ X.K):=by
 intro pins s σ H x y v u Q I rx ry h;obtain⟨l,b,zs,rfl,rfl,hH,hB,q⟩:=h;cases rx;cases ry;obtain⟨its,r,⟨⟨cls,dd,data,sl⟩,ho,hc,n,hd⟩,z⟩:=I.tuple hH;obtain⟨its2,r2,⟨⟨cls2,dd2,data2,sl2⟩,ho2,hc2,n2,hd2⟩,z2⟩:=I.tuple hB;cases r;simp only at hc hd hc2 hd2;subst hc hd hc2 hd2
 exact concat_meets ⟨_,ho,rfl⟩ ⟨_,ho2,rfl⟩ noFill_tuple_add seq_tuple_add PySem.F.slot_tuple_add PySem.F.entry_tuple_add (PySem.F.args_tuple_add_2 _ _)
  (tuple_addW0 l b _ _ n n2 dd dd2 sl sl2 (by simp)) ⟨ho,ho2,⟨.ref b,H,I,rfl,q⟩⟩
def cU (x y:D) (Q:D->Prop):Prop:=match x,y with
 | .int i,.int j=>Q (.int (i + j))
 | .str u,.str w=>u.length + w.length<=sizeLine/\Q (.str (u ++ w))
 | .lst u,.lst w=>u.length + w.length<=sizeLine/\Q (.lst (u ++ w))
 | .tup u,.tup w=>u.length + w.length<=sizeLine/\Q (.tup (u ++ w))
 | _,_=>False
def sj (K:Dj):R2:=λx y H Q=>wI (λi j=>.int (i + j)) x y H Q\/(∃i j,x=.str i/\y=.str j/\i.length + j.length<=sizeLine/\Q (.str (i ++ j)) H)\/yu K x y H Q\/xY K x y H Q\/vJ K x y H Q
theorem tw:iG X (binaryOp .Add) (sj X.K):=za.or (qH.or (xy.or (xt.or vV)))
theorem zz:uq X (sj X.K) cU:=by
 intro B σ F H env Q d d' x y Z rp h1 h2 hz hf;unfold cU at hf
 split at hf
 ·simp only [Den] at h1 h2;subst h1 h2;exact .inl ⟨_,_,rfl,rfl,hz _ _ F _ rp (ah.refl _) bA hf⟩
 ·simp only [Den] at h1 h2;subst h1 h2;exact .inr (.inl ⟨_,_,rfl,rfl,hf.1,hz _ _ F _ rp (ah.refl _) iI hf.2⟩)
 ·simp only [Den] at h1 h2;obtain⟨p,vs,rfl,q,r⟩:=h1;obtain⟨p',vs',rfl,q',r'⟩:=h2;refine .inr (.inr (.inl ⟨p,p',vs,vs',rfl,rfl,rp.fh.seq q,rp.fh.seq q',by rw [<- r.length,<- r'.length];exact hf.1,λw hw=>?_⟩));obtain⟨r2,s2⟩:=rp.laid (o:=.lst (vs ++ vs')) hw;exact hz _ _ _ _ r2 s2 (ib (eY.of aq) (aj.mono s2 _ _ (r.append r'))) hf.2
 ·simp only [Den] at h1 h2;obtain⟨p,vs,rfl,q,r⟩:=h1;obtain⟨p',vs',rfl,q',r'⟩:=h2
  cases vs with
  | nil =>
   rename_i u w
   cases u with
   | cons _ _=>simp only [aj] at r;obtain⟨_,_,z,_⟩:=r;cases z
   | nil =>
    exact .inr (.inr (.inr (.inr ⟨p,p',vs',rfl,rfl,ah.bG rp.fh q,ah.bG rp.fh q',hz _ _ F _ rp (ah.refl _) (gv q' r') (by simpa using hf.2)⟩)))
  | cons v0 vr =>
   refine .inr (.inr (.inr (.inl ⟨p,p',v0 :: vr,vs',rfl,rfl,ah.bG rp.fh q,ah.bG rp.fh q',by simp,by rw [<- r.length,<- r'.length];exact hf.1,λw=>?_,λw z hw=>?_⟩)))
   ·subst w
    rename_i w
    have e:w=[]:=by
     cases w with
     | nil=>rfl
     | cons _ _=>simp only [aj] at r';obtain⟨_,_,z,_⟩:=r';cases z
    subst e;exact hz _ _ F _ rp (ah.refl _) (gv q r) (by simpa using hf.2)
   ·obtain⟨r2,s2⟩:=rp.laid (o:=.tup (v0 :: vr ++ vs')) hw;exact hz _ _ _ _ r2 s2 (gv (gZ.of aq) (aj.mono s2 _ _ (r.append r'))) hf.2
 ·exact hf.elim
theorem dI (ha:QE X a ta) (hb:QE X b tb):QE X (.BinOp a .Add b pos) (aM cU ta tb):=uW tw zz ha hb
def tL (C:Int->Int->Prop) (g:Int->Int->D) (x y:D) (Q:D->Prop):Prop:=match x,y with
 | .int i,.int j=>C i j/\Q (g i j)
 | _,_=>False
theorem uG {C:Int->Int->Prop} {g:Int->Int->Int}:uq X (rI C λi j=>.int (g i j)) (tL C λi j=>.int (g i j)):=by
 intro B σ F H env Q d d' x y Z rp h1 h2 hz hf;unfold tL at hf
 split at hf
 ·simp only [Den] at h1 h2;subst h1 h2;exact⟨_,_,rfl,rfl,hf.1,hz _ _ F _ rp (ah.refl _) bA hf.2⟩
 ·exact hf.elim
theorem yX {g:Int->Int->Int}:uq X (wI λi j=>.int (g i j)) (tL (λ_ _=>True) λi j=>.int (g i j)):=by
 intro B σ F H env Q d d' x y Z rp h1 h2 hz hf;unfold tL at hf
 split at hf
 ·simp only [Den] at h1 h2;subst h1 h2;exact⟨_,_,rfl,rfl,hz _ _ F _ rp (ah.refl _) bA hf.2⟩
 ·exact hf.elim
theorem vm {g:Int->Int->Bool}:uq X (wI λi j=>.bl (g i j)) (tL (λ_ _=>True) λi j=>.bl (g i j)):=by
 intro B σ F H env Q d d' x y Z rp h1 h2 hz hf;unfold tL at hf
 split at hf
 ·simp only [Den] at h1 h2;subst h1 h2;exact⟨_,_,rfl,rfl,hz _ _ F _ rp (ah.refl _) eB hf.2⟩
 ·exact hf.elim
theorem wB:iG X (binaryOp .Mult) (rI IntMulOk λi j=>.int (i * j)):=B4 λ_ _ _ _ _ _ _ hc q=>mul_int q hc
def mX (_ j:Int):Prop:=j≠0/\j.natAbs.log2 < 9000
theorem uB:iG X (binaryOp .FloorDiv) (rI mX λi j=>.int (i.fdiv j)):=B4 λ_ _ _ _ _ _ _ hc q=>floordiv_int hc.1 q (.inl (PyProof.noPylong_of_log2 hc.2))
def pH (_ j:Int):Prop:=j≠0
abbrev uH:=tL (λ_ _=>True) λi j=>.int (i - j)
abbrev cM:=tL IntMulOk λi j=>.int (i * j)
abbrev lO:=tL mX λi j=>.int (i.fdiv j)
abbrev dm:=tL pH λi j=>.int (i.fmod j)
abbrev A0:=tL (λ_ _=>True) λi j=>.bl (decide (i < j))
abbrev Cp:=tL (λ_ _=>True) λi j=>.bl (decide (j < i))
theorem rZ (ha:QE X a ta) (hb:QE X b tb):QE X (.BinOp a .Sub b pos) (aM uH ta tb):=uW y9 yX ha hb
theorem cG (ha:QE X a ta) (hb:QE X b tb):QE X (.BinOp a .Mult b pos) (aM cM ta tb):=uW wB uG ha hb
theorem jj (ha:QE X a ta) (hb:QE X b tb):QE X (.BinOp a .FloorDiv b pos) (aM lO ta tb):=uW uB uG ha hb
theorem cj (ha:QE X a ta) (hb:QE X b tb):QE X (.BinOp a .Mod b pos) (aM dm ta tb):=uW (r:=rI pH λi j=>.int (i.fmod j)) wQ uG ha hb
theorem xo (ha:QE X a ta) (hb:QE X b tb):QT X (.Compare a [.Lt] [b] pos) (a7 (aM A0 ta tb)):=kQ Bg vm ha hb (ji _)
theorem AO (ha:QE X a ta) (hb:QE X b tb):QT X (.Compare a [.Gt] [b] pos) (a7 (aM Cp ta tb)):=kQ Bi vm ha hb (ji _)
def C8 (X:Cx) (r:V->Hp->VK->Prop) (f:D->(D->Prop)->Prop):Prop:=∀(B:Base) (σ:St) (F H:Hp) (env:En) (Q:D->Prop) (d:D) (x:V) (Z:VK),Rep X.K B F H σ env->Den X.K F d x->Kont X B σ env F Q Z->f d Q->r x H Z
def rB (f:D->(D->Prop)->Prop) (ta:TD):TD:=λenv Q=>ta env λx=>f x Q
theorem BZ {op:UnaryOp} {r:V->Hp->VK->Prop} {f:D->(D->Prop)->Prop} (ho:BL X (unaryOp op) r) (hf:C8 X r f) (ha:QE X a ta):QE X (.UnaryOp op a pos) (rB f ta):=by
 refine⟨?_⟩;intro B σ F H env Q rp h;refine bK (BA ho bc) ?_;refine az (ha B σ F H env _ rp h) λx H1 hq0=>?_;obtain⟨F1,d,r1,s1,d1,q1⟩:=hq0;exact hf B σ F1 H1 env Q d x _ r1 d1 (λv H' F' d' r' s' hd q=>⟨F',d',r',s1.trans s',hd,q⟩) q1
def mi (x:D) (Q:D->Prop):Prop:=match x with
 | .int i=>Q (.int (-i))
 | _=>False
theorem lB (ha:QE X a ta):QE X (.UnaryOp .USub a pos) (rB mi ta):=by
 refine BZ zI ?_ ha;intro B σ F H env Q d x Z rp h1 hz hf;unfold mi at hf
 split at hf
 ·simp only [Den] at h1;subst h1;exact⟨_,rfl,hz _ _ F _ rp (ah.refl _) bA hf⟩
 ·exact hf.elim
def xM (X:Cx) (neg:Bool):R2:=λx y H Q=>∃(F:Hp) (d d':D),ah F H/\Den X.K F d x/\Den X.K F d' y/\X.A.units + dep d < cLine/\dep d < 1000/\dep d' < 1000/\Q (.bl (if neg then !aS d d' else aS d d')) H
theorem vo:iG X (compareOp .Eq) (xM X false):=by
 intro pins s σ H x y v u Q I rx ry h;obtain⟨F,d,d',fh,h1,h2,hu,hd,hd',q⟩:=h;exact (xh I fh d d' X.A x y v u hu hd hd' h1 h2 rx ry).1 X.prog X.w X.xe _ ⟨.bl _,H,I,rfl,q⟩
theorem uX:iG X (compareOp .NotEq) (xM X true):=by
 intro pins s σ H x y v u Q I rx ry h;obtain⟨F,d,d',fh,h1,h2,hu,hd,hd',q⟩:=h;exact (xh I fh d d' X.A x y v u hu hd hd' h1 h2 rx ry).2 X.prog X.w X.xe _ ⟨.bl _,H,I,rfl,q⟩
def kC (x y:D):Prop:=dep x<=60/\dep y<=60
def l7 (x y:D) (Q:D->Prop):Prop:=kC x y/\Q (.bl (aS x y))
def wj (x y:D) (Q:D->Prop):Prop:=kC x y/\Q (.bl (!aS x y))
theorem yn (hu:X.A.units + 64 < cLine):uq X (xM X false) l7:=by
 intro B σ F H env Q d d' x y Z rp h1 h2 hz hf;obtain⟨⟨l1,l2⟩,q⟩:=hf;exact⟨F,d,d',rp.fh,h1,h2,by omega,by omega,by omega,hz _ _ F _ rp (ah.refl _) eB q⟩
theorem ya (hu:X.A.units + 64 < cLine):uq X (xM X true) wj:=by
 intro B σ F H env Q d d' x y Z rp h1 h2 hz hf;obtain⟨⟨l1,l2⟩,q⟩:=hf;exact⟨F,d,d',rp.fh,h1,h2,by omega,by omega,by omega,hz _ _ F _ rp (ah.refl _) eB q⟩
theorem wY (hu:X.A.units + 64 < cLine) (ha:QE X a ta) (hb:QE X b tb):QE X (.Compare a [.Eq] [b] pos) (aM l7 ta tb):=xP vo (yn hu) ha hb (ji _)
theorem Cz (hu:X.A.units + 64 < cLine) (ha:QE X a ta) (hb:QE X b tb):QE X (.Compare a [.NotEq] [b] pos) (aM wj ta tb):=xP uX (ya hu) ha hb (ji _)
theorem ub (hu:X.A.units + 64 < cLine) (ha:QE X a ta) (hb:QE X b tb):QT X (.Compare a [.Eq] [b] pos) (a7 (aM l7 ta tb)):=kQ vo (yn hu) ha hb (ji _)
theorem zQ (hu:X.A.units + 64 < cLine) (ha:QE X a ta) (hb:QE X b tb):QT X (.Compare a [.NotEq] [b] pos) (a7 (aM wj ta tb)):=kQ uX (ya hu) ha hb (ji _)
def i6 (x y:D) (Q:D->Prop):Prop:=match x,y with
 | .lst xs,.int i=>∃v,iV xs i=some v/\Q v
 | .tup xs,.int i=>∃v,iV xs i=some v/\Q v
 | .str z,.int i=>z.length<=sizeLine/\∃c,iV z.cps.toList i=some c/\Q (.str ⟨#[c]⟩)
 | _,_=>False
theorem aj.iV {K:Dj} {F:Hp} {ds:List D} {vs:List V} {i:Int} {d:D} (r:aj K F ds vs) (h:iV ds i=some d):∃v,L2.iV vs i=some v/\Den K F d v:=by
 unfold L2.iV at h ⊢;rw [<- r.length]
 cases e:wx ds.length i with
 | none=>rw [e] at h;cases h
 | some j =>
  rw [e] at h;exact r.get h
theorem Bu:uq X (CC X.K) i6:=by
 intro B σ F H env Q d d' x y Z rp h1 h2 hz hf;unfold i6 at hf
 split at hf
 ·simp only [Den] at h1 h2;subst h2;obtain⟨p,vs,rfl,q,r⟩:=h1;obtain⟨v,hv,qv⟩:=hf;obtain⟨w,hw,dw⟩:=r.iV hv;exact .inl ⟨p,vs,_,w,rfl,rfl,rp.fh.seq q,hw,hz _ _ F _ rp (ah.refl _) dw qv⟩
 ·simp only [Den] at h1 h2;subst h2;obtain⟨p,vs,rfl,q,r⟩:=h1;obtain⟨v,hv,qv⟩:=hf;obtain⟨w,hw,dw⟩:=r.iV hv;exact .inr (.inl ⟨p,vs,_,w,rfl,rfl,ah.bG rp.fh q,hw,hz _ _ F _ rp (ah.refl _) dw qv⟩)
 ·simp only [Den] at h1 h2;subst h1 h2;obtain⟨hl,c,hc,qv⟩:=hf;exact .inr (.inr ⟨_,_,c,rfl,rfl,hl,hc,hz _ _ F _ rp (ah.refl _) iI qv⟩)
 ·exact hf.elim
theorem fy (ha:QE X a ta) (hb:QE X b tb) (hs:oJ b):QE X (.Subscript a b pos) (aM i6 ta tb):=⟨λB σ F H env Q rp h=>bK (yd yP bc bc hs) (two Bu ha hb rp Cu h)⟩
def Call3 (X:Cx) (r:List V->Hp->VK->Prop) (f:List D->(D->Prop)->Prop):Prop:=∀(B:Base) (σ:St) (F H:Hp) (env:En) (Q:D->Prop) (ds:List D) (vs:List V) (Z:VK),Rep X.K B F H σ env->aj X.K F ds vs->Kont X B σ env F Q Z->f ds Q->r vs H Z
def aI (f:List D->(D->Prop)->Prop) (ts:dR):TD:=λenv Q=>ts env λxs=>f xs Q
theorem ye {r:List V->Hp->VK->Prop} {f:List D->(D->Prop)->Prop} (hf:Call3 X r f) (ha:QA X es ts) {B:Base} {σ:St} {F H:Hp} {env:En} {Q:D->Prop} (rp:Rep X.K B F H σ env) (h:aI f ts env Q):Cc r (wA X es) σ H (RV X B σ env F Q):=by
 refine cY (ha B σ F H env _ rp h) λvs H1 hq0=>?_;obtain⟨F1,ds,r1,s1,d1,q1⟩:=hq0;exact hf B σ F1 H1 env Q ds vs _ r1 d1 (λv H' F' d' r' s' hd q=>⟨F',d',r',s1.trans s',hd,q⟩) q1
theorem jI {id:String} {r:List V->Hp->VK->Prop} {f:List D->(D->Prop)->Prop} {x:Str} {p:Pos} (hc:dZ X (.builtin id) r) (hf:Call3 X r f) (hg:Gl X x) (hm:X.mg x=none) (hv:bootBuiltins x=some (.builtin id)) (ha:QA X (e :: es) ts)
  (hn:x≠"__name__":=by decide) (hdb:(x == ("__debug__" : Str))=false:=by decide) (he:starEach (e :: es) X.env=(false,eval e X.env) :: starEach es X.env:=by exact bh rfl) (hpl:(backTo pos (starEach es X.env)).any (·.1)=false:=by rfl) :
  QE X (.Call (.Name x p) (e :: es) [] pos) (aI f ts):=⟨λB σ F H env Q rp h=>bK (pF hc hg hm hv kY hn hdb he hpl) (ye hf ha rp h)⟩
theorem uw {T:String} {r:List V->Hp->VK->Prop} {f:List D->(D->Prop)->Prop} {x:Str} {p:Pos} (hc:dZ X (.type T) r) (hf:Call3 X r f) (hg:Gl X x) (hm:X.mg x=none) (hv:bootBuiltins x=some (.type T)) (ha:QA X (e :: es) ts)
  (hn:x≠"__name__":=by decide) (hdb:(x == ("__debug__" : Str))=false:=by decide) (he:starEach (e :: es) X.env=(false,eval e X.env) :: starEach es X.env:=by exact bh rfl) (hpl:(backTo pos (starEach es X.env)).any (·.1)=false:=by rfl) :
  QE X (.Call (.Name x p) (e :: es) [] pos) (aI f ts):=⟨λB σ F H env Q rp h=>bK (um hc hg hm hv kY hn hdb he hpl) (ye hf ha rp h)⟩
end
theorem sW:bootBuiltins "abs" = some (.builtin "abs"):=by decide +kernel
theorem tM:bootBuiltins "min" = some (.builtin "min"):=by decide +kernel
theorem tE:bootBuiltins "isinstance" = some (.builtin "isinstance"):=by decide +kernel
theorem mU:bootBuiltins "len" = some (.builtin "len"):=by decide +kernel
theorem uk:bootBuiltins "int" = some (.type "int"):=by decide +kernel
theorem rH:bootBuiltins "bool" = some (.type "bool"):=by decide +kernel
theorem pG:bootBuiltins "tuple" = some (.type "tuple"):=by decide +kernel
section
variable {X:Cx} {a b c e:Expr} {es:List Expr} {ta tb tc:TD} {tA tB':TB} {ts:dR} {pos:Pos} {rest:List Expr}
def uh (ds:List D) (Q:D->Prop):Prop:=match ds with
 | [.int i]=>Q (.int (if i < 0 then -i else i))
 | _=>False
theorem yG:Call3 X (λxs H Q=>∃i,xs=[.int i]/\Q (.int (if i < 0 then -i else i)) H) uh:=by
 intro B σ F H env Q ds vs Z rp h hz hf;unfold uh at hf
 split at hf
 ·simp only [aj,Den] at h;obtain⟨v,r,rfl,rfl,rfl⟩:=h;exact⟨_,rfl,hz _ _ F _ rp (ah.refl _) bA hf⟩
 ·exact hf.elim
def kn (ds:List D) (Q:D->Prop):Prop:=match ds with
 | [.lst xs]=>Q (.int xs.length)
 | [.tup xs]=>Q (.int xs.length)
 | [.str z]=>z.length<=sizeLine/\Q (.int z.length)
 | _=>False
theorem zU:Call3 X (λxs H Q=>(∃p ys,xs=[.ref p]/\(eY X.K H p ys\/gZ X.K H p ys)/\Q (.int ys.length) H)\/∃z,xs=[.str z]/\z.length<=sizeLine/\Q (.int z.length) H) kn:=by
 intro B σ F H env Q ds vs Z rp h hz hf;unfold kn at hf
 split at hf
 ·simp only [aj,Den] at h;obtain⟨v,r,rfl,⟨p,ys,rfl,q,r⟩,rfl⟩:=h;refine .inl ⟨p,ys,rfl,.inl (rp.fh.seq q),hz _ _ F _ rp (ah.refl _) bA ?_⟩;rw [<- r.length];exact hf
 ·simp only [aj,Den] at h;obtain⟨v,r,rfl,⟨p,ys,rfl,q,r⟩,rfl⟩:=h;refine .inl ⟨p,ys,rfl,.inr (ah.bG rp.fh q),hz _ _ F _ rp (ah.refl _) bA ?_⟩;rw [<- r.length];exact hf
 ·simp only [aj,Den] at h;obtain⟨v,r,rfl,rfl,rfl⟩:=h;exact .inr ⟨_,rfl,hf.1,hz _ _ F _ rp (ah.refl _) bA hf.2⟩
 ·exact hf.elim
def dM (ds:List D) (Q:D->Prop):Prop:=match ds with
 | [.lst xs]=>Q (.tup xs)
 | [.tup xs]=>Q (.tup xs)
 | _=>False
theorem v8:Call3 X (λxs H Q=>∃p ys,xs=[.ref p]/\((eY X.K H p ys/\∀l,H l=none->Q (.ref l) (upd H l (.tup ys)))\/(gZ X.K H p ys/\Q (.ref p) H))) dM:=by
 intro B σ F H env Q ds vs Z rp h hz hf;unfold dM at hf
 split at hf
 ·simp only [aj,Den] at h;obtain⟨v,r,rfl,⟨p,ys,rfl,q,r⟩,rfl⟩:=h;refine⟨p,ys,rfl,.inl ⟨rp.fh.seq q,λw hw=>?_⟩⟩;obtain⟨r2,s2⟩:=rp.laid (o:=.tup ys) hw;exact hz _ _ _ _ r2 s2 (gv (gZ.of aq) (aj.mono s2 _ _ r)) hf
 ·simp only [aj,Den] at h;obtain⟨v,r,rfl,⟨p,ys,rfl,q,r⟩,rfl⟩:=h;exact⟨p,ys,rfl,.inr ⟨ah.bG rp.fh q,hz _ _ F _ rp (ah.refl _) (gv q r) hf⟩⟩
 ·exact hf.elim
def CG (K:Dj) (H:Hp) (x:V) (t:String):Prop:=match x with
 | .non=>t = "NoneType"
 | .bl _=>t = "bool"
 | .int _=>t = "int"
 | .str _=>t = "str"
 | .ref a=>(t = "tuple"/\∃vs,gZ K H a vs)\/(t = "list"/\∃vs,eY K H a vs)
 | _=>False
theorem vU:dZ X (.builtin "isinstance") (λxs H Q=>∃x n t b,xs=[x,.ty n]/\CG X.K H x t/\PySem.W.kitOne X.K (.type t) (.type n)=some b/\Q (.bl b) H):=by
 intro pins s σ H xs us Q I r h;obtain⟨x,n,t,b,rfl,ty,e,q⟩:=h;obtain⟨u,w,rfl,rx,rw'⟩:=vals2 r;cases (show w=Value.type n from rw');have fin:∀tk,EP X pins σ Q (.bool b) { s with toks:=tk }:=λtk=>⟨.bl b,H,I.tok tk,rfl,q⟩
 cases x with
 | non=>cases (show t = "NoneType" from ty);cases (show u=Value.none from rx);exact PySem.W.kia_one PySem.W.kitx_none I.r8 True.intro e (λz=>nomatch z) fin
 | bl y=>cases (show t = "bool" from ty);cases (show u=Value.bool y from rx);exact PySem.W.kia_one PySem.W.kitx_bool I.r8 True.intro e (λz=>nomatch z) fin
 | int i=>cases (show t = "int" from ty);obtain⟨t,q⟩:=(show ∃t,u=Value.int i t from rx);cases q;exact PySem.W.kia_one PySem.W.kitx_int I.r8 True.intro e (λz=>nomatch z) fin
 | str i=>cases (show t = "str" from ty);obtain⟨t,q⟩:=(show ∃t,u=Value.str i t from rx);cases q;exact PySem.W.kia_one PySem.W.kitx_str I.r8 True.intro e (λz=>nomatch z) fin
 | ref a =>
  cases (show u=Value.ref a from rx);rcases ty with ⟨rfl,vs,hq⟩|⟨rfl,vs,hq⟩
  ·obtain⟨_,_,⟨o,h1,h2,_⟩,_⟩:=I.tuple hq;exact PySem.W.kia_one PySem.W.kitx_tuple I.r8 ⟨o,h1,h2⟩ e (λz=>nomatch z) fin
  ·obtain⟨_,_,⟨o,n,h1,h2,_⟩,_⟩:=I.list hq
   exact PySem.W.kia_one PySem.W.kitx_list I.r8 ⟨o,h1,h2⟩ e (λz=>nomatch z) fin
 | _=>exact False.elim ty
inductive Kd where|non|bl|int|str|tup|lst|oth
def CJ:D->Kd
 | .non=>.non
 | .bl _=>.bl
 | .int _=>.int
 | .str _=>.str
 | .tup _=>.tup
 | .lst _=>.lst
 | _=>.oth
def wO:Kd->String->Option Bool
 | .oth,_=>none
 | k,"int"=>some (match k with | .int=>true | .bl=>true | _=>false)
 | k,"bool"=>some (match k with | .bl=>true | _=>false)
 | k,"str"=>some (match k with | .str=>true | _=>false)
 | k,"tuple"=>some (match k with | .tup=>true | _=>false)
 | k,"list"=>some (match k with | .lst=>true | _=>false)
 | _,_=>none
def BB (ds:List D) (Q:D->Prop):Prop:=match ds with
 | [x,.ty n]=>∃b,wO (CJ x) n=some b/\Q (.bl b)
 | _=>False
theorem gj (K:Dj) (k:Kd) (n t:String) (b:Bool) (h:wO k n=some b)
  (ht:t=match k with | .non=>"NoneType" | .bl=>"bool" | .int=>"int" | .str=>"str" | .tup=>"tuple" | .lst=>"list" | .oth=>"type"):PySem.W.kitOne K (.type t) (.type n)=some b:=by
 subst ht;unfold wO at h
 split at h
 ·cases h
 all_goals (cases k <;> simp at h <;> subst h <;> rfl)
theorem ze:Call3 X (λxs H Q=>∃x n t b,xs=[x,.ty n]/\CG X.K H x t/\PySem.W.kitOne X.K (.type t) (.type n)=some b/\Q (.bl b) H) BB:=by
 intro B σ F H env Q ds vs Z rp h hz hf;unfold BB at hf
 split at hf
 ·rename_i x n;obtain⟨b,hb,q⟩:=hf;simp only [aj] at h;obtain⟨v,r,rfl,hd,v',r',rfl,hd',rfl⟩:=h;simp only [Den] at hd';subst hd';have fin:=hz (.bl b) H F (.bl b) rp (ah.refl _) eB q
  cases x with
  | non=>simp only [Den] at hd;subst hd;exact⟨_,n,"NoneType",b,rfl,rfl,gj _ _ _ _ _ hb rfl,fin⟩
  | bl k=>simp only [Den] at hd;subst hd;exact⟨_,n,"bool",b,rfl,rfl,gj _ _ _ _ _ hb rfl,fin⟩
  | int k=>simp only [Den] at hd;subst hd;exact⟨_,n,"int",b,rfl,rfl,gj _ _ _ _ _ hb rfl,fin⟩
  | str k=>simp only [Den] at hd;subst hd;exact⟨_,n,"str",b,rfl,rfl,gj _ _ _ _ _ hb rfl,fin⟩
  | tup k=>simp only [Den] at hd;obtain⟨p,vs,rfl,q',r⟩:=hd;exact⟨_,n,"tuple",b,rfl,.inl ⟨rfl,vs,ah.bG rp.fh q'⟩,gj _ _ _ _ _ hb rfl,fin⟩
  | lst k=>simp only [Den] at hd;obtain⟨p,vs,rfl,q',r⟩:=hd;exact⟨_,n,"list",b,rfl,.inr ⟨rfl,vs,rp.fh.seq q'⟩,gj _ _ _ _ _ hb rfl,fin⟩
  | dct k _=>cases hb
  | obj k=>cases hb
  | ty k=>cases hb
  | exc k=>cases hb
  | cls k=>cases hb
 ·exact hf.elim
theorem lx {s:Shared} {h':Heap} {o:Obj} (hk:∀b x,b∉[s.heap.objs.size]->(s.heap.push o).get? b=some x->h'.get? b=some x):∀b x,s.heap.get? b=some x->h'.get? b=some x :=
 λb x e=>hk b x (λhm=>by rw [DJ.mp hm] at e;exact Nat.lt_irrefl _ (Dx e)) (Dp _ e)
end
section
variable {K:Dj} {B:Base} {F H:Hp} {σ:St} {env:En}
theorem Rep.bare (r:Rep K B F H σ env):Rep K B F H [] [] :=
 ⟨r.f0,r.fh,r.h0,r.nf,λi x q=>by simp at q,λi x q=>by simp at q,λi j _ _ _ _ q=>by simp at q,λi x q=>by simp at q,λi j _ _ _ _ q=>by simp at q⟩
end
section
variable {X:Cx} {a b c e:Expr} {es:List Expr} {ta tb tc:TD} {tA tB':TB} {ts:dR} {pos:Pos} {rest:List Expr} {st:Stmt} {sts:List Stmt} {t u:cy}
def b9:cy:=λD env=>D.nx env
def a0 (t u:cy):cy:=λD env=>t { D with nx:=u D } env
theorem bU:pT X [] b9:=⟨λB σ F H env D rp h=>fB xG ⟨F,env,rp,h⟩⟩
theorem aC (h1:QS X st t):pT X [st] t:=⟨λB σ F H env D rp h=>fB (jM qy) (h1 B σ F H env D rp h)⟩
theorem au (h1:QS X st t) (h2:pT X sts u):pT X (st :: sts) (a0 t u):=by
 refine⟨?_⟩;intro B σ F H env D rp h;refine fB (fO qy cO) ?_;exact jK (h1 B σ F H env _ rp h) (λσ' H' ⟨F',env',rp',q⟩=>h2 B σ' F' H' env' D rp' q) (λ_ _ q=>q) (λ_ _ q=>q) (λ_ _ q=>q)
def cS (te:TD):cy:=λD env=>te env D.rt
theorem br (he:QE X e ta):QS X (.Return (some e) pos) (cS ta):=by
 refine⟨?_⟩;intro B σ F H env D rp h;refine eS (rg bc) ?_;exact az (he B σ F H env _ rp h) λv H' ⟨F',d,r',s',hd,q⟩=>⟨F',d,r'.bare,hd,q⟩
def om (c:TB) (t u:cy):cy:=λD env=>c env λk=>if k=true then t D env else u D env
theorem fD {xs ys:List Stmt} (hc:QT X c tA) (ha:pT X xs t) (hb:pT X ys u):QS X (.If c xs ys pos) (om tA t u):=by
 refine⟨?_⟩;intro B σ F H env D rp h;refine eS (x9 mJ cO cO) ?_;refine dU (hc B σ F H env _ rp h) λk H1 ⟨F1,r1,s1,q1⟩=>?_
 cases k with
 | true=>exact ha B σ F1 H1 env D r1 q1
 | false=>exact hb B σ F1 H1 env D r1 q1
abbrev oZ:=D->En->(En->Prop)->Prop
abbrev kL:=List D->En->(En->Prop)->Prop
def wG (X:Cx) (tg:Expr):TG:=λv σ H Q=>∀(pins:List (Addr×Obj)) (s:Shared) (u:Value),Inv X pins σ H s->RelV v u ->
 wpAny (model X.prog X.w) X.A (assign tg X.env u) (λ_ s'=>∃σ' H',Inv X pins σ' H' s'/\Q σ' H') X.xe s
def Ar (X:Cx) (tg:List Expr):wm:=λvs σ H Q=>∀(pins:List (Addr×Obj)) (s:Shared) (us:List Value),Inv X pins σ H s->Vals vs us ->
 wpAny (model X.prog X.w) X.A (assignInOrder ((assignEach tg X.env).map (·.2)) us) (λ_ s'=>∃σ' H',Inv X pins σ' H' s'/\Q σ' H') X.xe s
theorem uI {tg:Expr}:PG X tg (wG X tg):=λpins s σ H v u Q I r h=>h pins s u I r
theorem uu {tg:List Expr}:Ab X tg (Ar X tg):=λpins s σ H v u Q I r h=>h pins s u I r
theorem ym {tg:Expr} {g:TG} {v:V} {σ:St} {H:Hp} {Q:St->Hp->Prop} (h:PG X tg g) (q:g v σ H Q):wG X tg v σ H Q:=λpins s u I r=>h pins s σ H v u Q I r q
theorem vN {tg:List Expr} {g:wm} {v:List V} {σ:St} {H:Hp} {Q:St->Hp->Prop} (h:Ab X tg g) (q:g v σ H Q):Ar X tg v σ H Q:=λpins s u I r=>h pins s σ H v u Q I r q
theorem gr {tg:Expr} {v:V} {σ:St} {H:Hp} {Q Q':St->Hp->Prop} (h:wG X tg v σ H Q) (i:∀σ H,Q σ H->Q' σ H):wG X tg v σ H Q':=λpins s u I r=>bF (h pins s u I r) λ_ _ ⟨σ',H',I',q⟩=>⟨σ',H',I',i _ _ q⟩
theorem vf {tg:List Expr} {v:List V} {σ:St} {H:Hp} {Q Q':St->Hp->Prop} (h:Ar X tg v σ H Q) (i:∀σ H,Q σ H->Q' σ H):Ar X tg v σ H Q':=λpins s u I r=>bF (h pins s u I r) λ_ _ ⟨σ',H',I',q⟩=>⟨σ',H',I',i _ _ q⟩
def RG (X:Cx) (B:Base) (F:Hp) (Q:En->Prop):St->Hp->Prop:=λσ' H'=>∃F' env',Rep X.K B F' H' σ' env'/\ah F F'/\Q env'
structure QG (X:Cx) (tg:Expr) (g:oZ):Prop where
 of ::
 run:∀(B:Base) (σ:St) (F H:Hp) (env:En) (Q:En->Prop) (d:D) (v:V),Rep X.K B F H σ env->Den X.K F d v->g d env Q->wG X tg v σ H (RG X B F Q)
instance {X:Cx} {tg:Expr} {g:oZ}:CoeFun (QG X tg g) (λ_=>∀(B:Base) (σ:St) (F H:Hp) (env:En) (Q:En->Prop) (d:D) (v:V),Rep X.K B F H σ env->Den X.K F d v->g d env Q->wG X tg v σ H (RG X B F Q)):=⟨QG.run⟩
structure zG (X:Cx) (tg:List Expr) (g:kL):Prop where
 of ::
 run:∀(B:Base) (σ:St) (F H:Hp) (env:En) (Q:En->Prop) (ds:List D) (vs:List V),Rep X.K B F H σ env->aj X.K F ds vs->g ds env Q->Ar X tg vs σ H (RG X B F Q)
instance {X:Cx} {tg:List Expr} {g:kL}:CoeFun (zG X tg g) (λ_=>∀(B:Base) (σ:St) (F H:Hp) (env:En) (Q:En->Prop) (ds:List D) (vs:List V),Rep X.K B F H σ env->aj X.K F ds vs->g ds env Q->Ar X tg vs σ H (RG X B F Q)):=⟨zG.run⟩
def aE (i:Nat):oZ:=λx env Q=>Q (env.set i (some (.d x)))
theorem aw {x:Str} (i:Nat) (hN:X.N.Nodup) (hi:X.N[i]?=some x:=by rfl) (hx:Loc X.env.scope x:=by first|exact Or.inl rfl|exact Or.inr rfl) (hf:X.fn x=true\/X.env.scope.names.lookup x=some .local:=by first|exact .inl rfl|exact .inr rfl):QG X (.Name x pos) (aE i):=by
 refine⟨?_⟩;intro B σ F H env Q d v rp hd h pins s u I r;refine xx (i:=i) hN hi hx hf pins s σ H v u _ I r ?_;refine⟨F,_,rp.set hd ?_,ah.refl _,h⟩;rw [I.len];exact (Dh.mp hi).1
def eQ:kL:=λxs env Q=>xs=[]/\Q env
def aO (g:oZ) (gs:kL):kL:=λxs env Q=>∃x r,xs=x :: r/\g x env λenv'=>gs r env' Q
theorem bX:zG X [] eQ:=by
 refine⟨?_⟩;intro B σ F H env Q ds vs rp hd h;obtain⟨rfl,q⟩:=h;simp only [aj] at hd;exact vN xD ⟨hd,F,env,rp,ah.refl _,q⟩
theorem av {g:oZ} {gs:kL} (h1:QG X e g) (h2:zG X es gs) (hs:(assignEach (e :: es) X.env).map (·.2)=assign e X.env :: (assignEach es X.env).map (·.2):=by rfl):zG X (e :: es) (aO g gs):=by
 refine⟨?_⟩;intro B σ F H env Q ds vs rp hd h;obtain⟨x,r,rfl,q⟩:=h;simp only [aj] at hd;obtain⟨v,vr,rfl,a1,b1⟩:=hd;refine vN (vA uI uu hs) ⟨v,vr,rfl,?_⟩;refine gr (h1 B σ F H env _ x v rp a1 q) λσ1 H1 hq0=>?_;obtain⟨F1,env1,r1,s1,q1⟩:=hq0;exact vf (h2 B σ1 F1 H1 env1 Q r vr r1 (aj.mono s1 _ _ b1) q1) λσ2 H2 ⟨F2,env2,r2,s2,q2⟩=>⟨F2,env2,r2,s1.trans s2,q2⟩
def fQ (n:Nat) (gs:kL):oZ:=λx env Q=>∃xs,x=.tup xs/\xs.length=n/\gs xs env Q
theorem dN {k n:Nat} {gs:kL} (hc:X.calm=true) (h:zG X es gs) (hn:(assignEach es X.env).length=n:=by rfl) (hst:(assignEach es X.env).findIdx? (·.1)=none:=by rfl):QG X (.Tuple es k pos) (fQ n gs):=by
 refine⟨?_⟩;intro B σ F H env Q d v rp hd hq;obtain⟨xs,rfl,hl,q⟩:=hq;simp only [Den] at hd;obtain⟨p,vs,rfl,hs,r⟩:=hd;refine ym (zH hc uu hn hst) ⟨p,vs,rfl,ah.bG rp.fh hs,by rw [<- r.length];exact hl,?_⟩;exact h B σ F H env Q xs vs rp r q
def fM (te:TD) (g:oZ):cy:=λD env=>te env λx=>g x env D.nx
theorem fg {tg:Expr} {g:oZ} (he:QE X e ta) (hg:QG X tg g) (hs:swapsWithSole [tg] e pos.line X.env=pure false:=by rfl) (hw:swappedStores [tg] e X.env=pure none:=by rfl)
  (h1:(assignEach [tg] X.env).map (·.2)=[assign tg X.env]:=by rfl):QS X (.Assign [tg] e pos) (fM ta g):=by
 refine⟨?_⟩;intro B σ F H env D rp h;refine eS (zr bc uI hs hw h1) ?_;refine az (he B σ F H env _ rp h) λv H1 hq0=>?_;obtain⟨F1,d,r1,s1,d1,q1⟩:=hq0;exact gr (hg B σ F1 H1 env _ d v r1 d1 q1) λσ2 H2 ⟨F2,env2,r2,s2,q2⟩=>⟨F2,env2,r2,q2⟩
def cf (i:Nat) (te:TD):cy:=λD env=>te env λx=>D.nx (env.set i (some (.d x)))
theorem bb {x:Str} {pos':Pos} (i:Nat) (hN:X.N.Nodup) (he:QE X e ta) (hi:X.N[i]?=some x:=by rfl) (hx:Loc X.env.scope x:=by first|exact Or.inl rfl|exact Or.inr rfl) (hs:swapsWith e (some (.Name x pos')) pos.line X.env=pure false:=by rfl)
  (hf:X.fn x=true\/X.env.scope.names.lookup x=some .local:=by first|exact .inl rfl|exact .inr rfl):QS X (.Assign [.Name x pos'] e pos) (cf i ta):=by
 refine⟨?_⟩;intro B σ F H env D rp h pins s I;refine lg (i:=i) hN hi hx bc hs hf pins s σ H _ I ?_;refine az (he B σ F H env _ rp h) λv H1 ⟨F1,d,r1,s1,d1,q1⟩=>⟨F1,_,r1.set d1 ?_,q1⟩;rw [I.len];exact (Dh.mp hi).1
def xK (i j:Nat) (ts:dR):cy:=λD env=>ts env λxs=>∃x y,xs=[x,y]/\D.nx ((env.set i (some (.d x))).set j (some (.d y)))
theorem zd {x y:Str} {px py pt:Pos} {kt k2 pt2} (i j:Nat) (hc:X.calm=true) (hN:X.N.Nodup) (ha:QA X [a,b] ts) (hi:X.N[i]?=some x:=by rfl) (hj:X.N[j]?=some y:=by rfl) (hij:i≠j:=by decide)
  (hx:X.env.scope.names.lookup x=some .local:=by rfl) (hy:X.env.scope.names.lookup y=some .local:=by rfl)
  (hw:swappedStores [.Tuple [.Name x px,.Name y py] kt pt] (.Tuple [a,b] k2 pt2) X.env=pure (some [x,y]):=by rfl)
  (hs:swapsWithSole [.Tuple [.Name x px,.Name y py] kt pt] (.Tuple [a,b] k2 pt2) pos.line X.env=pure false:=by rfl) :
  QS X (.Assign [.Tuple [.Name x px,.Name y py] kt pt] (.Tuple [a,b] k2 pt2) pos) (xK i j ts):=by
 refine⟨?_⟩;intro B σ F H env D rp h pins s I;refine y0 (i:=i) (j:=j) hc hN hi hj hij hx hy kY hw hs pins s σ H _ I ?_;refine cY (ha B σ F H env _ rp h) λvs H1 hq0=>?_;obtain⟨F1,ds,r1,s1,d1,x,y,hxy,q1⟩:=hq0;subst hxy;simp only [aj] at d1;obtain⟨v,r,rfl,a1,v',r',rfl,a2,rfl⟩:=d1;have l1:i < σ.length:=by rw [I.len];exact (Dh.mp hi).1
 have l2:j < (σ.set i (some v)).length:=by rw [List.length_set,I.len];exact (Dh.mp hj).1
 exact⟨v,v',rfl,F1,_,(r1.set a1 l1).set a2 l2,q1⟩
def gR (c:TB) (tb:cy):cy:=λD env=>∃(I:En->Prop) (μ:En->Nat),I env/\∀env,I env->c env λk=>if k=true then tb { D with nx:=λe'=>I e'/\μ e' < μ env,ct:=λe'=>I e'/\μ e' < μ env,bk:=D.nx } env else D.nx env
theorem lI {body:List Stmt} (hp:PassesOwn (model X.prog X.w) X.A X.env X.xe) (hc:QT X c tA) (hb:pT X body t):QS X (.While c body [] pos) (gR tA t):=by
 refine⟨?_⟩;intro B σ F H env D rp h;obtain⟨I,μ,i0,turn⟩:=h;refine eS (o8 hp mJ cO) ?_;refine⟨λm σ H=>∃F env,Rep X.K B F H σ env/\I env/\μ env=m,⟨_,F,env,rp,i0,rfl⟩,?_⟩
 rintro m σ1 H1 ⟨F1,env1,r1,i1,rfl⟩;refine dU (hc B σ1 F1 H1 env1 _ r1 (turn env1 i1)) λk H2 ⟨F2,r2,s2,q2⟩=>?_
 cases k with
 | false=>exact⟨F2,env1,r2,q2⟩
 | true =>
  refine⟨λσ' H'=>∃F' env',Rep X.K B F' H' σ' env'/\I env'/\μ env' < μ env1,λσ' H' ⟨F',env',r',i',l⟩=>⟨_,l,F',env',r',i',rfl⟩,?_⟩;exact hb B σ1 F2 H2 env1 _ r2 q2
def turns (g:oZ) (tb:cy) (Z:Ends3):List D->En->Prop
 | [],env=>Z.nx env
 | x :: xs,env=>g x env λenv'=>tb { Z with nx:=turns g tb Z xs,ct:=turns g tb Z xs,bk:=Z.nx } env'
def e7 (z:Str):List D:=z.cps.toList.map λc=>.str ⟨#[c]⟩
def bM:D->Option (List D)
 | .lst xs=>some xs
 | .tup xs=>some xs
 | .str z=>some (e7 z)
 | _=>none
def A4 (z:Str):It:=⟨λi _=>i < z.cps.size,λi H v H'=>H'=H/\∃c,z.cps[i]?=some c/\v=.str ⟨#[c]⟩,λi _=>z.cps.size<=i⟩
theorem o5 {P:Program} {w:World} {K:Dj} {tg:Expr} (it:Addr) (z:Str) (t:Tok) (nm:String) (hn:["enumerate","zip","dict_itemiterator","dict_reverseitemiterator","odict_iterator","itertools.zip_longest","itertools.pairwise"].contains nm=false)
  (W:∀A:Around,A.handled=none->Walks P w A it [it] [it] z.cps.size (SignAt z) (λi h=>h.IsStrIter it nm z t i)) (sf:∀(A:Around) (i:Nat) (s:Shared) (Q:Value->Shared->Prop) (E:Value->Shared->Prop),s.heap.IsStrIter it nm z t i->Q (.ref it) s->wpAny (model P w) A (pyIter (.ref it)) Q E s)
  (dn:∀(A:Around) (i:Nat) (s:Shared) (Q:Option Value->Shared->Prop) (E:Value->Shared->Prop),A.handled=none->s.heap.IsStrIter it nm z t i->z.cps[i]?=none->(∀h',Heap.ExtBut it s.heap h'->Q none { s with heap:=h' })->wpAny (model P w) A (pyNext (.ref it)) Q E s) :
  Turn P w K tg (A4 z) [it] it (λi h=>h.IsStrIter it nm z t i) where
 mem:=by simp
 obj:=λi h st b hb=>by
  have e:b=it:=by simpa using hb
  subst e;obtain⟨o,e,c,d⟩:=st;exact⟨o,e,λv z=>by rw [d] at z;cases z⟩
 keep:=λi h h' st k=>by
  obtain⟨o,e,c,d⟩:=st;exact⟨o,k it (by simp) o e,c,d⟩
 item:=by
  intro X hP hw hK hc i pins s σ H E I hf st hg;subst hP hw hK;obtain⟨f0,f1,f2,f3,f4,f5⟩:=hf it (by simp);refine (W X.A (I.ok.hd hc)).item i s _ _ hg st λv h' tk hv st' kk=>?_;obtain⟨c,u,hc',rfl⟩:=hv;have I1:Inv X pins σ H { s with heap:=h',toks:=tk }:=I.turned (λb o hb e=>kk b o (by simpa using hb) e) f0 f1 f3 f4 f5;obtain⟨o,e,c',d⟩:=id st';exact⟨_,rfl,sC (s:={ s with heap:=h',toks:=tk }) e c' d hn ⟨.str ⟨#[c]⟩,H,I1,⟨u,rfl⟩,⟨rfl,c,hc',rfl⟩,st',λb hb=>(hf b hb).1⟩⟩
 done:=by
  intro X hP hw hK hc i pins s σ H E I hf st hg;subst hP hw hK;obtain⟨f0,f1,f2,f3,f4,f5⟩:=hf it (by simp);have hg':z.cps.size<=i:=hg;exact dn X.A i s _ _ (I.ok.hd hc) st (by simp;exact hg') λh' eb=>⟨rfl,I.turned (t':=s.toks) (λb o hb e=>eb b o hb e) f0 f1 f3 f4 f5⟩
 self:=λA i s Q E st h=>sf A i s Q E st h
def A9 (K:Dj) (tl:TE):TI:=λσ H R=>tl σ H λx H1=>(∃a,x=.ref a/\(((∃xs,eY K H1 a xs)/\R (BI K a) H1)\/((∃xs,gZ K H1 a xs)/\R (BK K a) H1)))\/∃z,x=.str z/\R (A4 z) H1
theorem j8 {tg l:Expr} {tl:TE} (hl:PE X l tl):PI X tg l (A9 X.K tl):=by
 intro pins s σ H R I h;refine bF (hl pins s σ H _ I h) λv s1 hq0=>?_;obtain⟨x,H1,I1,r1,q1⟩:=hq0;rcases q1 with ⟨a,e,q⟩|⟨z,e,q⟩
 rotate_left
 ·subst e;obtain⟨t,rfl⟩:=r1
  have fin:∀(o:Obj) (nm:String),(∀v,o.data≠.cell v)->Turn X.prog X.w X.K tg (A4 z) [s1.heap.objs.size] s1.heap.objs.size (λi h=>h.IsStrIter s1.heap.objs.size nm z t i)->(s1.heap.push o).IsStrIter s1.heap.objs.size nm z t 0 ->
    BN X pins σ tg R (.ref s1.heap.objs.size) { s1 with heap:=s1.heap.push o }:=λo nm hcell T st=>by
   refine⟨s1.heap.objs.size,[s1.heap.objs.size],_,_,H1,rfl,I1.kept (t':=s1.toks) λb o e=>Dp _ e,T,st,λb hb=>?_,q⟩;have e:b=s1.heap.objs.size:=by simpa using hb
   subst e;exact I1.xu (Du _) (I1.hok.fresh (Du _))
  cases ha:z.cps.all (· < 128)
  ·exact wpAny_pyIter_wide ha (fin _ "str_iterator" (λv e=>by cases e) (o5 _ z t "str_iterator" (by decide) (λA hA=>Walks.strWide hA _ z t) (λA i s Q E st h=>wpAny_pyIter_striter_wide st h) (λA i s Q E hh st hx h=>wpAny_pyNext_wide_end hh st hx h)) ⟨_,DI _ rfl,rfl,rfl⟩)
  ·exact wpAny_pyIter_ascii ha (fin _ "str_ascii_iterator" (λv e=>by cases e) (o5 _ z t "str_ascii_iterator" (by decide) (λA hA=>Walks.strAscii hA _ z t) (λA i s Q E st h=>wpAny_pyIter_striter_ascii st h) (λA i s Q E hh st hx h=>wpAny_pyNext_ascii_end hh st hx h)) ⟨_,DI _ rfl,rfl,rfl⟩)
 subst e;cases r1;rcases q with ⟨⟨xs,hq⟩,q⟩|⟨⟨xs,hq⟩,q⟩
 ·obtain⟨its,rv,p,hz⟩:=I1.list hq;refine wpAny_pyIter_list p.isList ?_;refine⟨s1.heap.objs.size,[s1.heap.objs.size],_,_,H1,rfl,I1.kept (t':=s1.toks) λb o e=>Dp _ e,sU a _,⟨_,DI _ rfl,rfl,rfl⟩,λb hb=>?_,q⟩;have e:b=s1.heap.objs.size:=by simpa using hb
  subst e;exact I1.xu (Du _) (I1.hok.fresh (Du _))
 ·obtain⟨its,rv,p,hz⟩:=I1.tuple hq;refine wpAny_pyIter_tuple (show s1.heap.IsTuple a its.toArray from p) ?_;refine⟨s1.heap.objs.size,[s1.heap.objs.size],_,_,H1,rfl,I1.kept (t':=s1.toks) λb o e=>Dp _ e,ro a _,⟨_,DI _ rfl,rfl,rfl⟩,λb hb=>?_,q⟩;have e:b=s1.heap.objs.size:=by simpa using hb
  subst e;exact I1.xu (Du _) (I1.hok.fresh (Du _))
theorem qV {K:Dj} {F:Hp} (z:Str):aj K F (e7 z) (z.cps.toList.map λc=>V.str ⟨#[c]⟩):=by
 unfold e7
 induction z.cps.toList with
 | nil=>exact aK
 | cons c r ih=>exact aH iI ih
def jz (te:TD) (g:oZ) (tb:cy):cy:=λD env=>te env λx=>∃xs,bM x=some xs/\turns g tb D xs env
theorem drop_cons {α:Type} {xs:List α} {i:Nat} {x:α} (h:xs[i]?=some x):xs.drop i=x :: xs.drop (i + 1):=by
 obtain⟨hl,e⟩:=Dh.mp h;rw [Eh hl,e]
theorem RS.same {B:Base} {G:Hp} {D:Ends3} (s:ah B.F G):(∀σ H,(RS X ⟨G,B.H,B.N,B.nb⟩ D).nx σ H->(RS X B D).nx σ H)/\(∀v H,(RS X ⟨G,B.H,B.N,B.nb⟩ D).rt v H->(RS X B D).rt v H) /\
  (∀σ H,(RS X ⟨G,B.H,B.N,B.nb⟩ D).bk σ H->(RS X B D).bk σ H)/\(∀σ H,(RS X ⟨G,B.H,B.N,B.nb⟩ D).ct σ H->(RS X B D).ct σ H) :=
 ⟨λ_ _ ⟨F',env',r,q⟩=>⟨F',env',r.back s,q⟩,λ_ _ ⟨F',d,r,hd,q⟩=>⟨F',d,r.back s,hd,q⟩,λ_ _ ⟨F',env',r,q⟩=>⟨F',env',r.back s,q⟩,λ_ _ ⟨F',env',r,q⟩=>⟨F',env',r.back s,q⟩⟩
theorem j6 {tg iter:Expr} {body:List Stmt} {g:oZ} (hp:PassesOwn (model X.prog X.w) X.A X.env X.xe) (hc:X.calm=true) (hi:QE X iter ta) (hg:QG X tg g) (hb:pT X body t)
  (hs:∀x,DS iter X.env x=pure x:=by intro _;rfl):QS X (.For tg iter body [] pos) (jz ta g t):=by
 refine⟨?_⟩;intro B σ F H env D rp h;refine eS (rL hp hc (j8 bc) uI cO hs) ?_;refine az (hi B σ F H env _ rp h) λv H1 hq0=>?_;obtain⟨F1,d,r1,s1,d1,xs,hx,q1⟩:=hq0
 have core:∀(a:Addr) (vs:List V) (J:It),aj X.K F1 xs vs->(∀(i:Nat) (x:V) (G H':Hp),ah F1 G->ah G H'->vs[i]?=some x->J.go i H')->(∀(i:Nat) (x:V) (G H':Hp) (y:V) (H'':Hp),ah F1 G->ah G H'->vs[i]?=some x->J.yld i H' y H''->H''=H'/\y=x) ->
   (∀(G H':Hp),ah F1 G->ah G H'->J.stop vs.length H') ->
   ∃W:Nat->Nat->St->Hp->Prop,(∃m,W 0 m σ H1)/\∀i m σ H,W i m σ H->(J.stop i H/\(RS X B D).nx σ H)\/(J.go i H/\∃N:St->Hp->Prop,(∀σ' H',N σ' H'->∃m',m' < m/\W (i + 1) m' σ' H') /\
    ∀x H',J.yld i H x H'->wG X tg x σ H' λσ2 H2=>wSs X body { RS X B D with nx:=N,ct:=N,bk:=(RS X B D).nx } σ2 H2):=by
  intro a vs J dl go yld stop;have hlen:=dl.length;refine⟨λi m σ H=>m=vs.length - i/\i<=vs.length/\∃F env,Rep X.K ⟨F1,B.H,B.N,B.nb⟩ F H σ env/\turns g t D (xs.drop i) env,⟨vs.length,by simp,DZ _,F1,env,r1.now,by simpa using q1⟩,?_⟩
  rintro i m σ2 H2 ⟨rfl,hi2,F2,env2,r2,q2⟩
  by_cases hlt:i < vs.length
  ·have hv:vs[i]?=some vs[i]:=by simp [hlt]
   obtain⟨dx,hdx,ddx⟩:=dl.yI hv;rw [drop_cons hdx] at q2;refine .inr ⟨go i _ F2 H2 r2.f0 r2.fh hv,λσ' H'=>∃F env,Rep X.K ⟨F1,B.H,B.N,B.nb⟩ F H' σ' env/\turns g t D (xs.drop (i + 1)) env,λσ' H' ⟨F',env',r',q'⟩=>⟨vs.length - (i + 1),by omega,rfl,by omega,F',env',r',q'⟩,λy H' hy=>?_⟩;obtain⟨rfl,rfl⟩:=yld i _ F2 H2 y H' r2.f0 r2.fh hv hy;have st:=hg ⟨F1,B.H,B.N,B.nb⟩ σ2 F2 _ env2 _ dx _ r2 (Den.mono r2.f0 _ _ ddx) q2
   refine gr st λσ3 H3 hq0=>?_;obtain⟨F3,env3,r3,s3,q3⟩:=hq0;have bd:=hb ⟨F1,B.H,B.N,B.nb⟩ σ3 F3 H3 env3 _ r3 q3;obtain⟨z1,z2,z3,z4⟩:=RS.same (X:=X) (B:=B) (D:=D) (r1.f0);exact hJ bd (λ_ _ q=>q) z2 z1 (λ_ _ q=>q)
  ·have e:i=vs.length:=by omega
   subst e;rw [Ef (by omega)] at q2;exact .inl ⟨stop F2 H2 r2.f0 r2.fh,F2,env2,r2.back r1.f0,q2⟩
 cases d with
 | lst ys =>
  simp only [bM] at hx;cases hx;simp only [Den] at d1;obtain⟨a,vs,rfl,q,r⟩:=d1;refine .inl ⟨a,rfl,.inl ⟨⟨vs,r1.fh.seq q⟩,core a vs (BI X.K a) r (λi x G H' s1 s2 hv=>⟨vs,x,s2.seq (s1.seq q),hv⟩) (λi x G H' y H'' s1 s2 hv hy=>?_) (λG H' s1 s2=>⟨vs,s2.seq (s1.seq q),Du _⟩)⟩⟩;obtain⟨e1,e2⟩:=hy;have:=e2 vs (s2.seq (s1.seq q));rw [hv] at this
  exact⟨e1,(DA this).symm⟩
 | tup ys =>
  simp only [bM] at hx;cases hx;simp only [Den] at d1;obtain⟨a,vs,rfl,q,r⟩:=d1;refine .inl ⟨a,rfl,.inr ⟨⟨vs,ah.bG r1.fh q⟩,core a vs (BK X.K a) r (λi x G H' s1 s2 hv=>⟨vs,x,ah.bG s2 (ah.bG s1 q),hv⟩) (λi x G H' y H'' s1 s2 hv hy=>?_) (λG H' s1 s2=>⟨vs,ah.bG s2 (ah.bG s1 q),Du _⟩)⟩⟩;obtain⟨e1,e2⟩:=hy;have:=e2 vs (ah.bG s2 (ah.bG s1 q));rw [hv] at this
  exact⟨e1,(DA this).symm⟩
 | str z =>
  simp only [bM] at hx;cases hx;simp only [Den] at d1;subst d1;refine .inr ⟨z,rfl,core 0 (z.cps.toList.map λc=>V.str ⟨#[c]⟩) (A4 z) (qV z) (λi x G H' s1 s2 hv=>?_) (λi x G H' y H'' s1 s2 hv hy=>?_) (λG H' s1 s2=>?_)⟩
  ·have:=(Dh.mp hv).1;show i < z.cps.size
   simpa using this
  ·obtain⟨e1,c,hc,rfl⟩:=hy;rw [Dt,Em,hc] at hv;exact⟨e1,DA hv⟩
  ·show z.cps.size<=_
   simp
 | _=>simp only [bM] at hx;cases hx
def bE (lo:Int) (n:Nat):List D:=(List.range n).map λ(i:Nat)=>D.int (lo + (i:Int))
def fX (f:List D->(Int->Nat->Prop)->Prop) (ts:dR) (g:oZ) (tb:cy):cy:=λD env=>ts env λxs=>f xs λlo n=>turns g tb D (bE lo n) env
def n8 (xs:List D) (Q:Int->Nat->Prop):Prop:=match xs with
 | [.int j]=>(-(2 ^ 62)<=j/\j < 2 ^ 62)/\Q 0 j.toNat
 | _=>False
def xJ (xs:List D) (Q:Int->Nat->Prop):Prop:=match xs with
 | [.int i,.int j]=>(-(2 ^ 62)<=i/\i < 2 ^ 62/\-(2 ^ 62)<=j/\j < 2 ^ 62)/\Q i (j - i).toNat
 | _=>False
theorem qm {tg:Expr} {body:List Stmt} {g:oZ} (hg:QG X tg g) (hb:pT X body t) {B:Base} {D:Ends3} {lo:Int} {n:Nat} {σ:St} {F1 H1:Hp} {env:En} (r1:Rep X.K B F1 H1 σ env) (q1:turns g t D (bE lo n) env) :
  ∃W:Nat->Nat->St->Hp->Prop,(∃m,W 0 m σ H1)/\∀i m σ H,W i m σ H->((xZ lo n).stop i H/\(RS X B D).nx σ H)\/((xZ lo n).go i H/\∃N:St->Hp->Prop,(∀σ' H',N σ' H'->∃m',m' < m/\W (i + 1) m' σ' H') /\
    ∀x H',(xZ lo n).yld i H x H'->wG X tg x σ H' λσ2 H2=>wSs X body { RS X B D with nx:=N,ct:=N,bk:=(RS X B D).nx } σ2 H2):=by
 have hl:(bE lo n).length=n:=by simp [bE]
 refine⟨λi m σ H=>m=n - i/\i<=n/\∃F env,Rep X.K B F H σ env/\turns g t D ((bE lo n).drop i) env,⟨n,by simp,DZ _,F1,env,r1,by simpa using q1⟩,?_⟩
 rintro i m σ2 H2 ⟨rfl,hi2,F2,env2,r2,q2⟩
 by_cases hlt:i < n
 ·have hdx:(bE lo n)[i]?=some (L3.D.int (lo + (i:Int))):=by simp [bE,hlt]
  rw [drop_cons hdx] at q2;refine .inr ⟨hlt,λσ' H'=>∃F env,Rep X.K B F H' σ' env/\turns g t D ((bE lo n).drop (i + 1)) env,λσ' H' ⟨F',env',r',q'⟩=>⟨n - (i + 1),by omega,rfl,by omega,F',env',r',q'⟩,λy H' hy=>?_⟩;obtain⟨rfl,rfl⟩:=hy;refine gr (hg B σ2 F2 _ env2 _ _ _ r2 bA q2) λσ3 H3 hq0=>?_;obtain⟨F3,env3,r3,s3,q3⟩:=hq0;exact hJ (hb B σ3 F3 H3 env3 _ r3 q3) (λ_ _ q=>q) (λ_ _ q=>q) (λ_ _ q=>q) (λ_ _ q=>q)
 ·have e:i=n:=by omega
  subst e;rw [Ef (by omega)] at q2;exact .inl ⟨Du _,F2,env2,r2,q2⟩
theorem pO {tg:Expr} {body:List Stmt} {g:oZ} {p:Pos} {pos2:Pos} (hp:PassesOwn (model X.prog X.w) X.A X.env X.xe) (hc:X.calm=true) (hgl:Gl X "range") (hm:X.mg "range" = none) (ha:QA X [a] ts) (hg:QG X tg g) (hb:pT X body t)
  (hst:starEach [a] X.env=[(false,eval a X.env)]:=by rfl) (hs:∀x,DS (.Call (.Name "range" p) [a] [] pos2) X.env x=pure x:=by intro _;rfl):QS X (.For tg (.Call (.Name "range" p) [a] [] pos2) body [] pos) (fX n8 ts g t):=by
 refine⟨?_⟩;intro B σ F H env D rp h;refine eS (rL hp hc (mO hgl hm kY hst) uI cO hs) ?_;refine cY (ha B σ F H env _ rp h) λvs H1 hq0=>?_;obtain⟨F1,ds,r1,s1,d1,q1⟩:=hq0
 (try dsimp only at q1);unfold n8 at q1
 split at q1
 ·simp only [aj,Den] at d1;obtain⟨v,r,rfl,rfl,rfl⟩:=d1;exact⟨_,rfl,q1.1.1,q1.1.2,qm hg hb r1 q1.2⟩
 ·exact q1.elim
theorem vi {tg:Expr} {body:List Stmt} {g:oZ} {p:Pos} {pos2:Pos} (hp:PassesOwn (model X.prog X.w) X.A X.env X.xe) (hc:X.calm=true) (hgl:Gl X "range") (hm:X.mg "range" = none) (ha:QA X [a,b] ts) (hg:QG X tg g) (hb:pT X body t)
  (hst:starEach [a,b] X.env=[(false,eval a X.env),(false,eval b X.env)]:=by rfl) (hst2:starEach [b] X.env=[(false,eval b X.env)]:=by rfl) (hs:∀x,DS (.Call (.Name "range" p) [a,b] [] pos2) X.env x=pure x:=by intro _;rfl) :
  QS X (.For tg (.Call (.Name "range" p) [a,b] [] pos2) body [] pos) (fX xJ ts g t):=by
 refine⟨?_⟩;intro B σ F H env D rp h;refine eS (rL hp hc (tQ hgl hm kY hst hst2) uI cO hs) ?_;refine cY (ha B σ F H env _ rp h) λvs H1 hq0=>?_;obtain⟨F1,ds,r1,s1,d1,q1⟩:=hq0
 (try dsimp only at q1);unfold xJ at q1
 split at q1
 ·simp only [aj,Den] at d1;obtain⟨v,r,rfl,rfl,v',r',rfl,rfl,rfl⟩:=d1;exact⟨_,_,rfl,q1.1,qm hg hb r1 q1.2⟩
 ·exact q1.elim
def RF (X:Cx) (B:Base) (σ:St) (env:En) (F:Hp) (Q:List D->Prop):VK:=λv H'=>∃F' H1 p vs ds,v=.ref p/\H1 p=none/\H'=upd H1 p (.lst vs)/\Rep X.K B F' H1 σ env/\ah F F'/\aj X.K F' ds vs/\Q ds
structure QF (X:Cx) (e:Expr) (t:dR):Prop where
 of ::
 run:∀(B:Base) (σ:St) (F H:Hp) (env:En) (Q:List D->Prop),Rep X.K B F H σ env->t env Q->wE X e σ H (RF X B σ env F Q)
instance {X:Cx} {e:Expr} {t:dR}:CoeFun (QF X e t) (λ_=>∀(B:Base) (σ:St) (F H:Hp) (env:En) (Q:List D->Prop),Rep X.K B F H σ env->t env Q->wE X e σ H (RF X B σ env F Q)):=⟨QF.run⟩
def iN (ts:dR):dR:=λenv Q=>ts env λxs=>xs.length<=sizeLine/\Q xs
theorem jc (h:QA X es ts):QF X (.List es pos) (iN ts):=by
 refine⟨?_⟩;intro B σ F H env Q rp hq;refine bK (wk kY) ?_;exact cY (h B σ F H env _ rp hq) λvs H1 ⟨F1,ds,r1,s1,d1,z,q1⟩=>⟨by rw [<- d1.length];exact z,λp hp=>⟨F1,H1,p,vs,ds,rfl,hp,rfl,r1,s1,d1,q1⟩⟩
def b7 (i:Nat) (ts:dR):cy:=λD env=>ts env λxs=>D.nx (env.set i (some (.own xs)))
theorem dD {x:Str} {pos':Pos} (i:Nat) (hN:X.N.Nodup) (he:QF X e ts) (hi:X.N[i]?=some x:=by rfl) (hx:Loc X.env.scope x:=by first|exact Or.inl rfl|exact Or.inr rfl) (hs:swapsWith e (some (.Name x pos')) pos.line X.env=pure false:=by rfl)
  (hf:X.fn x=true\/X.env.scope.names.lookup x=some .local:=by first|exact .inl rfl|exact .inr rfl):QS X (.Assign [.Name x pos'] e pos) (b7 i ts):=by
 refine⟨?_⟩;intro B σ F H env D rp h pins s I;refine lg (i:=i) hN hi hx bc hs hf pins s σ H _ I ?_;refine az (he B σ F H env _ rp h) λv H' hq0=>?_;obtain⟨F1,H1,p,vs,ds,e1,hp,e2,r1,s1,d1,q1⟩:=hq0;subst e1 e2;refine⟨F1,_,r1.yR hp d1 ?_,q1⟩;rw [I.len];exact (Dh.mp hi).1
def b0 (i:Nat) (te:TD):cy:=λD env=>∃xs,env[i]?=some (some (.own xs))/\xs.length < sizeLine/\te env λx=>D.nx (env.set i (some (.own (xs ++ [x]))))
theorem dC {x:Str} {px apos cpos:Pos} (i:Nat) (he:QE X e ta) (hN:X.N[i]?=some x:=by rfl) (hv:rX X.env.scope x:=by first | exact Or.inl rfl | exact Or.inr (Or.inl rfl) | exact Or.inr (Or.inr rfl)) (hd:(x == ("__debug__" : Str))=false:=by decide) (hcd:(x == ("__classdict__" : Str))=false:=by decide)
  (hbase:attributeBase (.Name x px) "append" X.env (eval (.Name x px) X.env)=eval (.Name x px) X.env:=by rfl)
  (hfew:((backTo cpos (starEach [e] X.env)).all (λx=>!x.1) && (backToKw cpos (keywordEach [] X.env)).all (λx=>x.1.isSome)
   && decide (([e]:List Expr).length + ([]:List Keyword).length + (if ([]:List Keyword).isEmpty then 0 else 1) < 30))=true:=by rfl)
  (hline:(apos.endLine == cpos.line)=true:=by rfl) (hst:starEach [e] X.env=(false,eval e X.env) :: starEach [] X.env:=by exact bh rfl) (hplain:(backTo cpos (starEach ([]:List Expr) X.env)).any (·.1)=false:=by rfl)
  (hs:swapsWith (.Call (.Attribute (.Name x px) "append" apos) [e] [] cpos) none pos.line X.env=pure false:=by rfl) :
  QS X (.Expr (.Call (.Attribute (.Name x px) "append" apos) [e] [] cpos) pos) (b0 i ta):=by
 refine⟨?_⟩;intro B σ F H env D rp h;refine eS (sO (Be PySem.F.plainAttrs_list PySem.F.slot_list_append PySem.F.type_list_append nj (dO hN hv hd hcd) (iF bc oi hst) hbase hfew hline hst hplain) hs) ?_;obtain⟨xs,hx,hl,h⟩:=h;obtain⟨p,vs,h1,h2,h3,h4,h5⟩:=rp.ov i xs hx;refine⟨.ref p,h1,.inl ⟨rfl,vs,eY.of h2⟩,?_⟩;refine az (he B σ F H env _ rp h) λy H1 hq0=>?_;obtain⟨F1,d,r1,s1,d1,q1⟩:=hq0;obtain⟨p',vs',g1,g2,g3,g4,g5⟩:=r1.ov i xs hx
 rw [h1] at g1;cases g1;exact⟨p,vs',y,rfl,rfl,g2,by rw [<- g5.length];exact hl,F1,_,r1.change hx h1 (g5.append (aH d1 aK)),q1⟩
end
abbrev Fw:=List D->(D->Prop)->Prop
def Ao (K:Dj) (f:Fw):Sp:=λvs H Q _=>∃(F:Hp) (ds:List D) (P:D->Prop),ah F H/\aj K F ds vs/\f ds P /\
 ∀(d:D) (v:V) (F' H':Hp),ah F F'->ah H H'->ah F' H'->(∀p,H p≠none->F p=none->F' p=none)->Den K F' d v->P d->Q v H'
structure Known (P:Program) (w:World) (K:Dj) (mg:Str->Option Value) (base:Heap) (k:Nat) (x:Str) (f:Fw):Prop where
 ex:∃(fa:Addr) (fd:FuncData) (ps:List Str),gM P w K mg base qS k fa fd ps (Ao K f)/\mg x=some (.ref fa)/\PySem.W.keepIn K (.ref fa)=true/\Binds K fd ps []
def aA (N:List Str) (ds:List D):En:=ds.map (λd=>some (Lo.d d)) ++ List.replicate (N.length - ds.length) none
section
variable {X:Cx} {e:Expr} {es:List Expr} {ts:dR} {p pos:Pos} {x:Str} {k:Nat} {f:Fw}
theorem bC (h:Known X.prog X.w X.K X.mg X.base k x f) (hr:bR k X.A) (ha:QA X (e :: es) ts) (hg:Gl X x:=by rfl) (hdb:(x == ("__debug__" : Str))=false:=by decide)
  (he:starEach (e :: es) X.env=(false,eval e X.env) :: starEach es X.env:=by exact bh rfl) (hpl:(backTo pos (starEach es X.env)).any (·.1)=false:=by rfl):QE X (.Call (.Name x p) (e :: es) [] pos) (aI f ts):=by
 refine⟨?_⟩;intro B σ F H env Q rp hq;obtain⟨fa,fd,ps,G,hm,hk,hb⟩:=h.ex;refine bK (xf G hr hg hm hk hb .nil Bf kY hdb he hpl) ?_;refine cY (ha B σ F H env _ rp hq) λvs H1 hq0=>?_;obtain⟨F1,ds,r1,s1,d1,hf⟩:=hq0;rw [Ea];exact⟨F1,ds,Q,r1.fh,d1,hf,λd v F' H' a b c n hd q=>⟨F',d,r1.ext a c b n,s1.trans a,hd,q⟩⟩
end
theorem dF {K:Dj} {F H:Hp} {N:List Str} {ds:List D} {vs:List V} (fh:ah F H) (hd:aj K F ds vs) :
  Rep K ⟨F,H,λp=>H p≠none/\F p=none,λ_ h=>h.1⟩ F H (start N vs) (aA N ds):=by
 have noown:∀(i:Nat) ys,(aA N ds)[i]?=some (some (.own ys))->False:=λi ys q=>by
  unfold aA at q
  by_cases hi:i < ds.length
  ·rw [Dw (by simpa using hi),Dt] at q;rw [Dm hi] at q;cases q
  ·rw [Dz (by simpa using hi),DW] at q
   split at q <;> cases q
 have nodic:∀(i:Nat) ys,(aA N ds)[i]?=some (some (.dic ys))->False:=λi ys q=>by
  unfold aA at q
  by_cases hi:i < ds.length
  ·rw [Dw (by simpa using hi),Dt] at q;rw [Dm hi] at q;cases q
  ·rw [Dz (by simpa using hi),DW] at q
   split at q <;> cases q
 refine⟨ah.refl _,fh,ah.refl _,λp h=>h.2,λi x q=>?_,λi ys q=>(noown i ys q).elim,λi j xs ys p _ q=>(noown i xs q).elim,λi ys q=>(nodic i ys q).elim,λi j xs ys p _ q=>(nodic i xs q).elim⟩;unfold aA at q
 by_cases hi:i < ds.length
 ·rw [Dw (by simpa using hi),Dt] at q;rw [Dm hi] at q;cases q;obtain⟨v,h1,h2⟩:=hd.get (Dm hi);refine⟨v,?_,h2⟩;unfold start;rw [Dw (by rw [DH,<- hd.length];exact hi),Dt,h1];rfl
 ·rw [Dz (by simpa using hi),DW] at q
  split at q <;> cases q
section
variable {P:Program} {w:World} {K:Dj} {mg:Str->Option Value} {base:Heap}
theorem l8.Bh {x qual:Str} {st:Stmt} {fa:Addr} {fd:FuncData} {N ps:List Str} {k:Nat} {f:Fw} (F:l8 K x qual st fa fd) (S:aN N ps (ak st))
  (hl:∀ds Q,f ds Q->ds.length=ps.length)
  (hbody:∀(cdv:Value) (A:Around) (outer:List Env) (s:Shared) (H:Hp) (E:XK),bR k (A.deeper (envOfC qual (ak st) s.heap.objs.size fa cdv)) ->
   ∃t,pT (fH qS P w K mg base N qual (ak st) fa cdv A outer s H E).l5 (aX st) t/\∀ds (Q:D->Prop),f ds Q->t { nx:=λ_=>Q .non,rt:=Q } (aA N ds)) :
  gM P w K mg base qS (k + 1) fa fd ps (Ao K f):=by
 refine F.ok S (λvs H Q E h=>?_) (λcdv A outer s H vs Q E hr h=>?_)
 ·obtain⟨F0,ds,P,_,hd,hf,_⟩:=h;rw [<- hd.length];exact hl ds _ hf
 ·obtain⟨F0,ds,P,fh,hd,hf,kk⟩:=h;obtain⟨t,ht,hq⟩:=hbody cdv A outer s H E hr;refine⟨_,cO,?_⟩;have core:=ht _ (start N vs) F0 H (aA N ds) _ (dF fh hd) (hq ds P hf);refine hJ core (λσ' H' ⟨F',env',r,q⟩=>?_) (λv H' ⟨F',d',r,dd,q⟩=>?_) (λ_ _ ⟨_,_,_,q⟩=>q) (λ_ _ ⟨_,_,_,q⟩=>q)
  ·exact kk .non .non F' H' r.f0 r.h0 r.fh (λp h1 h2=>r.nf p ⟨h1,h2⟩) nZ q
  ·exact kk d' v F' H' r.f0 r.h0 r.fh (λp h1 h2=>r.nf p ⟨h1,h2⟩) dd q
theorem l8.known {x qual:Str} {st:Stmt} {fa:Addr} {fd:FuncData} {N ps:List Str} {k:Nat} {f:Fw} (F:l8 K x qual st fa fd) (S:aN N ps (ak st)) (hmg:mg x=some (.ref fa)) (hb:Binds K fd ps [])
  (hl:∀ds Q,f ds Q->ds.length=ps.length)
  (hbody:∀(cdv:Value) (A:Around) (outer:List Env) (s:Shared) (H:Hp) (E:XK),bR k (A.deeper (envOfC qual (ak st) s.heap.objs.size fa cdv)) ->
   ∃t,pT (fH qS P w K mg base N qual (ak st) fa cdv A outer s H E).l5 (aX st) t/\∀ds (Q:D->Prop),f ds Q->t { nx:=λ_=>Q .non,rt:=Q } (aA N ds)) :
  Known P w K mg base (k + 1) x f:=⟨fa,fd,ps,l8.Bh F S hl hbody,hmg,F.kp,hb⟩
def tm (n:Nat):Fw:=λds Q=>∃ns:List Int,ds=[.lst (ns.map D.int)]/\ns.length<=n/\Q (.bl true)
theorem zL {K:Dj} {H:Hp} {a:Addr} {ns:List Int} {n:Nat} (hl:ns.length<=n) (hS:eY K H a (ns.map V.int)):Ao K (tm n) [.ref a] H (λv _=>v=.bl true) λ_ _ _=>False:=by
 refine⟨H,[.lst (ns.map D.int)],λd=>d=.bl true,ah.refl _,aH (ib hS (ua ns)) aK,⟨ns,rfl,hl,rfl⟩,λd v F' H' _ _ _ _ hd q=>?_⟩;subst q
 simpa only [Den] using hd
end
section
variable {X:Cx} {a b c e:Expr} {es:List Expr} {ta tb tc:TD} {ts:dR} {pos:Pos} {st:Stmt} {sts:List Stmt} {t u:cy}
def cX (i:Nat) (t:cy):cy:=λD env=>∃xs,env[i]?=some (some (.own xs))/\t D (env.set i (some (.d (.lst xs))))
theorem iZ (i:Nat) (h:QS X st t):QS X st (cX i t):=by
 refine⟨?_⟩;intro B σ F H env D rp hq;obtain⟨xs,hx,q⟩:=hq;obtain⟨F',s',r'⟩:=rp.freeze hx;exact h B σ F' H _ D r' q
def dJ (i:Nat) (tj:TD):TD:=λenv Q=>∃xs,env[i]?=some (some (.own xs))/\tj env λy=>∃j v,y=.int j/\iV xs j=some v/\Q v
theorem oC {x:Str} {px:Pos} (i:Nat) (hb:QE X b tb) (hs:oJ b) (hN:X.N[i]?=some x:=by rfl) (hv:rX X.env.scope x:=by first | exact Or.inl rfl | exact Or.inr (Or.inl rfl) | exact Or.inr (Or.inr rfl)) (hd:(x == ("__debug__" : Str))=false:=by decide)
  (hcd:(x == ("__classdict__" : Str))=false:=by decide):QE X (.Subscript (.Name x px) b pos) (dJ i tb):=by
 refine⟨?_⟩;intro B σ F H env Q rp h;refine bK (yd rY (dO hN hv hd hcd) bc hs) ?_;obtain⟨xs,hx,h⟩:=h;obtain⟨p,vs,h1,h2,h3,h4,h5⟩:=rp.ov i xs hx;refine⟨.ref p,h1,?_⟩;refine az (hb B σ F H env _ rp h) λy H1 hq0=>?_;obtain⟨F1,d,r1,s1,d1,j,v,hj,hv,q1⟩:=hq0;subst hj;simp only [Den] at d1;obtain⟨p',vs',g1,g2,g3,g4,g5⟩:=r1.ov i xs hx;rw [h1] at g1;cases g1;obtain⟨w,hw,dw⟩:=g5.iV hv;exact⟨p,vs',j,w,rfl,d1,eY.of g2,hw,F1,v,r1,s1,dw,q1⟩
end
def c8 (names:List (Str×NameKind)) (cells:List (Str×Addr)) (acc:List (Str×Addr)):List (Str×Addr):=match names with
 | []=>acc
 | (n,k) :: r=>if k=.free then (match cells.lookup n with|some c=>c8 r cells ((n,c) :: acc)|none=>c8 r cells acc) else c8 r cells acc
theorem dj {env:Env}:∀(names:List (Str×NameKind)) (acc:List (Str×Addr)),(∀y∈names,y.2=.free->∃c,env.cells.lookup y.1=some c) ->
  (forIn names acc λ(x:Str×NameKind) r=>if (x.2 == NameKind.free)=true then (do let a <- cellOf env x.1;pure (ForInStep.yield ((x.1,a) :: r))) else pure (ForInStep.yield r):Sem (List (Str×Addr)))=pure (c8 names env.cells acc)
 | [],acc,_=>rfl
 | (n,k) :: r,acc,h=>by
  rw [List.forIn_cons]
  by_cases hk:k=.free
  ·subst hk;obtain⟨c,hc⟩:=h (n,.free) DC rfl;have hc':env.cells.lookup n=some c:=hc;have ih:=dj r ((n,c) :: acc) λy hy=>h y (Dv _ hy);simp only [beq_self_eq_true,if_true,cellOf,hc',c8];exact ih
  ·have ih:=dj r acc λy hy=>h y (Dv _ hy);have hb:(k == NameKind.free)=false:=by simpa using hk
   simp only [hb,Dl,if_false,c8,if_neg hk];exact ih
theorem mn {scope:Scope} {env:Env} (h:∀y∈scope.names,y.2=.free->∃c,env.cells.lookup y.1=some c):closureFor scope env=pure (c8 scope.names env.cells []):=by
 have e:=dj (env:=env) scope.names [] h;have e2:closureFor scope env=((forIn scope.names ([]:List (Str×Addr)) λ(x:Str×NameKind) r=>if (x.2 == NameKind.free)=true then (do let a <- cellOf env x.1;pure (ForInStep.yield ((x.1,a) :: r))) else pure (ForInStep.yield r)) >>= λcs=>pure cs):=rfl
 rw [e2,e];rfl
theorem iK {cells:List (Str×Addr)}:∀(names:List (Str×NameKind)) (acc:List (Str×Addr)),(∀x c,acc.lookup x=some c->cells.lookup x=some c)->∀x c,(c8 names cells acc).lookup x=some c->cells.lookup x=some c
 | [],acc,h,x,c,q=>h x c q
 | (n,k) :: r,acc,h,x,c,q=>by
  unfold c8 at q
  split at q
  ·split at q
   ·rename_i c' e;refine iK r _ (λy d w=>?_) x c q;rw [List.lookup_cons] at w
    split at w
    ·rename_i z;have:y=n:=by simpa using z
     subst this;cases w;exact e
    ·exact h y d w
   ·exact iK r _ h x c q
  ·exact iK r _ h x c q
theorem hV {cells:List (Str×Addr)}:∀(names:List (Str×NameKind)) (acc:List (Str×Addr)) (x:Str),(acc.lookup x).isSome=true->((c8 names cells acc).lookup x).isSome=true
 | [],acc,x,q=>q
 | (n,k) :: r,acc,x,q=>by
  unfold c8
  split
  ·split
   ·refine hV r _ x ?_;rw [List.lookup_cons]
    split
    ·rfl
    ·exact q
   ·exact hV r _ x q
  ·exact hV r _ x q
theorem ie {cells:List (Str×Addr)}:∀(names:List (Str×NameKind)) (acc:List (Str×Addr)) (x:Str),(x,NameKind.free)∈names->(cells.lookup x).isSome=true->((c8 names cells acc).lookup x).isSome=true
 | [],acc,x,h,_=>by simp at h
 | (n,k) :: r,acc,x,h,q=>by
  rcases DD.mp h with e|h
  ·cases e;unfold c8;rw [if_pos rfl]
   split
   ·exact hV r _ _ (by rw [List.lookup_cons];simp)
   ·rename_i e;rw [e] at q;cases q
  ·unfold c8
   split
   ·split <;> exact ie r _ x h q
   ·exact ie r _ x h q
theorem oP:∀(names:List (Str×NameKind)) (n:Nat) (acc:List (Str×Addr)),cellsFrom n names acc=cellsFrom n names [] ++ acc
 | [],n,acc=>rfl
 | (x,k) :: r,n,acc=>by
  unfold cellsFrom
  split
  ·rw [oP r _ ((x,n) :: acc),oP r _ [(x,n)],List.append_assoc];rfl
  ·exact oP r n acc
theorem v7 {x:Str} {c:Addr}:∀(names:List (Str×NameKind)) (n:Nat) (acc:List (Str×Addr)),(x,c)∈cellsFrom n names acc->(x,NameKind.cell)∈names\/(x,c)∈acc
 | [],n,acc,h=>.inr h
 | (y,k) :: r,n,acc,h=>by
  unfold cellsFrom at h
  split at h
  ·rename_i hk;have hk':k=.cell:=by simpa using hk
   rcases v7 r _ _ h with z|z
   ·exact .inl (Dv _ z)
   ·rcases DD.mp z with e|z
    ·cases e;rw [hk'];exact .inl DC
    ·exact .inr z
  ·rcases v7 r _ _ h with z|z
   ·exact .inl (Dv _ z)
   ·exact .inr z
theorem nV {x:Str}:∀(names:List (Str×NameKind)) (n:Nat) (acc:List (Str×Addr)),(acc.lookup x).isSome=true->((cellsFrom n names acc).lookup x).isSome=true
 | [],n,acc,h=>h
 | (y,k) :: r,n,acc,h=>by
  unfold cellsFrom
  split
  ·refine nV r _ _ ?_;rw [List.lookup_cons]
   split
   ·rfl
   ·exact h
  ·exact nV r _ _ h
theorem rm {x:Str}:∀(names:List (Str×NameKind)) (n:Nat) (acc:List (Str×Addr)),(x,NameKind.cell)∈names->((cellsFrom n names acc).lookup x).isSome=true
 | [],n,acc,h=>by simp at h
 | (y,k) :: r,n,acc,h=>by
  unfold cellsFrom;rcases DD.mp h with e|h
  ·cases e;rw [if_pos (by simp)];exact nV r _ _ (by rw [List.lookup_cons];simp)
  ·split <;> exact rm r _ _ h
structure BD (h1:Heap) (C:Addr) (cs:List (Str×Addr)):Prop where
 cell:∀x c,(x,c)∈cs->h1.IsCell c none/\C + 1<=c
 apart:cs.Pairwise λx y=>x.2≠y.2
def aF (X:Cx) (N':List Str) (scope:Scope) (C:Addr) (s:Shared) (H:Hp) (fp:List Addr) (pins:List (Addr×Obj)):Cx :=
 { X with N:=N',s₀:=s,H₀:=H,env:=compEnvC scope (cellsFrom (C + 1) scope.names [] ++ c8 scope.names X.env.cells []) C X.env,outer:=X.stack,stack:=X.stack,ex:=fp,fn:=λx=>scope.names.lookup x == some .cell,pn:=X.pn ++ pins,xe:=λ_ _=>False }
structure aQ (X:Cx) (N':List Str) (nt:Nat) (ix:List Nat) (scope:Scope):Prop where
 kind:scope.kind=.function
 apart:∀x,(x,NameKind.free)∈scope.names->(x,NameKind.cell)∉scope.names
 names:∀x∈scope.names,x.2=.local->scope.names.lookup x.1=some .local
 free:∀x∈scope.names,x.2=.free->X.env.scope.names.lookup x.1=some .cell\/X.env.scope.names.lookup x.1=some .free
 caps:∀(j:Nat) (i:Nat),ix[j]?=some i->∃x,N'[nt + j]?=some x/\X.N[i]?=some x/\(x,NameKind.free)∈scope.names/\((relabel scope X.env).names.lookup x=some .cell\/(relabel scope X.env).names.lookup x=some .free)
 len:N'.length=nt + ix.length
section
variable {prog:Program} {w:World} {A:Around} {R:Result->Shared->Prop} {s:Shared}
theorem n9 {elt target iter:Expr} {ifs:List Expr} {scope:Scope} {pos:Pos} {it acc:Value} {env:Env} (I:Nat->Shared->Prop)
  (turn:∀n s,I n s->wpAny (model prog w) A (pyNext it) (λr s₁=>match r with
   | none=>R (.ok .next) s₁
   | some v=>wpAny (model prog w) A (letOwnedTupleGo target it v) (λ_ s₁'=>wpAny (model prog w) A (assign target env v) (λ_ s₂ =>
     wpAny (model prog w) A (forIn ifs true λc r=>if r=true then do let ok <- isTrue c env (eval c env);pure (ForInStep.yield ok) else pure (ForInStep.yield r)) (λok s₃ =>
      if ok=true then wpAny (model prog w) A (eval elt env) (λx s₄ =>
       wpAny (model prog w) A (call (.builtin "list.append") [acc,x]) (λ_ s₅=>∃m,m < n/\I m s₅) (λ_ _=>False) s₄) (λ_ _=>False) s₃
      else ∃m,m < n/\I m s₃) (λ_ _=>False) s₂) (λ_ _=>False) s₁') (λ_ _=>False) s₁) (λ_ _=>False) s)
  (n:Nat) (h:I n s) :
  codeAny (model prog w) A (.compLoop (.ListComp elt [⟨target,iter,ifs,0⟩] scope pos) 0 it acc env) R s:=by
 refine codeAny_loop rfl I (λn s hI=>?_) n h;show wpAny _ A ((compTurn (.ListComp elt [⟨target,iter,ifs,0⟩] scope pos) 0 it acc env).onRaise (λx=>do noteFrame x env;theTreesLotGoes x)) _ _ s
 refine wpAny_noted ?_;rw [compTurn_list];refine Dk (wpAny_standAt (Dk (DK (turn n s hI) (λr s₁ h₁=>?_) λ_ _ h'=>h'.elim)))
 cases r with
 | none=>exact Ds h₁
 | some v =>
  refine Dk (DK h₁ (λ_ s₁' h₁'=>?_) λ_ _ h'=>h'.elim);refine Dk (DK h₁' (λ_ s₂ h₂=>Dk (DK h₂ (λok s₃ h₃=>?_) λ_ _ h'=>h'.elim)) λ_ _ h'=>h'.elim)
  cases ok with
  | false=>exact Ds ⟨rfl,h₃⟩
  | true =>
   exact Dk (Dk (DK h₃ (λx s₄ h₄=>Dk (DK h₄ (λ_ s₅ h₅=>Ds (Ds ⟨rfl,h₅⟩)) λ_ _ h'=>h'.elim)) λ_ _ h'=>h'.elim))
end
def ma (nt:Nat) (ix:List Nat) (σ:St):St:=List.replicate nt none ++ ix.map λi=>(σ[i]?).join
theorem lookup_mem {α β:Type} [BEq α] [LawfulBEq α] {l:List (α×β)} {x:α} {y:β} (h:l.lookup x=some y):(x,y)∈l:=by
 induction l with
 | nil=>simp at h
 | cons p r ih =>
  obtain⟨a,b⟩:=p;rw [List.lookup_cons] at h
  split at h
  ·rename_i e;have:x=a:=by simpa using e
   subst this;cases h;exact DC
  ·exact Dv _ (ih h)
section
variable {X:Cx} {pins:List (Addr×Obj)} {σ:St} {H:Hp} {s:Shared} {N':List Str} {nt:Nat} {ix:List Nat} {scope:Scope}
theorem jm {x:Str} {k:NameKind} (h:(x,k)∈(relabel scope X.env).names):(x,k)∈scope.names\/((x,NameKind.free)∈scope.names/\k=.cell):=by
 unfold relabel at h;obtain⟨⟨n,k'⟩,hm,e⟩:=DB.mp h;dsimp only at e
 split at e
 ·rename_i hc;cases e;simp only [Bool.and_eq_true,beq_iff_eq] at hc;exact .inr ⟨by rw [<- hc.1.1];exact hm,rfl⟩
 ·cases e;exact .inl hm
theorem rM (I:Inv X pins σ H s) (O:aQ X N' nt ix scope) {fp:List Addr} (hf:∀b∈fp,mB X pins H b) (hlt:∀b∈fp,b < s.heap.objs.size) {h1:Heap} {tk:Nat}
  (hns:h1.Ns s.heap.objs.size (λ_=>none)) (hsb:∀b o,s.heap.get? b=some o->h1.get? b=some o) (hnc:BD h1 s.heap.objs.size (cellsFrom (s.heap.objs.size + 1) scope.names [])) :
  Inv (aF X N' scope s.heap.objs.size s H fp pins) [] (ma nt ix σ) H { s with heap:=h1,toks:=tk }:=by
 have cellsAt:∀x c,(c8 scope.names X.env.cells []).lookup x=some c->X.env.cells.lookup x=some c:=λx c q=>iK scope.names [] (λy d w=>by simp at w) x c q;have clt:∀x c,X.env.cells.lookup x=some c->c < s.heap.objs.size:=λx c e=>let ⟨_,q⟩:=I.cell x c e;q.lt
 have two:∀x c,(cellsFrom (s.heap.objs.size + 1) scope.names [] ++ c8 scope.names X.env.cells []).lookup x=some c->((x,c)∈cellsFrom (s.heap.objs.size + 1) scope.names []/\s.heap.objs.size < c)\/X.env.cells.lookup x=some c:=λx c e=>by
  rw [List.lookup_append] at e
  cases q:(cellsFrom (s.heap.objs.size + 1) scope.names []).lookup x with
  | some d =>
   rw [q] at e;have:d=c:=by simpa using e
   subst this;have hm:=PySem.mem_of_lookup q
   exact .inl ⟨hm,(hnc.cell x d hm).2⟩
  | none=>rw [q] at e;exact .inr (cellsAt x c (by simpa using e))
 have hasN:∀x,(x,NameKind.cell)∈scope.names->∃c,(cellsFrom (s.heap.objs.size + 1) scope.names [] ++ c8 scope.names X.env.cells []).lookup x=some c:=λx hx=>by
  obtain⟨c,hc⟩:=Option.isSome_iff_exists.mp (rm scope.names (s.heap.objs.size + 1) [] hx);exact⟨c,by rw [List.lookup_append,hc];rfl⟩
 have noN:∀x,(x,NameKind.free)∈scope.names->(cellsFrom (s.heap.objs.size + 1) scope.names []).lookup x=none:=λx hx=>by
  cases q:(cellsFrom (s.heap.objs.size + 1) scope.names []).lookup x with
  | none=>rfl
  | some d =>
   rcases v7 _ _ _ (PySem.mem_of_lookup q) with z|z
   ·exact absurd z (O.apart x hx)
   ·simp at z
 refine⟨⟨I.ok.mod,O.kind,I.ok.glob,I.ok.blt,Du _,λx y c h1 h2=>?_,λx hx=>?_,λx c hfx h=>?_,I.ok.hd,I.ok.frames,.inl rfl,λb hb=>⟨DO (hlt b hb),λx c e=>?_⟩,I.bs,
   Ej I.ok.bsz I.sz,λb o e hb=>?_,λb hb z=>?_,I.stack,⟨I.jQ,I.tb⟩⟩,
  rfl,I.bare,Un.kept hsb,⟨_,hns,λj x v e1 e2 e3=>?_⟩,λx c e=>?_,I.hok.fresh (Du _),λx c e=>?_,λp hp=>?_,I.hok.kept hsb,?_⟩
 ·rcases two x c h1 with ⟨m1,g1⟩|o1 <;> rcases two y c h2 with ⟨m2,g2⟩|o2
  ·exact name_of_addr hnc.apart m1 m2
  ·exact absurd (clt y c o2) (Nat.lt_asymm g1)
  ·exact absurd (clt x c o1) (Nat.lt_asymm g2)
  ·exact I.ok.inj x y c o1 o2
 ·
  have hx':((relabel scope X.env).names.lookup x=some .cell\/(relabel scope X.env).names.lookup x=some .free):=hx
  have key:(x,NameKind.cell)∈scope.names\/(x,NameKind.free)∈scope.names:=by
   rcases hx' with h|h
   ·rcases jm (lookup_mem h) with q|q
    ·exact .inl q
    ·exact .inr q.1
   ·rcases jm (lookup_mem h) with q|q
    ·exact .inr q
    ·exact .inr q.1
  rcases key with key|key
  ·exact hasN x key
  ·obtain⟨c,hc⟩:=I.ok.has x (O.free _ key rfl);obtain⟨c2,hc2⟩:=Option.isSome_iff_exists.mp (ie (cells:=X.env.cells) scope.names [] x key (by rw [hc];rfl));refine⟨c2,?_⟩;show (cellsFrom (s.heap.objs.size + 1) scope.names [] ++ c8 scope.names X.env.cells []).lookup x=some c2
   rw [List.lookup_append,noN x key,hc2];rfl
 ·
  have hm:(x,NameKind.cell)∈scope.names:=lookup_mem (by have z:(scope.names.lookup x == some .cell)=true:=hfx;simpa using z)
  have h':(cellsFrom (s.heap.objs.size + 1) scope.names [] ++ c8 scope.names X.env.cells []).lookup x=some c:=h;obtain⟨d,hd⟩:=Option.isSome_iff_exists.mp (rm scope.names (s.heap.objs.size + 1) [] hm);rw [List.lookup_append,hd] at h';have:d=c:=by simpa using h'
  subst this;exact Ep (hnc.cell x d (PySem.mem_of_lookup hd)).2
 ·rcases two x c e with ⟨_,g⟩|o
  ·exact λz=>absurd (hlt b hb) (Nat.lt_asymm (z▸g))
  ·exact (hf b hb).2.2.2.2.1 x c o
 ·rcases (hf b hb).2.2.2.1 with z|z
  ·exact I.ok.noex b o e z
  ·exact absurd (Dr (Dx (I.ok.bs b o e).1) z) (Nat.lt_irrefl _)
 ·rcases DD.mp (I.i4 b z) with e|e
  ·exact (hf b hb).2.1 e
  ·exact (hf b hb).2.2.1 e
 ·
  unfold ma at e2
  by_cases hj:j < nt
  ·rw [Dw (by simpa using hj),DW] at e2
   split at e2 <;> cases e2
  ·rw [Dz (by simpa using hj),Dt,List.length_replicate] at e2
   cases hi:ix[j - nt]? with
   | none=>rw [hi] at e2;cases e2
   | some i =>
    rw [hi] at e2
    have hs:σ[i]?=some (some v):=by
     simp only [Option.map_some,Option.some.injEq] at e2
     cases q:σ[i]? with
     | none=>rw [q] at e2;cases e2
     | some o=>rw [q] at e2;simp only [Option.join] at e2;rw [show o=some v from e2]
    obtain⟨y,n1,n2,n3,n4⟩:=O.caps (j - nt) i hi;have hjj:nt + (j - nt)=j:=by omega
    rw [hjj] at n1;have e1':N'[j]?=some x:=e1;rw [n1] at e1';cases e1';obtain⟨m,hn,hl⟩:=I.loc;have hk:=O.free _ n3 rfl;obtain⟨u,r,l⟩:=hl i x v n2 hs (.inr hk);refine⟨u,r,?_⟩;rcases l with ⟨k,_⟩|⟨_,c,ec,z⟩
    ·have k':X.env.scope.names.lookup x=some .local:=k;rcases hk with hk|hk <;> (have hk':X.env.scope.names.lookup x=_:=hk;rw [hk'] at k';cases k')
    ·have hc2:=Option.isSome_iff_exists.mp (ie (cells:=X.env.cells) scope.names [] x n3 (by rw [ec];rfl));obtain⟨c2,hc2⟩:=hc2;have:=cellsAt x c2 hc2;rw [ec] at this;cases this;refine .inr ⟨n4,c,?_,z.keeps hsb⟩;show (cellsFrom (s.heap.objs.size + 1) scope.names [] ++ c8 scope.names X.env.cells []).lookup x=some c
     rw [List.lookup_append,noN x n3,hc2];rfl
 ·rcases two x c e with ⟨m,_⟩|o
  ·exact⟨_,(hnc.cell x c m).1⟩
  ·obtain⟨v,z⟩:=I.cell x c o;exact⟨v,z.keeps hsb⟩
 ·rcases two x c e with ⟨_,g⟩|o
  ·exact I.hok.fresh (Ep g)
  ·exact I.freeC x c o
 ·rw [Ea] at hp;obtain⟨e,n,ne,nf,d⟩:=I.pin p hp;refine⟨hsb _ _ e,n,DO (Dx e),λz=>?_,d⟩;rcases DD.mp (I.i4 p.1 z) with q|q
  ·exact ne q
  ·exact nf q
 ·unfold ma;show _=N'.length
  rw [O.len,DN,List.length_replicate,DH]
theorem vS (I:Inv X pins σ H s) {fp:List Addr} (hf:∀b∈fp,mB X pins H b) {σ':St} {H':Hp} {s':Shared} (J:Inv (aF X N' scope s.heap.objs.size s H fp pins) [] σ' H' s') {h':Heap} (hs:Heap.SameBut s.heap.objs.size s'.heap h') :
  Inv X pins σ H' { s' with heap:=h' }:=by
 have ne:∀b o,s.heap.get? b=some o->b≠s.heap.objs.size:=λb o e=>DO (Dx e);have jb:=J.base;refine I.yk (ch:=fp) J.os ⟨λb o e n h1 h2=>(hs.2 b (ne b o e)).trans (jb.keep b o e n h1 h2),λb o e n h1 h2=>?_,jb.free,λb o e h2=>?_,jb.jE,jb.frzs,jb.tbls⟩ (λb o e=>?_) J.bare λb hb=>?_
 ·obtain⟨sl,q⟩:=jb.slot b o e n h1 h2;exact⟨sl,(hs.2 b (ne b o e)).trans q⟩
 ·obtain⟨o',q⟩:=jb.there b o e h2;exact⟨o',(hs.2 b (ne b o e)).trans q⟩
 ·have jf:H' s.heap.objs.size=none:=J.free;refine (J.hok b o e).qf (λc u hc q=>(hs.2 c ?_).trans q) (λ_ q=>q) (λ_ _ q=>q) λ_ _ _ q=>q;intro z;subst z;rcases hc with z|z
  ·rw [<- z,jf] at e;cases e
  ·rw [jf] at z;cases z
 ·obtain⟨f0,f1,f2,f3,f4,f5⟩:=hf b hb;exact⟨f3,f1,f4,f5⟩
end
def rb (X:Cx) (ifs:List Expr):TT:=λσ H Q=>∀(pins:List (Addr×Obj)) (s:Shared),Inv X pins σ H s ->
 wpAny (model X.prog X.w) X.A (forIn ifs true λc r=>if r=true then do let ok <- isTrue c X.env (eval c X.env);pure (ForInStep.yield ok) else pure (ForInStep.yield r)) (TP X pins σ Q) (λ_ _=>False) s
def yo (X:Cx) (N':List Str) (nt:Nat) (ix:List Nat) (scope:Scope) (elt target:Expr) (ifs:List Expr) (wi:TI):TE:=λσ H Q=>wi σ H λJ H1=>∀(a C:Addr) (s:Shared) (fp:List Addr) (pins:List (Addr×Obj)),H1 a=none ->
 ∃W:Nat->Nat->St->Hp->Prop,(∃m,W 0 m (ma nt ix σ) (upd H1 a (.lst [])))/\∀i m σ' H',W i m σ' H'->(J.stop i H'/\Q (.ref a) H')\/(J.go i H'/\∀x H2,J.yld i H' x H2 ->
  wG (aF X N' scope C s (upd H1 a (.lst [])) fp pins) target x σ' H2 λσ2 H3=>rb (aF X N' scope C s (upd H1 a (.lst [])) fp pins) ifs σ2 H3 λok H4=>if ok=true then
   wE (aF X N' scope C s (upd H1 a (.lst [])) fp pins) elt σ2 H4 λy H5=>∃ys,H5 a=some (.lst ys)/\ys.length < sizeLine/\∃m',m' < m/\W (i + 1) m' σ2 (upd H5 a (.lst (ys ++ [y])))
   else ∃m',m' < m/\W (i + 1) m' σ2 H4)
section
variable {X:Cx} {N':List Str} {nt:Nat} {ix:List Nat} {scope:Scope}
theorem aQ.a5 {pins:List (Addr×Obj)} {σ:St} {H:Hp} {s:Shared} (O:aQ X N' nt ix scope) (I:Inv X pins σ H s):closureFor scope X.env=pure (c8 scope.names X.env.cells []) :=
 mn λy hy hk=>I.ok.has y.1 (O.free y hy hk)
theorem wb {M:Model} {A:Around} {E:Value->Shared->Prop} {s:Shared} {globals:Addr} {cl:List (Str×Addr)} {qual:Str} {around:Env} {Q:Env->Shared->Prop} (hk:scope.kind=.function)
  (h:∀h1,h1.Ns s.heap.objs.size (λ_=>none)->(∀b o,s.heap.get? b=some o->h1.get? b=some o)->BD h1 s.heap.objs.size (cellsFrom (s.heap.objs.size + 1) scope.names []) ->
   Q { scope:=scope,locals:=s.heap.objs.size,globals:=globals,cells:=cellsFrom (s.heap.objs.size + 1) scope.names [] ++ cl,qual:=qual,func:=none,code:=around.code,frame:=around.frame,builtins:=around.builtins } { s with heap:=h1 }) :
  wpAny M A (newFunctionEnv scope globals cl [] qual none .none (some around)) Q E s:=by
 simp only [newFunctionEnv,Option.isSome_some,if_true];refine Dk (wpAny_alloc ?_);refine Dk (wpAny_layCells _ (λname kind cells=>by cases hkc:kind == NameKind.cell <;> simp [hkc]) _ _ _ _ ?_)
 rw [oP];have sz:(s.heap.push { cls:=.type "dict",data:=.dict #[] }).objs.size=s.heap.objs.size + 1:=Heap.size_push ..
 have ok:=cellsFrom_ok scope.names (s.heap.push { cls:=.type "dict",data:=.dict #[] }) (s.heap.objs.size + 1) [] ⟨λ_ _ hm=>(nomatch hm),List.Pairwise.nil⟩ (by rw [sz];exact Du _)
 rw [sz] at ok;have q:=h (pushCells (s.heap.push { cls:=.type "dict",data:=.dict #[] }) scope.names) ((Heap.Ns.new s.heap (.type "dict")).keeps (pushCells_keeps _ _)) (λb o e=>pushCells_keeps _ _ b o (Dp _ e)) ⟨λx c hm=>ok.empty x c hm,ok.apart⟩
 rw [<- sz] at q;refine Dk ?_;rw [List.forIn_nil];exact Ds (Ds (by simpa only [sz] using q))
theorem o3 {elt target iter:Expr} {ifs:List Expr} {pos:Pos} {pins:List (Addr×Obj)} {σ:St} {s2:Shared} {Q:VK} {R:It->Hp->Prop} {itv:Value} {RR:Value->Addr->Result->Shared->Prop} (hc:X.calm=true) (O:aQ X N' nt ix scope)
  (h2:BN X pins σ target R itv s2)
  (hR:∀J H1,R J H1->∀(a C:Addr) (s:Shared) (fp:List Addr) (pins:List (Addr×Obj)),H1 a=none ->
   ∃W:Nat->Nat->St->Hp->Prop,(∃m,W 0 m (ma nt ix σ) (upd H1 a (.lst [])))/\∀i m σ' H',W i m σ' H'->(J.stop i H'/\Q (.ref a) H')\/(J.go i H'/\∀x H2,J.yld i H' x H2 ->
    wG (aF X N' scope C s (upd H1 a (.lst [])) fp pins) target x σ' H2 λσ2 H3=>rb (aF X N' scope C s (upd H1 a (.lst [])) fp pins) ifs σ2 H3 λok H4=>if ok=true then
     wE (aF X N' scope C s (upd H1 a (.lst [])) fp pins) elt σ2 H4 λy H5=>∃ys,H5 a=some (.lst ys)/\ys.length < sizeLine/\∃m',m' < m/\W (i + 1) m' σ2 (upd H5 a (.lst (ys ++ [y])))
     else ∃m',m' < m/\W (i + 1) m' σ2 H4))
  (hRR:∀(a C:Addr) (H':Hp) (s6:Shared) (m:Str->Option Value),Q (.ref a) H'->s6.heap.Ns C m->H' C=none->C≠X.env.locals->X.s₀.heap.objs.size<=C->(∀x c,X.env.cells.lookup x=some c->c≠C)->(∀p∈X.pn ++ pins,p.1≠C) ->
   (∀h',Heap.SameBut C s6.heap h'->Inv X pins σ H' { s6 with heap:=h' })->RR (.ref a) C (.ok .next) s6) :
  wpAny (model X.prog X.w) X.A (newList []) (λacc s3=>wpAny (model X.prog X.w) X.A (newFunctionEnv scope X.env.globals (c8 scope.names X.env.cells []) [] X.env.qual none .none (some X.env)) (λcenv s4 =>
   codeAny (model X.prog X.w) X.A (.compStart (.ListComp elt [⟨target,iter,ifs,0⟩] scope pos) 0 itv acc { cenv with scope:=relabel scope X.env }) (RR acc cenv.locals) s4) X.xe s3) X.xe s2:=by
 obtain⟨it,fp,tn,J,H2,e,I2,T,st2,f2,hq0⟩:=h2;have hq:=hR J H2 hq0;subst e;have hlt2:∀b∈fp,b < s2.heap.objs.size:=λb hb=>let ⟨o,e,_⟩:=T.obj _ _ st2 b hb;Dx e
 refine wpAny_newObj_type ?_;generalize hs3:({ s2 with heap:=s2.heap.push { cls:=.type "list",dict:=none,data:=.seq ([]:List Value).toArray } }:Shared)=s3
 have k3:∀b o,s2.heap.get? b=some o->s3.heap.get? b=some o:=λb o e=>by rw [<- hs3];exact Dp _ e
 have ha:H2 s2.heap.objs.size=none:=I2.hok.fresh (Du _)
 have I3:Inv X pins σ (upd H2 s2.heap.objs.size (.lst [])) s3:=by
  rw [<- hs3];exact I2.laid (t':=s2.toks) (λb u e=>Dp _ e) (Du _) ⟨DZ _,[],0,.nil,DI _ rfl⟩
 have f3:∀b∈fp,mB X pins (upd H2 s2.heap.objs.size (.lst [])) b:=λb hb=>⟨by rw [ar (DO (hlt2 b hb))];exact (f2 b hb).1,(f2 b hb).2⟩;have st3:tn 0 s3.heap:=T.keep _ _ _ st2 λb hb o e=>k3 b o e;have hlt3:∀b∈fp,b < s3.heap.objs.size:=λb hb=>let ⟨o,e,_⟩:=T.obj _ _ st3 b hb;Dx e
 refine wb O.kind λh1 hns k4 hnc=>?_;have I4:=rM (tk:=s3.toks) I3 O f3 hlt3 hns k4 hnc;have st4:tn 0 h1:=T.keep _ _ _ st3 λb hb o e=>k4 b o e;obtain⟨W,⟨m0,w0⟩,turn⟩:=hq s2.heap.objs.size s3.heap.objs.size s3 fp pins ha;have fr3:∀b∈fp,(upd H2 s2.heap.objs.size (.lst [])) b=none:=λb hb=>(f3 b hb).1
 have stat:∀{H':Hp},(∀b∈fp,H' b=none)->∀b∈fp,mB (aF X N' scope s3.heap.objs.size s3 (upd H2 s2.heap.objs.size (.lst [])) fp pins) [] H' b:=λ{H'} hn b hb=>by
  refine⟨hn b hb,DO (hlt3 b hb),λz=>?_,.inl hb,(I4.ok.exf b hb).2,λp hp=>?_⟩
  ·rcases DD.mp (I3.i4 b z) with q|q
   ·exact (f3 b hb).2.1 q
   ·exact (f3 b hb).2.2.1 q
  ·rw [Ea] at hp;exact (f3 b hb).2.2.2.2.2 p hp
 generalize hX:aF X N' scope s3.heap.objs.size s3 (upd H2 s2.heap.objs.size (.lst [])) fp pins=X' at I4 turn stat;have eP:X'.prog=X.prog:=by rw [<- hX];rfl
 have eW:X'.w=X.w:=by rw [<- hX];rfl
 have eK:X'.K=X.K:=by rw [<- hX];rfl
 have eA:X'.A=X.A:=by rw [<- hX];rfl
 have eC:X'.calm=true:=by rw [<- hX];exact hc
 have eE:X'.env=compEnvC scope (cellsFrom (s3.heap.objs.size + 1) scope.names [] ++ c8 scope.names X.env.cells []) s3.heap.objs.size X.env:=by rw [<- hX];rfl
 have eX:X'.xe=λ_ _=>False:=by rw [<- hX];rfl
 have loop:codeAny (model X.prog X.w) X.A (.compLoop (.ListComp elt [⟨target,iter,ifs,0⟩] scope pos) 0 (.ref it) (.ref s2.heap.objs.size) (compEnvC scope (cellsFrom (s3.heap.objs.size + 1) scope.names [] ++ c8 scope.names X.env.cells []) s3.heap.objs.size X.env))
   (RR (.ref s2.heap.objs.size) s3.heap.objs.size) { s3 with heap:=h1 }:=by
  refine n9 (λn s'=>∃i σ' H',Inv X' [] σ' H' s'/\tn i s'.heap/\(∀b∈fp,H' b=none)/\W i n σ' H') ?_ m0 ⟨0,_,_,I4,st4,fr3,w0⟩
  rintro n s5 ⟨i,σ5,H5,I5,st5,fr5,w5⟩;rcases turn i n σ5 H5 w5 with ⟨stop,q⟩|⟨go,step⟩
  ·have:=T.done X' eP eW eK eC i [] s5 σ5 H5 (λ_ _=>False) I5 (stat fr5) st5 stop;rw [eA] at this;refine bF this λr s6 ⟨hr,I6⟩=>?_;subst hr;obtain⟨m,hm,_⟩:=id I6.loc;rw [eE] at hm;have fre:H5 s3.heap.objs.size=none:=by have z:=I6.free;rw [eE] at z;exact z
   refine hRR _ _ H5 s6 m q hm fre (Nat.ne_of_gt I3.lt) I3.sz (λx c e z=>?_) (λp hp z=>?_) λh' hsb'=>?_
   ·obtain⟨v,w⟩:=I3.cell x c e;exact absurd w.lt (by rw [z];exact Nat.lt_irrefl _)
   ·exact absurd (Dx (I3.pin p hp).1) (by rw [z];exact Nat.lt_irrefl _)
   ·rw [<- hX] at I6;exact vS I3 f3 I6 hsb'
  ·have:=T.item X' eP eW eK eC i [] s5 σ5 H5 (λ_ _=>False) I5 (stat fr5) st5 go;rw [eA] at this;refine bF this λr s6 ⟨u,hr,h6⟩=>?_;subst hr;refine bF h6 λ_ s7 hq0=>?_;obtain⟨x,H7,I7,r7,y7,st7,fr7⟩:=hq0;have I7':=I7.pinned (stat fr7) (T.obj _ _ st7);have g7:=step x H7 y7 _ s7 u I7' r7;rw [eP,eW,eA,eE,eX] at g7;refine bF g7 λ_ s8 ⟨σ8,H8,I8,q8⟩=>?_;have t8:=q8 _ s8 I8;rw [eP,eW,eA,eE] at t8;refine bF t8 λok s9 ⟨H9,I9,q9⟩=>?_
   have back:∀{σz:St} {Hz:Hp} {sz:Shared} {m':Nat},Inv X' ([] ++ kh fp s7.heap) σz Hz sz->m' < n->W (i + 1) m' σz Hz->∃m,m < n/\∃i σ' H',Inv X' [] σ' H' sz/\tn i sz.heap/\(∀b∈fp,H' b=none)/\W i m σ' H':=λ{σz Hz sz m'} Iz hm wz=>by
    refine⟨m',hm,i + 1,σz,Hz,Iz.hU,T.keep _ _ _ st7 λb hb o e=>(Iz.pin (b,o) (DU _ (DU _ (e8 hb e)))).1,λb hb=>?_,wz⟩;obtain⟨o,e,d⟩:=T.obj _ _ st7 b hb;exact (Iz.pin (b,o) (DU _ (DU _ (e8 hb e)))).2.1
   cases ok with
   | false =>
    obtain⟨m',hm,w9⟩:=q9
    exact back I9 hm w9
   | true =>
    have e9:=q9 _ s9 I9;rw [eP,eW,eA,eE,eX] at e9;refine bF e9 λuy s10 hq0=>?_;obtain⟨y,H10,I10,r10,ys,hys,hl,m',hm,w10⟩:=hq0;have ap:=nj (X:=X') _ s10 σ8 H10 (.ref s2.heap.objs.size) [y] (.ref s2.heap.objs.size) [uy] (λ_ H'=>H'=upd H10 s2.heap.objs.size (.lst (ys ++ [y]))) I10 rfl (.cons r10 .nil) ⟨_,ys,y,rfl,rfl,hys,hl,rfl⟩;rw [eP,eW,eA,eX] at ap;refine bF ap λ_ s11 hq0=>?_;obtain⟨_,H11,I11,_,q11⟩:=hq0
    have q11':H11=upd H10 s2.heap.objs.size (.lst (ys ++ [y])):=q11;subst q11';exact back I11 hm w10
 exact codeAny_compStart_list loop (T.self _ _ _ _ _ st4 loop)
theorem jT {elt target iter:Expr} {ifs:List Expr} {pos:Pos} {wi:TI} (hc:X.calm=true) (hi:PI X target iter wi) (O:aQ X N' nt ix scope) (hs:∀x,DS iter X.env x=pure x:=by intro _;rfl) :
  PE X (.ListComp elt [⟨target,iter,ifs,0⟩] scope pos) (yo X N' nt ix scope elt target ifs wi):=by
 intro pins s σ H Q I h;rw [eval_ListComp];refine wpAny_comprehension_free (use:=none) rfl hs (O.a5 I) O.kind O.names ?_;refine bF (hi pins s σ H _ I h) λv s1 h1=>bF h1 λitv s2 h2=>?_;refine o3 (Q:=Q) (RR:=λacc C=>compPost (model X.prog X.w) X.A X.xe none (EP X pins σ Q) acc C) hc O h2 (λJ H1 z=>z) ?_;intro a C H' s6 m q hm _ _ _ _ _ hI;exact⟨m,hm,λh' hsb=>⟨.ref a,H',hI h' hsb,rfl,q⟩⟩
theorem rK {elt target iter:Expr} {ifs:List Expr} {pos spos py:Pos} {y:Str} {i:Nat} {wi:TI} (hc:X.calm=true) (hi:PI X target iter wi) (O:aQ X N' nt ix scope) (hN:X.N.Nodup) (hy:X.N[i]?=some y) (hx:Loc X.env.scope y)
  (hsw:swapsWith (.ListComp elt [⟨target,iter,ifs,0⟩] scope pos) (some (.Name y py)) spos.line X.env=pure true)
  (hf:X.fn y=true\/X.env.scope.names.lookup y=some .local) (hs:∀x,DS iter X.env x=pure x:=by intro _;rfl) :
  PS X (.Assign [.Name y py] (.ListComp elt [⟨target,iter,ifs,0⟩] scope pos) spos) (λD=>λσ H=>yo X N' nt ix scope elt target ifs wi σ H λv H'=>D.nx (σ.set i (some v)) H'):=by
 intro pins s σ H D I h;rw [exec_Assign_Name_used _ _ _ _ hsw];refine Dk (wpAny_standAt (Dk ?_));show wpAny _ X.A (do let _ <- comprehension (.ListComp elt [⟨target,iter,ifs,0⟩] scope pos) scope X.env _ (newList []) false (eval iter X.env) (some (assign (.Name y py) X.env))) _ _ s
 refine Dk (DK (wpAny_comprehension_free (use:=some (assign (.Name y py) X.env)) (Q:=λ_ s'=>SP X pins D .next s') rfl hs (O.a5 I) O.kind O.names ?_) (λ_ s' hq=>Ds (Ds hq)) λ_ _ e=>e);refine bF (hi pins s σ H _ I h) λv s1 h1=>bF h1 λitv s2 h2=>?_;refine o3 (Q:=λv H'=>D.nx (σ.set i (some v)) H') (RR:=λacc C=>compPost (model X.prog X.w) X.A X.xe (some (assign (.Name y py) X.env)) (λ_ s'=>SP X pins D .next s') acc C) hc O h2 (λJ H1 z=>z) ?_
 intro a C H' s6 m q hm hC n1 n2 n3 n4 hI;have I6:Inv X pins σ H' s6:=hI s6.heap (.refl ..);show wpAny _ X.A (assign (.Name y py) X.env (.ref a)) _ _ _
 refine wpAny_assign_Name (m6 I6 hN hy hx (v:=.ref a) rfl (λs7 I7 hsame=>?_) hf);obtain⟨b,hb,hbx⟩:=hsame
 have hne:C≠b:=by
  rcases hbx with e|e
  ·rw [e];exact n1
  ·exact Ne.symm (n3 y b e)
 refine⟨m,hm.sameBut hb hne,λh' hsb=>⟨_,H',?_,q⟩⟩;exact I7.turned (t':=s7.toks) (λc o hc' e=>(hsb.2 c hc').trans e) hC n1 (.inr n2) n3 n4
end
def ba (nt:Nat) (ix:List Nat) (env:En):En:=List.replicate nt none ++ ix.map λi=>match env[i]? with
 | some (some (.d x))=>some (.d x)
 | _=>none
theorem bp {nt:Nat} {ix:List Nat} {env:En} (i:Nat) (ys:List D):(ba nt ix env)[i]?≠some (some (.own ys)):=λq=>by
 unfold ba at q
 by_cases hj:i < nt
 ·rw [Dw (by simpa using hj),DW] at q
  split at q <;> cases q
 ·rw [Dz (by simpa using hj),Dt] at q
  cases e:ix[i - (List.replicate nt (none:Option Lo)).length]? with
  | none=>rw [e] at q;cases q
  | some k =>
   rw [e] at q;simp only [Option.map_some,Option.some.injEq] at q
   split at q <;> cases q
theorem bq {nt:Nat} {ix:List Nat} {env:En} (i:Nat) (ys:List (D×D)):(ba nt ix env)[i]?≠some (some (.dic ys)):=λq=>by
 unfold ba at q
 by_cases hj:i < nt
 ·rw [Dw (by simpa using hj),DW] at q
  split at q <;> cases q
 ·rw [Dz (by simpa using hj),Dt] at q
  cases e:ix[i - (List.replicate nt (none:Option Lo)).length]? with
  | none=>rw [e] at q;cases q
  | some k =>
   rw [e] at q;simp only [Option.map_some,Option.some.injEq] at q
   split at q <;> cases q
def Base.here (F H:Hp):Base:=⟨F,H,λp=>H p≠none/\F p=none,λ_ h=>h.1⟩
theorem sJ {K:Dj} {B:Base} {F H:Hp} {σ:St} {env:En} {nt:Nat} {ix:List Nat} {a:Addr} {o:HO} (r:Rep K B F H σ env) (ha:H a=none):Rep K (Base.here F H) F (upd H a o) (ma nt ix σ) (ba nt ix env):=by
 refine⟨ah.refl _,r.fh.trans (aR ha),aR ha,λp h=>h.2,λj x q=>?_,λj ys q=>(bp j ys q).elim,λi j xs ys p _ q=>(bp i xs q).elim,λj ys q=>(bq j ys q).elim,λi j xs ys p _ q=>(bq i xs q).elim⟩;unfold ba at q
 by_cases hj:j < nt
 ·rw [Dw (by simpa using hj),DW] at q
  split at q <;> cases q
 ·rw [Dz (by simpa using hj),Dt,List.length_replicate] at q
  cases e:ix[j - nt]? with
  | none=>rw [e] at q;cases q
  | some k =>
   rw [e] at q;simp only [Option.map_some,Option.some.injEq] at q
   split at q
   ·rename_i x' h';cases q;obtain⟨v,h1,h2⟩:=r.dv k x h';refine⟨v,?_,h2⟩;unfold ma;rw [Dz (by simpa using hj),Dt,List.length_replicate,e];simp only [Option.map_some,h1,Option.join];rfl
   ·cases q
theorem Rep.here {K:Dj} {B:Base} {F H:Hp} {σ:St} {env:En} (r:Rep K B F H σ env) (no:∀(i:Nat) ys,env[i]?≠some (some (.own ys))) (no':∀(i:Nat) ys,env[i]?≠some (some (.dic ys))):Rep K (Base.here F H) F H σ env :=
 ⟨ah.refl _,r.fh,ah.refl _,λp h=>h.2,r.dv,λi ys q=>(no i ys q).elim,λi j xs ys p _ q=>(no i xs q).elim,λi ys q=>(no' i ys q).elim,λi j xs ys p _ q=>(no' i xs q).elim⟩
theorem Rep.there {K:Dj} {B:Base} {F H F' H':Hp} {σ:St} {env b8:En} (r:Rep K (Base.here F H) F' H' σ env) (f0:ah B.F F) (h0:ah B.H H) (nf:∀p,B.N p->F p=none) (he:∀(i:Nat) l,b8[i]?=some (some l)->env[i]?=some (some l)) (no:∀(i:Nat) ys,b8[i]?≠some (some (.own ys))) (no':∀(i:Nat) ys,b8[i]?≠some (some (.dic ys))):Rep K B F' H' σ b8:=by
 refine⟨f0.trans r.f0,r.fh,h0.trans r.h0,λp hp=>?_,λi x q=>r.dv i x (he i _ q),λi ys q=>(no i ys q).elim,λi j xs ys p _ q=>(no i xs q).elim,λi ys q=>(no' i ys q).elim,λi j xs ys p _ q=>(no' i xs q).elim⟩;refine r.nf p ⟨λz=>?_,nf p hp⟩;have q:=B.nb p hp
 cases w:B.H p with
 | none=>exact q w
 | some o=>rw [h0 _ _ w] at z;cases z
structure ig (K:Dj) (J:It) (F1:Hp) (xs:List D):Prop where
 go:∀(i:Nat) (G H':Hp),ah F1 G->ah G H'->i < xs.length->J.go i H'
 yld:∀(i:Nat) (G H':Hp) (y:V) (H'':Hp) (x:D),ah F1 G->ah G H'->xs[i]?=some x->J.yld i H' y H''->H''=H'/\Den K G x y
 stop:∀(G H':Hp),ah F1 G->ah G H'->J.stop xs.length H'
theorem rq {K:Dj} {F1:Hp} {a:Addr} {vs:List V} {xs:List D} (q:eY K F1 a vs) (r:aj K F1 xs vs):ig K (BI K a) F1 xs where
 go:=λi G H' s1 s2 hi=>by
  have:i < vs.length:=by rw [<- r.length];exact hi
  exact⟨vs,vs[i],s2.seq (s1.seq q),by simp [this]⟩
 yld:=λi G H' y H'' x s1 s2 hx hy=>by
  obtain⟨v,h1,h2⟩:=r.get hx;obtain⟨e1,e2⟩:=hy;have:=e2 vs (s2.seq (s1.seq q));rw [h1] at this;cases this;exact⟨e1,Den.mono s1 _ _ h2⟩
 stop:=λG H' s1 s2=>⟨vs,s2.seq (s1.seq q),by rw [r.length];exact Du _⟩
theorem tY {K:Dj} {F1:Hp} {a:Addr} {vs:List V} {xs:List D} (q:gZ K F1 a vs) (r:aj K F1 xs vs):ig K (BK K a) F1 xs where
 go:=λi G H' s1 s2 hi=>by
  have:i < vs.length:=by rw [<- r.length];exact hi
  exact⟨vs,vs[i],ah.bG s2 (ah.bG s1 q),by simp [this]⟩
 yld:=λi G H' y H'' x s1 s2 hx hy=>by
  obtain⟨v,h1,h2⟩:=r.get hx;obtain⟨e1,e2⟩:=hy;have:=e2 vs (ah.bG s2 (ah.bG s1 q));rw [h1] at this;cases this;exact⟨e1,Den.mono s1 _ _ h2⟩
 stop:=λG H' s1 s2=>⟨vs,ah.bG s2 (ah.bG s1 q),by rw [r.length];exact Du _⟩
theorem t5 {K:Dj} {F1:Hp} {z:Str}:ig K (A4 z) F1 (e7 z) where
 go:=λi G H' s1 s2 hi=>by
  show i < z.cps.size
  simpa [e7] using hi
 yld:=λi G H' y H'' x s1 s2 hx hy=>by
  obtain⟨e1,c,hc,rfl⟩:=hy;unfold e7 at hx;rw [Dt,Em,hc] at hx;cases hx;exact⟨e1,iI⟩
 stop:=λG H' s1 s2=>by
  show z.cps.size<=_
  simp [e7]
theorem pM {K:Dj} {F1:Hp} {lo:Int} {n:Nat}:ig K (xZ lo n) F1 (bE lo n) where
 go:=λi G H' s1 s2 hi=>by
  have:i < n:=by simpa [bE] using hi
  exact this
 yld:=λi G H' y H'' x s1 s2 hx hy=>by
  obtain⟨e1,e2⟩:=hy
  have hi:i < n:=by
   have:=(Dh.mp hx).1
   simpa [bE] using this
  have:(bE lo n)[i]?=some (D.int (lo + (i:Int))):=by simp [bE,hi]
  rw [this] at hx;cases hx;exact⟨e1,by rw [e2];exact bA⟩
 stop:=λG H' s1 s2=>by
  have:(bE lo n).length=n:=by simp [bE]
  rw [this];exact Du n
def comps (tt:TB) (te:TD) (b8:En) (Q:List D->Prop):List D->List D->Prop
 | [],acc=>Q acc
 | x :: xs,acc=>tt (b8.set 0 (some (.d x))) λok=>if ok=true then te (b8.set 0 (some (.d x))) λy=>acc.length < sizeLine/\comps tt te b8 Q xs (acc ++ [y]) else comps tt te b8 Q xs acc
structure jB (X:Cx) (ifs:List Expr) (t:TB):Prop where
 of ::
 run:∀(B:Base) (σ:St) (F H:Hp) (env:En) (Q:Bool->Prop),Rep X.K B F H σ env->t env Q->rb X ifs σ H (RB X B σ env F Q)
instance {X:Cx} {ifs:List Expr} {t:TB}:CoeFun (jB X ifs t) (λ_=>∀(B:Base) (σ:St) (F H:Hp) (env:En) (Q:Bool->Prop),Rep X.K B F H σ env->t env Q->rb X ifs σ H (RB X B σ env F Q)):=⟨jB.run⟩
def bL:TB:=λ_ Q=>Q true
section
variable {X:Cx}
theorem cB:jB X [] bL:=⟨λB σ F H env Q rp h pins s I=>wpAny_tests_nil ⟨H,I,F,rp,ah.refl _,h⟩⟩
theorem vb {c:Expr} {t:TB} (hx:X.xe=λ_ _=>False) (h:QT X c t):jB X [c] t:=by
 refine⟨λB σ F H env Q rp hq pins s I=>wpAny_tests_one ?_⟩;have:=h B σ F H env Q rp hq pins s I;rw [hx] at this;exact this
variable {N':List Str} {nt:Nat} {ix:List Nat} {scope:Scope} {elt iter a b:Expr} {ifs:List Expr} {x:Str} {px pos:Pos} {tt:TB} {te ti:TD} {ts:dR}
theorem kT (hN:N'.Nodup) (h0:N'[0]?=some x) (hL:Loc (relabel scope X.env) x) (hF:(scope.names.lookup x == some .cell)=true\/(relabel scope X.env).names.lookup x=some .local)
  (ht:∀C s H fp pins,jB (aF X N' scope C s H fp pins) ifs tt) (he:∀C s H fp pins,QE (aF X N' scope C s H fp pins) elt te)
  {B:Base} {σ:St} {F F1 H1:Hp} {env:En} {Q:List D->Prop} {J:It} {xs:List D} (sF:ah F F1) (r1:Rep X.K B F1 H1 σ env) (S:ig X.K J F1 xs) (q1:comps tt te (ba 1 ix env) Q xs []) :
  ∀(a C:Addr) (s:Shared) (fp:List Addr) (pins:List (Addr×Obj)),H1 a=none ->
   ∃W:Nat->Nat->St->Hp->Prop,(∃m,W 0 m (ma 1 ix σ) (upd H1 a (.lst [])))/\∀i m σ' H',W i m σ' H'->(J.stop i H'/\RF X B σ env F Q (.ref a) H')\/(J.go i H'/\∀y H2,J.yld i H' y H2 ->
    wG (aF X N' scope C s (upd H1 a (.lst [])) fp pins) (.Name x px) y σ' H2 λσ2 H3=>rb (aF X N' scope C s (upd H1 a (.lst [])) fp pins) ifs σ2 H3 λok H4=>if ok=true then
     wE (aF X N' scope C s (upd H1 a (.lst [])) fp pins) elt σ2 H4 λy H5=>∃ys,H5 a=some (.lst ys)/\ys.length < sizeLine/\∃m',m' < m/\W (i + 1) m' σ2 (upd H5 a (.lst (ys ++ [y])))
     else ∃m',m' < m/\W (i + 1) m' σ2 H4):=by
 intro a C s fp pins ha;have hF1a:F1 a=none:=r1.jw ha
 refine⟨λi m σ' H'=>m=xs.length - i/\i<=xs.length/\∃(F':Hp) (acc:List D) (ys:List V),Rep X.K (Base.here F1 H1) F' H' σ' (ba 1 ix env)/\H' a=some (.lst ys)/\F' a=none/\aj X.K F' acc ys/\comps tt te (ba 1 ix env) Q (xs.drop i) acc,
  ⟨xs.length,by simp,DZ _,F1,[],[],sJ r1 ha,aq,hF1a,aK,by simpa using q1⟩,?_⟩
 rintro i m σ2 H2 ⟨rfl,hi2,F2,acc,ys,r2,hys,hFa,hd,q2⟩;have sH:ah H1 H2:=r2.h0
 by_cases hlt:i < xs.length
 ·have hxi:xs[i]?=some xs[i]:=by simp [hlt]
  rw [drop_cons hxi] at q2;refine .inr ⟨S.go i F2 H2 r2.f0 r2.fh hlt,λy H3 hy=>?_⟩;obtain⟨eH,dy⟩:=S.yld i F2 H2 y H3 xs[i] r2.f0 r2.fh hxi hy;subst eH;have r2':=r2.here bp bq;have g:=aw (X:=aF X N' scope C s (upd H1 a (.lst [])) fp pins) (pos:=px) 0 hN h0 hL hF;refine gr (g (Base.here F2 H3) σ2 F2 H3 (ba 1 ix env) (λe=>e=(ba 1 ix env).set 0 (some (.d xs[i]))) xs[i] y r2' dy rfl) λσ3 H4 hq0=>?_
  obtain⟨F4,env4,r4,s4,q4⟩:=hq0;subst q4;intro pins' s' I';refine DK (ht C s (upd H1 a (.lst [])) fp pins (Base.here F2 H3) σ3 F4 H4 _ _ r4 q2 pins' s' I') (λok s5 ⟨H5,I5,F5,r5,s5',q5⟩=>⟨H5,I5,?_⟩) λ_ _ e=>e
  have weak':∀(j:Nat) l,(ba 1 ix env)[j]?=some (some l)->((ba 1 ix env).set 0 (some (.d xs[i])))[j]?=some (some l):=λj l hj=>by
   have hj0:j≠0:=λz=>by
    subst z;simp [ba] at hj
   rw [Di (Ne.symm hj0)];exact hj
  cases ok with
  | false =>
   have q5':comps tt te (ba 1 ix env) Q (xs.drop (i + 1)) acc:=q5
   refine⟨xs.length - (i + 1),by omega,rfl,by omega,F5,acc,ys,r5.there r2.f0 sH (λp hp=>r2.nf p hp) weak' bp bq,r5.h0 _ _ hys,r5.nf a ⟨by rw [hys];simp,hFa⟩,aj.mono r5.f0 _ _ hd,q5'⟩
  | true =>
   have q5':te ((ba 1 ix env).set 0 (some (.d xs[i]))) λy=>acc.length < sizeLine/\comps tt te (ba 1 ix env) Q (xs.drop (i + 1)) (acc ++ [y]):=q5;refine az (he C s (upd H1 a (.lst [])) fp pins (Base.here F2 H3) σ3 F5 H5 _ _ r5 q5') λz H6 hq0=>?_;obtain⟨F6,d,r6,s6,d6,hl,q6⟩:=hq0;have ha6:H6 a=some (.lst ys):=r6.h0 _ _ hys;have hF6:F6 a=none:=r6.nf a ⟨by rw [hys];simp,hFa⟩;refine⟨ys,ha6,by rw [<- hd.length];exact hl,xs.length - (i + 1),by omega,rfl,by omega,F6,acc ++ [d],ys ++ [z],?_,aq,hF6,(aj.mono r6.f0 _ _ hd).append (aH d6 aK),q6⟩
   have r7:Rep X.K (Base.here F1 H1) F6 H6 σ3 (ba 1 ix env):=r6.there r2.f0 sH (λp hp=>r2.nf p hp) weak' bp bq;refine⟨r7.f0,λb o hb=>?_,λb o hb=>?_,r7.nf,r7.dv,λj zs q=>(bp j zs q).elim,r7.ne,λj zs q=>(bq j zs q).elim,r7.nm⟩
   ·have:b≠a:=λw=>by subst w;rw [hF6] at hb;cases hb
    rw [ar this];exact r7.fh _ _ hb
   ·have:b≠a:=λw=>by subst w;have hb':H1 b=some o:=hb;rw [ha] at hb';cases hb'
    rw [ar this];exact r7.h0 _ _ hb
 ·have e:i=xs.length:=by omega
  subst e;rw [Ef (Du _)] at q2;refine .inl ⟨S.stop F2 H2 r2.f0 r2.fh,F2,λb=>if b=a then none else H2 b,a,ys,acc,rfl,if_pos rfl,?_,?_,sF.trans r2.f0,hd,q2⟩
  ·funext b;unfold upd
   by_cases z:b=a
   ·rw [if_pos z,z];exact hys
   ·rw [if_neg z];show H2 b=if b=a then none else H2 b
    rw [if_neg z]
  ·refine r1.ext r2.f0 (λb o hb=>?_) (λb o hb=>?_) λp h1 h2=>r2.nf p ⟨h1,h2⟩
   ·have:b≠a:=λw=>by subst w;rw [hFa] at hb;cases hb
    show (if b=a then none else H2 b)=_
    rw [if_neg this];exact r2.fh _ _ hb
   ·have:b≠a:=λw=>by subst w;rw [ha] at hb;cases hb
    show (if b=a then none else H2 b)=_
    rw [if_neg this];exact sH _ _ hb
theorem iM (hN:N'.Nodup) (h0:N'[0]?=some x) (hx:(relabel scope X.env).names.lookup x=some .local)
  (ht:∀C s H fp pins,jB (aF X N' scope C s H fp pins) ifs tt) (he:∀C s H fp pins,QE (aF X N' scope C s H fp pins) elt te)
  {B:Base} {σ:St} {F F1 H1:Hp} {env:En} {Q:List D->Prop} {J:It} {xs:List D} (sF:ah F F1) (r1:Rep X.K B F1 H1 σ env) (S:ig X.K J F1 xs) (q1:comps tt te (ba 1 ix env) Q xs []) :
  ∀(a C:Addr) (s:Shared) (fp:List Addr) (pins:List (Addr×Obj)),H1 a=none ->
   ∃W:Nat->Nat->St->Hp->Prop,(∃m,W 0 m (ma 1 ix σ) (upd H1 a (.lst [])))/\∀i m σ' H',W i m σ' H'->(J.stop i H'/\RF X B σ env F Q (.ref a) H')\/(J.go i H'/\∀y H2,J.yld i H' y H2 ->
    wG (aF X N' scope C s (upd H1 a (.lst [])) fp pins) (.Name x px) y σ' H2 λσ2 H3=>rb (aF X N' scope C s (upd H1 a (.lst [])) fp pins) ifs σ2 H3 λok H4=>if ok=true then
     wE (aF X N' scope C s (upd H1 a (.lst [])) fp pins) elt σ2 H4 λy H5=>∃ys,H5 a=some (.lst ys)/\ys.length < sizeLine/\∃m',m' < m/\W (i + 1) m' σ2 (upd H5 a (.lst (ys ++ [y])))
     else ∃m',m' < m/\W (i + 1) m' σ2 H4) :=
 kT hN h0 (.inl hx) (.inr hx) ht he sF r1 S q1
theorem RF.rv {B:Base} {σ:St} {env:En} {F:Hp} {Q:D->Prop} {v:V} {H:Hp} (h:RF X B σ env F (λds=>Q (.lst ds)) v H):RV X B σ env F Q v H:=by
 obtain⟨F',H1,p,vs,ds,rfl,hp,rfl,r,s,hd,q⟩:=h;exact (RV.vI r hd q p hp).weaken s
def bu (ts:dR):TD:=λenv Q=>ts env λds=>Q (.lst ds)
theorem QF.e {e:Expr} {ts:dR} (h:QF X e ts):QE X e (bu ts):=⟨λB σ F H env Q rp hq=>az (h B σ F H env _ rp hq) λv H' z=>z.rv⟩
def c9 (ix:List Nat) (ti:TD) (tt:TB) (te:TD):dR:=λenv Q=>ti env λd=>∃xs,bM d=some xs/\comps tt te (ba 1 ix env) Q xs []
theorem ia {B:Base} {σ:St} {F H:Hp} {env:En} {P:List D->Prop} {R:It->Hp->Prop} (hi:QE X iter ti) (rp:Rep X.K B F H σ env) (h:ti env λd=>∃xs,bM d=some xs/\P xs)
  (hR:∀(J:It) (F1 H1:Hp) (xs:List D),Rep X.K B F1 H1 σ env->ah F F1->ig X.K J F1 xs->P xs->R J H1):A9 X.K (wE X iter) σ H R:=by
 refine az (hi B σ F H env _ rp h) λv H1 hq0=>?_;obtain⟨F1,d,r1,s1,d1,xs,hx,q1⟩:=hq0
 cases d with
 | lst ys =>
  simp only [bM] at hx;cases hx;simp only [Den] at d1;obtain⟨a,vs,rfl,q,r⟩:=d1
  exact .inl ⟨a,rfl,.inl ⟨⟨vs,r1.fh.seq q⟩,hR _ F1 H1 _ r1 s1 (rq q r) q1⟩⟩
 | tup ys =>
  simp only [bM] at hx;cases hx;simp only [Den] at d1;obtain⟨a,vs,rfl,q,r⟩:=d1
  exact .inl ⟨a,rfl,.inr ⟨⟨vs,ah.bG r1.fh q⟩,hR _ F1 H1 _ r1 s1 (tY q r) q1⟩⟩
 | str z =>
  simp only [bM] at hx;cases hx;simp only [Den] at d1;subst d1
  exact .inr ⟨z,rfl,hR _ F1 H1 _ r1 s1 t5 q1⟩
 | _=>simp only [bM] at hx;cases hx
theorem oQ (hc:X.calm=true) (O:aQ X N' 1 ix scope) (hN:N'.Nodup) (h0:N'[0]?=some x) (hx:(relabel scope X.env).names.lookup x=some .local) (hi:QE X iter ti)
  (ht:∀C s H fp pins,jB (aF X N' scope C s H fp pins) ifs tt) (he:∀C s H fp pins,QE (aF X N' scope C s H fp pins) elt te) (hs:∀x,DS iter X.env x=pure x:=by intro _;rfl) :
  QF X (.ListComp elt [⟨.Name x px,iter,ifs,0⟩] scope pos) (c9 ix ti tt te):=by
 refine⟨?_⟩;intro B σ F H env Q rp h;refine bK (jT hc (j8 bc) O hs) ?_;exact ia hi rp h λJ F1 H1 xs r1 s1 S q=>iM hN h0 hx ht he s1 r1 S q
theorem vM (hc:X.calm=true) (O:aQ X N' 1 ix scope) (hN:N'.Nodup) (h0:N'[0]?=some x) (hx:(relabel scope X.env).names.lookup x=some .cell) (hx2:(scope.names.lookup x == some .cell)=true) (hi:QE X iter ti)
  (ht:∀C s H fp pins,jB (aF X N' scope C s H fp pins) ifs tt) (he:∀C s H fp pins,QE (aF X N' scope C s H fp pins) elt te) (hs:∀x,DS iter X.env x=pure x:=by intro _;rfl) :
  QF X (.ListComp elt [⟨.Name x px,iter,ifs,0⟩] scope pos) (c9 ix ti tt te):=by
 refine⟨?_⟩;intro B σ F H env Q rp h;refine bK (jT hc (j8 bc) O hs) ?_;exact ia hi rp h λJ F1 H1 xs r1 s1 S q=>kT hN h0 (.inr hx) (.inl hx2) ht he s1 r1 S q
def fw (f:List D->(Int->Nat->Prop)->Prop) (ix:List Nat) (ts:dR) (tt:TB) (te:TD):dR:=λenv Q=>ts env λxs=>f xs λlo n=>comps tt te (ba 1 ix env) Q (bE lo n) []
theorem mY {p pos2:Pos} (hc:X.calm=true) (O:aQ X N' 1 ix scope) (hN:N'.Nodup) (h0:N'[0]?=some x) (hx:(relabel scope X.env).names.lookup x=some .local) (hgl:Gl X "range") (hm:X.mg "range" = none) (ha:QA X [a] ts)
  (ht:∀C s H fp pins,jB (aF X N' scope C s H fp pins) ifs tt) (he:∀C s H fp pins,QE (aF X N' scope C s H fp pins) elt te) (hst:starEach [a] X.env=[(false,eval a X.env)]:=by rfl)
  (hs:∀x,DS (.Call (.Name "range" p) [a] [] pos2) X.env x=pure x:=by intro _;rfl) :
  QF X (.ListComp elt [⟨.Name x px,.Call (.Name "range" p) [a] [] pos2,ifs,0⟩] scope pos) (fw n8 ix ts tt te):=by
 refine⟨?_⟩;intro B σ F H env Q rp h;refine bK (jT hc (mO hgl hm kY hst) O hs) ?_;refine cY (ha B σ F H env _ rp h) λvs H1 hq0=>?_;obtain⟨F1,ds,r1,s1,d1,q1⟩:=hq0
 (try dsimp only at q1);unfold n8 at q1
 split at q1
 ·simp only [aj,Den] at d1;obtain⟨v,r,rfl,rfl,rfl⟩:=d1;exact⟨_,rfl,q1.1.1,q1.1.2,iM hN h0 hx ht he s1 r1 pM q1.2⟩
 ·exact q1.elim
end
section
variable {X:Cx} {a b c e:Expr} {es:List Expr} {ta tb tc:TD} {tA tB':TB} {ts:dR} {p p2 pos:Pos} {rest:List Expr}
theorem xX (hm:X.mg "abs" = none) (ha:QA X [e] ts) (hg:Gl X "abs":=by rfl) (he:starEach [e] X.env=(false,eval e X.env) :: starEach [] X.env:=by exact bh rfl):QE X (.Call (.Name "abs" p) [e] [] pos) (aI uh ts) :=
 jI vp yG hg hm sW ha (he:=he)
theorem pb (hm:X.mg "len" = none) (ha:QA X [e] ts) (hg:Gl X "len":=by rfl) (he:starEach [e] X.env=(false,eval e X.env) :: starEach [] X.env:=by exact bh rfl):QE X (.Call (.Name "len" p) [e] [] pos) (aI kn ts) :=
 jI (ik.or oa) zU hg hm mU ha (he:=he)
theorem dB (hm:X.mg "tuple" = none) (ha:QA X [e] ts) (hg:Gl X "tuple":=by rfl) (he:starEach [e] X.env=(false,eval e X.env) :: starEach [] X.env:=by exact bh rfl):QE X (.Call (.Name "tuple" p) [e] [] pos) (aI dM ts) :=
 uw mq v8 hg hm pG ha (he:=he)
def BX (n:String) (x:D) (Q:D->Prop):Prop:=∃k,wO (CJ x) n=some k/\Q (.bl k)
def n5 (n:String) (ta:TD):TD:=λenv Q=>ta env λx=>BX n x Q
theorem yb {n:Str} {m:String} (hm:X.mg "isinstance" = none) (ht:X.mg n=none) (hb:bootBuiltins n=some (.type m)) (ha:QE X a ta) (hg:Gl X "isinstance":=by rfl) (hg2:Gl X n:=by rfl) (hn:n≠"__name__":=by decide) (hd:(n == ("__debug__" : Str))=false:=by decide)
  (he:starEach [a,.Name n p2] X.env=(false,eval a X.env) :: starEach [.Name n p2] X.env:=by exact bh rfl) (hpl:(backTo pos (starEach [.Name n p2] X.env)).any (·.1)=false:=by rfl)
  (he2:starEach [.Name n p2] X.env=(false,eval (.Name n p2) X.env) :: starEach [] X.env:=by exact bh rfl):QE X (.Call (.Name "isinstance" p) [a,.Name n p2] [] pos) (n5 m ta):=by
 have h:=jI (p:=p) (pos:=pos) vU ze hg hm tE (ae ha (ae (C9 hg2 ht hb hn hd) ao he2) he) (he:=he) (hpl:=hpl);exact⟨λB σ F H env Q rp hq=>h B σ F H env Q rp hq⟩
variable {N':List Str} {nt:Nat} {ix:List Nat} {scope:Scope} {elt iter:Expr} {ifs:List Expr} {x:Str} {px py spos:Pos} {tt:TB} {te ti:TD}
theorem aQ.of (sc:Scope) (hsc:X.env.scope=sc) (kind:scope.kind=.function) (nocell:∀x∈scope.names,x.2≠.cell) (names:∀x∈scope.names,x.2=.local->scope.names.lookup x.1=some .local)
  (free:∀x∈scope.names,x.2=.free->sc.names.lookup x.1=some .cell)
  (caps:∀(j:Nat) (i:Nat),ix[j]?=some i->∃x,N'[nt + j]?=some x/\X.N[i]?=some x/\(x,NameKind.free)∈scope.names/\(relabel scope X.env).names.lookup x=some .cell) (len:N'.length=nt + ix.length):aQ X N' nt ix scope :=
 ⟨kind,λx _ z=>nocell _ z rfl,names,by rw [hsc];exact λx h1 h2=>.inl (free x h1 h2),λj i h=>let ⟨x,a,b,c,d⟩:=caps j i h;⟨x,a,b,c,.inl d⟩,len⟩
theorem aQ.CZ (sc:Scope) (hsc:X.env.scope=sc) (kind:scope.kind=.function) (apart:∀x∈scope.names,x.2=.free->(x.1,NameKind.cell)∉scope.names) (names:∀x∈scope.names,x.2=.local->scope.names.lookup x.1=some .local)
  (free:∀x∈scope.names,x.2=.free->sc.names.lookup x.1=some .cell)
  (caps:∀(j:Nat) (i:Nat),ix[j]?=some i->∃x,N'[nt + j]?=some x/\X.N[i]?=some x/\(x,NameKind.free)∈scope.names/\(relabel scope X.env).names.lookup x=some .cell) (len:N'.length=nt + ix.length):aQ X N' nt ix scope :=
 ⟨kind,λx hx=>apart (x,.free) hx rfl,names,by rw [hsc];exact λx h1 h2=>.inl (free x h1 h2),λj i h=>let ⟨x,a,b,c,d⟩:=caps j i h;⟨x,a,b,c,.inl d⟩,len⟩
theorem aQ.CV (sc:Scope) (hsc:X.env.scope=sc) (kind:scope.kind=.function) (nocell:∀x∈scope.names,x.2≠.cell) (names:∀x∈scope.names,x.2=.local->scope.names.lookup x.1=some .local)
  (free:∀x∈scope.names,x.2=.free->sc.names.lookup x.1=some .cell\/sc.names.lookup x.1=some .free)
  (caps:∀(j:Nat) (i:Nat),ix[j]?=some i->∃x,N'[nt + j]?=some x/\X.N[i]?=some x/\(x,NameKind.free)∈scope.names/\((relabel scope X.env).names.lookup x=some .cell\/(relabel scope X.env).names.lookup x=some .free)) (len:N'.length=nt + ix.length):aQ X N' nt ix scope :=
 ⟨kind,λx _ z=>nocell _ z rfl,names,by rw [hsc];exact free,caps,len⟩
theorem qW {y:Str} (i:Nat) (hNd:X.N.Nodup) (hc:X.calm=true) (O:aQ X N' 1 ix scope) (hN:N'.Nodup) (h0:N'[0]?=some x) (hx:(relabel scope X.env).names.lookup x=some .local) (hi:QE X iter ti)
  (ht:∀C s H fp pins,jB (aF X N' scope C s H fp pins) ifs tt) (he:∀C s H fp pins,QE (aF X N' scope C s H fp pins) elt te) (hy:X.N[i]?=some y:=by rfl) (hl:Loc X.env.scope y:=by first|exact Or.inl rfl|exact Or.inr rfl)
  (hsw:swapsWith (.ListComp elt [⟨.Name x px,iter,ifs,0⟩] scope pos) (some (.Name y py)) spos.line X.env=pure true:=by rfl) (hf:X.fn y=true\/X.env.scope.names.lookup y=some .local:=by first|exact .inl rfl|exact .inr rfl)
  (hs:∀x,DS iter X.env x=pure x:=by intro _;rfl) :
  QS X (.Assign [.Name y py] (.ListComp elt [⟨.Name x px,iter,ifs,0⟩] scope pos) spos) (cf i (bu (c9 ix ti tt te))):=by
 refine⟨?_⟩;intro B σ F H env D rp h pins s I;refine rK hc (j8 bc) O hNd hy hl hsw hf hs pins s σ H _ I ?_;refine ia hi rp h λJ F1 H1 xs r1 s1 S q=>?_;intro a C s fp pins ha;obtain⟨W,w0,step⟩:=iM (X:=X) (px:=px) hN h0 hx ht he s1 r1 S q a C s fp pins ha;refine⟨W,w0,λi' m σ' H' w=>?_⟩;rcases step i' m σ' H' w with ⟨st,z⟩|z
 ·refine .inl ⟨st,?_⟩;obtain⟨F',d,r',s',hd,q'⟩:=RF.rv (Q:=λx=>D.nx (env.set i (some (.d x)))) z;refine⟨F',_,r'.set hd ?_,q'⟩;rw [I.len];exact (Dh.mp hy).1
 ·exact .inr z
end
def Base.guard (B:Base) (p:Addr) (o:HO):Base:=⟨B.F,upd B.H p o,λa=>a=p\/B.N a,λa h=>by
 by_cases e:a=p
 ·subst e;rw [aq];simp
 ·rw [ar e];exact B.nb a (h.resolve_left e)⟩
section
variable {K:Dj} {B:Base} {F H:Hp} {σ:St} {env:En} {p:Addr} {o o':HO}
theorem Rep.guarded (r:Rep K B F H σ env) (hp:H p=none):Rep K (B.guard p o) F (upd H p o) σ env where
 f0:=r.f0
 fh:=r.fh.trans (aR hp)
 h0:=λb u q=>by
  by_cases e:b=p
  ·subst e;rw [aq];have q':upd B.H b o b=some u:=q;rw [aq] at q';exact q'
  ·rw [ar e];have q':upd B.H p o b=some u:=q;rw [ar e] at q';exact r.h0 _ _ q'
 nf:=λa h=>by
  rcases h with rfl|h
  ·exact r.jw hp
  ·exact r.nf a h
 dv:=r.dv
 ov:=λi xs h=>by
  obtain⟨q,vs,h1,h2,h3,h4,h5⟩:=r.ov i xs h;have ne:q≠p:=λe=>by subst e;rw [hp] at h2;cases h2
  exact⟨q,vs,h1,by rw [ar ne];exact h2,h3,by show upd B.H p o q=none;rw [ar ne];exact h4,h5⟩
 ne:=r.ne
 mv:=λi xs h=>by
  obtain⟨q,ep,us,vs,h1,h2,h3,h4,h5⟩:=r.mv i xs h;have ne:q≠p:=λe=>by subst e;rw [hp] at h2;cases h2
  exact⟨q,ep,us,vs,h1,by rw [ar ne];exact h2,h3,by show upd B.H p o q=none;rw [ar ne];exact h4,h5⟩
 nm:=r.nm
theorem Rep.nT (r:Rep K (B.guard p o) F H σ env) (hb:B.H p=none):Rep K B F H σ env/\H p=some o/\F p=none:=by
 refine⟨⟨r.f0,r.fh,λb u q=>r.h0 b u ?_,λa h=>r.nf a (.inr h),r.dv,λi xs h=>?_,r.ne,λi xs h=>?_,r.nm⟩,r.h0 p o aq,r.nf p (.inl rfl)⟩
 ·show upd B.H p o b=some u
  have:b≠p:=λe=>by subst e;rw [hb] at q;cases q
  rw [ar this];exact q
 ·obtain⟨q,vs,h1,h2,h3,h4,h5⟩:=r.ov i xs h;have h4':upd B.H p o q=none:=h4;have ne:q≠p:=λe=>by subst e;rw [aq] at h4';cases h4'
  rw [ar ne] at h4';exact⟨q,vs,h1,h2,h3,h4',h5⟩
 ·obtain⟨q,ep,us,vs,h1,h2,h3,h4,h5⟩:=r.mv i xs h;have h4':upd B.H p o q=none:=h4;have ne:q≠p:=λe=>by subst e;rw [aq] at h4';cases h4'
  rw [ar ne] at h4';exact⟨q,ep,us,vs,h1,h2,h3,h4',h5⟩
theorem Rep.settle (r:Rep K B F H σ env) (hp:H p=some o) (hf:F p=none) (hb:B.H p=none) (hk:∀vs,o≠.lst vs) (hx:∀φ,o≠.ext φ:=by intro φ e;cases e):Rep K B (upd F p o') (upd H p o') σ env/\ah F (upd F p o'):=by
 have s1:ah F (upd F p o'):=aR hf;refine⟨⟨r.f0.trans s1,iX r.fh,λb u q=>?_,λa h=>?_,λi x h=>?_,λi xs h=>?_,r.ne,λi xs h=>?_,r.nm⟩,s1⟩
 ·have:b≠p:=λe=>by subst e;rw [hb] at q;cases q
  rw [ar this];exact r.h0 _ _ q
 ·have:a≠p:=λe=>by subst e;exact B.nb a h hb
  rw [ar this];exact r.nf a h
 ·obtain⟨v,h1,h2⟩:=r.dv i x h;exact⟨v,h1,Den.mono s1 _ _ h2⟩
 ·obtain⟨q,vs,h1,h2,h3,h4,h5⟩:=r.ov i xs h;have ne:q≠p:=λe=>by subst e;rw [hp] at h2;cases h2;exact hk vs rfl
  exact⟨q,vs,h1,by rw [ar ne];exact h2,by rw [ar ne];exact h3,h4,aj.mono s1 _ _ h5⟩
 ·obtain⟨q,ep,us,vs,h1,h2,h3,h4,h5,h6⟩:=r.mv i xs h;have ne:q≠p:=λe=>by subst e;rw [hp] at h2;cases h2;exact hx _ rfl
  exact⟨q,ep,us,vs,h1,by rw [ar ne];exact h2,by rw [ar ne];exact h3,h4,aj.mono s1 _ _ h5,aj.mono s1 _ _ h6⟩
end
def pQ (ks:List Key) (xs:List D) (k:Key):Option D:=match ks,xs with
 | k' :: ks,x :: xs=>if k'=k then some x else pQ ks xs k
 | _,_=>none
theorem nh {K:Dj} {F:Hp}:∀{ks:List Key} {xs:List D} {vs:List V} {k:Key} {d:D},aj K F xs vs->pQ ks xs k=some d->∃v,g9 (ks.zip vs) k=some v/\Den K F d v
 | [],xs,vs,k,d,h,e=>by cases xs <;> cases e
 | k' :: ks,[],vs,k,d,h,e=>by cases e
 | k' :: ks,x :: xs,vs,k,d,h,e=>by
  simp only [aj] at h;obtain⟨v,r,rfl,a,b⟩:=h;unfold pQ at e;rw [List.zip_cons_cons]
  split at e
  ·rename_i z;cases e;exact⟨v,il (p:=(k',v)) z,a⟩
  ·rename_i z;rw [iy (p:=(k',v)) z];exact nh b e
theorem iH:∀(kvs acc:List (Key×V)),(acc ++ kvs).map (·.1) |>.Nodup->d8 acc kvs=acc ++ kvs
 | [],acc,_=>by simp [d8]
 | (k,v) :: r,acc,h=>by
  have hn:g9 acc k=none:=by
   rw [<- Option.not_isSome_iff_eq_none,<- kP];intro z;rw [List.any_eq_true] at z;obtain⟨x,hx,e⟩:=z;have e':x.1=k:=by simpa using e
   rw [List.map_append,Ei] at h;exact h.2.2 k (by rw [<- e'];exact List.mem_map_of_mem hx) k (by simp) rfl
  show d8 (putK acc k v) r=_
  rw [vh v hn,iH r (acc ++ [(k,v)]) (by simpa using h)];simp
section
variable {X:Cx} {a b:Expr} {ta tb:TD} {pos:Pos}
structure QD (X:Cx) (pos:Pos) (ks:List Key) (keys:List (Option Expr)) (values:List Expr) (t:dR):Prop where
 of ::
 run:∃trs,Bx X pos keys values trs/\∀(B:Base) (σ:St) (F H:Hp) (env:En) (Q:List D->Prop) (Z:List (V×V)->Hp->Prop),Rep X.K B F H σ env->t env Q ->
  (∀F' H' vs ds,Rep X.K B F' H' σ env->ah F F'->aj X.K F' ds vs->vs.length=ks.length->Q ds->Z ((ks.zip vs).map λkv=>(kV kv.1,kv.2)) H')->iQ trs σ H Z
theorem Ac:QD X pos [] [] [] aB:=⟨[],oN,λB σ F H env Q Z r h k=>k F H [] [] r (ah.refl _) aK rfl h⟩
theorem wL {k:Key} {ke v:Expr} {ks:List Key} {keys:List (Option Expr)} {values:List Expr} {tv:TD} {ts:dR} (hk:PE X ke (tC (kV k))) (hv:QE X v tv) (hr:QD X pos ks keys values ts):QD X pos (k :: ks) (some ke :: keys) (v :: values) (af tv ts):=by
 obtain⟨trs,hp,hq⟩:=hr.run;refine⟨(tC (kV k),wE X v) :: trs,lK hk bc hp,λB σ F H env Q Z r h z=>?_⟩;show tC (kV k) σ H λx H1=>wE X v σ H1 λy H2=>iQ trs σ H2 λps H3=>Z ((x,y) :: ps) H3
 show wE X v σ H λy H2=>iQ trs σ H2 λps H3=>Z ((kV k,y) :: ps) H3
 refine az (hv B σ F H env _ r h) λy H1 hq0=>?_;obtain⟨F1,d,r1,s1,d1,q1⟩:=hq0;refine hq B σ F1 H1 env _ _ r1 q1 λF' H' vs ds r' s' dl hl q=>?_;exact z F' H' (y :: vs) (d :: ds) r' (s1.trans s') (aH (Den.mono s' _ _ d1) dl) (by simp [hl]) q
theorem zK {x:Str} {j:Nat} {p:Pos} {v:Expr} {ks:List Key} {keys:List (Option Expr)} {values:List Expr} {tv:TD} {ts:dR} (hv:QE X v tv) (hr:QD X pos ks keys values ts):QD X pos (.inr x :: ks) (some (.Constant (.str x) j p) :: keys) (v :: values) (af tv ts):=wL vR hv hr
def jv (ks:List Key) (ts:dR):TD:=λenv Q=>ts env λxs=>Q (.dct ks xs)
theorem zA {ks:List Key} {keys:List (Option Expr)} {values:List Expr} {ts:dR} (h:QD X pos ks keys values ts) (hall:keys.all (·.isSome)=true:=by rfl) (hl:keys.length=values.length:=by rfl) (h0:keys≠[]:=by simp) (h15:keys.length<=15:=by decide)
  (hkl:ks.length=keys.length:=by rfl) (nd:ks.Nodup:=by decide +kernel):QE X (.Dict keys values pos) (jv ks ts):=by
 obtain⟨trs,hp,hq⟩:=h.run;refine⟨λB σ F H env Q r hh=>bK (sA hp hall hl h0 h15) λp hpn=>?_⟩;have hb:B.H p=none:=r.h0.free hpn;refine hq (B.guard p (.dK [])) σ F _ env _ _ (r.guarded hpn) hh λF' H' vs ds r' s' dl hlen q=>?_;obtain⟨r2,e2,f2⟩:=r'.nT hb;refine⟨e2,ks.zip vs,rfl,by rw [List.length_zip,hlen,Nat.min_self,hkl];exact h15,?_⟩
 have em:d8 [] (ks.zip vs)=ks.zip vs:=by
  rw [iH]
  ·simp
  ·rw [List.nil_append,List.map_fst_zip (by omega)];exact nd
 rw [em];obtain⟨r3,s3⟩:=r2.settle (o':=.dK (ks.zip vs)) e2 f2 hb (λvs z=>by cases z);refine⟨_,.dct ks ds,r3,s'.trans s3,?_,q⟩;simp only [Den];exact⟨p,vs,rfl,aq,hlen,aj.mono s3 _ _ dl⟩
def wN:D->Option Key
 | .str x=>some (.inr x)
 | .int i=>some (.inl i)
 | _=>none
theorem u0 {K:Dj} {F:Hp} {d:D} {v:V} {k:Key} (h:Den K F d v) (e:wN d=some k):v=kV k:=by
 cases d <;> simp only [wN,Option.some.injEq] at e <;> first|cases e|skip
 all_goals (simp only [Den] at h;subst h;rfl)
def BJ (x y:D) (Q:D->Prop):Prop:=match x with
 | .dct ks xs=>∃k v,wN y=some k/\pQ ks xs k=some v/\Q v
 | _=>False
theorem Bc (hu:X.A.units + 64 < cLine) (ha:QE X a ta) (hb:QE X b tb) (hs:tu b):QE X (.Subscript a b pos) (aM BJ ta tb):=by
 refine⟨λB σ F H env Q r h=>bK (xI (by omega) bc bc hs) ?_⟩;refine az (ha B σ F H env _ r h) λx H1 hq0=>?_;obtain⟨F1,d,r1,s1,d1,q1⟩:=hq0;refine az (hb B σ F1 H1 env _ r1 q1) λy H2 hq0=>?_;obtain⟨F2,d',r2,s2,d2,q2⟩:=hq0;have d1':=Den.mono s2 _ _ d1;unfold BJ at q2
 split at q2
 ·obtain⟨k,v,hk,hv,q⟩:=q2;simp only [Den] at d1';obtain⟨p,vs,rfl,hp,hl,dl⟩:=d1';obtain⟨w,hw,dw⟩:=nh dl hv;have:=u0 d2 hk;subst this;exact⟨p,w,rfl,by rw [<- hw];exact .k (r2.fh _ _ hp),F2,v,r2,s1.trans s2,dw,q⟩
 ·exact q2.elim
end
theorem bw.at {P:Program} {w:World} {H:Hp} {h:Heap} {a:Addr} {o:HO} (x:bw P w H h a o):∃ob,h.get? a=some ob:=by
 cases o with
 | lst xs=>obtain⟨_,_,_,_,e⟩:=x;exact⟨_,e⟩
 | tup xs=>obtain⟨_,_,_,ob,e,_⟩:=x;exact⟨_,e⟩
 | dK kvs=>obtain⟨_,_,_,_,o,_,_,e,_⟩:=x;exact⟨_,e⟩
 | dT kvs=>obtain⟨_,_,_,_,o,_,_,e,_⟩:=x;exact⟨_,e⟩
 | set S n=>obtain⟨o,_,_,_,e,_⟩:=x;exact⟨_,e⟩
 | ins C dx fs=>obtain⟨_,_,_,e,_⟩:=x;exact⟨_,e⟩
 | own y=>exact x
 | xd fs=>obtain⟨_,⟨_,_,_,e,_⟩,_⟩:=x;exact⟨_,e⟩
 | yl lo hi=>obtain⟨_,_,_,e⟩:=x;exact⟨_,e⟩
 | frz ob u=>obtain⟨e,_⟩:=x;exact⟨_,e⟩
 | mw ps=>obtain⟨_,e,_⟩:=x;exact⟨_,e⟩
 | cdr c q=>exact x.1
 | met f y=>exact⟨_,(show h.get? a=some _ from x)⟩
 | ext φ=>obtain⟨_,⟨_,e⟩,_⟩:=x;exact⟨_,e⟩
def gQ (H:Hp) (h0 h:Heap) (a:Addr) (cls:Value) (dd:Option Addr):Prop:=h0.get? a=none/\H a=none/\∃oe vs,h.get? a=some oe/\oe.cls=cls/\oe.dict=dd/\oe.data=.fields vs /\
 (vs[1]?=some .none\/∃T oT ts,vs[1]?=some (.ref T)/\h0.get? T=none/\H T=none/\T≠a/\h.get? T=some oT/\oT.data=.fields ts/\ts[3]?=some .none)
theorem gQ.xO {H:Hp} {g h0 h:Heap} {a:Addr} {cls:Value} {dd:Option Addr} (x:gQ H h0 h a cls dd) (k:∀b o,g.get? b=some o->∃o',h0.get? b=some o'):gQ H g h a cls dd:=by
 have none_:∀b,h0.get? b=none->g.get? b=none:=λb e=>by
  cases q:g.get? b with
  | none=>rfl
  | some o=>obtain⟨o',e'⟩:=k b o q;rw [e] at e';cases e'
 obtain⟨n,f,oe,vs,he,hc,hdc,hd,z⟩:=x;refine⟨none_ a n,f,oe,vs,he,hc,hdc,hd,?_⟩;rcases z with z|⟨T,oT,ts,h1,h2,h3⟩
 ·exact .inl z
 ·exact .inr ⟨T,oT,ts,h1,none_ T h2,h3⟩
def xV (P:Program) (w:World):ur:=λouter H s E e s'=>∃(a:Addr) (C:Value) (dd:Option Addr) (H':Hp),e=.ref a/\s'.os=s.os/\AllBare s'.gens/\Un (gY outer) [] H H' s.heap s'.heap/\gC P w H' s'.heap/\gQ H' s.heap s'.heap a C dd/\E C dd H'
theorem kj {M:Model} {A:Around} {E:Value->Shared->Prop} {s:Shared} {base:Heap} {env:Env} {outer:List Env} {L x:Addr} {ox:Obj} {fs:Array Value} {hd0:Value} {nx0:Bool} {Q:Unit->Shared->Prop}
  (hA:A.frames=some (env :: outer)) (ff:s.heap.FunFrames base (env :: outer)) (hL:env.frame=some L) (hx:s.heap.get? x=some ox) (hdx:ox.data=.fields fs) (h2:1 < fs.size)
  (k:∀h' T oT ts,(∀b o,s.heap.get? b=some o->b≠x->b∉gY (env :: outer)->h'.get? b=some o)->(∀b o,s.heap.get? b=some o->b∈gY (env :: outer)->∃sl,h'.get? b=some { o with slots:=sl }) ->
   h'.get? x=some (ox.mapFields (·.setIfInBounds 1 (.ref T)))->s.heap.get? T=none->T≠x->h'.get? T=some oT->oT.data=.fields ts->ts[3]?=some .none->Q () { s with heap:=h' }) :
  wpAny M A (do let a <- frameOf env;let pl <- entryPlaceOf L nx0;let b <- EntryCells.newEntry hd0 a .none (rawInt L) .none pl;setField (.ref x) 1 b) (λ_ s'=>wpAny M A (setFlight (.ref x) none) Q E s') E s:=by
 have xnf:x∉gY (env :: outer):=λz=>by
  obtain⟨_,o,e,nf⟩:=ff.mem z;rw [hx] at e;cases e;exact nf fs hdx
 refine Dk (wpAny_frameOf_fun hA ff hL λg so=>?_);refine Dk (wpAny_entryPlaceOf λpl ipl=>?_);unfold EntryCells.newEntry newFields;refine Dk (wpAny_newObj_type ?_ (ipl.sizeOk5 _ _ _ _ _));have gx:g.get? x=some ox:=(so.2.1 x xnf).trans hx;generalize hno:({ cls:=.type "traceback",dict:=none,data:=.fields ([hd0,.ref L,.none,rawInt L,.none] ++ (if pl.isEmpty then List.replicate 6 Value.none else pl)).toArray }:Obj)=no
 have nod:no.data=.fields ([hd0,.ref L,.none,rawInt L,.none] ++ (if pl.isEmpty then List.replicate 6 Value.none else pl)).toArray:=by rw [<- hno]
 have nofree:no.isFreed=false:=Obj.isFreed_of_fields nod;have gx1:(g.push no).get? x=some ox:=Dp no gx;have gT1:(g.push no).get? g.objs.size=some no:=DI g nofree;have Tx:g.objs.size≠x:=λz=>absurd (Dx gx) (by rw [z];exact Nat.lt_irrefl _);refine wpAny_setField gx1 hdx h2 ?_;have dx2:=Obj.data_mapFields hdx (·.setIfInBounds 1 (Value.ref g.objs.size));have gx2:=Heap.get?_update_self (Obj.mapFields (·.setIfInBounds 1 (Value.ref g.objs.size))) gx1 (Obj.isFreed_of_fields dx2)
 have gT2:((g.push no).update x (Obj.mapFields (·.setIfInBounds 1 (Value.ref g.objs.size)))).get? g.objs.size=some no:=(Heap.get?_update_other _ _ (Ne.symm Tx)).trans gT1;unfold setFlight;refine Dk (wpAny_field gx2 dx2 (x:=.ref g.objs.size) (by simp [h2]) ?_);rw [if_pos (show (Value.ref g.objs.size != Value.none)=true from by simp)]
 have sz3:3 < ([hd0,.ref L,.none,rawInt L,.none] ++ (if pl.isEmpty then List.replicate 6 Value.none else pl)).toArray.size:=by
  simp only [DE,DN,DV,Ec];omega
 refine wpAny_setField gT2 nod sz3 ?_
 have oth:∀b,b≠x->b≠g.objs.size->(((g.push no).update x (Obj.mapFields (·.setIfInBounds 1 (Value.ref g.objs.size)))).update g.objs.size (Obj.mapFields (·.setIfInBounds 3 ((none:Option Addr).elim Value.none λf=>rawInt f)))).get? b=(g.push no).get? b:=λb b1 b2=>by
  rw [Heap.get?_update_other _ _ (Ne.symm b2),Heap.get?_update_other _ _ (Ne.symm b1)]
 have ne_g:∀b o,g.get? b=some o->b≠g.objs.size:=λb o e z=>absurd (Dx e) (by rw [z];exact Nat.lt_irrefl _);have Tn:s.heap.get? g.objs.size=none:=Heap.get?_none_of_le (by rw [so.1];exact Du _);refine k _ g.objs.size _ _ (λb o e b1 b2=>?_) (λb o e b2=>?_) ?_ Tn Tx (Heap.get?_update_self _ gT2 (Obj.isFreed_of_fields (Obj.data_mapFields nod _))) (Obj.data_mapFields nod _) ?_
 ·have e1:g.get? b=some o:=(so.2.1 b b2).trans e;rw [oth b b1 (ne_g b o e1)];exact Dp no e1
 ·obtain⟨sl,e1⟩:=so.2.2 b o e;have b1:b≠x:=λz=>xnf (z▸b2);exact⟨sl,by rw [oth b b1 (ne_g b _ e1)];exact Dp no e1⟩
 ·rw [Heap.get?_update_other _ _ Tx];exact gx2
 ·simp [Array.getElem?_setIfInBounds]
theorem kW (o:Obj) (f:Array Value->Array Value):(o.mapFields f).dict=o.dict:=by
 obtain⟨c,d,dt,sl⟩:=o;cases dt <;> rfl
theorem uO {M:Model} {P:Program} {w:World} {A:Around} {env:Env} {outer:List Env} {base:Heap} {H0 H1:Hp} {h0:Heap} {s1:Shared} {a:Addr} {C:Value} {dd:Option Addr} {L:Addr} {Q:Unit->Shared->Prop} {E:Value->Shared->Prop}
  (hfr:A.frames=some (env :: outer)) (hf:env.frame=some L) (FF:s1.heap.FunFrames base (env :: outer)) (ff:∀b∈gY (env :: outer),H1 b=none) (hok:gC P w H1 s1.heap)
  (un:Un (gY (env :: outer)) [] H0 H1 h0 s1.heap) (Fl:gQ H1 h0 s1.heap a C dd)
  (h:∀h',Un (gY (env :: outer)) [] H0 H1 h0 h'->gC P w H1 h'->gQ H1 h0 h' a C dd->Q () { s1 with heap:=h' }) :
  wpAny M A (noteFrame (.ref a) env) (λ_ s'=>wpAny M A (setFlight (.ref a) none) Q E s') E s1:=by
 obtain⟨n0,na,oe,vs,he,hc,hdc,hd,z⟩:=Fl
 have hsz:1 < vs.size:=by
  rcases z with z|⟨T,oT,ts,h1,_⟩
  ·exact (Eg.mp z).1
  ·exact (Eg.mp h1).1
 have core:∀(hid:List Addr) (h1:Heap),a∈hid->(∀b∈hid,h0.get? b=none/\H1 b=none)->(∀b o,s1.heap.get? b=some o->b∉hid->h1.get? b=some o)->(∀b,h1.get? b=none->s1.heap.get? b=none) ->
   ∀h' T oT ts,(∀b o,h1.get? b=some o->b≠a->b∉gY (env :: outer)->h'.get? b=some o)->(∀b o,h1.get? b=some o->b∈gY (env :: outer)->∃sl,h'.get? b=some { o with slots:=sl }) ->
   h'.get? a=some (oe.mapFields (·.setIfInBounds 1 (.ref T)))->h1.get? T=none->T≠a->h'.get? T=some oT->oT.data=.fields ts->ts[3]?=some .none->Q () { s1 with heap:=h' }:=by
  intro hid h1 ha hids hkeep hnone h' T oT ts k1 k2 k3 hTn hTa hT hdT h3;have keepN:∀b o,s1.heap.get? b=some o->b∉hid->b∉gY (env :: outer)->h'.get? b=some o:=λb o e nb nf=>k1 b o (hkeep b o e nb) (λz=>nb (z▸ha)) nf;have frn:∀b∈gY (env :: outer),∀o,h0.get? b=some o->b∉hid:=λb _ o e z=>by rw [(hids b z).1] at e;cases e
  have hs:=hnone T hTn;refine h h' ⟨λb o e n hb hx=>?_,λb o e n hb hx=>?_,un.free,λb o e hx=>?_,un.jE,un.frzs,un.tbls⟩ (λb u e=>?_) ?_
  ·exact keepN b o (un.keep b o e n hb hx) (λz=>by rw [(hids b z).1] at e;cases e) hb
  ·obtain⟨s2,e2⟩:=un.slot b o e n hb hx;obtain⟨s3,e3⟩:=k2 b _ (hkeep b _ e2 (frn b hb o e)) hb;exact⟨s3,e3⟩
  ·obtain⟨o',e'⟩:=un.there b o e hx;have nb:b∉hid:=λz=>by rw [(hids b z).1] at e;cases e
   by_cases hb:b∈gY (env :: outer)
   ·obtain⟨s3,e3⟩:=k2 b o' (hkeep b o' e' nb) hb;exact⟨_,e3⟩
   ·exact⟨o',keepN b o' e' nb hb⟩
  ·refine (hok b u e).qf (λc v hc q=>?_) (λ_ q=>q) (λ_ _ q=>q) λ_ _ _ q=>q
   have hcn:H1 c≠none:=by
    rcases hc with z|z
    ·rw [z,e];simp
    ·rw [z];simp
   exact keepN c v q (λz=>hcn (hids c z).2) (λz=>hcn (ff c z))
  ·refine⟨n0,na,_,_,k3,(Obj.cls_mapFields _ _).trans hc,(kW _ _).trans hdc,Obj.data_mapFields hd _,.inr ⟨T,oT,ts,by simp [hsz],?_,?_,hTa,hT,hdT,h3⟩⟩
   ·cases q:h0.get? T with
    | none=>rfl
    | some o=>obtain⟨o',e'⟩:=un.there T o q (by simp);rw [hs] at e';cases e'
   ·cases q:H1 T with
    | none=>rfl
    | some u=>obtain⟨ob,e'⟩:=bw.at (hok T u q);rw [hs] at e';cases e'
 rcases z with z|⟨T,oT,ts,h1,hT0,hTn,hTa,hT,hdT,h3⟩
 ·
  unfold noteFrame;simp only [hf];refine Dk (wpAny_field he hd z ?_);rw [if_neg (by decide)];exact kj hfr FF hf he hd hsz (core [a] s1.heap (by simp) (λb hb=>by rw [DJ.mp hb];exact⟨n0,na⟩) (λb o e _=>e) (λb e=>e))
 ·
  unfold noteFrame;simp only [hf];refine Dk (wpAny_field he hd h1 ?_);rw [if_pos (show (Value.ref T != Value.none)=true from by simp)];refine Dk (wpAny_field hT hdT h3 ?_);rw [if_neg (show ¬ ((Value.none == rawInt L)=true) from by simp [rawInt])];refine Dk (wpAny_setField hT hdT (Eg.mp h3).1 ?_);have other:∀b,b≠T->(s1.heap.update T (Obj.mapFields (·.setIfInBounds 3 Value.none))).get? b=s1.heap.get? b:=λb hb=>Heap.get?_update_other _ _ (Ne.symm hb)
  have noRec:∀b o,s1.heap.get? b=some o->(∀vs,o.data≠.fields vs)->b≠T:=λb o hb hnf q=>by
   subst q;rw [hT] at hb;cases hb;exact hnf ts hdT
  refine kj (s:={ s1 with heap:=s1.heap.update T (Obj.mapFields (·.setIfInBounds 3 Value.none)) }) hfr (FF.of_keeps λb o hb hnf=>⟨o,(other b (noRec b o hb hnf)).trans hb,rfl⟩) hf ((other a (Ne.symm hTa)).trans he) hd hsz ?_;refine core [a,T] _ (by simp) (λb hb=>?_) (λb o e nb=>?_) (λb e=>?_)
  ·rcases DD.mp hb with z|hb
   ·subst z;exact⟨n0,na⟩
   ·rw [DJ.mp hb];exact⟨hT0,hTn⟩
  ·rwa [other b (λz=>nb (by simp [z]))]
  ·by_cases z:b=T
   ·subst z;have:=Heap.get?_update_self (Obj.mapFields (·.setIfInBounds 3 Value.none)) hT (Obj.isFreed_of_fields (Obj.data_mapFields hdT _));rw [this] at e;cases e
   ·rwa [other b z] at e
def dY (X:Cx) (pins:List (Addr×Obj)) (σ:St) (H':Hp) (a:Addr) (C:Value) (dd:Option Addr) (s':Shared):Prop:=∃(Hc:Hp) (sc:Shared),Inv X pins σ Hc sc/\s'.os=sc.os/\AllBare s'.gens/\Un (gY X.stack) [] Hc H' sc.heap s'.heap/\gC X.prog X.w H' s'.heap/\gQ H' sc.heap s'.heap a C dd
abbrev lG (X:Cx) (pins:List (Addr×Obj)) (σ:St) (H':Hp) (a:Addr) (C:Value) (s':Shared):Prop:=dY X pins σ H' a C none s'
section
variable {X:Cx} {pins:List (Addr×Obj)} {σ:St} {H H':Hp} {a:Addr} {C:Value} {dd:Option Addr} {s s':Shared}
theorem dY.inv (t:dY X pins σ H' a C dd s'):Inv X pins σ H' s':=by
 obtain⟨Hc,sc,I,os,bare,un,hok,fl⟩:=t;exact I.yk os un hok bare λb z=>absurd z (by simp)
theorem lG.made {vs:List Value} {h':Heap} {e:Addr} (I:Inv X pins σ H s) (m:Heap.MadeExcOf s.heap h' e C vs):lG X pins σ H e C { s with heap:=h' }:=by
 obtain⟨t,ht,_⟩:=m.there
 have hn:H e=none:=by
  cases q:H e with
  | none=>rfl
  | some u=>obtain⟨ob,z⟩:=bw.at (I.hok e u q);rw [m.new] at z;cases z
 exact⟨H,s,I,rfl,I.bare,Un.kept m.keeps,I.hok.kept m.keeps,m.new,hn,_,_,ht,rfl,rfl,rfl,.inl rfl⟩
theorem dY.note {Q:Unit->Shared->Prop} {E:Value->Shared->Prop} (t:dY X pins σ H' a C dd s') (hst:X.stack=X.env :: X.outer) (hf:X.env.frame=some X.env.locals)
  (h:∀s'',dY X pins σ H' a C dd s''->Q () s''):wpAny (model X.prog X.w) X.A (noteFrame (.ref a) X.env) (λ_ s=>wpAny (model X.prog X.w) X.A (setFlight (.ref a) none) Q E s) E s':=by
 have I':=t.inv;obtain⟨Hc,sc,I,os,bare,un,hok,fl⟩:=t;have hfr:=I'.ok.frames;have FF:=I'.stack;have ff:=I'.jQ;rw [hst] at hfr FF ff un;refine uO hfr hf FF ff hok un fl λh' un' hok' fl'=>h _ ⟨Hc,sc,I,os,bare,by rw [hst];exact un',hok',fl'⟩
theorem dY.leave {P:Program} {w:World} {K:Dj} {mg:Str->Option Value} {base:Heap} {N:List Str} {qual:Str} {scope:Scope} {f:Addr} {cd:Value} {A:Around} {outer:List Env} {s0:Shared} {H0:Hp} {E:XK}
  (t:dY (fH (xV P w) P w K mg base N qual scope f cd A outer s0 H0 E) pins σ H' a C dd s') (q:E C dd H'):(fH (xV P w) P w K mg base N qual scope f cd A outer s0 H0 E).xe (.ref a) s':=by
 show wpAny (model P w) _ (leaving _ (.ref a)) _ _ s'
 unfold leaving;refine Dk (t.note rfl rfl λs'' t''=>?_);have I:=t''.inv;obtain⟨Hc,sc,Ic,os,bare,un,hok,fl⟩:=t'';refine⟨a,C,dd,H',rfl,I.os,I.bare,I.base,I.hok,fl.xO λb o e=>?_,q⟩;exact Ic.base.there b o e (by show b∉([]:List Addr);simp)
end
structure p9 extends Ends3 where
 xc:Str->Prop
abbrev nM:=p9->En->Prop
def XZ (X:Cx) (B:Base) (xc:Str->Prop):Value->Shared->Prop:=λex s'=>∃(pins:List (Addr×Obj)) (a:Addr) (c:Str) (C:Value) (σ':St) (H' F':Hp) (env':En),ex=.ref a/\lG X pins σ' H' a C s'/\Rep X.K B F' H' σ' env'/\X.mg c=some C/\xc c
structure QZ (X:Cx) (st:Stmt) (t:nM):Prop where
 of ::
 run:∀(B:Base) (σ:St) (F H:Hp) (env:En) (D:p9),Rep X.K B F H σ env->t D env->wS (X.bz (XZ X B D.xc)) st (RS X B D.toEnds3) σ H
structure yg (X:Cx) (st:List Stmt) (t:nM):Prop where
 of ::
 run:∀(B:Base) (σ:St) (F H:Hp) (env:En) (D:p9),Rep X.K B F H σ env->t D env->wSs (X.bz (XZ X B D.xc)) st (RS X B D.toEnds3) σ H
section
variable {X:Cx} {c e:Expr} {es:List Expr} {st:Stmt} {sts xs ys:List Stmt} {t u:cy} {p q:nM} {tc:TB} {te:TD} {ts:dR} {pos:Pos}
theorem SP.rd {E E':Value->Shared->Prop} {pins:List (Addr×Obj)} {D:Ends} {f:Flow} {s':Shared} (h:SP (X.bz E) pins D f s'):SP (X.bz E') pins D f s':=by
 cases f with
 | next=>obtain⟨σ',H',I,q⟩:=h;exact⟨σ',H',I.aW.bz _,q⟩
 | brk=>obtain⟨σ',H',I,q⟩:=h;exact⟨σ',H',I.aW.bz _,q⟩
 | cont=>obtain⟨σ',H',I,q⟩:=h;exact⟨σ',H',I.aW.bz _,q⟩
 | ret u=>obtain⟨v,σ',H',I,r,q⟩:=h;exact⟨v,σ',H',I.aW.bz _,r,q⟩
theorem zx {E:Value->Shared->Prop} {D:Ends} {σ:St} {H:Hp} (h:wS X.l5 st D σ H):wS (X.bz E) st D σ H:=λpins s I =>
 DK (h pins s (I.aW.bz _)) (λ_ _ q=>SP.rd q) λ_ _ z=>False.elim z
theorem xq {E:Value->Shared->Prop} {D:Ends} {σ:St} {H:Hp} (h:wSs X.l5 sts D σ H):wSs (X.bz E) sts D σ H:=λpins s I =>
 DK (h pins s (I.aW.bz _)) (λ_ _ q=>SP.rd q) λ_ _ z=>False.elim z
theorem vg {E:Value->Shared->Prop} {Q:Bool->Hp->Prop} {σ:St} {H:Hp} (h:wT X.l5 c σ H Q):wT (X.bz E) c σ H Q:=λpins s I =>
 DK (h pins s (I.aW.bz _)) (λ_ _ ⟨H',I',q⟩=>⟨H',I'.aW.bz _,q⟩) λ_ _ z=>False.elim z
theorem zy {E:Value->Shared->Prop} {Q:VK} {σ:St} {H:Hp} (h:wE X.l5 e σ H Q):wE (X.bz E) e σ H Q:=λpins s I =>
 DK (h pins s (I.aW.bz _)) (λ_ _ ⟨v,H',I',r,q⟩=>⟨v,H',I'.aW.bz _,r,q⟩) λ_ _ z=>False.elim z
theorem yH {E:Value->Shared->Prop} {Q:List V->Hp->Prop} {σ:St} {H:Hp} (h:wA X.l5 es σ H Q):wA (X.bz E) es σ H Q:=λpos pins s I =>
 DK (h pos pins s (I.aW.bz _)) (λ_ _ ⟨v,H',I',r,q⟩=>⟨v,H',I'.aW.bz _,r,q⟩) λ_ _ z=>False.elim z
def n6 (t:cy):nM:=λD env=>t D.toEnds3 env
theorem fE (h:QS X.l5 st t):QZ X st (n6 t):=⟨λB σ F H env D r hq=>zx (h B σ F H env D.toEnds3 r hq)⟩
theorem zR (h:pT X.l5 sts t):yg X sts (n6 t):=⟨λB σ F H env D r hq=>xq (h B σ F H env D.toEnds3 r hq)⟩
def fF (t u:nM):nM:=λD env=>t { D with nx:=u D } env
theorem si (h:QZ X st p):yg X [st] p:=⟨λB σ F H env D rp hq=>fB (jM qy) (h.run B σ F H env D rp hq)⟩
theorem kg (h1:QZ X st p) (h2:yg X sts q):yg X (st :: sts) (fF p q):=by
 refine⟨λB σ F H env D rp h=>fB (fO qy cO) ?_⟩;exact jK (h1.run B σ F H env { D with nx:=q D } rp h) (λσ' H' ⟨F',env',rp',q⟩=>h2.run B σ' F' H' env' D rp' q) (λ_ _ q=>q) (λ_ _ q=>q) (λ_ _ q=>q)
def Al (c:TB) (t u:nM):nM:=λD env=>c env λk=>if k=true then t D env else u D env
theorem AA (hc:QT X.l5 c tc) (ha:yg X xs p) (hb:yg X ys q):QZ X (.If c xs ys pos) (Al tc p q):=by
 refine⟨λB σ F H env D rp h=>eS (x9 mJ cO cO) ?_⟩;refine dU (vg (hc B σ F H env _ rp h)) λk H1 ⟨F1,r1,s1,q1⟩=>?_
 cases k with
 | true=>exact ha.run B σ F1 H1 env D r1 q1
 | false=>exact hb.run B σ F1 H1 env D r1 q1
theorem w4 {K:Dj} {h:Heap} {C:Addr} {bmB:List Value} {newId:String} (X:K.In h) (q:PySem.W.excIn K C bmB newId=true) :
  ∃bm N nm qn bs hdct sn sub ab col dd k0 k1 k2 k3 k5 mN,h.get? C=some (excClassObj nm qn C N bs bm hdct sn sub ab col dd k0 k1 k2 k3 k5 newId)/\h.Ns N mN/\mN "__init__" = none/\OwnTail h bmB bm:=by
 unfold PySem.W.excIn at q
 split at q
 ·rename_i dd cd sl ho
  split at q
  ·rename_i C' bm k0 k1 k2 k3 n k5 hm hs;simp only [Bool.and_eq_true,beq_iff_eq,Bool.not_eq_true'] at q;obtain⟨⟨⟨⟨⟨rfl,rfl⟩,hdel⟩,ht⟩,hok⟩,hni⟩:=q;obtain⟨nm,bs,mro,ns,qn,hd,sn,sub,ab,col,del⟩:=cd;dsimp only at hm hdel hok hni;subst hm hdel
   have hsl:sl=#[k0,k1,k2,k3,some (.builtin n),k5]:=by
    obtain⟨l⟩:=sl;simp only at hs;rw [hs]
   subst hsl;exact⟨bm,ns,nm,qn,bs,hd,sn,sub,ab,col,dd,k0,k1,k2,k3,k5,_,X _ _ ho,.of_isNs (PySem.W.isNs_of_in X hok),PySem.W.nsMap_none_of_in X hok hni,PySem.W.tail_of_in X ht⟩
  ·cases q
 ·cases q
abbrev x6 (K:Dj) (C:Addr):Bool:=PySem.W.excIn K C [.type "ValueError",.type "Exception",.type "BaseException",.type "object"] "ValueError.__new__"
def gL (cx:Str) (ts:dR):nM:=λD env=>ts env λxs=>xs.length<=sizeLine/\D.xc cx
theorem uS {cx:Str} {C:Addr} {np cpos:Pos} (hC:X.mg cx=some (.ref C)) (hq:x6 X.K C=true) (hc:X.calm=true) (ha:QA X.l5 [e] ts) (hg:Gl X cx:=by rfl) (hdb:(cx == ("__debug__" : Str))=false:=by decide)
  (he:starEach [e] X.env=(false,eval e X.env) :: starEach [] X.env:=by exact bh rfl) (hplain:(backTo cpos (starEach ([]:List Expr) X.env)).any (·.1)=false:=by rfl) :
  QZ X (.Raise (some (.Call (.Name cx np) [e] [] cpos)) none pos) (gL cx ts):=by
 refine⟨λB σ F H env D rp h pins s I=>?_⟩;have I0:=I.aW;obtain⟨bm,N,nm,qn,bs,hdct,sn,sub,ab,col,dd,k0,k1,k2,k3,k5,mN,hCo,hN,hni,T⟩:=w4 I0.ok.mod.kin hq
 refine wpAny_Raise_call_subT (C:=C) (nm:=nm) (q:=qn) (N:=N) (bs:=bs) (bm:=bm) (hdct:=hdct) (sn:=sn) (sub:=sub) (ab:=ab) (col:=col) (dd:=dd) (k0:=k0) (k1:=k1) (k2:=k2) (k3:=k3) (k5:=k5)
  PySem.F.excBase_ValueError (mN:=mN) (T.hasType (by decide +kernel)) (I0.ok.hd hc) (by rw [he];show (false || (backTo cpos (starEach [] X.env)).any (·.1))=false;rw [hplain];rfl) hni (jU I hg hC ⟨rfl,?_⟩ hdb)
 have hw:=yH (E:=XZ X B D.xc) (ha B σ F H env _ rp h) cpos pins s I;rw [he] at hw ⊢;refine Calls.evalArgs_plain (DK hw (λus s2 ⟨vs,H2,I2,rv,F2,ds,r2,s2',d2,hl,q2⟩=>⟨rfl,?_,?_,?_,?_,λh' e' m=>?_⟩) λ_ _ y=>y)
 ·show us.length<=sizeLine
  rw [<- rv.length,<- d2.length];exact hl
 ·exact I2.bk _ _ hCo
 ·exact hN.keeps I2.bk
 ·exact T.keeps I2.bk
 ·exact⟨pins,e',cx,.ref C,σ,H2,F2,env,rfl,lG.made I2.aW m,r2,hC,q2⟩
end
abbrev rO:=List D->(D->Prop)->(Str->Prop)->Prop
def CH (K:Dj) (mg:Str->Option Value) (f:rO):Sp:=λvs H Q E=>∃(F:Hp) (ds:List D) (P:D->Prop) (R:Str->Prop),ah F H/\aj K F ds vs/\f ds P R /\
 (∀(d:D) (v:V) (F' H':Hp),ah F F'->ah H H'->ah F' H'->(∀p,H p≠none->F p=none->F' p=none)->Den K F' d v->P d->Q v H') /\
 ∀(c:Str) (C:Value) (F' H':Hp),ah F F'->ah H H'->ah F' H'->(∀p,H p≠none->F p=none->F' p=none)->mg c=some C->R c->E C none H'
structure ez (P:Program) (w:World) (K:Dj) (mg:Str->Option Value) (base:Heap) (k:Nat) (x:Str) (f:rO):Prop where
 ex:∃(fa:Addr) (fd:FuncData) (ps:List Str),gM P w K mg base (xV P w) k fa fd ps (CH K mg f)/\mg x=some (.ref fa)/\PySem.W.keepIn K (.ref fa)=true/\Binds K fd ps []
abbrev TX:=En->(D->Prop)->(Str->Prop)->Prop
def XX (X:Cx) (pins:List (Addr×Obj)) (σ:St) (B:Base) (env:En) (R:Str->Prop):Value->Shared->Prop:=λex s'=>∃(a:Addr) (c:Str) (C:Value) (H' F':Hp),ex=.ref a/\lG X pins σ H' a C s'/\Rep X.K B F' H' σ env/\X.mg c=some C/\R c
structure QX (X:Cx) (e:Expr) (t:TX):Prop where
 of ::
 run:∀(B:Base) (σ:St) (F H:Hp) (env:En) (Q:D->Prop) (R:Str->Prop),Rep X.K B F H σ env->t env Q R->∀(pins:List (Addr×Obj)) (s:Shared),Inv X pins σ H s ->
  wpAny (model X.prog X.w) X.A (eval e X.env) (EP X pins σ (RV X B σ env F Q)) (XX X pins σ B env R) s
section
variable {X:Cx} {e:Expr} {es:List Expr} {ts:dR} {tx:TX} {p pos:Pos} {x:Str} {k:Nat} {f:rO}
theorem QX.w (h:QX X e tx) {B:Base} {σ:St} {F H:Hp} {env:En} {Q:D->Prop} {R:Str->Prop} (rp:Rep X.K B F H σ env) (hq:tx env Q R):wE (X.bz (XZ X B R)) e σ H (RV X B σ env F Q):=λpins s I =>
 DK (h.run B σ F H env Q R rp hq pins s I.aW) (λ_ _ ⟨v,H',I',r,q⟩=>⟨v,H',I'.bz _,r,q⟩) λex s' ⟨a,c,C,H',F',e,t,r,m,x⟩=>⟨pins,a,c,C,σ,H',F',env,e,t,r,m,x⟩
def vF (tx:TX):nM:=λD env=>tx env D.rt D.xc
theorem yE (h:QX X e tx):QZ X (.Return (some e) pos) (vF tx):=by
 refine⟨λB σ F H env D rp hq=>eS (rg bc) ?_⟩;exact az (h.w rp hq) λv H' ⟨F',d,r',s',hd,q⟩=>⟨F',d,r'.bare,hd,q⟩
end
section
variable {X:Cx} {a b e:Expr} {ta tb:TD} {ts:dR} {pos:Pos}
theorem sZ {cx:Str} {C:Addr} {np cpos:Pos} (ac:PySem.W.nsIn X.K mainGlobals cx=some (some (.ref C))) (hq:x6 X.K C=true) (ha:QA X.l5 [e] ts) (hc:X.calm=true:=by rfl) (hg:Gl X cx:=by rfl) (hdb:(cx == ("__debug__" : Str))=false:=by decide)
  (he:starEach [e] X.env=(false,eval e X.env) :: starEach [] X.env:=by exact bh rfl) (hplain:(backTo cpos (starEach ([]:List Expr) X.env)).any (·.1)=false:=by rfl) :
  QZ X (.Raise (some (.Call (.Name cx np) [e] [] cpos)) none pos) (gL cx ts) :=
 ⟨λB σ F H env D rp h pins s I=>(uS (X:=X) (pos:=pos) (np:=np) (cpos:=cpos) (Eu I.ok.mod.kin I.ok.mod.glob ac) hq hc ha hg hdb he hplain).run B σ F H env D rp h pins s I⟩
end
section
variable {X:Cx} {es:List Expr} {pos:Pos}
def Cd (K:Dj) (n:Nat) (t:wm):TG:=λv σ H Q=>∃a xs,v=.ref a/\eY K H a xs/\xs.length=n/\t xs σ H Q
theorem yN {k n:Nat} {t:wm} (hc:X.calm=true) (h:Ab X es t) (hn:(assignEach es X.env).length=n:=by rfl) (hst:(assignEach es X.env).findIdx? (·.1)=none:=by rfl):PG X (.Tuple es k pos) (Cd X.K n t):=by
 intro pins s σ H v u Q I r hw;obtain⟨a,xs,e1,hq,hl,hw⟩:=hw;subst e1;cases r;obtain⟨its,rv,ht,hz⟩:=I.list hq;rw [assign_Tuple];refine Dk (wpAny_standAt ?_);unfold unpack;have hsz:(assignEach es X.env).length=its.toArray.size:=by simp [hn,<- hl,rv.length]
 rw [hsz,hst];refine Dk (wpAny_holding (PySem.W.kun_itemsOf (I.ok.hd hc) ht.isList λh' hx=>?_));have I1:Inv X pins σ H { s with heap:=h' }:=I.kept (t':=s.toks) λb o e=>hx b o (DO (Dx e)) e;exact h pins _ σ H xs _ Q I1 (by simpa using rv) hw
def qj (n:Nat) (gs:kL):oZ:=λx env Q=>∃xs,x=.lst xs/\xs.length=n/\gs xs env Q
theorem vt {k n:Nat} {gs:kL} (hc:X.calm=true) (h:zG X es gs) (hn:(assignEach es X.env).length=n:=by rfl) (hst:(assignEach es X.env).findIdx? (·.1)=none:=by rfl):QG X (.Tuple es k pos) (qj n gs):=by
 refine⟨λB σ F H env Q d v rp hd hq=>?_⟩;obtain⟨xs,rfl,hl,q⟩:=hq;simp only [Den] at hd;obtain⟨p,vs,rfl,hs,r⟩:=hd;refine ym (yN hc uu hn hst) ⟨p,vs,rfl,rp.fh.seq hs,by rw [<- r.length];exact hl,?_⟩;exact h B σ F H env Q xs vs rp r q
end
section
variable {X:Cx} {a b c e:Expr} {ta tb tc:TD} {ts:dR} {pos:Pos}
theorem CT {x:Str} {n:Int} {t:Tok} {p:Pos} (ac:PySem.W.nsIn X.K mainGlobals x=some (some (.int n t))) (hg:Gl X x:=by rfl) (hdb:(x == ("__debug__" : Str))=false:=by decide):QE X (.Name x p) (cC (.int n)):=by
 refine⟨λB σ F H env Q rp hq pins s I=>?_⟩;refine jU I hg (Eu I.ok.mod.kin I.ok.mod.glob ac) ?_ hdb;exact⟨.int n,H,I,⟨t,rfl⟩,F,.int n,rp,ah.refl _,bA,hq⟩
end
section
variable {X:Cx} {p pos:Pos}
def cF (i:Nat):TD:=λenv Q=>∃xs,env[i]?=some (some (.own xs))/\Q (.int xs.length)
theorem eV {x:Str} {px:Pos} (i:Nat) (hm:X.mg "len" = none) (hg:Gl X "len":=by rfl) (hN:X.N[i]?=some x:=by rfl) (hv:rX X.env.scope x:=by first | exact Or.inl rfl | exact Or.inr (Or.inl rfl) | exact Or.inr (Or.inr rfl)) (hd:(x == ("__debug__" : Str))=false:=by decide)
  (hcd:(x == ("__classdict__" : Str))=false:=by decide) (he:starEach [.Name x px] X.env=(false,eval (.Name x px) X.env) :: starEach [] X.env:=by exact bh rfl) (hpl:(backTo pos (starEach ([]:List Expr) X.env)).any (·.1)=false:=by rfl) :
  QE X (.Call (.Name "len" p) [.Name x px] [] pos) (cF i):=by
 refine⟨λB σ F H env Q rp h=>bK (pF ik hg hm mU (iF (dO hN hv hd hcd) oi he) (by decide) (by decide) he hpl) ?_⟩;obtain⟨xs,hx,q⟩:=h;obtain⟨p,vs,h1,h2,h3,h4,h5⟩:=rp.ov i xs hx;refine⟨.ref p,h1,p,vs,rfl,.inl (eY.of h2),F,.int xs.length,rp,ah.refl _,?_,q⟩;rw [h5.length];exact bA
end
open PySem
section
variable {Q:D->Prop} {i j:Int} {xs ys:List D} {z z':Str} {C:Int->Int->Prop} {g:Int->Int->D} {k:Bool}
theorem ni:tL C g (.int i) (.int j) Q=(C i j/\Q (g i j)):=rfl
theorem gn:cU (.int i) (.int j) Q=Q (.int (i + j)):=rfl
theorem gd:cU (.lst xs) (.lst ys) Q=(xs.length + ys.length<=sizeLine/\Q (.lst (xs ++ ys))):=rfl
theorem gw:cU (.tup xs) (.tup ys) Q=(xs.length + ys.length<=sizeLine/\Q (.tup (xs ++ ys))):=rfl
theorem fA:cU (.str z) (.str z') Q=(z.length + z'.length<=sizeLine/\Q (.str (z ++ z'))):=rfl
theorem iR:mi (.int i) Q=Q (.int (-i)):=rfl
theorem qK:l7 (.int i) (.int j) Q=Q (.bl (decide (i=j))):=by
 unfold l7 kC;simp only [dep,aS,DZ,and_self,true_and];rw [Bool.beq_eq_decide_eq]
theorem qZ:wj (.int i) (.int j) Q=Q (.bl (!decide (i=j))):=by
 unfold wj kC;simp only [dep,aS,DZ,and_self,true_and];rw [Bool.beq_eq_decide_eq]
theorem ja:l7 (.str z) (.str z') Q=Q (.bl (z == z')):=by
 unfold l7 kC;simp only [dep,aS,DZ,and_self,true_and]
theorem qR {k':Bool}:l7 (.bl k) (.bl k') Q=Q (.bl (k == k')):=by
 unfold l7 kC;simp only [dep,aS,DZ,and_self,true_and]
theorem qF:uh [.int i] Q=Q (.int i.natAbs):=by
 show Q _=Q _
 congr 2
 split <;> omega
theorem i3:kn [.lst xs] Q=Q (.int xs.length):=rfl
theorem gS:kn [.tup xs] Q=Q (.int xs.length):=rfl
theorem i7:kn [.str z] Q=(z.length<=sizeLine/\Q (.int z.length)):=rfl
theorem dP:dM [.lst xs] Q=Q (.tup xs):=rfl
theorem eL:dM [.tup xs] Q=Q (.tup xs):=rfl
theorem ly:bM (.lst xs)=some xs:=rfl
theorem kA:bM (.tup xs)=some xs:=rfl
theorem qD {R:Int->Nat->Prop}:n8 [.int j] R=((-(2 ^ 62)<=j/\j < 2 ^ 62)/\R 0 j.toNat):=rfl
theorem ra {R:Int->Nat->Prop}:xJ [.int i,.int j] R=((-(2 ^ 62)<=i/\i < 2 ^ 62/\-(2 ^ 62)<=j/\j < 2 ^ 62)/\R i (j - i).toNat):=rfl
end
def yD (xs:List D) (R:D->D->Prop):Prop:=match xs with|[x,y]=>R x y|_=>False
theorem oS {x y:D} {R:D->D->Prop}:yD [x,y] R=R x y:=rfl
theorem ow (i j:Nat) (ts:dR) (Z:Ends3) (env:En):xK i j ts Z env=ts env λxs=>yD xs λx y=>Z.nx ((env.set i (some (.d x))).set j (some (.d y))):=by
 unfold xK yD
 congr 1;funext xs;apply propext
 constructor
 ·rintro⟨x,y,rfl,h⟩;exact h
 ·intro h;split at h
  ·exact⟨_,_,rfl,h⟩
  ·exact h.elim
def mV (xs:List D) (R:D->List D->Prop):Prop:=match xs with|x :: r=>R x r|_=>False
theorem kX {x:D} {r:List D} {R:D->List D->Prop}:mV (x :: r) R=R x r:=rfl
theorem lq (g:oZ) (gs:kL) (xs:List D) (env:En) (Q:En->Prop):aO g gs xs env Q=mV xs λx r=>g x env λenv'=>gs r env' Q:=by
 unfold aO mV;apply propext
 constructor
 ·rintro⟨x,y,rfl,h⟩;exact h
 ·intro h;split at h
  ·exact⟨_,_,rfl,h⟩
  ·exact h.elim
theorem df {g:oZ} {tb:cy} {Z:Ends3} {xs:List D} (I:Nat->En->Prop)
  (step:∀(i:Nat) (x:D) (env:En) (N:En->Prop),xs[i]?=some x->I i env->(∀e,I (i + 1) e->N e)->g x env λe=>tb { Z with nx:=N,ct:=N,bk:=Z.nx } e)
  (done:∀env,I xs.length env->Z.nx env) {env:En} (h0:I 0 env):turns g tb Z xs env:=by
 have go:∀(n k:Nat) (env:En),k + n=xs.length->I k env->turns g tb Z (xs.drop k) env:=by
  intro n
  induction n with
  | zero =>
   intro k env hk h;rw [Ef (by omega)]
   exact done env (by rw [<- hk];exact h)
  | succ n ih =>
   intro k env hk h;have hx:xs[k]?=some (xs[k]'(by omega)):=by simp
   rw [drop_cons hx];exact step k _ env _ hx h λe he=>ih (k + 1) e (by omega) he
 simpa using go xs.length 0 env (by omega) h0
theorem sk {α:Type} {xs:List α} {i:Int} (h0:0<=i) (h1:i < xs.length):iV xs i=xs[i.toNat]?:=by
 unfold L2.iV wx;rw [if_pos h0,if_pos h1];rfl
theorem qO {a b:Int} (h:0 < b):0<=a.fmod b/\a.fmod b < b:=⟨Int.fmod_nonneg_of_pos a h,Int.fmod_lt_of_pos a h⟩
def BP (n:Nat) (a:Int):Prop:=a.natAbs < 2 ^ n
theorem yQ {n:Nat} {a b:Int} (hb:BP n b) (h0:b≠0) (hn:n<=9000):mX a b:=by
 refine⟨h0,?_⟩;have:b.natAbs≠0:=by omega
 exact Dr ((Nat.log2_lt this).mpr hb) hn
theorem aV {a b:Int} (h1:-(2 ^ 64) < a) (h2:a < 2 ^ 64):IntMulOk a b:=.of_left (intBits_le_64 h1 h2)
theorem uz {a b:Int} (h1:-(2 ^ 64) < b) (h2:b < 2 ^ 64):IntMulOk a b:=.of_right (intBits_le_64 h1 h2)
theorem wV {c:Int} (j:Int) (h:j≠0/\j.natAbs < 2 ^ 256):mX c j:=yQ (n:=256) h.2 h.1 (by decide)
theorem dA {c:Int} (j:Int) (h:j≠0):pH c j:=h
def AY (i:Nat) (e:En):Nat:=match e[i]? with|some (some (.own xs))=>xs.length|_=>0
def AI (i:Nat) (e:En):Nat:=match e[i]? with|some (some (.d (.int j)))=>j.toNat|_=>0
end L2.L3
local macro_rules | `(tactic| simp_all_arith only [$ls,*]) => `(tactic| ((try dsimp only [$(⟨ls.elemsAndSeps⟩),*, L2.L3.a0, L2.L3.om, L2.L3.cS, L2.L3.b9, L2.L3.cf, L2.L3.fM, L2.L3.jz, L2.L3.fX, L2.L3.b7, L2.L3.b0, L2.L3.cX, L2.L3.ag, L2.L3.cC, L2.L3.aM, L2.L3.rB, L2.L3.a7, L2.L3.nL, L2.L3.pq, L2.L3.wt, L2.L3.jo, L2.L3.oy, L2.L3.x5, L2.L3.aI, L2.L3.af, L2.L3.aB, L2.L3.bW, L2.L3.lQ, L2.L3.n5, L2.L3.bu, L2.L3.iN, L2.L3.dJ, L2.L3.aE, L2.L3.fQ, L2.L3.jv, L2.L3.eQ, L2.L3.bL, L2.L3.aA, DF, List.map_nil, DV, Ec, List.cons_append, List.nil_append, DY, DX, List.set_cons_zero, List.set_cons_succ, L2.L3.c9, L2.L3.fw, L2.L3.ni, L2.L3.gn, L2.L3.gd, L2.L3.gw, L2.L3.fA, L2.L3.iR, L2.L3.i3, L2.L3.gS, L2.L3.i7, L2.L3.dP, L2.L3.eL]); (try simp only [$ls,*, L2.L3.a0, L2.L3.om, L2.L3.cS, L2.L3.b9, L2.L3.cf, L2.L3.fM, L2.L3.ow, L2.L3.oS, L2.L3.jz, L2.L3.fX, L2.L3.b7, L2.L3.b0, L2.L3.cX, L2.L3.ag, L2.L3.cC, L2.L3.aM, L2.L3.rB, L2.L3.a7, L2.L3.nL, L2.L3.pq, L2.L3.wt, L2.L3.jo, L2.L3.oy, L2.L3.x5, L2.L3.aI, L2.L3.af, L2.L3.aB, L2.L3.bW, L2.L3.lQ, L2.L3.n5, L2.L3.bu, L2.L3.iN, L2.L3.dJ, L2.L3.aE, L2.L3.fQ, L2.L3.lq, L2.L3.kX, L2.L3.jv, L2.L3.eQ, L2.L3.bL, L2.L3.aA, DF, List.map_nil, DV, Ec, List.cons_append, List.nil_append, Ea, DY, DX, List.getElem?_nil, List.set_cons_zero, List.set_cons_succ, Option.some.injEq, L2.L3.Lo.d.injEq, L2.L3.Lo.own.injEq, L2.L3.D.bl.injEq, L2.L3.D.int.injEq, exists_eq_left', exists_eq_left, Nat.reduceAdd, Nat.reduceSub, Nat.sub_self, Nat.add_one_sub_one, List.replicate_succ, List.replicate_zero, L2.L3.D.tup.injEq, List.cons.injEq, and_assoc, L2.L3.c9, L2.L3.fw, L2.L3.ni, L2.L3.gn, L2.L3.gd, L2.L3.gw, L2.L3.fA, L2.L3.iR, L2.L3.qK, L2.L3.qZ, L2.L3.ja, L2.L3.qR, L2.L3.qF, L2.L3.i3, L2.L3.gS, L2.L3.i7, L2.L3.dP, L2.L3.eL, L2.L3.ly, L2.L3.kA, L2.L3.qD, L2.L3.ra, decide_eq_true_eq, true_and, and_true, if_true, if_false, Dl, Bool.not_eq_true', decide_eq_false_iff_not, DR, Int.reduceToNat, Int.reducePow, Int.reduceMul, Int.reduceAdd, Int.reduceNeg, Int.reduceSub, Int.reduceLT, Int.reduceLE, Int.reduceEq, Nat.reduceEqDiff, decide_true, decide_false, Nat.reduceLeDiff, Nat.reduceLT, Bool.true_eq_false, Bool.not_true, Bool.not_false, Bool.not_not])))
local macro_rules | `(tactic| simp_arith! only [$ls,*] $[$loc]?) => `(tactic| ((try dsimp only [$(⟨ls.elemsAndSeps⟩),*, L2.L3.a0, L2.L3.om, L2.L3.cS, L2.L3.b9, L2.L3.cf, L2.L3.fM, L2.L3.jz, L2.L3.fX, L2.L3.b7, L2.L3.b0, L2.L3.cX, L2.L3.ag, L2.L3.cC, L2.L3.aM, L2.L3.rB, L2.L3.a7, L2.L3.nL, L2.L3.pq, L2.L3.wt, L2.L3.jo, L2.L3.oy, L2.L3.x5, L2.L3.aI, L2.L3.af, L2.L3.aB, L2.L3.bW, L2.L3.lQ, L2.L3.n5, L2.L3.bu, L2.L3.iN, L2.L3.dJ, L2.L3.aE, L2.L3.fQ, L2.L3.jv, L2.L3.eQ, L2.L3.bL, L2.L3.aA, DF, List.map_nil, DV, Ec, List.cons_append, List.nil_append, DY, DX, List.set_cons_zero, List.set_cons_succ, L2.L3.c9, L2.L3.fw, L2.L3.ni, L2.L3.gn, L2.L3.gd, L2.L3.gw, L2.L3.fA, L2.L3.iR, L2.L3.i3, L2.L3.gS, L2.L3.i7, L2.L3.dP, L2.L3.eL, L2.L3.gL, L2.L3.Al, L2.L3.n6, L2.L3.fF, L2.L3.vF, L2.L3.qj, L2.L3.cF] $[$loc]?); (try simp only [$ls,*, L2.L3.a0, L2.L3.om, L2.L3.cS, L2.L3.b9, L2.L3.cf, L2.L3.fM, L2.L3.ow, L2.L3.oS, L2.L3.jz, L2.L3.fX, L2.L3.b7, L2.L3.b0, L2.L3.cX, L2.L3.ag, L2.L3.cC, L2.L3.aM, L2.L3.rB, L2.L3.a7, L2.L3.nL, L2.L3.pq, L2.L3.wt, L2.L3.jo, L2.L3.oy, L2.L3.x5, L2.L3.aI, L2.L3.af, L2.L3.aB, L2.L3.bW, L2.L3.lQ, L2.L3.n5, L2.L3.bu, L2.L3.iN, L2.L3.dJ, L2.L3.aE, L2.L3.fQ, L2.L3.lq, L2.L3.kX, L2.L3.jv, L2.L3.eQ, L2.L3.bL, L2.L3.aA, DF, List.map_nil, DV, Ec, List.cons_append, List.nil_append, Ea, DY, DX, List.getElem?_nil, List.set_cons_zero, List.set_cons_succ, Option.some.injEq, L2.L3.Lo.d.injEq, L2.L3.Lo.own.injEq, L2.L3.D.bl.injEq, L2.L3.D.int.injEq, exists_eq_left', exists_eq_left, Nat.reduceAdd, Nat.reduceSub, Nat.sub_self, Nat.add_one_sub_one, List.replicate_succ, List.replicate_zero, L2.L3.D.tup.injEq, List.cons.injEq, and_assoc, L2.L3.c9, L2.L3.fw, L2.L3.ni, L2.L3.gn, L2.L3.gd, L2.L3.gw, L2.L3.fA, L2.L3.iR, L2.L3.qK, L2.L3.qZ, L2.L3.ja, L2.L3.qR, L2.L3.qF, L2.L3.i3, L2.L3.gS, L2.L3.i7, L2.L3.dP, L2.L3.eL, L2.L3.ly, L2.L3.kA, L2.L3.qD, L2.L3.ra, decide_eq_true_eq, true_and, and_true, if_true, if_false, Dl, Bool.not_eq_true', decide_eq_false_iff_not, DR, Int.reduceToNat, Int.reducePow, Int.reduceMul, Int.reduceAdd, Int.reduceNeg, Int.reduceSub, Int.reduceLT, Int.reduceLE, Int.reduceEq, Nat.reduceEqDiff, decide_true, decide_false, Nat.reduceLeDiff, Nat.reduceLT, Bool.true_eq_false, Bool.not_true, Bool.not_false, Bool.not_not, L2.L3.gL, L2.L3.Al, L2.L3.n6, L2.L3.fF, L2.L3.vF, L2.L3.qj, L2.L3.D.lst.injEq, L2.L3.cF] $[$loc]?)))
namespace L2.L3
open PySem
def F1 (P:D->(D->Prop)->Prop):Fw:=λds Q=>∃x,ds=[x]/\P x Q
def F2 (P:D->D->(D->Prop)->Prop):Fw:=λds Q=>∃x y,ds=[x,y]/\P x y Q
def F3 (P:D->D->D->(D->Prop)->Prop):Fw:=λds Q=>∃x y z,ds=[x,y,z]/\P x y z Q
theorem sa {P}:∀ds Q,F1 P ds Q->ds.length=1:=by rintro ds Q ⟨x,rfl,_⟩;rfl
theorem qd {P}:∀ds Q,F2 P ds Q->ds.length=2:=by rintro ds Q ⟨x,y,rfl,_⟩;rfl
theorem vw {P}:∀ds Q,F3 P ds Q->ds.length=3:=by rintro ds Q ⟨x,y,z,rfl,_⟩;rfl
theorem sM {P} {x:D} {Q}:F1 P [x] Q=P x Q:=by
 unfold F1;apply propext;constructor
 ·rintro⟨x',e,h⟩;cases e;exact h
 ·intro h;exact⟨_,rfl,h⟩
theorem iq {P} {x y:D} {Q}:F2 P [x,y] Q=P x y Q:=by
 unfold F2;apply propext;constructor
 ·rintro⟨x',y',e,h⟩;cases e;exact h
 ·intro h;exact⟨_,_,rfl,h⟩
theorem wg {P} {x y z:D} {Q}:F3 P [x,y,z] Q=P x y z Q:=by
 unfold F3;apply propext;constructor
 ·rintro⟨x',y',z',e,h⟩;cases e;exact h
 ·intro h;exact⟨_,_,_,rfl,h⟩
def vd (x y:D) (Q:D->Prop):Prop:=∃p q:Int,x=.int p/\y=.int q/\Q (.int (Int.gcd p q))
theorem uU (h l:Int) (h0:0<=h) (l0:0 < l):Int.gcd l (h.fmod l)=Int.gcd h l:=by
 rw [Int.fmod_eq_emod_of_nonneg h (by omega),Int.gcd_comm l,Int.emod_def,Int.gcd_comm h l];rw [Int.gcd_comm];exact Int.gcd_sub_mul_left_right ..
def aY:Fw:=F2 vd
def eD:cy:=(a0 (cf 2 (aI uh (af (ag 0) aB))) (a0 (cf 3 (aI uh (af (ag 1) aB))) (a0 (gR (a7 (aM wj (ag 3) (cC (.int 0)))) (xK 2 3 (af (ag 3) (af (aM dm (ag 2) (ag 3)) aB)))) (cS (ag 2)))))
theorem jD:∀ds Q,aY ds Q->ds.length=2:=qd
theorem lU:∀ds (Q:D->Prop),aY ds Q->eD { nx:=λ_=>Q .non,rt:=Q } (aA ["p","q","high","low"] ds):=by
 rintro ds Q ⟨x,y,rfl,p,q,rfl,rfl,h⟩
 simp_all_arith only [eD,gR]
 refine⟨λe=>∃a b:Int,e=[some (.d (.int p)),some (.d (.int q)),some (.d (.int a)),some (.d (.int b))]/\0<=a/\0<=b/\Int.gcd a b=Int.gcd p q,
  λe=>match e with|[_,_,_,some (.d (.int b))]=>b.toNat|_=>0,⟨_,_,rfl,by omega,by omega,by simp [Int.gcd]⟩,?_⟩
 rintro env ⟨a,b,rfl,ha,hb,hg⟩
 simp_all_arith only [and_true]
 by_cases hz:b=0
 ·subst hz
  simp_all_arith only [not_true,decide_true]
  have:((Int.gcd p q:Nat):Int)=a:=by rw [<- hg];simp;omega
  rw [this] at h;exact h
 ·have f:=qO (a:=a) (b:=b) (by omega)
  simp_all_arith only [hz,not_false_eq_true,pH,ne_eq]
  refine⟨⟨_,_,rfl,rfl,hb,f.1,?_⟩,by show (a.fmod b).toNat < b.toNat;omega⟩;rw [<- hg];exact uU a b ha (by omega)
def vy (ns:List Int) (k:Int):Int:=if k < ns.length then ns.getD k.toNat 0 else 0
def A3 (x y:D) (Q:D->Prop):Prop:=∃(ns:List Int) (k:Int),x=.lst (ns.map D.int)/\y=.int k/\0<=k/\Q (.int (vy ns k))
def cQ:Fw:=F2 A3
def gN:cy:=(a0 (om (a7 (aM A0 (ag 1) (aI kn (af (ag 0) aB)))) (cS (aM i6 (ag 0) (ag 1))) b9) (cS (cC (.int 0))))
theorem nK:∀ds Q,cQ ds Q->ds.length=2:=qd
theorem pL:∀ds (Q:D->Prop),cQ ds Q->gN { nx:=λ_=>Q .non,rt:=Q } (aA ["_law_script","_law_k"] ds):=by
 rintro ds Q ⟨x,y,rfl,ns,k,rfl,rfl,hk,h⟩
 simp_all_arith only [gN,DH]
 unfold vy at h
 by_cases hl:k < ns.length
 ·rw [if_pos hl] at h ⊢;have hn:k.toNat < ns.length:=by omega
  refine⟨.int (ns.getD k.toNat 0),?_,h⟩;rw [sk hk (by simpa using hl)];simp [hn]
 ·rw [if_neg hl] at h ⊢;exact h
open PySem PySem.Spec PyProof.Rows
structure u7 (K:Dj) (J:It) (F1:Hp) (xs:List D):Prop where
 go:∀(i:Nat) (G H':Hp),ah F1 G->ah G H'->i < xs.length->J.go i H'
 yld:∀(i:Nat) (G H':Hp) (y:V) (H'':Hp) (x:D) (B:Base) (σ:St) (env:En),ah F1 G->Rep K B G H' σ env->xs[i]?=some x->J.yld i H' y H''->∃G',Rep K B G' H'' σ env/\ah G G'/\Den K G' x y
 stop:∀(G H':Hp),ah F1 G->ah G H'->J.stop xs.length H'
theorem ig.new {K:Dj} {J:It} {F1:Hp} {xs:List D} (S:ig K J F1 xs):u7 K J F1 xs :=
 ⟨S.go,λi G H' y H'' x B σ env s1 r hx hy=>by
  obtain⟨e,d⟩:=S.yld i G H' y H'' x s1 r.fh hx hy;subst e
  exact⟨G,r,ah.refl _,d⟩,S.stop⟩
def dQ (tt:TB) (te:TD) (b8:En) (Q:List D->Prop):List D->List D->Prop
 | [],acc=>Q acc
 | x :: xs,acc=>∃a b,x=.tup [a,b]/\tt ((b8.set 0 (some (.d a))).set 1 (some (.d b))) λok=>if ok=true then te ((b8.set 0 (some (.d a))).set 1 (some (.d b))) λy=>acc.length < sizeLine/\dQ tt te b8 Q xs (acc ++ [y]) else dQ tt te b8 Q xs acc
section
variable {X:Cx} {N':List Str} {ix:List Nat} {scope:Scope} {elt iter a b:Expr} {ifs:List Expr} {x y:Str} {px py tp pos:Pos} {c:Nat} {tt:TB} {te ti:TD} {ts:dR}
theorem qP (hc:X.calm=true) (hN:N'.Nodup) (h0:N'[0]?=some x) (h1:N'[1]?=some y) (hx:(relabel scope X.env).names.lookup x=some .local) (hy:(relabel scope X.env).names.lookup y=some .local)
  (ht:∀C s H fp pins,jB (aF X N' scope C s H fp pins) ifs tt) (he:∀C s H fp pins,QE (aF X N' scope C s H fp pins) elt te)
  {B:Base} {σ:St} {F F1 H1:Hp} {env:En} {Q:List D->Prop} {J:It} {xs:List D} (sF:ah F F1) (r1:Rep X.K B F1 H1 σ env) (S:u7 X.K J F1 xs) (q1:dQ tt te (ba 2 ix env) Q xs []) :
  ∀(a C:Addr) (s:Shared) (fp:List Addr) (pins:List (Addr×Obj)),H1 a=none ->
   ∃W:Nat->Nat->St->Hp->Prop,(∃m,W 0 m (ma 2 ix σ) (upd H1 a (.lst [])))/\∀i m σ' H',W i m σ' H'->(J.stop i H'/\RF X B σ env F Q (.ref a) H')\/(J.go i H'/\∀z H2,J.yld i H' z H2 ->
    wG (aF X N' scope C s (upd H1 a (.lst [])) fp pins) (.Tuple [.Name x px,.Name y py] c tp) z σ' H2 λσ2 H3=>rb (aF X N' scope C s (upd H1 a (.lst [])) fp pins) ifs σ2 H3 λok H4=>if ok=true then
     wE (aF X N' scope C s (upd H1 a (.lst [])) fp pins) elt σ2 H4 λy H5=>∃ys,H5 a=some (.lst ys)/\ys.length < sizeLine/\∃m',m' < m/\W (i + 1) m' σ2 (upd H5 a (.lst (ys ++ [y])))
     else ∃m',m' < m/\W (i + 1) m' σ2 H4):=by
 intro a C s fp pins ha;have hF1a:F1 a=none:=r1.jw ha
 refine⟨λi m σ' H'=>m=xs.length - i/\i<=xs.length/\∃(F':Hp) (acc:List D) (ys:List V),Rep X.K (Base.here F1 H1) F' H' σ' (ba 2 ix env)/\H' a=some (.lst ys)/\F' a=none/\aj X.K F' acc ys/\dQ tt te (ba 2 ix env) Q (xs.drop i) acc,
  ⟨xs.length,by simp,DZ _,F1,[],[],sJ r1 ha,aq,hF1a,aK,by simpa using q1⟩,?_⟩
 rintro i m σ2 H2 ⟨rfl,hi2,F2,acc,ys,r2,hys,hFa,hd,q2⟩;have sH:ah H1 H2:=r2.h0
 by_cases hlt:i < xs.length
 ·have hxi:xs[i]?=some xs[i]:=by simp [hlt]
  rw [drop_cons hxi] at q2;refine .inr ⟨S.go i F2 H2 r2.f0 r2.fh hlt,λz H3 hz=>?_⟩;obtain⟨da,db,exy,q2⟩:=q2;obtain⟨G,rG,sG,dz⟩:=S.yld i F2 H2 z H3 xs[i] (Base.here F2 H2) σ2 (ba 2 ix env) r2.f0 (r2.here bp bq) hxi hz;rw [exy] at dz;have g1:=aw (X:=aF X N' scope C s (upd H1 a (.lst [])) fp pins) (pos:=px) 0 hN h0 (.inl hx) (.inr hx);have g2:=aw (X:=aF X N' scope C s (upd H1 a (.lst [])) fp pins) (pos:=py) 1 hN h1 (.inl hy) (.inr hy)
  have g:=dN (X:=aF X N' scope C s (upd H1 a (.lst [])) fp pins) (pos:=tp) (k:=c) (n:=2) hc (av g1 (av g2 bX));refine gr (g (Base.here F2 H2) σ2 G H3 (ba 2 ix env) (λe=>e=((ba 2 ix env).set 0 (some (.d da))).set 1 (some (.d db))) (.tup [da,db]) z rG dz ⟨_,rfl,rfl,_,_,rfl,_,_,rfl,rfl,rfl⟩) λσ3 H4 hq0=>?_;obtain⟨F4,env4,r4,s4,q4⟩:=hq0;subst q4;intro pins' s' I';refine DK (ht C s (upd H1 a (.lst [])) fp pins (Base.here F2 H2) σ3 F4 H4 _ _ r4 q2 pins' s' I') (λok s5 ⟨H5,I5,F5,r5,s5',q5⟩=>⟨H5,I5,?_⟩) λ_ _ e=>e
  have weak':∀(j:Nat) l,(ba 2 ix env)[j]?=some (some l)->(((ba 2 ix env).set 0 (some (.d da))).set 1 (some (.d db)))[j]?=some (some l):=λj l hj=>by
   have hj0:j≠0:=λw=>by
    subst w;simp [ba] at hj
   have hj1:j≠1:=λw=>by
    subst w;simp [ba] at hj
   rw [Di (Ne.symm hj1),Di (Ne.symm hj0)];exact hj
  cases ok with
  | false =>
   have q5':dQ tt te (ba 2 ix env) Q (xs.drop (i + 1)) acc:=q5
   refine⟨xs.length - (i + 1),by omega,rfl,by omega,F5,acc,ys,r5.there r2.f0 sH (λp hp=>r2.nf p hp) weak' bp bq,r5.h0 _ _ hys,r5.nf a ⟨by rw [hys];simp,hFa⟩,aj.mono r5.f0 _ _ hd,q5'⟩
  | true =>
   have q5':te (((ba 2 ix env).set 0 (some (.d da))).set 1 (some (.d db))) λy=>acc.length < sizeLine/\dQ tt te (ba 2 ix env) Q (xs.drop (i + 1)) (acc ++ [y]):=q5;refine az (he C s (upd H1 a (.lst [])) fp pins (Base.here F2 H2) σ3 F5 H5 _ _ r5 q5') λu H6 hq0=>?_;obtain⟨F6,d,r6,s6,d6,hl,q6⟩:=hq0;have ha6:H6 a=some (.lst ys):=r6.h0 _ _ hys;have hF6:F6 a=none:=r6.nf a ⟨by rw [hys];simp,hFa⟩;refine⟨ys,ha6,by rw [<- hd.length];exact hl,xs.length - (i + 1),by omega,rfl,by omega,F6,acc ++ [d],ys ++ [u],?_,aq,hF6,(aj.mono r6.f0 _ _ hd).append (aH d6 aK),q6⟩
   have r7:Rep X.K (Base.here F1 H1) F6 H6 σ3 (ba 2 ix env):=r6.there r2.f0 sH (λp hp=>r2.nf p hp) weak' bp bq;refine⟨r7.f0,λb o hb=>?_,λb o hb=>?_,r7.nf,r7.dv,λj zs q=>(bp j zs q).elim,r7.ne,λj zs q=>(bq j zs q).elim,r7.nm⟩
   ·have:b≠a:=λw=>by subst w;rw [hF6] at hb;cases hb
    rw [ar this];exact r7.fh _ _ hb
   ·have:b≠a:=λw=>by subst w;have hb':H1 b=some o:=hb;rw [ha] at hb';cases hb'
    rw [ar this];exact r7.h0 _ _ hb
 ·have e:i=xs.length:=by omega
  subst e;rw [Ef (Du _)] at q2;refine .inl ⟨S.stop F2 H2 r2.f0 r2.fh,F2,λb=>if b=a then none else H2 b,a,ys,acc,rfl,if_pos rfl,?_,?_,sF.trans r2.f0,hd,q2⟩
  ·funext b;unfold upd
   by_cases z:b=a
   ·rw [if_pos z,z];exact hys
   ·rw [if_neg z];show H2 b=if b=a then none else H2 b
    rw [if_neg z]
  ·refine r1.ext r2.f0 (λb o hb=>?_) (λb o hb=>?_) λp h1 h2=>r2.nf p ⟨h1,h2⟩
   ·have:b≠a:=λw=>by subst w;rw [hFa] at hb;cases hb
    show (if b=a then none else H2 b)=_
    rw [if_neg this];exact r2.fh _ _ hb
   ·have:b≠a:=λw=>by subst w;rw [ha] at hb;cases hb
    show (if b=a then none else H2 b)=_
    rw [if_neg this];exact sH _ _ hb
def iY (ix:List Nat) (ti:TD) (tt:TB) (te:TD):dR:=λenv Q=>ti env λd=>∃xs,bM d=some xs/\dQ tt te (ba 2 ix env) Q xs []
theorem jZ (hc:X.calm=true) (O:aQ X N' 2 ix scope) (hN:N'.Nodup) (h0:N'[0]?=some x) (h1:N'[1]?=some y) (hx:(relabel scope X.env).names.lookup x=some .local) (hy:(relabel scope X.env).names.lookup y=some .local) (hi:QE X iter ti)
  (ht:∀C s H fp pins,jB (aF X N' scope C s H fp pins) ifs tt) (he:∀C s H fp pins,QE (aF X N' scope C s H fp pins) elt te) (hs:∀x,DS iter X.env x=pure x:=by intro _;rfl) :
  QF X (.ListComp elt [⟨.Tuple [.Name x px,.Name y py] c tp,iter,ifs,0⟩] scope pos) (iY ix ti tt te):=by
 refine⟨λB σ F H env Q rp h=>bK (jT hc (j8 bc) O hs) ?_⟩;exact ia hi rp h λJ F1 H1 xs r1 s1 S q=>qP hc hN h0 h1 hx hy ht he s1 r1 S.new q
def Aq (d:D):Option (List D):=match d with|.lst xs=>some xs|.tup xs=>some xs|_=>none
end
mutual
theorem sv:∀(a b c:D),aS a b=true->aS a c=aS b c:=by
 intro a b c h;cases a <;> cases b <;> first|(simp only [aS,Dl] at h;done)|skip
 all_goals cases c <;> first|rfl|(simp only [aS,beq_iff_eq] at h ⊢;subst h;rfl)|skip
 all_goals first
  | (simp only [aS] at h ⊢;exact pg _ _ _ h)
  | (simp only [aS,beq_iff_eq] at h ⊢;rw [Bool.eq_iff_iff];simp only [beq_iff_eq];split at h <;> split <;> simp_all <;> omega)
  | (simp only [aS,beq_iff_eq] at h ⊢;rw [Bool.eq_iff_iff];simp only [beq_iff_eq];split at h <;> simp_all)
  | (simp only [aS,beq_iff_eq] at h ⊢;subst h;rw [Bool.eq_iff_iff];simp only [beq_iff_eq];split <;> simp_all)
  | (simp only [aS,beq_iff_eq] at h ⊢;subst h;split <;> simp_all)
theorem pg:∀(a b c:List D),cH a b=true->cH a c=cH b c:=by
 intro a b c h
 cases a with
 | nil=>cases b with
  | nil=>rfl
  | cons y r=>simp only [cH,Dl] at h
 | cons x r=>cases b with
  | nil=>simp only [cH,Dl] at h
  | cons y t =>
   simp only [cH,Bool.and_eq_true] at h
   cases c with
   | nil=>rfl
   | cons z u=>simp only [cH];rw [sv x y z h.1,pg r t u h.2]
end
section
variable {X:Cx} {pins:List (Addr×Obj)} {σ:St} {H F:Hp} {s:Shared}
open Classical in
noncomputable def my (us:List Value) (ds:List D) (d:D) (u:Value):Bool:=decide (∃(i:Nat) (x:D),us[i]?=some u/\ds[i]?=some x/\aS x d=true)
open Classical in
theorem sm (I:Inv X pins σ H s) (fh:ah F H) {ds:List D} {vs:List V} {us:List Value} {d:D} (hd:cZ ds < 1000) (dl:aj X.K F ds vs) (rv:Vals vs us) {j:Nat} {x:D} {u:Value} (hx:ds[j]?=some x) (hu:us[j]?=some u):my us ds d u=aS x d:=by
 unfold my
 have dle:∀(k:Nat) (y:D),ds[k]?=some y->dep y < 1000:=λk y hy=>by
  clear dl rv hx hu
  induction ds generalizing k with
  | nil=>simp at hy
  | cons z r ih =>
   simp only [cZ] at hd
   cases k with
   | zero=>simp at hy;subst hy;omega
   | succ k=>exact ih (by omega) k (by simpa using hy)
 cases hb:aS x d with
 | true=>exact decide_eq_true ⟨j,x,hu,hx,hb⟩
 | false =>
  refine decide_eq_false λhq0=>?_;obtain⟨i,y,h1,h2,h3⟩:=hq0;obtain⟨v1,e1,d1⟩:=dl.get hx;obtain⟨v2,e2,d2⟩:=dl.get h2;obtain⟨w1,g1,r1⟩:=rv.get e1;obtain⟨w2,g2,r2⟩:=rv.get e2;rw [hu] at g1;cases g1;rw [h1] at g2;cases g2;have:=r1.inj r2;subst this;have k:=jL I fh y x _ (dle _ _ h2) (dle _ _ hx) d2 d1;rw [sv y x d k,hb] at h3;cases h3
theorem o6 (I:Inv X pins σ H s) (fh:ah F H) {ds:List D} {vs:List V} {us:List Value} {d:D} (hd:cZ ds < 1000) (dl:aj X.K F ds vs) (rv:Vals vs us):us.map (my us ds d)=ds.map λx=>aS x d:=by
 have l1:=dl.length;have l2:=rv.length;apply List.ext_getElem?
 intro i;rw [Dt,Dt]
 by_cases hi:i < ds.length
 ·have h1:ds[i]?=some ds[i]:=by simp [hi]
  have h2:us[i]?=some (us[i]'(by omega)):=Dm _;rw [h1,h2];simp only [Option.map_some];rw [sm I fh hd dl rv h1 h2]
 ·rw [DG (by omega),DG (by omega)];rfl
end
section
variable {X:Cx} {a b:Expr} {ta tb:TD} {pos:Pos}
def AB (X:Cx) (neg:Bool):R2:=λx y H Q=>∃(F:Hp) (d:D) (ds:List D) (vs:List V) (p:Addr),ah F H/\Den X.K F d x/\y=.ref p/\(eY X.K F p vs\/gZ X.K F p vs)/\aj X.K F ds vs/\X.A.units + 64 < cLine/\cZ ds<=60/\dep d<=60/\Q (.bl (if neg then !ds.any (λe=>aS e d) else ds.any λe=>aS e d)) H
theorem any_map' {α:Type} (f:α->Bool) (l:List α):l.any f=(l.map f).any id:=by rw [List.any_map];rfl
theorem pz {X:Cx} {pins:List (Addr×Obj)} {σ:St} {H F:Hp} {s:Shared} (I:Inv X pins σ H s) (fh:ah F H) {ds:List D} {vs:List V} {us:List Value} {d:D} {x:V} {v:Value} (hu:X.A.units + 64 < cLine) (hds:cZ ds<=60) (hd:dep d<=60) (dl:aj X.K F ds vs) (rv:Vals vs us) (dx:Den X.K F d x) (rx:RelV x v) :
  ∀u∈us,SeqAt.EqAt X.A.in1 s u v (my us ds d u):=by
 intro u hu';obtain⟨j,hj,e⟩:=List.getElem_of_mem hu';have h2:us[j]?=some u:=by rw [<- e];simp [hj]
 have l1:=dl.length;have l2:=rv.length;have h1:ds[j]?=some (ds[j]'(by omega)):=Dm _;rw [sm I fh (by omega) dl rv h1 h2];obtain⟨w,g1,g2⟩:=dl.get h1;obtain⟨u',g3,g4⟩:=rv.get g1;rw [h2] at g3;cases g3
 have dle:dep (ds[j]'(by omega))<=60:=by
  have go:∀(l:List D) (n:Nat),cZ l<=n->∀y∈l,dep y<=n:=by
   intro l
   induction l with
   | nil=>intro n _ y hy;cases hy
   | cons z r ih =>
    intro n hn y hy;simp only [cZ] at hn;rcases DD.mp hy with rfl|hy
    ·omega
    ·exact ih n (by omega) y hy
  exact go ds 60 hds _ (Et _)
 exact lV I fh _ d X.A.in1 _ x u v (by rw [units_in1];omega) (by omega) (by omega) g2 dx g4 rx
theorem xb:iG X (compareOp .NotIn) (AB X true):=by
 intro pins s σ H x y v u Q I rx ry h;obtain⟨F,d,ds,vs,p,fh,dx,rfl,hq,dl,hu,h1,h2,q⟩:=h;cases ry;rcases hq with hq|hq
 ·obtain⟨its,r,pl,hz⟩:=I.list (fh.seq hq);refine SeqAt.notIn_listAt (my its ds d) pl.isList (λw hw=>pz I fh hu h1 h2 dl r dx rx w (by simpa using hw)) ⟨.bl _,H,I,rfl,?_⟩;rw [show its.toArray.any (my its ds d)=its.any (my its ds d) by simp,any_map',o6 I fh (by omega) dl r,<- any_map'];exact q
 ·obtain⟨its,r,pl,hz⟩:=I.tuple (ah.bG fh hq);refine SeqAt.notIn_tupleAt (my its ds d) pl (λw hw=>pz I fh hu h1 h2 dl r dx rx w (by simpa using hw)) ⟨.bl _,H,I,rfl,?_⟩;rw [show its.toArray.any (my its ds d)=its.any (my its ds d) by simp,any_map',o6 I fh (by omega) dl r,<- any_map'];exact q
def w8 (neg:Bool) (x y:D) (Q:D->Prop):Prop:=∃ds,Aq y=some ds/\cZ ds<=60/\dep x<=60/\Q (.bl (if neg then !ds.any (λe=>aS e x) else ds.any λe=>aS e x))
theorem yZ (hu:X.A.units + 64 < cLine) (neg:Bool):uq X (AB X neg) (w8 neg):=by
 intro B σ F H env Q d d' x y Z rp h1 h2 hz hf;obtain⟨ds,e,l1,l2,q⟩:=hf
 cases d' with
 | lst xs =>
  simp only [Aq] at e;cases e;simp only [Den] at h2;obtain⟨p,vs,rfl,hq,dl⟩:=h2
  exact⟨F,d,_,vs,p,rp.fh,h1,rfl,.inl hq,dl,hu,l1,l2,hz _ H F _ rp (ah.refl _) eB q⟩
 | tup xs =>
  simp only [Aq] at e;cases e;simp only [Den] at h2;obtain⟨p,vs,rfl,hq,dl⟩:=h2
  exact⟨F,d,_,vs,p,rp.fh,h1,rfl,.inr hq,dl,hu,l1,l2,hz _ H F _ rp (ah.refl _) eB q⟩
 | _=>simp only [Aq] at e;cases e
theorem zv (hu:X.A.units + 64 < cLine) (ha:QE X a ta) (hb:QE X b tb) (hm:behindInMarks .NotIn b=false:=by rfl):QT X (.Compare a [.NotIn] [b] pos) (a7 (aM (w8 true) ta tb)):=kQ xb (yZ hu true) ha hb hm
end
end L2.L3
namespace L2.L3
open PySem PySem.Spec PyProof.Rows
end L2.L3
local macro_rules | `(tactic| simp_arith only [$ls,*] $[$loc]?) => `(tactic| ((try dsimp only [$(⟨ls.elemsAndSeps⟩),*, L2.L3.a0, L2.L3.om, L2.L3.cS, L2.L3.b9, L2.L3.cf, L2.L3.fM, L2.L3.jz, L2.L3.fX, L2.L3.b7, L2.L3.b0, L2.L3.cX, L2.L3.ag, L2.L3.cC, L2.L3.aM, L2.L3.rB, L2.L3.a7, L2.L3.nL, L2.L3.pq, L2.L3.wt, L2.L3.jo, L2.L3.oy, L2.L3.x5, L2.L3.aI, L2.L3.af, L2.L3.aB, L2.L3.bW, L2.L3.lQ, L2.L3.n5, L2.L3.bu, L2.L3.iN, L2.L3.dJ, L2.L3.aE, L2.L3.fQ, L2.L3.jv, L2.L3.eQ, L2.L3.bL, L2.L3.aA, DF, List.map_nil, DV, Ec, List.cons_append, List.nil_append, DY, DX, List.set_cons_zero, List.set_cons_succ, L2.L3.c9, L2.L3.fw, L2.L3.ni, L2.L3.gn, L2.L3.gd, L2.L3.gw, L2.L3.fA, L2.L3.iR, L2.L3.i3, L2.L3.gS, L2.L3.i7, L2.L3.dP, L2.L3.eL, L2.L3.gL, L2.L3.Al, L2.L3.n6, L2.L3.fF, L2.L3.vF, L2.L3.qj, L2.L3.cF, L2.L3.iY] $[$loc]?); (try simp only [$ls,*, L2.L3.a0, L2.L3.om, L2.L3.cS, L2.L3.b9, L2.L3.cf, L2.L3.fM, L2.L3.ow, L2.L3.oS, L2.L3.jz, L2.L3.fX, L2.L3.b7, L2.L3.b0, L2.L3.cX, L2.L3.ag, L2.L3.cC, L2.L3.aM, L2.L3.rB, L2.L3.a7, L2.L3.nL, L2.L3.pq, L2.L3.wt, L2.L3.jo, L2.L3.oy, L2.L3.x5, L2.L3.aI, L2.L3.af, L2.L3.aB, L2.L3.bW, L2.L3.lQ, L2.L3.n5, L2.L3.bu, L2.L3.iN, L2.L3.dJ, L2.L3.aE, L2.L3.fQ, L2.L3.lq, L2.L3.kX, L2.L3.jv, L2.L3.eQ, L2.L3.bL, L2.L3.aA, DF, List.map_nil, DV, Ec, List.cons_append, List.nil_append, Ea, DY, DX, List.getElem?_nil, List.set_cons_zero, List.set_cons_succ, Option.some.injEq, L2.L3.Lo.d.injEq, L2.L3.Lo.own.injEq, L2.L3.D.bl.injEq, L2.L3.D.int.injEq, exists_eq_left', exists_eq_left, Nat.reduceAdd, Nat.reduceSub, Nat.sub_self, Nat.add_one_sub_one, List.replicate_succ, List.replicate_zero, L2.L3.D.tup.injEq, List.cons.injEq, and_assoc, L2.L3.c9, L2.L3.fw, L2.L3.ni, L2.L3.gn, L2.L3.gd, L2.L3.gw, L2.L3.fA, L2.L3.iR, L2.L3.qK, L2.L3.qZ, L2.L3.ja, L2.L3.qR, L2.L3.qF, L2.L3.i3, L2.L3.gS, L2.L3.i7, L2.L3.dP, L2.L3.eL, L2.L3.ly, L2.L3.kA, L2.L3.qD, L2.L3.ra, decide_eq_true_eq, true_and, and_true, if_true, if_false, Dl, Bool.not_eq_true', decide_eq_false_iff_not, DR, Int.reduceToNat, Int.reducePow, Int.reduceMul, Int.reduceAdd, Int.reduceNeg, Int.reduceSub, Int.reduceLT, Int.reduceLE, Int.reduceEq, Nat.reduceEqDiff, decide_true, decide_false, Nat.reduceLeDiff, Nat.reduceLT, Bool.true_eq_false, Bool.not_true, Bool.not_false, Bool.not_not, L2.L3.gL, L2.L3.Al, L2.L3.n6, L2.L3.fF, L2.L3.vF, L2.L3.qj, L2.L3.D.lst.injEq, L2.L3.cF, L2.L3.Aq, L2.L3.iY] $[$loc]?)))
namespace L2.L3
open PySem PySem.Spec PyProof.Rows
def XY (X:Cx) (B:Base) (xc:Str->Prop):Value->Shared->Prop:=λe s'=>wpAny (model X.prog X.w) X.A (noteFrame e X.env) (λ_ s2=>wpAny (model X.prog X.w) X.A (setFlight e none) (λ_ s3=>XZ X B xc e s3) (λ_ _=>False) s2) (λ_ _=>False) s'
theorem XZ.C4 {X:Cx} {B:Base} {xc:Str->Prop} {e:Value} {s':Shared} (hst:X.stack=X.env :: X.outer) (hf:X.env.frame=some X.env.locals) (h:XZ X B xc e s'):XY X B xc e s':=by
 obtain⟨pins,a,c,C,σ',H',F',env',rfl,th,r,hm,hx⟩:=h;exact th.note hst hf λs'' t''=>⟨pins,a,c,C,σ',H',F',env',rfl,t'',r,hm,hx⟩
structure QY (X:Cx) (st:Stmt) (t:nM):Prop where
 of ::
 run:∀(B:Base) (σ:St) (F H:Hp) (env:En) (D:p9),Rep X.K B F H σ env->t D env->wS (X.bz (XY X B D.xc)) st (RS X B D.toEnds3) σ H
structure Aw (X:Cx) (st:List Stmt) (t:nM):Prop where
 of ::
 run:∀(B:Base) (σ:St) (F H:Hp) (env:En) (D:p9),Rep X.K B F H σ env->t D env->wSs (X.bz (XY X B D.xc)) st (RS X B D.toEnds3) σ H
section
variable {X:Cx} {c e:Expr} {es:List Expr} {st:Stmt} {sts xs ys body:List Stmt} {p q:nM} {tc:TB} {pos:Pos}
theorem gJ (h:QZ X st p) (hst:X.stack=X.env :: X.outer:=by rfl) (hf:X.env.frame=some X.env.locals:=by rfl):QY X st p:=⟨λB σ F H env D rp hq pins s I =>
 DK (h.run B σ F H env D rp hq pins s (I.aW.bz _)) (λ_ _ q=>SP.rd q) λ_ _ z=>XZ.C4 hst hf z⟩
theorem rV (h:QY X st p):Aw X [st] p:=⟨λB σ F H env D rp hq=>fB (jM qy) (h.run B σ F H env D rp hq)⟩
theorem cI (h1:QY X st p) (h2:Aw X sts q):Aw X (st :: sts) (fF p q):=by
 refine⟨λB σ F H env D rp h=>fB (fO qy cO) ?_⟩;exact jK (h1.run B σ F H env { D with nx:=q D } rp h) (λσ' H' ⟨F',env',rp',q⟩=>h2.run B σ' F' H' env' D rp' q) (λ_ _ q=>q) (λ_ _ q=>q) (λ_ _ q=>q)
def qB (c:TB) (tb:nM):nM:=λD env=>∃(I:En->Prop) (μ:En->Nat),I env/\∀env,I env->c env λk=>if k=true then tb { D with nx:=λe'=>I e'/\μ e' < μ env,ct:=λe'=>I e'/\μ e' < μ env,bk:=D.nx } env else D.nx env
theorem ux (hc:QT X.l5 c tc) (hb:Aw X body p):QY X (.While c body [] pos) (qB tc p):=by
 refine⟨λB σ F H env D rp h=>?_⟩;obtain⟨I,μ,i0,turn⟩:=h;refine eS (o8 (X:=X.bz (XY X B D.xc)) PassesOwn.looking mJ cO) ?_;refine⟨λm σ H=>∃F env,Rep X.K B F H σ env/\I env/\μ env=m,⟨_,F,env,rp,i0,rfl⟩,?_⟩
 rintro m σ1 H1 ⟨F1,env1,r1,i1,rfl⟩;refine dU (vg (hc B σ1 F1 H1 env1 _ r1 (turn env1 i1))) λk H2 ⟨F2,r2,s2,q2⟩=>?_
 cases k with
 | false=>exact⟨F2,env1,r2,q2⟩
 | true =>
  refine⟨λσ' H'=>∃F' env',Rep X.K B F' H' σ' env'/\I env'/\μ env' < μ env1,λσ' H' ⟨F',env',r',i',l⟩=>⟨_,l,F',env',r',i',rfl⟩,?_⟩;exact hb.run B σ1 F2 H2 env1 _ r2 q2
end
section
variable {P:Program} {w:World} {K:Dj} {mg:Str->Option Value} {base:Heap}
theorem XY.leave {N:List Str} {qual:Str} {scope:Scope} {f:Addr} {cd:Value} {A:Around} {outer:List Env} {s0:Shared} {H0:Hp} {E:XK} {B:Base} {xc:Str->Prop} {e:Value} {s':Shared}
  (t:XY (fH (xV P w) P w K mg base N qual scope f cd A outer s0 H0 E) B xc e s') (q:∀(c:Str) (C:Value) (σ':St) (H' F':Hp) (env':En),Rep K B F' H' σ' env'->mg c=some C->xc c->E C none H') :
  (fH (xV P w) P w K mg base N qual scope f cd A outer s0 H0 E).xe e s':=by
 show wpAny (model P w) _ (leaving _ e) _ _ s'
 unfold leaving;refine Dk (DK t (λ_ s2 z=>DK z (λ_ s3 y=>?_) λ_ _ y=>y.elim) λ_ _ y=>y.elim);obtain⟨pins,a,c,C,σ',H',F',env',rfl,t'',r,hm,hx⟩:=y;have I:=t''.inv;obtain⟨Hc,sc,Ic,os,bare,un,hok,fl⟩:=t'';refine⟨a,C,none,H',rfl,I.os,I.bare,I.base,I.hok,fl.xO λb o e=>?_,q c C σ' H' F' env' r hm hx⟩;exact Ic.base.there b o e (by show b∉([]:List Addr);simp)
theorem l8.qI {x qual:Str} {st:Stmt} {fa:Addr} {fd:FuncData} {N ps:List Str} {k:Nat} {f:rO} (F:l8 K x qual st fa fd) (S:aN N ps (ak st)) (hmg:mg x=some (.ref fa)) (hb:Binds K fd ps [])
  (hl:∀ds Q R,f ds Q R->ds.length=ps.length)
  (hbody:∀(cdv:Value) (A:Around) (outer:List Env) (s:Shared) (H:Hp) (E:XK),bR k (A.deeper (envOfC qual (ak st) s.heap.objs.size fa cdv)) ->
   ∃t,Aw (fH (xV P w) P w K mg base N qual (ak st) fa cdv A outer s H E) (aX st) t/\∀ds (Q:D->Prop) (R:Str->Prop),f ds Q R->t { nx:=λ_=>Q .non,rt:=Q,xc:=R } (aA N ds)) :
  ez P w K mg base (k + 1) x f:=by
 refine⟨fa,fd,ps,?_,hmg,F.kp,hb⟩;obtain⟨oc,od,kV,doc,pm,an,cdv,ct,osl,rfl,lk,hcd⟩:=F.ex;refine uK lk hcd S (λvs H Q E h=>?_) λA outer s H vs Q E hr h=>?_
 ·obtain⟨F0,ds,P,R,_,hd,hf,_⟩:=h;rw [<- hd.length];exact hl ds _ _ hf
 ·obtain⟨F0,ds,P',R,fh,hd,hf,kk,kx⟩:=h;obtain⟨t,ht,hq⟩:=hbody cdv A outer s H E hr;refine⟨_,cO,?_⟩;have core:=ht.run _ (start N vs) F0 H (aA N ds) _ (dF fh hd) (hq ds P' R hf);intro pins s1 I;refine DK (core pins s1 (I.bz _)) (λfl s2 z=>?_) λex s2 z=>?_
  ·refine jO (SP.aW z) (λσ' H' ⟨F',env',r,q⟩=>?_) (λv H' ⟨F',d',r,dd,q⟩=>?_) (λ_ _ ⟨_,_,_,q⟩=>q) (λ_ _ ⟨_,_,_,q⟩=>q)
   ·exact kk .non .non F' H' r.f0 r.h0 r.fh (λp h1 h2=>r.nf p ⟨h1,h2⟩) nZ q
   ·exact kk d' v F' H' r.f0 r.h0 r.fh (λp h1 h2=>r.nf p ⟨h1,h2⟩) dd q
  ·exact XY.leave z λc C σ' H' F' env' r hm hx=>kx c C F' H' r.f0 r.h0 r.fh (λp h1 h2=>r.nf p ⟨h1,h2⟩) hm hx
end
section
variable {prog:Program} {w:World} {A:Around} {E:Value->Shared->Prop} {s:Shared}
def gh (prog:Program) (w:World) (A:Around) (s:Shared) (v:Value):Prop:=∀(E:Value->Shared->Prop) (Q:Bool->Shared->Prop),Q true s->wpAny (model prog w) A (eqIsQuiet 8 v) Q E s
def ef (prog:Program) (w:World) (A:Around) (s:Shared) (v:Value) (h:Int) (n:Nat):Prop:=∀(E:Value->Shared->Prop) (Q:Int->Shared->Prop),Q h { s with toks:=s.toks + n }->wpAny (model prog w) A (PySem.pyHash v) Q E s
theorem pP {key:Value} {stored:List Value} {Q:Bool->Shared->Prop} (hkey:gh prog w A s key)
  (hst:∀v∈stored,gh prog w A s v) (h:Q false s):wpAny (model prog w) A (tableMayTell key stored) Q E s:=by
 unfold tableMayTell
 split
 ·exact Ds h
 ·refine Dk (hkey _ _ ?_);simp only [Bool.not_true,Dl,if_false];refine Dk ?_;refine wpAny_forIn_list _ (λrest r s'=>s'=s/\r=(none,())/\∀v∈rest,gh prog w A s v) _ ?_ ?_ _ _ ⟨rfl,rfl,hst⟩
  ·rintro x rest r s' ⟨rfl,rfl,hr⟩;refine Dk (hr x DC _ _ ?_);simp only [Bool.not_true,Dl,if_false];exact Ds ⟨rfl,rfl,λv hv=>hr v (Dv _ hv)⟩
  ·rintro r s' ⟨rfl,rfl,_⟩;exact Ds h
structure gK (prog:Program) (w:World) (A:Around) (s:Shared) (es:Array DictEntry) (key:Value) (h:Int) (m:Nat->Bool):Prop where
 eq:∀(j:Nat) (hj:j < es.size),SeqAt.EqAt A s es[j].key key (m j)
 mh:∀(j:Nat) (hj:j < es.size),m j=true->es[j].hash=h
 mu:∀(i j:Nat),i < es.size->j < es.size->m i=true->m j=true->i=j
 same:∀(j:Nat) (hj:j < es.size),es[j].key=key->es[j].hash=h
 qk:gh prog w A s key
 qs:∀(j:Nat) (hj:j < es.size),gh prog w A s es[j].key
 ns:(∃i t,key=.int i t)\/(∃a,key=.ref a)\/key=.none
theorem tU {M:Model} {A:Around} {E:Value->Shared->Prop} {s:Shared} {α β:Type} {c:Prop} [Decidable c] {t1 t2:Sem β} {k:β->Sem α} {v:β} {Q:α->Shared->Prop} (h1:∀{R:β->Shared->Prop},R v s->wpAny M A t1 R E s) (h2:∀{R:β->Shared->Prop},R v s->wpAny M A t2 R E s)
  (h:wpAny M A (k v) Q E s):wpAny M A (if c then t1 >>= k else t2 >>= k) Q E s:=by
 split
 ·exact Dk (h1 h)
 ·exact Dk (h2 h)
theorem m5 {d:Addr} {o:Obj} {es:Array DictEntry} {ep} {key:Value} {h:Int} {m:Nat->Bool} {Q:Option Nat->Shared->Prop} (f:gK prog w A s es key h m)
  (ho:s.heap.get? d=some o) (hd:o.data=.dict es ep)
  (hnone:(∀j,j < es.size->m j=false)->Q none s) (hsome:∀j,j < es.size->m j=true->Q (some j) s) :
  wpAny (model prog w) A (dictFind d key h) Q E s:=by
 have hask:∀(j:Nat),j < es.size->m j=true->((es[j]?.map (·.hash)) == some h)=true:=by
  intro j hj hm;rw [Array.getElem?_eq_getElem hj,Option.map_some,f.mh j hj hm];simp
 have hst:∀v∈(placesWithHash es.size (λi=>es[i]?.map (·.hash)) h).filterMap (λi=>es[i]?.map (·.key)),gh prog w A s v:=by
  intro v hv;obtain⟨i,_,hi⟩:=List.mem_filterMap.mp hv
  cases hei:es[i]? with
  | none=>rw [hei] at hi;cases hi
  | some e =>
   rw [hei] at hi;obtain rfl:e.key=v:=by simpa using hi
   obtain⟨hl,rfl⟩:=Eg.mp hei;exact f.qs i hl
 have hany:¬ (es.any λe=>e.key == key && e.hash != h)=true:=by
  rw [<- Array.any_toList,List.any_eq_true]
  rintro⟨e,hin,hc⟩;obtain⟨i,hi,rfl⟩:=Array.mem_iff_getElem.mp (Array.mem_toList_iff.mp hin);simp only [Bool.and_eq_true,beq_iff_eq,bne_iff_ne,ne_eq] at hc;exact hc.2 (f.same i hi hc.1)
 have plain:wpAny (model prog w) A (dictWalkPlain d key h es (placesWithHash es.size (λi=>es[i]?.map (·.hash)) h)) Q E s:=by
  refine Dk ?_
  refine wpAny_forIn_list _
   (λrest b s'=>s'=s/\b=(none,())/\∃i,rest=(List.range' i (es.size - i)).filter (λi=>(es[i]?.map (·.hash)) == some h)/\i<=es.size /\
    ∀j,j < i->m j=false) _ ?_ ?_ _ _
   ⟨rfl,rfl,0,by rw [placesWithHash,List.range_eq_range',Nat.sub_zero],DZ _,λ_ h=>absurd h (El _)⟩
  ·rintro x rest b s' ⟨rfl,rfl,i,hr,hi,hno⟩;obtain⟨hix,hxn,hpx,hskip,hrest⟩:=filter_range'_cons _ _ _ _ _ hr.symm;have hlt:x < es.size:=by omega
   have before:∀j,j < x->m j=false:=λj hjx=>by
    rcases Ek j i with c|c
    ·exact hno j c
    ·cases hmj:m j with
     | false=>rfl
     | true=>have q:=hskip j c hjx;rw [hask j (by omega) hmj] at q;cases q
   have hnext:m x=false->∃i,rest=(List.range' i (es.size - i)).filter (λi=>(es[i]?.map (·.hash)) == some h)/\i<=es.size/\∀j,j < i->m j=false:=λhne =>
    ⟨x + 1,by rw [hrest];congr 2;omega,hlt,λj hji=>by
     rcases Ek j x with c|c
     ·exact before j c
     ·have:j=x:=by omega
      subst this;exact hne⟩
   simp only [Array.getElem?_eq_getElem hlt]
   by_cases hh:(es[x].hash == h)=true
   ·rw [if_pos hh];refine Dk (wpAny_dictEpoch ho hd (Dk (f.eq x hlt prog w _ _ (Dk (wpAny_dictEpoch ho hd ?_)))));show wpAny _ _ (if (ep != ep)=true then _ else _) _ E _
    rw [if_neg (by simp)]
    cases hm:m x with
    | true=>exact Dk (wpAny_rule (Ds (Ds (hsome x hlt hm))))
    | false=>exact Dk (wpAny_rule (Ds ⟨rfl,rfl,hnext hm⟩))
   ·rw [if_neg hh];refine Ds ⟨rfl,rfl,hnext ?_⟩
    cases hm:m x with
    | false=>rfl
    | true=>exact absurd (beq_iff_eq.mpr (f.mh x hlt hm)) hh
  ·rintro b s' ⟨rfl,rfl,i,hr,hi,hno⟩;refine Ds (hnone λj hj=>?_);rcases Ek j i with c|c
   ·exact hno j c
   ·have:=List.filter_eq_nil_iff.mp hr.symm j (List.mem_range'_1.mpr ⟨c,by omega⟩)
    cases hmj:m j with
    | false=>rfl
    | true=>rw [hask j hj hmj] at this;exact absurd rfl this
 have ns:=f.ns;unfold dictFind
 try with_reducible refine wpAny_holding ?_
 refine Dk (wpAny_dictEntries ho hd ?_)
 extract_lets places stored hit jp2 jp1 jp0
 have h1:wpAny (model prog w) A (jp1 ()) Q E s:=by
  refine tU (v:=false) (λq=>Ds q) (λq=>pP f.qk hst q) ?_;dsimp only [jp2,stored,places,hit]
  (
   rw [if_neg (by simp)];refine Dk ?_
   refine wpAny_forIn_list _
    (λrest b s'=>s'=s/\∃i hit,b=(none,hit)/\rest=(List.range' i (es.size - i)).filter (λi=>(es[i]?.map (·.hash)) == some h)/\i<=es.size /\
     ((hit=none/\∀j,j < i->m j=false)\/∃j,hit=some j/\j < i/\m j=true)) _ ?_ ?_ _ _
    ⟨rfl,0,none,rfl,by rw [placesWithHash,List.range_eq_range',Nat.sub_zero],DZ _,.inl ⟨rfl,λ_ h=>absurd h (El _)⟩⟩
   ·rintro x rest b s' ⟨rfl,i,hit,rfl,hr,hi,hH⟩;obtain⟨hix,hxn,hpx,hskip,hrest⟩:=filter_range'_cons _ _ _ _ _ hr.symm;have hlt:x < es.size:=by omega
    have hrest':rest=(List.range' (x + 1) (es.size - (x + 1))).filter (λi=>(es[i]?.map (·.hash)) == some h):=by rw [hrest];congr 2;omega
    have hHx:(hit=none/\∀j,j < x->m j=false)\/∃j,hit=some j/\j < x/\m j=true:=by
     rcases hH with ⟨h0,hno⟩|⟨j,h1,hji,hj⟩
     ·refine .inl ⟨h0,λj hjx=>?_⟩;rcases Ek j i with c|c
      ·exact hno j c
      ·cases hmj:m j with
       | false=>rfl
       | true=>have q:=hskip j c hjx;rw [hask j (by omega) hmj] at q;cases q
     ·exact .inr ⟨j,h1,by omega,hj⟩
    have hstay:m x=false->((hit=none/\∀j,j < x + 1->m j=false)\/∃j,hit=some j/\j < x + 1/\m j=true):=by
     intro hne;rcases hHx with ⟨h0,hno⟩|⟨j,h1,hjx,hj⟩
     ·refine .inl ⟨h0,λj hjx=>?_⟩;rcases Ek j x with c|c
      ·exact hno j c
      ·have:j=x:=by omega
       subst this;exact hne
     ·exact .inr ⟨j,h1,by omega,hj⟩
    rw [Array.getElem?_eq_getElem hlt];dsimp only
    by_cases hh:(es[x].hash == h)=true
    ·rw [if_pos hh];refine Dk (wpAny_dictEpoch ho hd (Dk (f.eq x hlt prog w _ _ (Dk (wpAny_dictEpoch ho hd ?_)))));show wpAny _ _ (if (ep != ep)=true then _ else _) _ E _
     rw [if_neg (by simp)]
     cases hm:m x with
     | true =>
      rcases hHx with ⟨rfl,_⟩|⟨j,_,hjx,hj⟩
      ·first|rw [if_pos rfl]|skip
       simp only [Option.isSome_none,Dl,if_false]
       first|refine Dk (Ds ?_)|skip
       refine Dk (wpAny_rule ?_)
       split
       ·exact Ds (Ds (hsome x hlt hm))
       ·exact Ds ⟨rfl,x + 1,some x,rfl,hrest',hlt,.inr ⟨x,rfl,Nat.lt_succ_self x,hm⟩⟩
      ·exact absurd (f.mu j x (by omega) hlt hj hm) (by omega)
     | false =>
      simp only [Dl,if_false];refine Dk (wpAny_rule ?_)
      first|rw [if_neg (by simp)]|skip
      first
       | exact Ds ⟨rfl,x + 1,hit,rfl,hrest',hlt,hstay hm⟩
       | exact Dk (Ds (Ds ⟨rfl,x + 1,hit,rfl,hrest',hlt,hstay hm⟩))
    ·rw [if_neg hh];refine Ds ⟨rfl,x + 1,hit,rfl,hrest',hlt,hstay ?_⟩
     cases hm:m x with
     | false=>rfl
     | true=>exact absurd (beq_iff_eq.mpr (f.mh x hlt hm)) hh
   ·rintro b s' ⟨rfl,i,hit,rfl,hr,hi,hH⟩;rcases hH with ⟨rfl,hno⟩|⟨j,rfl,hji,hj⟩
    ·refine Ds (hnone λj hj=>?_);rcases Ek j i with c|c
     ·exact hno j c
     ·have:=List.filter_eq_nil_iff.mp hr.symm j (List.mem_range'_1.mpr ⟨c,by omega⟩)
      cases hmj:m j with
      | false=>rfl
      | true=>rw [hask j hj hmj] at this;exact absurd rfl this
    ·exact Ds (hsome j (by omega) hj))
 rcases ns with ⟨ki,kt,rfl⟩|⟨ka,rfl⟩|rfl
 ·exact wpAny_ite_split (λ_=>plain) λ_=>h1
 ·exact wpAny_ite_split (λ_=>plain) λ_=>wpAny_ite_split (λz=>absurd z hany) λ_=>h1
 ·exact wpAny_ite_split (λ_=>plain) λ_=>h1
theorem bj.typeIs {d:Addr} {es:Array DictEntry} {ep:Nat} (x:bj s.heap d es ep):s.TypeIs (.ref d) "dict":=let ⟨o,ho,hc,_⟩:=x;⟨o,ho,hc.1⟩
theorem bj.new (h:Heap):bj (h.push { cls:=.type "dict",data:=.dict #[] }) h.objs.size #[] 0:=⟨_,DI _ rfl,⟨rfl,rfl,rfl⟩,rfl⟩
theorem pE {d:Addr} {es:Array DictEntry} {ep:Nat} {key:Value} {h:Int} {n:Nat} {m:Nat->Bool} {Q:Option Value->Shared->Prop} (hh:ef prog w A s key h n) (f:gK prog w A { s with toks:=s.toks + n } es key h m) (x:bj s.heap d es ep)
  (hnone:(∀j,j < es.size->m j=false)->Q none { s with toks:=s.toks + n }) (hsome:∀j (hj:j < es.size),m j=true->Q (some es[j].val) { s with toks:=s.toks + n }) :
  wpAny (model prog w) A (dictGet d key) Q E s:=by
 obtain⟨o,ho,_,hd⟩:=x;unfold dictGet
 try with_reducible refine wpAny_holding ?_
 refine Dk (hh _ _ (Dk (m5 (s:={ s with toks:=s.toks + n }) f ho hd ?_ ?_)))
 ·intro hno;exact Ds (hnone hno)
 ·intro j hj hm;refine Dk (wpAny_dictEntries (s:={ s with toks:=s.toks + n }) ho hd ?_);rw [Array.getElem?_eq_getElem hj];exact Ds (hsome j hj hm)
theorem pI {d:Addr} {es:Array DictEntry} {ep:Nat} {key v:Value} {h:Int} {n:Nat} {m:Nat->Bool} {Q:Unit->Shared->Prop} (hh:ef prog w A s key h n) (f:gK prog w A { s with toks:=s.toks + n } es key h m) (x:bj s.heap d es ep) (hz:es.size<=sizeLine)
  (hnone:(∀j,j < es.size->m j=false)->∀h',bj h' d (es.push ⟨h,key,v⟩) (ep + 1)->Heap.SameBut d s.heap h'->Q () { s with heap:=h',toks:=s.toks + n })
  (hsome:∀j (hj:j < es.size),m j=true->∀h',bj h' d (es.modify j λe=>{ e with val:=v }) ep->Heap.SameBut d s.heap h'->Q () { s with heap:=h',toks:=s.toks + n }) :
  wpAny (model prog w) A (dictSet d key v) Q E s:=by
 obtain⟨o,ho,hc,hd⟩:=x;unfold dictSet
 try with_reducible refine wpAny_holding ?_
 refine Dk (hh _ _ ?_);unfold dictSetHashed
 try with_reducible refine wpAny_holding ?_
 refine Dk (m5 (s:={ s with toks:=s.toks + n }) f ho hd ?_ ?_)
 ·intro hno;exact Dk (wpAny_rule (wpAny_updateDictKeys (hz:=hz) (s:={ s with toks:=s.toks + n }) ho hd (hnone hno _ ⟨_,Heap.get?_update_self _ ho (Obj.isFreed_of_dict (Obj.data_mapDictKeys hd _)),hc.mapDictKeys _,Obj.data_mapDictKeys hd _⟩ (Heap.SameBut.update ..))))
 ·intro j hj hm;exact Dk (wpAny_rule (Dk (wpAny_updateDict (s:={ s with toks:=s.toks + n }) ho hd (wpAny_point (hsome j hj hm _ ⟨_,Heap.get?_update_self _ ho (Obj.isFreed_of_dict (Obj.data_mapDict hd _)),hc.mapDict _,Obj.data_mapDict hd _⟩ (Heap.SameBut.update ..))))))
theorem pj {d:Addr} {es:Array DictEntry} {ep:Nat} {key:Value} {h:Int} {n j:Nat} {m:Nat->Bool} {Q:Value->Shared->Prop} (hh:ef prog w A.in1 s key h n) (f:gK prog w A.in1 { s with toks:=s.toks + n } es key h m) (x:bj s.heap d es ep)
  (hj:j < es.size) (hm:m j=true) (hq:Q es[j].val { s with toks:=s.toks + n }):wpAny (model prog w) A (getItem (.ref d) key) Q E s:=by
 unfold getItem
 try with_reducible refine wpAny_holding ?_
 refine Dk (wpAny_sequenceKey x.typeIs (by decide) ?_)
 refine Dk (Ex (name:=Str.ofString "__getitem__") x.typeIs slot_dict_getitem
  (wpAny_call_entry slot_dict_getitem x.typeIs entry_dict_getitem ?_ (args_dict_getitem _ _)))
 show wpAny _ _ (dictGet d key >>= _) _ _ s
 refine Dk (pE hh f x (λhno=>by rw [hno j hj] at hm;cases hm) λi hi hmi=>?_);have:=f.mu i j hi hj hmi hm;subst this;exact Ds ⟨_,rfl,Ds hq⟩
theorem p4 {d:Addr} {es:Array DictEntry} {ep:Nat} {key v:Value} {h:Int} {n:Nat} {m:Nat->Bool} {Q:Unit->Shared->Prop} (hh:ef prog w A.in1 s key h n) (f:gK prog w A.in1 { s with toks:=s.toks + n } es key h m) (x:bj s.heap d es ep) (hz:es.size<=sizeLine)
  (hnone:(∀j,j < es.size->m j=false)->∀h',bj h' d (es.push ⟨h,key,v⟩) (ep + 1)->Heap.SameBut d s.heap h'->Q () { s with heap:=h',toks:=s.toks + n })
  (hsome:∀j (hj:j < es.size),m j=true->∀h',bj h' d (es.modify j λe=>{ e with val:=v }) ep->Heap.SameBut d s.heap h'->Q () { s with heap:=h',toks:=s.toks + n }) :
  wpAny (model prog w) A (setItem (.ref d) key v) Q E s:=by
 unfold setItem
 try with_reducible refine wpAny_holding ?_
 refine Dk (wpAny_sequenceKey x.typeIs (by decide) ?_)
 refine Dk (Ex (name:=Str.ofString "__setitem__") x.typeIs slot_dict_setitem
  (wpAny_call_entry slot_dict_setitem x.typeIs entry_dict_setitem ?_ (args_dict_setitem _ _ _)))
 show wpAny _ _ (Builtin.Dict.notOrdered "__setitem__" ⟨[.ref d,key,v],[]⟩ >>= _) _ _ s
 refine Dk (wpAny_notOrdered_dict x.typeIs ?_);show wpAny _ _ (dictSet d key v >>= _) _ _ s
 exact Dk (pI hh f x hz (λhno h' a b=>Ds ⟨.none,rfl,Ds (hnone hno h' a b)⟩) (λj hj hm h' a b=>Ds ⟨.none,rfl,Ds (hsome j hj hm h' a b)⟩))
theorem oF {d:Addr} {es:Array DictEntry} {ep:Nat} {key:Value} {h:Int} {n:Nat} {m:Nat->Bool} {Q:Bool->Shared->Prop} (hh:ef prog w A.in1 s key h n) (f:gK prog w A.in1 { s with toks:=s.toks + n } es key h m) (x:bj s.heap d es ep) (hs:(d == sysModules)=false)
  (hnone:(∀j,j < es.size->m j=false)->Q false { s with toks:=s.toks + n }) (hsome:∀j (hj:j < es.size),m j=true->Q true { s with toks:=s.toks + n }):wpAny (model prog w) A (contains (.ref d) key) Q E s:=by
 unfold contains
 try with_reducible refine wpAny_holding ?_
 refine Dk (wpAny_specialOf x.typeIs slot_dict_contains.lookup ?_);show wpAny _ _ (if (some (Value.builtin "dict.__contains__") == some Value.none)=true then _ else _) _ E s
 rw [if_neg (by rw [beq_builtin_none];exact Bool.false_ne_true)]
 refine Dk (wpAny_callSpecialUnlessNone?_slot (name:=Str.ofString "__contains__") x.typeIs slot_dict_contains
  (wpAny_call_entry slot_dict_contains x.typeIs entry_dict_contains ?_ (args_dict_contains _ _)))
 show wpAny _ _ (dictGet d key >>= _) _ _ s
 refine Dk (pE hh f x (λhno=>?_) λi hi hmi=>?_)
 ·show wpAny _ _ (Builtin.Dict.pendingKey? d key >>= _) _ _ _
  exact Dk (wpAny_pendingKey_other hs (Ds ⟨_,rfl,wpAny_truthy_bool (hnone hno)⟩))
 ·show wpAny _ _ (ret (.bool true)) _ _ _
  exact Ds ⟨_,rfl,wpAny_truthy_bool (hsome i hi hmi)⟩
end
mutual
def aG:D->Bool
 | .int _=>true
 | .non=>true
 | .tup ds=>eO ds
 | _=>false
def eO:List D->Bool
 | []=>true
 | d :: ds=>aG d && eO ds
end
mutual
def wo:D->Nat
 | .int _=>1
 | .non=>1
 | .tup ds=>oU ds + 1
 | _=>0
def oU:List D->Nat
 | []=>0
 | d :: ds=>wo d + oU ds
end
theorem i2 (d:D):∀ds:List D,lS (ds ++ [d])=lS ds ++ [qT d]
 | []=>rfl
 | x :: ds=>by show qT x :: lS (ds ++ [d])=_;rw [i2 d ds];rfl
theorem iS (d:D):∀ds:List D,oU (ds ++ [d])=oU ds + wo d
 | []=>by simp [oU]
 | x :: ds=>by show wo x + oU (ds ++ [d])=_;rw [iS d ds];simp only [oU];omega
mutual
theorem cp:∀(a b:D),aG a=true->aS a b=true->aG b=true->a=b
 | .int i,b,h,e,k=>by cases b <;> simp only [aS,aG,beq_iff_eq,Dl] at e k;rw [e]
 | .tup ds,b,h,e,k=>by
  cases b <;> simp only [aS,aG,Dl] at e k
  rw [o7 _ _ (by simpa only [aG] using h) e k]
 | .non,b,h,e,k=>by cases b <;> simp only [aS,Dl] at e;rfl
 | .bl _,b,h,e,k=>by simp only [aG,Dl] at h
 | .str _,b,h,e,k=>by simp only [aG,Dl] at h
 | .lst _,b,h,e,k=>by simp only [aG,Dl] at h
 | .dct _ _,b,h,e,k=>by simp only [aG,Dl] at h
 | .ty _,b,h,e,k=>by simp only [aG,Dl] at h
 | .exc _,b,h,e,k=>by simp only [aG,Dl] at h
 | .cls _,b,h,e,k=>by simp only [aG,Dl] at h
 | .obj _,b,h,e,k=>by simp only [aG,Dl] at h
theorem o7:∀(a b:List D),eO a=true->cH a b=true->eO b=true->a=b
 | [],b,h,e,k=>by cases b <;> simp only [cH,Dl] at e;rfl
 | x :: a,b,h,e,k=>by
  cases b with
  | nil=>simp only [cH,Dl] at e
  | cons y b =>
   simp only [cH,eO,Bool.and_eq_true] at e h k;rw [cp x y h.1 e.1 k.1,o7 a b h.2 e.2 k.2]
end
mutual
theorem gk:∀(a:D),aG a=true->aS a a=true
 | .int i,h=>by simp only [aS,beq_self_eq_true]
 | .tup ds,h=>by simp only [aS];exact j9 ds (by simpa only [aG] using h)
 | .non,h=>by simp only [aS]
 | .bl _,h=>by simp only [aG,Dl] at h
 | .str _,h=>by simp only [aG,Dl] at h
 | .lst _,h=>by simp only [aG,Dl] at h
 | .dct _ _,h=>by simp only [aG,Dl] at h
 | .ty _,h=>by simp only [aG,Dl] at h
 | .exc _,h=>by simp only [aG,Dl] at h
 | .cls _,h=>by simp only [aG,Dl] at h
 | .obj _,h=>by simp only [aG,Dl] at h
theorem j9:∀(a:List D),eO a=true->cH a a=true
 | [],h=>rfl
 | x :: a,h=>by
  simp only [eO,Bool.and_eq_true] at h;simp only [cH,Bool.and_eq_true];exact⟨gk x h.1,j9 a h.2⟩
end
section
variable {X:Cx} {pins:List (Addr×Obj)} {σ:St} {H F:Hp}
theorem vX {s:Shared} {a:Addr} {items:List Value} {A:Around} {ds:List D} {vs:List V} (hu:A.units < cLine) (hT:IsTup s.heap a items.toArray) (rv:Vals vs items) (dl:aj X.K F ds vs)
  (rec:∀(d:D) (v:V) (u:Value) (n:Nat),d∈ds->Den X.K F d v->RelV v u->ef X.prog X.w A.in1 { s with toks:=s.toks + n } u (qT d) (wo d)) :
  ef X.prog X.w A s (.ref a) (reduceHash (Builtin.Tuple.tupleHashOf (lS ds))) (oU ds + 1):=by
 intro E Q h;obtain⟨o,ho,hc,n,hd⟩:=hT;have hT:s.TypeIs (.ref a) "tuple":=⟨o,ho,hc⟩
 unfold PySem.pyHash
 first|unfold pyHashByItsType|skip
 first|refine Dk (wpAny_cRoomFor_or (.inr hu) ?_)|skip
 refine Dk (wpAny_specialOf hT PySem.F.slot_tuple_hash.lookup ?_);show wpAny _ _ (if (some (Value.builtin "tuple.__hash__") == some Value.none)=true then _ else _) Q E s
 rw [if_neg (by rw [beq_builtin_none];exact Bool.false_ne_true)];refine Dk (wpAny_specialOf hT PySem.F.slot_tuple_hash.lookup ?_);show wpAny _ _ (callSpecialIfBoundUnlessNone? (.ref a) "__hash__" _ >>= _) Q E s
 refine Dk (wpAny_callSpecialIfBoundUnlessNone?_slot hT PySem.F.slot_tuple_hash (wpAny_call_entry PySem.F.slot_tuple_hash hT PySem.F.entry_tuple_hash ?_ (PySem.F.args_tuple_hash_1 _)));show wpAny _ _ (Builtin.Tuple.tupleItemsOf (.ref a) >>= _) _ _ s
 refine Dk (wpAny_tupleItemsOf ho hd ?_);refine Dk ?_;rw [<- Array.forIn_toList]
 refine wpAny_forIn_list _
  (λrest (b:Array Int) s'=>∃done left vl,ds=done ++ left/\aj X.K F left vl/\Vals vl rest/\b.toList=lS done/\s'={ s with toks:=s.toks + oU done })
  _ ?_ ?_ _ _ ⟨[],ds,vs,rfl,dl,by simpa using rv,rfl,rfl⟩
 ·rintro x rest b s' ⟨done,left,vl,rfl,hl,hv,hb,rfl⟩
  cases hv with
  | @cons v _ vl' _ r1 hv' =>
   cases left with
   | nil=>simp only [aj] at hl;cases hl
   | cons d left' =>
    simp only [aj] at hl;obtain⟨v',r',e,hd',hl'⟩:=hl;cases e;refine Dk (rec d v x _ (by simp) hd' r1 _ _ ?_)
    first
     | exact Ds ⟨done ++ [d],left',vl',by simp,hl',hv',by simp [hb,i2],by simp [iS,Nat.add_assoc]⟩
     | exact Dk (Ds (Ds ⟨done ++ [d],left',vl',by simp,hl',hv',by simp [hb,i2],by simp [iS,Nat.add_assoc]⟩))
 ·rintro b s' ⟨done,left,vl,rfl,hl,hv,hb,rfl⟩;cases hv
  cases left with
  | cons d left'=>simp only [aj] at hl;obtain⟨_,_,e,_⟩:=hl;cases e
  | nil =>
  rw [Ea] at h;show wpAny _ _ (retInt (Builtin.Tuple.tupleHashOf b.toList)) _ _ _
  rw [hb];refine wpAny_ret_mkInt ?_;show wpAny _ _ (if (decide (-(2:Int) ^ 63<=Builtin.Tuple.tupleHashOf (lS done)) && decide (Builtin.Tuple.tupleHashOf (lS done) < 2 ^ 63))=true then _ else _) Q E _
  unfold reduceHash at h
  by_cases hr:(decide (-(2:Int) ^ 63<=Builtin.Tuple.tupleHashOf (lS done)) && decide (Builtin.Tuple.tupleHashOf (lS done) < 2 ^ 63))=true
  ·rw [if_pos hr];rw [if_pos hr] at h;exact Ds (by simpa [Nat.add_assoc] using h)
  ·rw [if_neg hr];rw [if_neg hr] at h;exact Dk (wpAny_rule (Ds (by simpa [Nat.add_assoc] using h)))
theorem vZ {s:Shared} {A:Around} (hu:A.units < cLine):ef X.prog X.w A s .none 4238894112 1:=by
 intro E Q h;have hT:s.TypeIs .none "NoneType":=rfl
 unfold PySem.pyHash
 first|unfold pyHashByItsType|skip
 first|refine Dk (wpAny_cRoomFor_or (.inr hu) ?_)|skip
 refine Dk (wpAny_specialOf hT PySem.F.slot_NoneType_hash.lookup ?_);show wpAny _ _ (if (some (Value.builtin "NoneType.__hash__") == some Value.none)=true then _ else _) Q E s
 rw [if_neg (by rw [beq_builtin_none];exact Bool.false_ne_true)];refine Dk (wpAny_specialOf hT PySem.F.slot_NoneType_hash.lookup ?_);show wpAny _ _ (callSpecialIfBoundUnlessNone? .none "__hash__" _ >>= _) Q E s
 refine Dk (wpAny_callSpecialIfBoundUnlessNone?_slot hT PySem.F.slot_NoneType_hash (wpAny_call_entry PySem.F.slot_NoneType_hash hT PySem.F.entry_NoneType_hash ?_ (PySem.F.args_NoneType_hash_1 _)));show wpAny _ _ (retInt 4238894112) _ _ _
 refine wpAny_ret_mkInt ?_;exact Ds h
mutual
theorem fY (fh:ah F H):∀(d:D) (s:Shared) (A:Around) (v:V) (u:Value),Inv X pins σ H s->aG d=true->A.units + dep d < cLine->Den X.K F d v->RelV v u->ef X.prog X.w A s u (qT d) (wo d)
 | .int i,s,A,v,u,I,hk,hu,hd,r=>by
  simp only [Den] at hd;subst hd;obtain⟨t,rfl⟩:=r;intro E Q h
  exact (bg X.prog X.w).pyHash (k:=.inl i) (nG i t) h
 | .tup ds,s,A,v,u,I,hk,hu,hd,r=>by
  simp only [Den] at hd;obtain⟨a,vs,rfl,q,dl⟩:=hd;cases r;obtain⟨its,rv,ht,hz⟩:=I.tuple (ah.bG fh q);simp only [dep] at hu
  exact vX (by omega) ht rv dl λd v u n hm hd' r'=>m9 fh ds d { s with toks:=s.toks + n } A.in1 v u (I.tok _) (by simpa only [aG] using hk) (by rw [units_in1];omega) hm hd' r'
 | .non,s,A,v,u,I,hk,hu,hd,r=>by
  simp only [Den] at hd;subst hd;cases r
  exact vZ (by simp only [dep] at hu;omega)
 | .bl _,_,_,_,_,_,hk,_,_,_=>by simp only [aG,Dl] at hk
 | .str _,_,_,_,_,_,hk,_,_,_=>by simp only [aG,Dl] at hk
 | .lst _,_,_,_,_,_,hk,_,_,_=>by simp only [aG,Dl] at hk
 | .dct _ _,_,_,_,_,_,hk,_,_,_=>by simp only [aG,Dl] at hk
 | .ty _,_,_,_,_,_,hk,_,_,_=>by simp only [aG,Dl] at hk
 | .exc _,_,_,_,_,_,hk,_,_,_=>by simp only [aG,Dl] at hk
 | .cls _,_,_,_,_,_,hk,_,_,_=>by simp only [aG,Dl] at hk
 | .obj _,_,_,_,_,_,hk,_,_,_=>by simp only [aG,Dl] at hk
theorem m9 (fh:ah F H):∀(ds:List D) (d:D) (s:Shared) (A:Around) (v:V) (u:Value),Inv X pins σ H s->eO ds=true->A.units + cZ ds < cLine->d∈ds->Den X.K F d v->RelV v u->ef X.prog X.w A s u (qT d) (wo d)
 | [],d,s,A,v,u,I,hk,hu,hm,hd,r=>by cases hm
 | x :: ds,d,s,A,v,u,I,hk,hu,hm,hd,r=>by
  simp only [eO,Bool.and_eq_true] at hk;simp only [cZ] at hu
  by_cases c:d∈ds
  ·exact m9 fh ds d s A v u I hk.2 (by omega) c hd r
  ·have:d=x:=(DD.mp hm).elim id (λe=>absurd e c);rw [this] at hd ⊢;exact fY fh x s A v u I hk.1 (by omega) hd r
end
def lC (prog:Program) (w:World) (A:Around) (s:Shared) (n:Nat) (v:Value):Prop:=∀(E:Value->Shared->Prop) (Q:Bool->Shared->Prop),Q true s->wpAny (model prog w) A (eqIsQuiet n v) Q E s
theorem ui {s:Shared} {a:Addr} {items:List Value} {A:Around} {n:Nat} (hT:IsTup s.heap a items.toArray)
  (rec:∀u∈items,lC X.prog X.w A s n u):lC X.prog X.w A s (n + 1) (.ref a):=by
 intro E Q h;obtain⟨o,ho,hc,k,hd⟩:=hT;have hT:s.TypeIs (.ref a) "tuple":=⟨o,ho,hc⟩
 unfold eqIsQuiet;refine Dk (wpAny_specialOf hT PySem.F.slot_tuple_eq.lookup ?_);show wpAny _ _ (isInstance (.ref a) (.type "tuple") >>= _) _ _ s
 refine Dk (wpAny_isInstance hT isSubtype_tuple_tuple ?_);simp only [Bool.not_true,Dl,if_false];refine Dk (wpAny_seqItems ho hd ?_);refine Dk ?_;show wpAny _ _ (forIn items.toArray _ _) _ _ s
 rw [<- Array.forIn_toList];refine wpAny_forIn_list _ (λrest r s'=>r.1=none/\s'=s/\∀v∈rest,lC X.prog X.w A s n v) _ ?_ ?_ _ _ ⟨rfl,rfl,by simpa using rec⟩
 ·rintro v rest r s' ⟨hr,rfl,hall⟩;refine Dk (hall v DC _ _ ?_);simp only [Bool.not_true,Dl,if_false];exact Ds ⟨rfl,rfl,λu hu'=>hall u (Dv _ hu')⟩
 ·rintro⟨r1,r2⟩ s' ⟨hr,rfl,_⟩;simp only at hr;subst hr;exact Ds h
mutual
theorem iU (fh:ah F H):∀(d:D) (s:Shared) (A:Around) (n:Nat) (v:V) (u:Value),Inv X pins σ H s->aG d=true->dep d<=n->Den X.K F d v->RelV v u->lC X.prog X.w A s n u
 | .int i,s,A,n,v,u,I,hk,hu,hd,r=>by
  simp only [Den] at hd;subst hd;obtain⟨t,rfl⟩:=r;intro E Q h;rw [eqIsQuiet_byValue n (v:=.int i t) rfl]
  exact Ds h
 | .tup ds,s,A,n,v,u,I,hk,hu,hd,r=>by
  simp only [Den] at hd;obtain⟨a,vs,rfl,q,dl⟩:=hd;cases r;obtain⟨its,rv,ht,hz⟩:=I.tuple (ah.bG fh q);simp only [dep] at hu
  cases n with
  | zero=>omega
  | succ n=>exact ui ht (kD fh ds s A n vs its I (by simpa only [aG] using hk) (by omega) dl rv)
 | .non,s,A,n,v,u,I,hk,hu,hd,r=>by
  simp only [Den] at hd;subst hd;cases r;intro E Q h;rw [eqIsQuiet_byValue n (v:=.none) rfl]
  exact Ds h
 | .bl _,_,_,_,_,_,_,hk,_,_,_=>by simp only [aG,Dl] at hk
 | .str _,_,_,_,_,_,_,hk,_,_,_=>by simp only [aG,Dl] at hk
 | .lst _,_,_,_,_,_,_,hk,_,_,_=>by simp only [aG,Dl] at hk
 | .dct _ _,_,_,_,_,_,_,hk,_,_,_=>by simp only [aG,Dl] at hk
 | .ty _,_,_,_,_,_,_,hk,_,_,_=>by simp only [aG,Dl] at hk
 | .exc _,_,_,_,_,_,_,hk,_,_,_=>by simp only [aG,Dl] at hk
 | .cls _,_,_,_,_,_,_,hk,_,_,_=>by simp only [aG,Dl] at hk
 | .obj _,_,_,_,_,_,_,hk,_,_,_=>by simp only [aG,Dl] at hk
theorem kD (fh:ah F H):∀(ds:List D) (s:Shared) (A:Around) (n:Nat) (vs:List V) (us:List Value),Inv X pins σ H s->eO ds=true->cZ ds<=n->aj X.K F ds vs->Vals vs us->∀u∈us,lC X.prog X.w A s n u
 | [],s,A,n,vs,us,I,hk,hu,dl,rv,u,hm=>by
  simp only [aj] at dl;subst dl
  cases rv;cases hm
 | d :: ds,s,A,n,vs,us,I,hk,hu,dl,rv,u,hm=>by
  simp only [aj] at dl;obtain⟨v,r,rfl,a,b⟩:=dl;simp only [eO,Bool.and_eq_true] at hk;simp only [cZ] at hu
  cases rv with
  | @cons _ x _ xs r1 rv' =>
   by_cases c:u∈xs
   ·exact kD fh ds s A n r xs I hk.2 (by omega) b rv' u c
   ·have:u=x:=(DD.mp hm).elim id (λe=>absurd e c);rw [this];exact iU fh d s A n v x I hk.1 (by omega) a r1
end
end
end L2.L3
namespace L2.L3
open PySem PySem.Spec PyProof.Rows
structure bO (kvs:List (D×D)):Prop where
 key:∀kv∈kvs,aG kv.1=true/\dep kv.1<=8
 dif:∀(i j:Nat) (x y:D×D),kvs[i]?=some x->kvs[j]?=some y->x.1=y.1->i=j
def qr (kvs:List (D×D)) (d:D) (j:Nat):Bool:=match kvs[j]? with
 | some kv=>aS kv.1 d
 | none=>false
section
variable {X:Cx} {pins:List (Addr×Obj)} {σ:St} {H F:Hp} {s:Shared} {kvs:List (D×D)} {us vs:List V} {p:Addr} {A:Around} {d:D} {v:V} {u:Value}
theorem fW (I:Inv X pins σ H s) {ep:Nat} {rows:List (Int×V×V)} (e:H p=some (fb p ep rows)):rows.length<=sizeLine/\(p == sysModules)=false/\∃es,bj s.heap p es ep/\Paired pk rows es.toList:=(I.hok p _ e).1
theorem eR {α β:Type} {R:α->β->Prop}:∀{xs:List α} {ys:List β} {i:Nat} {y:β},Paired R xs ys->ys[i]?=some y->∃x,xs[i]?=some x/\R x y
 | _,_,_,_,.nil,e=>by simp at e
 | _,_,0,_,.cons r _,e=>by simp at e;subst e;exact⟨_,rfl,r⟩
 | _,_,i + 1,y,.cons _ t,e=>by
  obtain⟨x,h1,h2⟩:=eR (i:=i) (y:=y) t (by simpa using e);exact⟨x,by simpa using h1,h2⟩
theorem di (d1:aj X.K F (kvs.map (·.1)) us) (d2:aj X.K F (kvs.map (·.2)) vs):(bH kvs us vs).length=kvs.length:=by
 have l1:=d1.length;have l2:=d2.length;simp only [DH] at l1 l2;unfold bH;simp only [List.length_zip,DH,<- l1,<- l2,Nat.min_self]
theorem rA (d1:aj X.K F (kvs.map (·.1)) us) (d2:aj X.K F (kvs.map (·.2)) vs) {es:Array DictEntry} (pr:Paired pk (bH kvs us vs) es.toList) {j:Nat} (hj:j < es.size) :
  ∃kv a b,kvs[j]?=some kv/\us[j]?=some a/\vs[j]?=some b/\Den X.K F kv.1 a/\Den X.K F kv.2 b/\es[j].hash=qT kv.1/\RelV a es[j].key/\RelV b es[j].val:=by
 have l:=di d1 d2;have lp:=Paired.length pr;have hk:j < kvs.length:=by rw [<- l,lp];simpa using hj
 obtain⟨row,hr,e1,e2,e3⟩:=eR pr (y:=es[j]) (i:=j) (by simp [hj]);have g0:kvs[j]?=some kvs[j]:=Dm hk;obtain⟨a,ha,da⟩:=d1.get (i:=j) (d:=kvs[j].1) (by rw [Dt,g0];rfl);obtain⟨b,hb,db⟩:=d2.get (i:=j) (d:=kvs[j].2) (by rw [Dt,g0];rfl)
 have:row=(qT kvs[j].1,a,b):=by
  unfold bH at hr;rw [List.getElem?_zip_eq_some,List.getElem?_zip_eq_some,Dt,g0] at hr;obtain⟨h1,h2,h3⟩:=hr;rw [ha] at h2;rw [hb] at h3;exact Ey (DA h1).symm (Ey (DA h2).symm (DA h3).symm)
 subst this;exact⟨_,a,b,g0,ha,hb,da,db,e1,e2,e3⟩
theorem jP (I:Inv X pins σ H s) (fh:ah F H) (ok:bO kvs) (d1:aj X.K F (kvs.map (·.1)) us) (d2:aj X.K F (kvs.map (·.2)) vs) {es:Array DictEntry} (pr:Paired pk (bH kvs us vs) es.toList)
  (hk:aG d=true) (hd:dep d<=8) (hu:A.units + 8 < cLine) (dd:Den X.K F d v) (rv:RelV v u):gK X.prog X.w A s es u (qT d) (qr kvs d):=by
 have at_:=λj hj=>rA d1 d2 pr (j:=j) hj;have mat:∀j kv,kvs[j]?=some kv->qr kvs d j=aS kv.1 d:=λj kv e=>by unfold qr;rw [e]
 have kk:∀(j:Nat) (kv:D×D),kvs[j]?=some kv->aG kv.1=true/\dep kv.1<=8:=λj kv e=>ok.key kv (Dy e);refine⟨λj hj=>?_,λj hj hm=>?_,λi j hi hj h1 h2=>?_,λj hj he=>?_,?_,λj hj=>?_,?_⟩
 ·obtain⟨kv,a,b,g0,g1,g2,da,db,e1,e2,e3⟩:=at_ j hj;rw [mat j kv g0];have:=(kk j kv g0).2;exact lV I fh kv.1 d A a v _ _ (by omega) (by omega) (by omega) da dd e2 rv
 ·obtain⟨kv,a,b,g0,g1,g2,da,db,e1,e2,e3⟩:=at_ j hj;rw [mat j kv g0] at hm;rw [e1,cp kv.1 d (kk j kv g0).1 hm hk]
 ·obtain⟨kv,_,_,g0,_⟩:=at_ i hi;obtain⟨kw,_,_,f0,_⟩:=at_ j hj;rw [mat i kv g0] at h1;rw [mat j kw f0] at h2;exact ok.dif i j kv kw g0 f0 (by rw [cp kv.1 d (kk i kv g0).1 h1 hk,cp kw.1 d (kk j kw f0).1 h2 hk])
 ·obtain⟨kv,a,b,g0,g1,g2,da,db,e1,e2,e3⟩:=at_ j hj;rw [he] at e2;have:=e2.inj rv;subst this;have k1:=(kk j kv g0).2;rw [e1,cp kv.1 d (kk j kv g0).1 (jL I fh kv.1 d a (by omega) (by omega) da dd) hk]
 ·exact iU fh d s A 8 v u I hk hd dd rv
 ·obtain⟨kv,a,b,g0,g1,g2,da,db,e1,e2,e3⟩:=at_ j hj;exact iU fh kv.1 s A 8 a _ I (kk j kv g0).1 (kk j kv g0).2 da e2
 ·cases d with
  | int i=>simp only [Den] at dd;subst dd;obtain⟨t,rfl⟩:=rv;exact .inl ⟨i,t,rfl⟩
  | tup ds=>simp only [Den] at dd;obtain⟨a,_,rfl,_⟩:=dd;cases rv;exact .inr (.inl ⟨a,rfl⟩)
  | non=>simp only [Den] at dd;subst dd;cases rv;exact .inr (.inr rfl)
  | _=>simp only [aG,Dl] at hk
def eU (kvs:List (D×D)) (d:D):Option D:=(kvs.find? λkv=>aS kv.1 d).map (·.2)
def putN (kvs:List (D×D)) (d x:D):List (D×D):=if (kvs.any λkv=>aS kv.1 d)=true then kvs.map (λkv=>if aS kv.1 d=true then (kv.1,x) else kv) else kvs ++ [(d,x)]
theorem xE (ok:bO kvs) (hk:aG d=true) {x:D} (h:eU kvs d=some x):∃(j:Nat) (kv:D×D),kvs[j]?=some kv/\aS kv.1 d=true/\kv.2=x:=by
 unfold eU at h;obtain⟨kv,h1,h2⟩:=DP.mp h;obtain⟨j,hj⟩:=Ed (List.mem_of_find?_eq_some h1);have m:=List.find?_some (p:=λkv:D×D=>aS kv.1 d) h1;exact⟨j,kv,hj,m,h2⟩
theorem yA (hu:A.units + 9 < cLine) (I:Inv X pins σ H s) (fh:ah F H) (ok:bO kvs) (d1:aj X.K F (kvs.map (·.1)) us) (d2:aj X.K F (kvs.map (·.2)) vs) {ep:Nat} (e:H p=some (fb p ep (bH kvs us vs)))
  (hk:aG d=true) (hd:dep d<=8) (dd:Den X.K F d v) (rv:RelV v u) {x:D} (hx:eU kvs d=some x) {E:Value->Shared->Prop} {Q:Value->Shared->Prop}
  (h:∀w' u' s',Inv X pins σ H s'->Den X.K F x w'->RelV w' u'->Q u' s'):wpAny (model X.prog X.w) A (getItem (.ref p) u) Q E s:=by
 obtain⟨hz,hs,es,dh,pr⟩:=fW I e;obtain⟨j,kv,g0,m0,rfl⟩:=xE ok hk hx;have lp:=Paired.length pr;rw [di d1 d2] at lp;have hj:j < es.size:=by have:=(Dh.mp g0).1;simp at lp;omega
 obtain⟨kv',a,b,g0',g1,g2,da,db,e1,e2,e3⟩:=rA d1 d2 pr hj;rw [g0] at g0';cases g0';refine pj (j:=j) (fY fh d s A.in1 v u I hk (by rw [units_in1];omega) dd rv) (jP (I.tok _) fh ok d1 d2 pr hk hd (by rw [units_in1];omega) dd rv) dh hj (by unfold qr;rw [g0];exact m0) ?_;exact h b _ _ (I.tok _) db e3
theorem A1 (hu:A.units + 9 < cLine) (I:Inv X pins σ H s) (fh:ah F H) (ok:bO kvs) (d1:aj X.K F (kvs.map (·.1)) us) (d2:aj X.K F (kvs.map (·.2)) vs) {ep:Nat} (e:H p=some (fb p ep (bH kvs us vs)))
  (hk:aG d=true) (hd:dep d<=8) (dd:Den X.K F d v) (rv:RelV v u) {E:Value->Shared->Prop} {Q:Bool->Shared->Prop}
  (h:∀s',Inv X pins σ H s'->Q (kvs.any λkv=>aS kv.1 d) s'):wpAny (model X.prog X.w) A (contains (.ref p) u) Q E s:=by
 obtain⟨hz,hs,es,dh,pr⟩:=fW I e;have lp:=Paired.length pr;rw [di d1 d2] at lp;refine oF (fY fh d s A.in1 v u I hk (by rw [units_in1];omega) dd rv) (jP (I.tok _) fh ok d1 d2 pr hk hd (by rw [units_in1];omega) dd rv) dh hs (λhno=>?_) λj hj hm=>?_
 ·have:(kvs.any λkv=>aS kv.1 d)=false:=by
   rw [List.any_eq_false];intro kv hm;obtain⟨j,hj⟩:=Ed hm;have:=hno j (by have:=(Dh.mp hj).1;simp at lp;omega);unfold qr at this;rw [hj] at this
   simpa using this
  have q:=h { s with toks:=s.toks + wo d } (I.tok _);rw [this] at q;exact q
 ·have:(kvs.any λkv=>aS kv.1 d)=true:=by
   rw [List.any_eq_true];unfold qr at hm
   cases g:kvs[j]? with
   | none=>rw [g] at hm;cases hm
   | some kv=>rw [g] at hm;exact⟨kv,Dy g,hm⟩
  have q:=h { s with toks:=s.toks + wo d } (I.tok _);rw [this] at q;exact q
end
theorem gq {α β:Type} {R:α->β->Prop}:∀{xs:List α} {ys:List β},xs.length=ys.length->(∀(i:Nat) x y,xs[i]?=some x->ys[i]?=some y->R x y)->Paired R xs ys
 | [],[],_,_=>.nil
 | [],_ :: _,h,_=>by simp at h
 | _ :: _,[],h,_=>by simp at h
 | x :: xs,y :: ys,h,f=>.cons (f 0 x y rfl rfl) (gq (by simpa using h) λi a b h1 h2=>f (i + 1) a b (by simpa using h1) (by simpa using h2))
theorem ir {kvs:List (D×D)} {us vs:List V} {i:Nat} {row:Int×V×V} (h:(bH kvs us vs)[i]?=some row):∃kv,kvs[i]?=some kv/\row.1=qT kv.1/\us[i]?=some row.2.1/\vs[i]?=some row.2.2:=by
 unfold bH at h;rw [List.getElem?_zip_eq_some,List.getElem?_zip_eq_some,Dt] at h;obtain⟨h1,h2,h3⟩:=h;obtain⟨kv,a,b⟩:=DP.mp h1;exact⟨kv,a,b.symm,h2,h3⟩
theorem wU {kvs:List (D×D)} {d x:D} {j:Nat} {kv:D×D} (ok:bO kvs) (hk:aG d=true) (hj:kvs[j]?=some kv) (hm:aS kv.1 d=true):kvs.map (λkv=>if aS kv.1 d=true then (kv.1,x) else kv)=kvs.set j (kv.1,x):=by
 apply List.ext_getElem?
 intro i;rw [Dt]
 by_cases e:j=i
 ·subst e;rw [Dn (Dh.mp hj).1,hj];simp only [Option.map_some,if_pos hm]
 ·rw [Di e]
  cases g:kvs[i]? with
  | none=>rfl
  | some kw =>
   simp only [Option.map_some];rw [if_neg];intro hw;exact e (ok.dif j i kv kw hj g (by rw [cp kv.1 d (ok.key kv (Dy hj)).1 hm hk,cp kw.1 d (ok.key kw (Dy g)).1 hw hk]))
theorem p5 {kvs:List (D×D)} {j:Nat} {kv:D×D} {x:D} (hj:kvs[j]?=some kv):(kvs.set j (kv.1,x)).map (·.1)=kvs.map (·.1):=by
 apply List.ext_getElem?
 intro i;rw [Dt,Dt]
 by_cases e:j=i
 ·subst e;rw [Dn (Dh.mp hj).1,hj];rfl
 ·rw [Di e]
theorem pR {kvs:List (D×D)} {j:Nat} {y x:D}:(kvs.set j (y,x)).map (·.2)=(kvs.map (·.2)).set j x:=by
 rw [List.map_set]
section
variable {X:Cx} {pins:List (Addr×Obj)} {σ:St} {H F:Hp} {s:Shared} {kvs:List (D×D)} {us vs:List V} {p:Addr} {A:Around} {d x:D} {v w:V} {u r:Value}
theorem yB (hu:A.units + 9 < cLine) (I:Inv X pins σ H s) (fh:ah F H) (ok:bO kvs) (d1:aj X.K F (kvs.map (·.1)) us) (d2:aj X.K F (kvs.map (·.2)) vs) {ep:Nat} (e:H p=some (fb p ep (bH kvs us vs)))
  (hk:aG d=true) (hd:dep d<=8) (dd:Den X.K F d v) (rv:RelV v u) (dx:Den X.K F x w) (rw':RelV w r) (hl:kvs.length < sizeLine) {E:Value->Shared->Prop} {Q:Unit->Shared->Prop}
  (h:∀ep' us' vs' s',aj X.K F ((putN kvs d x).map (·.1)) us'->aj X.K F ((putN kvs d x).map (·.2)) vs'->Inv X pins σ (upd H p (fb p ep' (bH (putN kvs d x) us' vs'))) s'->Q () s'):wpAny (model X.prog X.w) A (setItem (.ref p) u r) Q E s:=by
 obtain⟨hz,hs,es,dh,pr⟩:=fW I e;have lp:=Paired.length pr;have l0:=di d1 d2;rw [l0] at lp hz;have lp':kvs.length=es.size:=by simpa using lp
 have l1:=d1.length;have l2:=d2.length;simp only [DH] at l1 l2
 have ext:∀(ep':Nat) (rows:List (Int×V×V)) (h':Heap) (es':Array DictEntry),rows.length<=sizeLine->bj h' p es' ep'->Paired pk rows es'.toList->bw X.prog X.w (upd H p (fb p ep' rows)) h' p (fb p ep' rows):=λep' rows h' es' z dh' pr'=>by
  refine⟨⟨z,hs,es',dh',pr'⟩,?_,?_⟩
  ·obtain⟨o,ho,_⟩:=dh';exact⟨o,ho⟩
  ·rintro h1 h2 ⟨z,hs,es,⟨o,ho,c,dd⟩,pr⟩ k;exact⟨z,hs,es,⟨o,k _ ho,c,dd⟩,pr⟩
 have hash:=fY fh d s A.in1 v u I hk (by rw [units_in1];omega) dd rv;have find:=jP (I.tok (s.toks + wo d)) fh ok d1 d2 pr hk hd (A:=A.in1) (by rw [units_in1];omega) dd rv;refine p4 hash find dh (by omega) (λhno h' dh' sb=>?_) λj hj hm h' dh' sb=>?_
 ·have any:(kvs.any λkv=>aS kv.1 d)=false:=by
   rw [List.any_eq_false];intro kv hm;obtain⟨j,hj⟩:=Ed hm;have:=hno j (by have:=(Dh.mp hj).1;omega);unfold qr at this;rw [hj] at this
   simpa using this
  have pe:putN kvs d x=kvs ++ [(d,x)]:=by unfold putN;rw [any];rfl
  have q1:aj X.K F ((putN kvs d x).map (·.1)) (us ++ [v]):=by rw [pe,List.map_append];exact d1.append (aH dd aK)
  have q2:aj X.K F ((putN kvs d x).map (·.2)) (vs ++ [w]):=by rw [pe,List.map_append];exact d2.append (aH dx aK)
  refine h _ _ _ _ q1 q2 (gb I (by rw [e];exact True.intro) sb (let ⟨o,ho,_⟩:=dh';⟨o,ho⟩) (ext _ _ h' _ ?_ dh' ?_))
  ·rw [di q1 q2,pe];simp;omega
  ·refine gq (by rw [di q1 q2,pe];simp;omega) λi row en h1 h2=>?_;obtain⟨kv,k1,k2,k3,k4⟩:=ir h1;rw [pe] at k1;simp only [Array.toList_push] at h2
   by_cases c:i < kvs.length
   ·rw [Dw c] at k1;rw [Dw (by omega)] at k3 k4;rw [Dw (by simp;omega)] at h2;obtain⟨row',g1,g2⟩:=eR pr h2;obtain⟨kv',f1,f2,f3,f4⟩:=ir g1;rw [f1] at k1;cases k1;rw [f3] at k3;rw [f4] at k4;have:row'=row:=Ey (by rw [f2,k2]) (Ey (DA k3) (DA k4));rw [<- this];exact g2
   ·have hi:i=kvs.length:=by
     have:=(Dh.mp k1).1;simp at this;omega
    rw [hi,Dz (Du _),Nat.sub_self] at k1;rw [show i=us.length by omega,Dz (Du _),Nat.sub_self] at k3;rw [show i=vs.length by omega,Dz (Du _),Nat.sub_self] at k4;rw [show i=es.toList.length by simp;omega,Dz (Du _),Nat.sub_self] at h2;cases k1;cases h2;have a3:v=row.2.1:=DA k3;have a4:w=row.2.2:=DA k4;exact⟨k2.symm,by rw [<- a3];exact rv,by rw [<- a4];exact rw'⟩
 ·obtain⟨kv,a,b,g0,g1,g2,da,db,e1,e2,e3⟩:=rA d1 d2 pr hj;unfold qr at hm;rw [g0] at hm;have any:(kvs.any λkv=>aS kv.1 d)=true:=List.any_eq_true.mpr ⟨kv,Dy g0,hm⟩;have pe:putN kvs d x=kvs.set j (kv.1,x):=by unfold putN;rw [any,if_pos rfl];exact wU ok hk g0 hm
  have q1:aj X.K F ((putN kvs d x).map (·.1)) us:=by rw [pe,p5 g0];exact d1
  have q2:aj X.K F ((putN kvs d x).map (·.2)) (vs.set j w):=by rw [pe,pR];exact aj.set dx j d2
  refine h _ _ _ _ q1 q2 (gb I (by rw [e];exact True.intro) sb (let ⟨o,ho,_⟩:=dh';⟨o,ho⟩) (ext _ _ h' _ ?_ dh' ?_))
  ·rw [di q1 q2,pe];simp;omega
  ·refine gq (by rw [di q1 q2,pe];simp;omega) λi row en h1 h2=>?_;obtain⟨kw,k1,k2,k3,k4⟩:=ir h1;rw [pe] at k1;rw [Em,Array.getElem?_modify] at h2
   by_cases c:j=i
   ·subst c;rw [if_pos rfl,Array.getElem?_eq_getElem hj] at h2;rw [Dn (by omega)] at k1 k4;cases k1;cases h2;rw [g1] at k3;have a3:a=row.2.1:=DA k3;have a4:w=row.2.2:=DA k4;exact⟨by rw [k2];exact e1,by rw [<- a3];exact e2,by rw [<- a4];exact rw'⟩
   ·rw [if_neg c,<- Em] at h2;rw [Di c] at k1 k4;obtain⟨row',f0,f1⟩:=eR pr h2;obtain⟨kv',t1,t2,t3,t4⟩:=ir f0;rw [t1] at k1;cases k1;rw [t3] at k3;rw [t4] at k4;have:row'=row:=Ey (by rw [t2,k2]) (Ey (DA k3) (DA k4));rw [<- this];exact f1
end
section
variable {K:Dj} {B:Base} {F H F' H':Hp} {σ:St} {e:En}
theorem a6 {e:En} {i j:Nat} {l:Lo} {xs:List D} (hl:∀z,l≠.own z) (q:(e.set i (some l))[j]?=some (some (.own xs))):i≠j:=λz=>by
 subst z
 by_cases w:i < e.length
 ·rw [Dn w] at q;cases q;exact hl _ rfl
 ·rw [DG (by simpa using w)] at q;cases q
theorem kc {e:En} {i j:Nat} {l:Lo} {x:D} (hl:∀z,l≠.d z) (q:(e.set i (some l))[j]?=some (some (.d x))):i≠j:=λz=>by
 subst z
 by_cases w:i < e.length
 ·rw [Dn w] at q;cases q;exact hl _ rfl
 ·rw [DG (by simpa using w)] at q;cases q
theorem Rep.y8 (r:Rep K B F H σ e) {i:Nat} {p:Addr} (h:H p=none) (hl:i < σ.length) :
  Rep K B F (upd H p (fb p 0 [])) (σ.set i (some (.ref p))) (e.set i (some (.dic []))):=by
 have r1:=r.loose (o:=fb p 0 []) h;have hb:B.H p=none:=r.h0.free h
 have old:∀(j:Nat) (ys:List (D×D)),e[j]?=some (some (.dic ys))->σ[j]?≠some (some (.ref p)):=λj ys q z=>by
  obtain⟨q1,_,_,_,h1,h2,_⟩:=r.mv j ys q;rw [z] at h1;cases h1;rw [h] at h2;cases h2
 refine⟨r1.f0,r1.fh,r1.h0,r1.nf,λj y q=>?_,λj y q=>?_,λj k ys zs q hjk q1 q2 q3 q4=>?_,λj y q=>?_,λj k ys zs q hjk q1 q2 q3 q4=>?_⟩
 ·have z:=kc (λ_ w=>by cases w) q;rw [Di z] at q ⊢;exact r1.dv j y q
 ·have z:=a6 (λ_ w=>by cases w) q;rw [Di z] at q ⊢;exact r1.ov j y q
 ·have z1:=a6 (λ_ w=>by cases w) q1;have z2:=a6 (λ_ w=>by cases w) q2;rw [Di z1] at q1 q3;rw [Di z2] at q2 q4;exact r.ne j k ys zs q hjk q1 q2 q3 q4
 ·by_cases z:i=j
  ·subst z
   by_cases w:i < e.length
   ·rw [Dn w] at q;cases q;exact⟨p,0,[],[],Dn hl,aq,r.jw h,hb,aK,aK⟩
   ·rw [DG (by simpa using w)] at q;cases q
  ·rw [Di z] at q ⊢;exact r1.mv j y q
 ·by_cases z1:i=j
  ·subst z1;rw [Di hjk] at q2 q4;rw [Dn hl] at q3;cases q3;exact old k zs q2 q4
  ·rw [Di z1] at q1 q3
   by_cases z2:i=k
   ·subst z2;rw [Dn hl] at q4;cases q4;exact old j ys q1 q3
   ·rw [Di z2] at q2 q4;exact r.nm j k ys zs q hjk q1 q2 q3 q4
theorem Rep.nI (r:Rep K B F H σ e) {i:Nat} {p:Addr} (ep:Nat) {us vs:List V} {xs ys:List (D×D)} (h:e[i]?=some (some (.dic xs))) (hp:σ[i]?=some (some (.ref p))) (hd:aj K F (ys.map (·.1)) us) (hd':aj K F (ys.map (·.2)) vs) :
  Rep K B F (upd H p (fb p ep (bH ys us vs))) σ (e.set i (some (.dic ys))):=by
 obtain⟨p',_,_,_,h1,h2,h3,h4,_⟩:=r.mv i xs h;rw [hp] at h1;cases h1;have wl:i < e.length:=(Dh.mp h).1;have fk:∀q o,F q=some o->q≠p:=λq o z w=>by subst w;rw [h3] at z;cases z
 have bk:∀q o,B.H q=some o->q≠p:=λq o z w=>by subst w;rw [h4] at z;cases z
 have dicAt:∀(j:Nat) (zs:List (D×D)),(e.set i (some (.dic ys)))[j]?=some (some (.dic zs))->∃ws,e[j]?=some (some (.dic ws)):=λj zs q=>by
  by_cases z:i=j
  ·subst z;exact⟨xs,h⟩
  ·rw [Di z] at q;exact⟨zs,q⟩
 refine⟨r.f0,λb o z=>by rw [ar (fk b o z)];exact r.fh _ _ z,λb o z=>by rw [ar (bk b o z)];exact r.h0 _ _ z,r.nf,λj y q=>?_,λj y q=>?_,λj k as bs q hjk q1 q2 q3 q4=>?_,λj y q=>?_,λj k as bs q hjk q1 q2 q3 q4=>?_⟩
 ·have z:=kc (λ_ w=>by cases w) q;rw [Di z] at q;exact r.dv j y q
 ·have z:=a6 (λ_ w=>by cases w) q;rw [Di z] at q;obtain⟨p2,us,g1,g2,g3,g4,g5⟩:=r.ov j y q;have:p2≠p:=λw=>by subst w;rw [h2] at g2;cases g2
  exact⟨p2,us,g1,by rw [ar this];exact g2,g3,g4,g5⟩
 ·have z1:=a6 (λ_ w=>by cases w) q1;have z2:=a6 (λ_ w=>by cases w) q2;rw [Di z1] at q1;rw [Di z2] at q2;exact r.ne j k as bs q hjk q1 q2 q3 q4
 ·by_cases z:i=j
  ·subst z;rw [Dn wl] at q;cases q;exact⟨p,ep,us,vs,hp,aq,h3,h4,hd,hd'⟩
  ·rw [Di z] at q;obtain⟨p2,ep2,as,bs,g1,g2,g3,g4,g5⟩:=r.mv j y q;have:p2≠p:=λw=>by subst w;exact r.nm j i y xs p2 (Ne.symm z) q h g1 hp
   exact⟨p2,ep2,as,bs,g1,by rw [ar this];exact g2,g3,g4,g5⟩
 ·obtain⟨as',w1⟩:=dicAt j as q1;obtain⟨bs',w2⟩:=dicAt k bs q2;exact r.nm j k as' bs' q hjk w1 w2 q3 q4
def zb (kvs:List (D×D)):Dj->Hp->Addr->Prop:=λK G a=>∃ep us vs,G a=some (fb a ep (bH kvs us vs))/\aj K G (kvs.map (·.1)) us/\aj K G (kvs.map (·.2)) vs
theorem Rep.tI (r:Rep K B F H σ e) {i:Nat} {xs:List (D×D)} (h:e[i]?=some (some (.dic xs))):∃F',ah F F'/\Rep K B F' H σ (e.set i (some (.d (.obj (zb xs))))):=by
 obtain⟨p,ep,us,vs,h1,h2,h3,h4,h5,h6⟩:=r.mv i xs h;have wl:i < e.length:=(Dh.mp h).1;have s1:ah F (upd F p (fb p ep (bH xs us vs))):=aR h3;refine⟨upd F p (fb p ep (bH xs us vs)),s1,r.f0.trans s1,λb o z=>?_,r.h0,λq hq=>?_,λj y q=>?_,λj y q=>?_,λj k as bs q hjk q1 q2 q3 q4=>?_,λj y q=>?_,λj k as bs q hjk q1 q2 q3 q4=>?_⟩
 ·by_cases w:b=p
  ·subst w;rw [aq] at z;cases z;exact h2
  ·rw [ar w] at z;exact r.fh _ _ z
 ·have:q≠p:=λw=>by subst w;exact B.nb _ hq h4
  rw [ar this];exact r.nf q hq
 ·by_cases z:i=j
  ·subst z;rw [Dn wl] at q;cases q;refine⟨_,h1,?_⟩;simp only [Den];exact⟨p,rfl,λG sG=>⟨ep,us,vs,sG _ _ aq,aj.mono (s1.trans sG) _ _ h5,aj.mono (s1.trans sG) _ _ h6⟩⟩
  ·rw [Di z] at q;obtain⟨v,a,b⟩:=r.dv j y q;exact⟨v,a,Den.mono s1 _ _ b⟩
 ·have z:=a6 (λ_ w=>by cases w) q;rw [Di z] at q;obtain⟨p2,us,g1,g2,g3,g4,g5⟩:=r.ov j y q;have:p2≠p:=λw=>by subst w;rw [h2] at g2;cases g2
  exact⟨p2,us,g1,g2,by rw [ar this];exact g3,g4,aj.mono s1 _ _ g5⟩
 ·have z1:=a6 (λ_ w=>by cases w) q1;have z2:=a6 (λ_ w=>by cases w) q2;rw [Di z1] at q1;rw [Di z2] at q2;exact r.ne j k as bs q hjk q1 q2 q3 q4
 ·have z:i≠j:=aT (λ_ w=>by cases w) q;rw [Di z] at q;obtain⟨p2,ep2,as,bs,g1,g2,g3,g4,g5,g6⟩:=r.mv j y q;have:p2≠p:=λw=>by subst w;exact r.nm j i y xs p2 (Ne.symm z) q h g1 h1
  exact⟨p2,ep2,as,bs,g1,g2,by rw [ar this];exact g3,g4,aj.mono s1 _ _ g5,aj.mono s1 _ _ g6⟩
 ·have z1:=aT (λ_ w=>by cases w) q1;have z2:=aT (λ_ w=>by cases w) q2;rw [Di z1] at q1;rw [Di z2] at q2;exact r.nm j k as bs q hjk q1 q2 q3 q4
end
theorem mT {P:Program} {w:World} {H:Hp} (h:Heap) (hb:sysModules < h.objs.size):bw P w H (h.push { cls:=.type "dict",data:=.dict #[] }) h.objs.size (fb h.objs.size 0 []):=by
 have dh:=bj.new h;refine⟨⟨DZ _,beq_eq_false_iff_ne.mpr (Ne.symm (DO hb)),#[],dh,.nil⟩,?_,?_⟩
 ·obtain⟨o,ho,_⟩:=dh;exact⟨o,ho⟩
 ·rintro h1 h2 ⟨z,hs,es,⟨o,ho,c,dd⟩,pr⟩ k;exact⟨z,hs,es,⟨o,k _ ho,c,dd⟩,pr⟩
def Af:TE:=λ_ H Q=>∀p,H p=none->Q (.ref p) (upd H p (fb p 0 []))
def Bz (X:Cx) (td ty tv:TE):TS:=λD σ H=>tv σ H λv H1=>td σ H1 λx H2=>ty σ H2 λy H3=>∃p ep F kvs us vs d z,x=.ref p/\ah F H3/\bO kvs/\aj X.K F (kvs.map (·.1)) us/\aj X.K F (kvs.map (·.2)) vs/\H3 p=some (fb p ep (bH kvs us vs)) /\
 aG d=true/\dep d<=8/\Den X.K F d y/\Den X.K F z v/\kvs.length < sizeLine/\∀ep' us' vs',aj X.K F ((putN kvs d z).map (·.1)) us'->aj X.K F ((putN kvs d z).map (·.2)) vs'->D.nx σ (upd H3 p (fb p ep' (bH (putN kvs d z) us' vs')))
def AQ (X:Cx) (td ty:TE):TE:=λσ H Q=>td σ H λx H1=>ty σ H1 λy H2=>∃p ep F kvs us vs d z,x=.ref p/\ah F H2/\bO kvs/\aj X.K F (kvs.map (·.1)) us/\aj X.K F (kvs.map (·.2)) vs/\H2 p=some (fb p ep (bH kvs us vs)) /\
 aG d=true/\dep d<=8/\Den X.K F d y/\eU kvs d=some z/\∀w,Den X.K F z w->Q w H2
section
variable {X:Cx} {o i e value a b:Expr} {pos pos' tpos:Pos} {td ty tv:TE} {ta tb:TD}
theorem vc:PE X (.Dict [] [] pos) Af:=λpins s σ H Q I h =>
 wpAny_Dict_empty ⟨.ref s.heap.objs.size,_,I.laid (a:=s.heap.objs.size) (o:=fb s.heap.objs.size 0 []) (t':=s.toks) (λ_ _ q=>Dp _ q) (Du _) (mT s.heap I.big),rfl,h _ (I.hok.fresh (Du _))⟩
theorem xj (hu:X.A.units + 64 < cLine) (ho:PE X o td) (hi:PE X i ty) (hv:PE X value tv) (hs:swapsWith value (some (.Subscript o i pos')) pos.line X.env=pure false) :
  PS X (.Assign [.Subscript o i pos'] value pos) (Bz X td ty tv):=by
 intro pins s σ H D I h;refine wpAny_Assign_Subscript (bF (hv pins s σ H _ I h) λr s1 ⟨v,H1,I1,rv,q1⟩=>bF (ho pins s1 σ H1 _ I1 q1) λu s2 ⟨x,H2,I2,rx,q2⟩=>bF (hi pins s2 σ H2 _ I2 q2) λiv s3 hq=>?_) hs;obtain⟨y,H3,I3,ry,p,ep,F,kvs,us,vs,d,z,ex,fh,ok,d1,d2,e,hk,hd,dd,dz,hl,q3⟩:=hq;subst ex;obtain rfl:u=Value.ref p:=rx;exact yB (by omega) I3 fh ok d1 d2 e hk hd dd ry dz rv hl λep' us' vs' s4 e1 e2 I4=>⟨σ,_,I4,q3 ep' us' vs' e1 e2⟩
theorem rR (hu:X.A.units + 64 < cLine) (ho:PE X a td) (hi:PE X b ty) (hs:tu b):PE X (.Subscript a b pos) (AQ X td ty):=by
 intro pins s σ H Q I h;refine r9 PySem.F.slot_dict_getitem.lookup hs (bF (ho pins s σ H _ I h) λu s1 ⟨x,H1,I1,rx,q1⟩=>bF (hi pins s1 σ H1 _ I1 q1) λiv s2 hq=>?_);obtain⟨y,H2,I2,ry,p,ep,F,kvs,us,vs,d,z,ex,fh,ok,d1,d2,e,hk,hd,dd,hz,q2⟩:=hq;subst ex;obtain rfl:u=Value.ref p:=rx;refine⟨?_,yA (by omega) I2 fh ok d1 d2 e hk hd dd ry hz λw' u' s3 I3 dw rw'=>⟨w',H2,I3,rw',q2 w' dw⟩⟩;obtain⟨_,_,es,dh,_⟩:=fW I2 e
 exact dh.typeIs
def oG (i:Nat):cy:=λD env=>D.nx (env.set i (some (.dic [])))
theorem sS {x:Str} {pd:Pos} (i:Nat) (hN:X.N.Nodup) (hi:X.N[i]?=some x:=by rfl) (hx:Loc X.env.scope x:=by first|exact Or.inl rfl|exact Or.inr rfl) (hs:swapsWith (.Dict [] [] pd) (some (.Name x pos')) pos.line X.env=pure false:=by rfl)
  (hf:X.fn x=true\/X.env.scope.names.lookup x=some .local:=by first|exact .inl rfl|exact .inr rfl):QS X (.Assign [.Name x pos'] (.Dict [] [] pd) pos) (oG i):=by
 refine⟨λB σ F H env D rp h pins s I=>?_⟩;refine lg (i:=i) hN hi hx vc hs hf pins s σ H _ I λp hp=>?_;exact⟨F,_,rp.y8 hp (by rw [I.len];exact (Dh.mp hi).1),h⟩
def ic (i:Nat) (tk tv:TD):cy:=λZ env=>tv env λv=>∃kvs,env[i]?=some (some (.dic kvs))/\tk env λk=>aG k=true/\dep k<=8/\bO kvs/\kvs.length < sizeLine/\Z.nx (env.set i (some (.dic (putN kvs k v))))
theorem m7 {x:Str} {px p2:Pos} (i:Nat) (hu:X.A.units + 64 < cLine) (hb:QE X b tb) (he:QE X e ta) (hN:X.N[i]?=some x:=by rfl) (hv:rX X.env.scope x:=by first | exact Or.inl rfl | exact Or.inr (Or.inl rfl) | exact Or.inr (Or.inr rfl)) (hd:(x == ("__debug__" : Str))=false:=by decide)
  (hcd:(x == ("__classdict__" : Str))=false:=by decide) (hs:swapsWith e (some (.Subscript (.Name x px) b p2)) pos.line X.env=pure false:=by rfl):QS X (.Assign [.Subscript (.Name x px) b p2] e pos) (ic i tb ta):=by
 refine⟨λB σ F H env Z rp h=>?_⟩;refine eS (xj hu (dO hN hv hd hcd) bc bc hs) ?_;refine az (he B σ F H env _ rp h) λy H1 hq0=>?_;obtain⟨F1,d,r1,s1,d1,kvs,hx,q1⟩:=hq0;obtain⟨p,ep,us,vs,g1,g2,g3,g4,g5,g6⟩:=r1.mv i kvs hx;refine⟨.ref p,g1,?_⟩;refine az (hb B σ F1 H1 env _ r1 q1) λz H2 hq0=>?_;obtain⟨F2,d2,r2,s2,dd2,hk,hdp,ok,hl,q2⟩:=hq0;obtain⟨p',ep',us',vs',e1,e2,e3,e4,e5,e6⟩:=r2.mv i kvs hx
 rw [g1] at e1;cases e1;exact⟨p,ep',F2,kvs,us',vs',d2,d,rfl,r2.fh,ok,e5,e6,e2,hk,hdp,dd2,Den.mono s2 _ _ d1,hl,λep2 as bs f1 f2=>⟨F2,_,r2.nI ep2 hx g1 f1 f2,q2⟩⟩
def gy (i:Nat) (tk:TD):TD:=λenv Q=>∃kvs,env[i]?=some (some (.dic kvs))/\tk env λk=>∃v,aG k=true/\dep k<=8/\bO kvs/\eU kvs k=some v/\Q v
theorem kH {x:Str} {px:Pos} (i:Nat) (hu:X.A.units + 64 < cLine) (hb:QE X b tb) (hs:tu b) (hN:X.N[i]?=some x:=by rfl) (hv:rX X.env.scope x:=by first | exact Or.inl rfl | exact Or.inr (Or.inl rfl) | exact Or.inr (Or.inr rfl)) (hd:(x == ("__debug__" : Str))=false:=by decide)
  (hcd:(x == ("__classdict__" : Str))=false:=by decide):QE X (.Subscript (.Name x px) b pos) (gy i tb):=by
 refine⟨λB σ F H env Q rp h=>?_⟩;refine bK (rR hu (dO hN hv hd hcd) bc hs) ?_;obtain⟨kvs,hx,h⟩:=h;obtain⟨p,ep,us,vs,g1,g2,g3,g4,g5,g6⟩:=rp.mv i kvs hx;refine⟨.ref p,g1,?_⟩;refine az (hb B σ F H env _ rp h) λz H2 hq0=>?_;obtain⟨F2,d2,r2,s2,dd2,v,hk,hdp,ok,hl,q2⟩:=hq0;obtain⟨p',ep',us',vs',e1,e2,e3,e4,e5,e6⟩:=r2.mv i kvs hx;rw [g1] at e1;cases e1;exact⟨p,ep',F2,kvs,us',vs',d2,v,rfl,r2.fh,ok,e5,e6,e2,hk,hdp,dd2,hl,λw dw=>⟨F2,v,r2,s2,dw,q2⟩⟩
def CB (x y:D) (Q:D->Prop):Prop:=∃kvs v,x=.obj (zb kvs)/\aG y=true/\dep y<=8/\bO kvs/\eU kvs y=some v/\Q v
theorem zO (hu:X.A.units + 64 < cLine) (ha:QE X a ta) (hb:QE X b tb) (hs:tu b):QE X (.Subscript a b pos) (aM CB ta tb):=by
 refine⟨λB σ F H env Q rp h=>bK (rR hu bc bc hs) ?_⟩;refine az (ha B σ F H env _ rp h) λx H1 hq0=>?_;obtain⟨F1,d,r1,s1,d1,q1⟩:=hq0;refine az (hb B σ F1 H1 env _ r1 q1) λy H2 hq0=>?_;obtain⟨F2,d',r2,s2,d2,kvs,v,e1,hk,hd,ok,hv,q⟩:=hq0;subst e1;have d1':=Den.mono s2 _ _ d1;simp only [Den] at d1';obtain⟨p,rfl,hp⟩:=d1';obtain⟨ep,us,vs,hg,g1,g2⟩:=hp F2 (ah.refl _);exact⟨p,ep,F2,kvs,us,vs,d',v,rfl,r2.fh,ok,g1,g2,r2.fh _ _ hg,hk,hd,d2,hv,λw dw=>⟨F2,v,r2,s1.trans s2,dw,q⟩⟩
def kR (i:Nat) (t:cy):cy:=λD env=>∃xs,env[i]?=some (some (.dic xs))/\t D (env.set i (some (.d (.obj (zb xs)))))
theorem qC {st:Stmt} {t:cy} (i:Nat) (h:QS X st t):QS X st (kR i t):=by
 refine⟨λB σ F H env D rp hq=>?_⟩;obtain⟨xs,hx,q⟩:=hq;obtain⟨F',s',r'⟩:=rp.tI hx;exact h B σ F' H _ D r' q
end
section
variable {X:Cx} {a b:Expr} {ta tb:TD} {pos:Pos} {t:cy}
def B8 (X:Cx) (neg:Bool):R2:=λy x H Q=>∃p ep F kvs us vs d,x=.ref p/\ah F H/\bO kvs/\aj X.K F (kvs.map (·.1)) us/\aj X.K F (kvs.map (·.2)) vs/\H p=some (fb p ep (bH kvs us vs)) /\
 aG d=true/\dep d<=8/\Den X.K F d y/\Q (.bl (if neg then !(kvs.any λkv=>aS kv.1 d) else kvs.any λkv=>aS kv.1 d)) H
theorem xl (hu:X.A.units + 64 < cLine):iG X (compareOp .NotIn) (B8 X true):=by
 intro pins s σ H x y v u Q I rx ry h;obtain⟨p,ep,F,kvs,us,vs,d,rfl,fh,ok,d1,d2,e,hk,hd,dd,h⟩:=h;cases ry;show wpAny _ _ ((do return Value.bool (!(<- contains (.ref p) v))):Sem Value) _ _ s
 exact Dk (A1 (by omega) I fh ok d1 d2 e hk hd dd rx λs' I'=>Ds ⟨.bl _,H,I',rfl,h⟩)
end
theorem bO.nil:bO []:=⟨λ_ h=>absurd h DQ,λi j x y h=>by simp at h⟩
theorem bO.put {kvs:List (D×D)} {k v:D} (h:bO kvs) (hk:aG k=true) (hd:dep k<=8):bO (putN kvs k v):=by
 unfold putN
 by_cases c:(kvs.any λkv=>aS kv.1 k)=true
 ·rw [if_pos c];refine⟨λkv m=>?_,λi j x y hx hy e=>?_⟩
  ·obtain⟨kw,m',rfl⟩:=DB.mp m
   split
   ·exact h.key kw m'
   ·exact h.key kw m'
  ·rw [Dt] at hx hy;obtain⟨x',hx',rfl⟩:=DP.mp hx;obtain⟨y',hy',rfl⟩:=DP.mp hy;refine h.dif i j x' y' hx' hy' ?_
   split at e <;> split at e <;> exact e
 ·rw [if_neg c];have no:∀(i:Nat) (x:D×D),kvs[i]?=some x->x.1≠k:=λi x hx e=>c (List.any_eq_true.mpr ⟨x,Dy hx,by rw [e];exact gk k hk⟩);refine⟨λkv m=>?_,λi j x y hx hy e=>?_⟩
  ·rcases DM.mp m with m|m
   ·exact h.key kv m
   ·rw [DJ] at m;subst m;exact⟨hk,hd⟩
  ·have at_:∀(i:Nat) (x:D×D),(kvs ++ [(k,v)])[i]?=some x->kvs[i]?=some x\/(i=kvs.length/\x.1=k):=λi x hx=>by
    by_cases l:i < kvs.length
    ·rw [Dw l] at hx;exact .inl hx
    ·have:=(Dh.mp hx).1;have e:i=kvs.length:=by simp at this;omega
     subst e;rw [Dz (Du _),Nat.sub_self] at hx;cases hx;exact .inr ⟨rfl,rfl⟩
   rcases at_ i x hx with a|⟨a,a'⟩ <;> rcases at_ j y hy with b|⟨b,b'⟩
   ·exact h.dif i j x y a b e
   ·exact absurd (e.trans b') (no i x a)
   ·exact absurd (e.symm.trans a') (no j y b)
   ·omega
theorem lN {kvs:List (D×D)} {k k' v:D} (h:bO kvs) (hk:aG k=true) (hk':aG k'=true):eU (putN kvs k v) k'=if aS k k'=true then some v else eU kvs k':=by
 have find:∀(l:List (D×D)),(∀kv∈l,aG kv.1=true)->eU (l.map (λkv=>if aS kv.1 k=true then (kv.1,v) else kv)) k'=if aS k k'=true/\(l.any λkv=>aS kv.1 k)=true then some v else eU l k':=λl=>by
  induction l with
  | nil=>intro _;simp [eU]
  | cons x r ih =>
   intro hl;have ih':=ih λkv m=>hl kv (Dv _ m);have hx:=hl x (DC ..);unfold eU at ih' ⊢;rw [DF,List.find?_cons,List.find?_cons]
   by_cases c1:aS x.1 k=true
   ·rw [if_pos c1];have e:=cp _ _ hx c1 hk
    by_cases c2:aS x.1 k'=true
    ·simp only [c2,Option.map_some];rw [if_pos ⟨e▸c2,by rw [List.any_cons,c1];rfl⟩]
    ·have c3:¬ aS k k'=true:=λq=>c2 (e▸q);simp only [c2];rw [ih',if_neg (λq=>c3 q.1),if_neg (λq=>c3 q.1)]
   ·rw [if_neg c1]
    by_cases c2:aS x.1 k'=true
    ·have c3:¬ aS k k'=true:=λq=>c1 (by
      have e1:=cp _ _ hx c2 hk';have e2:=cp _ _ hk q hk'
      rw [e1,<- e2];exact gk k hk)
     simp only [c2,Option.map_some];rw [if_neg (λq=>c3 q.1)]
    ·simp only [c2];rw [ih',List.any_cons];have:aS x.1 k=false:=by simpa using c1
     rw [this,Bool.false_or]
 unfold putN
 by_cases c:(kvs.any λkv=>aS kv.1 k)=true
 ·rw [if_pos c,find kvs λkv m=>(h.key kv m).1];simp only [c,and_true]
 ·rw [if_neg c];unfold eU;rw [List.find?_append]
  by_cases c2:aS k k'=true
  ·rw [if_pos c2]
   have none:kvs.find? (λkv=>aS kv.1 k')=none:=by
    rw [List.find?_eq_none];intro kv m q;refine c (List.any_eq_true.mpr ⟨kv,m,?_⟩);have e1:=cp _ _ (h.key kv m).1 q hk';have e2:=cp _ _ hk c2 hk';rw [e1,<- e2];exact gk k hk
   rw [none];simp [c2]
  ·rw [if_neg c2]
   cases kvs.find? (λkv=>aS kv.1 k') with
   | some z=>rfl
   | none=>simp [c2]
theorem kF {kvs:List (D×D)} {k:D}:(kvs.any λkv=>aS kv.1 k)=(eU kvs k).isSome:=by
 unfold eU;rw [Option.isSome_map,Bool.eq_iff_iff,List.find?_isSome,List.any_eq_true]
def CO (K:Dj) (f:Fw):Sp:=λvs H Q _=>∃(F:Hp) (ds:List D) (P:D->Prop),ah F H/\aj K F ds vs/\f ds P /\
 ∀(xs:List D) (us:List V) (p:Addr) (F' H1:Hp),ah F F'->ah H H1->ah F' H1->(∀p,H p≠none->F p=none->F' p=none)->H1 p=none->aj K F' xs us->P (.lst xs)->Q (.ref p) (upd H1 p (.lst us))
structure lT (P:Program) (w:World) (K:Dj) (mg:Str->Option Value) (base:Heap) (k:Nat) (x:Str) (f:Fw):Prop where
 ex:∃(fa:Addr) (fd:FuncData) (ps:List Str),gM P w K mg base qS k fa fd ps (CO K f)/\mg x=some (.ref fa)/\PySem.W.keepIn K (.ref fa)=true/\Binds K fd ps []
theorem qE {M:Model} {A:Around} {E:Value->Shared->Prop} {s:Shared} {Q:Value->Shared->Prop} (h:wpAny M A newDict (λa s'=>a=.ref s.heap.objs.size->Q a s') E s):wpAny M A newDict Q E s:=by
 intro Γ p hΓ;have:=h Γ p hΓ;exact this rfl
theorem stored_new {kvs:List (Int×Value)} {k:Int} {y:Value} (h:k∉kvs.map (·.1)):stored kvs k y=kvs ++ [(k,y)]:=by
 unfold stored;rw [if_neg];intro c;obtain⟨kv,h1,h2⟩:=List.any_eq_true.mp c;exact h (DB.mpr ⟨kv,h1,by simpa using h2⟩)
theorem oo {FK:Value->Int->Prop} {FV:Value->Value->Prop} (hk:∀v k,FK v k->v.isInt k=true) (hv:∀v y,FV v y->y=.bool true):∀{l:List Value} {kvs:List (Int×Value)},StoredAll FK FV l kvs->∀js:List Int,Vals (js.map V.int) l->js.Nodup->kvs=js.map λj=>(j,Value.bool true):=by
 intro l kvs h
 induction h with
 | nil =>
  intro js r _
  cases js with
  | nil=>rfl
  | cons a b=>rw [DF] at r;cases r
 | @snoc l kvs v k y h1 h2 h3 ih =>
  intro js r nd;have lj:js.length=l.length + 1:=by have:=r.length;simpa using this
  obtain⟨js',j,rfl⟩:∃js' j,js=js' ++ [j]:=by
   rcases List.eq_nil_or_concat js with e|⟨a,b,e⟩
   ·rw [e] at lj;simp at lj
   ·exact⟨a,b,by rw [e,List.concat_eq_append]⟩
  have lj':js'.length=l.length:=by simpa using lj
  have nd':=Ei.mp nd
  have at_:∀(i:Nat) (a:V) (b:Value),((js' ++ [j]).map V.int)[i]?=some a->(l ++ [v])[i]?=some b->RelV a b:=λi a b e1 e2=>by
   obtain⟨b',e3,e4⟩:=r.get e1;rw [e2] at e3;cases e3;exact e4
  have r1:Vals (js'.map V.int) l:=gq (by simpa using lj') λi a b e1 e2=>by
   have hi:i < js'.length:=by have:=(Dh.mp e1).1;simpa using this
   refine at_ i a b ?_ ?_
   ·rw [List.map_append,Dw (by simpa using hi)];exact e1
   ·rw [Dw (by omega)];exact e2
  have r2:RelV (.int j) v:=by
   refine at_ l.length _ _ ?_ ?_
   ·rw [List.map_append,Dz (by simp [lj'])];simp [lj']
   ·rw [Dz (Du _)];simp
  obtain⟨t,rfl⟩:=r2
  have hkj:k=j:=by
   have:=hk _ _ h2;exact Value.isInt_inj _ _ _ this (by simp [Value.isInt])
  have:=ih js' r1 nd'.1;rw [this,hv _ _ h3,stored_new,hkj]
  ·simp
  ·rw [hkj,List.map_map];intro c;obtain⟨z,hz1,hz2⟩:=DB.mp c;have:z=j:=hz2;subst this;exact nd'.2.2 z hz1 z (by simp) rfl
section
variable {X:Cx}
theorem uc {N':List Str} {scope:Scope} {x:Str} {iter:Expr} {k1 k2 k4 pos:Pos} {j1:_} {pins:List (Addr×Obj)} {s:Shared} {σ:St} {H:Hp} {Q:Value->Shared->Prop} (hc:X.calm=true) (hnc:∀x∈scope.names,x.2≠.cell) (O:aQ X N' 1 [] scope) (hx:scope.names.lookup x=some .local)
  (hx2:(relabel scope X.env).names.lookup x=some .local) (hd:(x == ("__debug__" : Str))=false) (hs:∀v,DS iter X.env v=pure v) (I:Inv X pins σ H s)
  (hi:wpAny (model X.prog X.w) X.A (eval iter X.env) (λv s1=>∃(p:Addr) (H1:Hp) (js:List Int),v=.ref p/\Inv X pins σ H1 s1/\eY X.K H1 p (js.map V.int)/\js.Nodup/\∀(d:Addr) (h':Heap) (tk:Nat),s1.heap.objs.size<=d->h'.DictOf (intKind X.prog X.w) d (js.map λj=>(j,Value.bool true)) ->
   (∀b o,s1.heap.get? b=some o->h'.get? b=some o)->Q (.ref d) { s1 with heap:=h',toks:=tk }) X.xe s) :
  wpAny (model X.prog X.w) X.A (eval (.DictComp (.Name x k1) (.Constant (.bool true) j1 k2) [⟨.Name x k4,iter,[],0⟩] scope pos) X.env) Q X.xe s:=by
 rw [arm_eval_DictComp];refine wpAny_comprehension_free (use:=none) rfl hs (O.a5 I) O.kind O.names ?_;refine bF hi λv s1 hq0=>?_;obtain⟨p,H1,js,e,I1,hq,nd,k⟩:=hq0;subst e;obtain⟨its,rv,pl,hz⟩:=I1.list hq;have hl:=pl.isList;have hlt:p < s1.heap.objs.size:=by obtain⟨_,e,_⟩:=hl;exact Dx e
 have lz:its.length<=sizeLine:=by rw [<- rv.length];exact hz
 refine wpAny_pyIter_list hl ?_;refine qE ?_
 refine DK (comp_block_walkCD (knd:=intKind X.prog X.w) (env:=X.env) (cl:=c8 scope.names X.env.cells []) (px:=k4) (iter:=iter) (ifs:=[]) (kx:=.Name x k1) (vx:=.Constant (.bool true) j1 k2) (pos:=pos) (Walks.list (I1.ok.hd hc) s1.heap.objs.size p (DO hlt) its.toArray) (by simpa using lz) (λ_=>true) (λv k=>v.isInt k=true/\∃t,v=.int k t) (λ_ y=>y=.bool true)
  (RR:=λacc C r s'=>acc=.ref (s1.heap.objs.size + 1)->compPost (model X.prog X.w) X.A X.xe none Q acc C r s') hnc O.kind hx ⟨⟨_,DI _ rfl,rfl,rfl⟩,hl.push _⟩ ?_ ?_ ?_) (λacc s3 h hacc=>?_) (λ_ _ e=>e)
 ·intro b hb;simp only [DD,DQ,or_false] at hb;have:(s1.heap.push { cls:=.type "list_iterator",data:=.fields #[.ref p,.int 0 0] }).objs.size=s1.heap.objs.size + 1:=by simp [Heap.push]
  show b < (s1.heap.push _).objs.size
  rw [this];rcases hb with rfl|rfl
  ·exact Nat.lt_succ_self _
  ·exact Nat.lt_succ_of_lt hlt
 ·refine⟨λC i v s3 m3 E' hP hn hm hk=>?_,λC i v s3 m3 E' hP _ hn hm hk=>?_,λC i v s3 m3 E' hP _ hn hm hk=>?_⟩
  ·exact Ds ⟨rfl,s3.heap,s3.toks,rfl,λ_ _ e=>e⟩
  ·obtain⟨y,hy,ry⟩:∃y,(js.map V.int)[i]?=some y/\RelV y v:=by
    have:its[i]?=some v:=by simpa using hP
    exact eR rv this
   rw [Dt] at hy;obtain⟨n,_,rfl⟩:=DP.mp hy;obtain⟨t,rfl⟩:=ry;exact wpAny_Name (wpAny_loadName_local O.kind hx2 hn hm ⟨⟨n,by simp [intKind,Value.isInt],by simp [Value.isInt],t,rfl⟩,s3.heap,s3.toks,rfl,λ_ _ e=>e⟩) hd
  ·exact Constant_bool ⟨rfl,s3.heap,s3.toks,rfl,λ_ _ e=>e⟩
 ·intro d C h' tk m' kvs vs e1 e2 ne hns hd' hl' hP hst hk hacc;cases hacc
  have hvs:vs=its:=by
   apply List.ext_getElem?
   intro i
   by_cases c:i < vs.length
   ·have:=hP i vs[i] (Dm c);rw [Dm c]
    simpa using this.symm
   ·rw [DG (by omega),DG (by simp at hl';omega)]
  have hf:vs.filter (λ_=>true)=its:=by rw [hvs];exact List.filter_eq_self.mpr λ_ _=>rfl
  rw [hf] at hst;have hkv:=oo (λv k h=>h.1) (λ_ _ h=>h) hst js rv nd;subst hkv;have keep:∀b o,s1.heap.get? b=some o->h'.get? b=some o:=lx hk;refine⟨m',hns,λh'' hsb=>?_⟩
  have nC:∀b o,s1.heap.get? b=some o->b≠C:=λb o e z=>by
   subst z;have:=Dp { cls:=.type "list_iterator",data:=.fields #[.ref p,.int 0 0] } e
   have e2':(s1.heap.push { cls:=.type "list_iterator",data:=.fields #[.ref p,.int 0 0] }).get? b=none:=e2
   rw [this] at e2';cases e2'
  refine k _ _ _ (by omega) ?_ λb o e=>(hsb.2 b (nC b o e)).trans (keep b o e);obtain⟨o,es,ep,g1,g2⟩:=hd';exact⟨o,es,ep,(hsb.2 _ ne).trans g1,g2⟩
 ·refine DK h (λcenv s4 h4=>codeAny_mono h4 λr s' hr=>hr ?_) (λ_ _ e=>e);rw [hacc];show Value.ref (s1.heap.push _).objs.size=_
  simp [Heap.push]
def de (is:List Int):List (D×D):=is.map λi=>(D.int i,D.bl true)
def mE (is js:List Int):List Int:=js.foldl (λacc j=>if j∈acc then acc else acc ++ [j]) is
theorem pZ:∀(js is:List Int),(mE is js).length<=is.length + js.length
 | [],is=>by simp [mE]
 | j :: js,is=>by
  have:=pZ js (if j∈is then is else is ++ [j]);show (mE (if j∈is then is else is ++ [j]) js).length<=_
  by_cases c:j∈is
  ·simp only [c,if_true] at this ⊢;simp;omega
  ·simp only [c,if_false] at this ⊢;simp at this ⊢;omega
theorem jq:∀(js is:List Int),merged (is.map λi=>(i,Value.bool true)) (js.map λj=>(j,Value.bool true))=(mE is js).map λi=>(i,Value.bool true)
 | [],is=>rfl
 | j :: js,is=>by
  have:stored (is.map λi=>(i,Value.bool true)) j (Value.bool true)=(if j∈is then is else is ++ [j]).map λi=>(i,Value.bool true):=by
   by_cases c:j∈is
   ·simp only [c,if_true];unfold stored;rw [if_pos (List.any_eq_true.mpr ⟨(j,.bool true),DB.mpr ⟨j,c,rfl⟩,by simp⟩),List.map_map];apply List.map_congr_left
    intro a _;simp
   ·simp only [c,if_false];rw [stored_new (by rw [List.map_map];intro h;obtain⟨z,h1,h2⟩:=DB.mp h;have:z=j:=h2;subst this;exact c h1)];simp
  show merged (stored (is.map λi=>(i,Value.bool true)) j (Value.bool true)) (js.map λj=>(j,Value.bool true))=(mE (if j∈is then is else is ++ [j]) js).map _
  rw [this];exact jq js _
def mM (is:List Int):List (Int×V×V):=is.map λi=>(hashInt i,V.int i,V.bl true)
theorem lP {K:Dj} {F:Hp}:∀(is:List Int) {us:List V},aj K F ((de is).map (·.1)) us->us=is.map V.int
 | [],us,h=>by simpa [de,aj] using h
 | i :: is,us,h=>by
  simp only [de,DF,aj,Den] at h;obtain⟨v,r,rfl,rfl,h2⟩:=h;rw [lP is h2];rfl
theorem kJ {K:Dj} {F:Hp}:∀(is:List Int) {us:List V},aj K F ((de is).map (·.2)) us->us=is.map λ_=>V.bl true
 | [],us,h=>by simpa [de,aj] using h
 | i :: is,us,h=>by
  simp only [de,DF,aj,Den] at h;obtain⟨v,r,rfl,rfl,h2⟩:=h;rw [kJ is h2];rfl
theorem nv (is:List Int):bH (de is) (is.map V.int) (is.map λ_=>V.bl true)=mM is:=by
 induction is with
 | nil=>rfl
 | cons i is ih =>
  unfold bH de mM at ih ⊢;simp only [DF,List.zip_cons_cons,qT];rw [ih]
theorem mP {K:Dj} {F:Hp}:∀is:List Int,aj K F ((de is).map (·.1)) (is.map V.int)
 | []=>aK
 | i :: is=>aH bA (mP is)
theorem ng {K:Dj} {F:Hp}:∀is:List Int,aj K F ((de is).map (·.2)) (is.map λ_=>V.bl true)
 | []=>aK
 | i :: is=>aH eB (ng is)
theorem kb {P:Program} {w:World}:∀{is:List Int} {es:List DictEntry},Paired pk (mM is) es->Pairs (intKind P w) es (is.map λi=>(i,Value.bool true))/\∀e∈es,∃k,(intKind P w).is k e.key=true/\e.hash=(intKind P w).hash k
 | [],es,h=>by
  have:es=[]:=by cases h;rfl
  subst this;exact⟨.nil,λ_ h=>absurd h DQ⟩
 | i :: is,es,h=>by
  cases h with
  | cons r t =>
   obtain⟨h1,h2⟩:=kb (P:=P) (w:=w) t;obtain⟨r1,⟨t',r2⟩,r3⟩:=r;have k:(intKind P w).is i (Value.int i t')=true:=intKind_is P w i t';rw [<- r2] at k;refine⟨.cons k r3 h1,λe he=>?_⟩;rcases DD.mp he with rfl|he
   ·exact⟨i,k,r1⟩
   ·exact h2 e he
theorem kU {P:Program} {w:World}:∀{is:List Int} {es:List DictEntry},Pairs (intKind P w) es (is.map λi=>(i,Value.bool true))->(∀e∈es,∃k,(intKind P w).is k e.key=true/\e.hash=(intKind P w).hash k)->Paired pk (mM is) es
 | [],es,h,_=>by cases h;exact .nil
 | i :: is,es,h,hk=>by
  cases h with
  | @cons e _ es' _ h1 h2 h3 =>
   obtain⟨k,k1,k2⟩:=hk e DC;have ek:k=i:=(intKind P w).inj _ _ _ k1 h1;subst ek
   have kv:∃t,e.key=Value.int k t:=by
    have h1':Value.isInt k e.key=true:=h1
    cases hh:e.key with
    | int a t =>
     rw [hh] at h1';have:a=k:=by simp only [Value.isInt,beq_iff_eq] at h1';first|exact h1'|exact h1'.symm
     subst this;exact⟨t,rfl⟩
    | _=>rw [hh] at h1';simp [Value.isInt] at h1'
   exact .cons ⟨k2,kv,h2⟩ (kU h3 λe he=>hk e (Dv _ he))
def oX (i:Nat) (ti:TD):cy:=λZ env=>∃is,env[i]?=some (some (.dic (de is)))/\is.Nodup/\ti env λx=>∃js:List Int,x=.lst (js.map D.int)/\js.Nodup/\is.length + js.length<=sizeLine/\Z.nx (env.set i (some (.dic (de (mE is js)))))
theorem tO {x y:Str} {N':List Str} {scope:Scope} {iter:Expr} {ti:TD} {px apos cpos k1 k2 k4 k5 pos:Pos} {j1:_} (i:Nat) (hc:X.calm=true) (O:aQ X N' 1 [] scope) (he:QE X iter ti) (hy:scope.names.lookup y=some .local:=by rfl)
  (hy2:(relabel scope X.env).names.lookup y=some .local:=by rfl) (hyd:(y == ("__debug__" : Str))=false:=by decide) (hf:∀v,DS iter X.env v=pure v:=by intro _;rfl)
  (hN:X.N[i]?=some x:=by rfl) (hv:rX X.env.scope x:=by first | exact Or.inl rfl | exact Or.inr (Or.inl rfl) | exact Or.inr (Or.inr rfl)) (hd:(x == ("__debug__" : Str))=false:=by decide) (hcd:(x == ("__classdict__" : Str))=false:=by decide)
  (m:M1 X (.Name x px) "update" apos (.DictComp (.Name y k1) (.Constant (.bool true) j1 k2) [⟨.Name y k4,iter,[],0⟩] scope k5) cpos:=by exact⟨rfl,rfl,rfl,rfl⟩)
  (hs:swapsWith (.Call (.Attribute (.Name x px) "update" apos) [.DictComp (.Name y k1) (.Constant (.bool true) j1 k2) [⟨.Name y k4,iter,[],0⟩] scope k5] [] cpos) none pos.line X.env=pure false:=by rfl) (hnc:∀x∈scope.names,x.2≠.cell:=by decide +kernel) :
  QS X (.Expr (.Call (.Attribute (.Name x px) "update" apos) [.DictComp (.Name y k1) (.Constant (.bool true) j1 k2) [⟨.Name y k4,iter,[],0⟩] scope k5] [] cpos) pos) (oX i ti):=by
 refine⟨λB σ F H env Z rp h=>?_⟩;refine eS (sO bc hs) ?_;intro pins s I;obtain⟨is,hx,ndi,q0⟩:=h;obtain⟨p,ep0,us0,vs0,h1,h2,h3,h4,h5,h6⟩:=rp.mv i _ hx;refine wpAny_Call_method m.base m.few m.line PySem.F.plainAttrs_dict PySem.F.slot_dict_update PySem.F.type_dict_update (bF (dO hN hv hd hcd pins s σ H (λv H'=>v=.ref p/\H'=H) I ⟨.ref p,h1,rfl,rfl⟩) λu s1 hq0=>?_);obtain⟨x',H1,I1,rx,ex,eH⟩:=hq0
 subst ex eH;cases rx;obtain⟨_,_,es0,⟨o0,g0,c0,d0⟩,_⟩:=fW I1 h2;refine⟨⟨o0,g0,c0.1⟩,λb eb=>by cases eb;exact⟨o0,g0,c0.2.1⟩,?_⟩;rw [m.trees];refine Calls.callWith_builtin rfl (Calls.evalArgs_plain (EA ?_));refine uc hc hnc O hy hy2 hyd hf I1 (bF (he B σ F H1 env _ rp q0 pins s1 I1) λv s2 hq0=>?_);obtain⟨z,H2,I2,rz,F2,d,r2,z2,d2,js,ed,ndj,hlen,q2⟩:=hq0;subst ed;simp only [Den] at d2;obtain⟨l,vs,rfl,hq,dl⟩:=d2
 cases rz
 have hvs:vs=js.map V.int:=by
  clear hlen q2 ndj hq
  induction js generalizing vs with
  | nil=>simpa [aj] using dl
  | cons j js ih =>
   simp only [DF,aj,Den] at dl;obtain⟨v,r,rfl,rfl,dl⟩:=dl;rw [ih r dl];rfl
 subst hvs;refine⟨l,H2,js,rfl,I2,r2.fh.seq hq,ndj,λD h' tk hD hdict keep=>Calls.spliced_nil ?_⟩;have I3:Inv X pins σ H2 { s2 with heap:=h',toks:=tk }:=I2.kept (t':=tk) keep;obtain⟨p',ep,us,ws,f1,f2,f3,f4,f5,f6⟩:=r2.mv i _ hx;rw [h1] at f1;cases f1;have eu:=lP is f5;have ew:=kJ is f6;subst eu ew;rw [nv] at f2;obtain⟨hz,hsm,es,⟨o,g,c,dd⟩,pr⟩:=fW I3 f2;obtain⟨pp,kk⟩:=kb (P:=X.prog) (w:=X.w) pr;have dp:h'.DictOf (intKind X.prog X.w) p (is.map λi=>(i,Value.bool true)):=⟨o,es,ep,g,c,dd,λe he=>kk e (by simpa using he),pp,by rw [List.map_map];simpa [Function.comp_def] using ndi⟩
 have hpl:p < s2.heap.objs.size:=by
  obtain⟨_,_,_,⟨o',g',_⟩,_⟩:=fW I2 f2;exact Dx g'
 have nD:p≠D:=λz=>by subst z;exact absurd hpl (Nat.not_lt.mpr hD)
 have sD:(D == sysModules)=false:=beq_eq_false_iff_ne.mpr λz=>by
  subst z;exact absurd I2.big (Nat.not_lt.mpr hD)
 refine call_meetsIn PySem.F.slot_dict_update ⟨o,g,c.1⟩ PySem.F.entry_dict_update (PySem.F.args_dict_update_2 _ _) (meets_dict_update (intKind X.prog X.w) p D nD sD) ⟨_,_,dp,hdict,by simpa using hlen,λh'' e1 e2 sb=>?_⟩;rw [jq] at e1;obtain⟨o2,es2,ep2,g2,c2,dd2,kk2,pp2,nd2⟩:=e1;have pr2:=kU pp2 (λe he=>kk2 e (by simpa using he));have l2:=pZ js is;refine⟨.non,upd H2 p (fb p ep2 (mM (mE is js))),gb I3 (by rw [f2];exact True.intro) sb ⟨o2,g2⟩ ⟨⟨by unfold mM;rw [DH];omega,hsm,es2,⟨o2,g2,c2,dd2⟩,pr2⟩,⟨o2,g2⟩,?_⟩,rfl,F2,_,?_,q2⟩
 ·rintro h1 h2 ⟨z,hs,es,⟨o,ho,c,dd⟩,pr⟩ k;exact⟨z,hs,es,⟨o,k _ ho,c,dd⟩,pr⟩
 ·rw [<- nv];exact r2.nI ep2 hx h1 (mP _) (ng _)
end
section
variable {X:Cx} {a e:Expr} {es:List Expr} {ta te:TD} {ts:dR} {p pos apos cpos:Pos}
def gU (neg:Bool) (i:Nat) (ta:TD):TB:=λenv Q=>ta env λx=>∃kvs,env[i]?=some (some (.dic kvs))/\aG x=true/\dep x<=8/\bO kvs/\Q (if neg then !(kvs.any λkv=>aS kv.1 x) else kvs.any λkv=>aS kv.1 x)
theorem lA {x:Str} {px:Pos} (i:Nat) (hu:X.A.units + 64 < cLine) (ha:QE X a ta) (hN:X.N[i]?=some x:=by rfl) (hv:rX X.env.scope x:=by first | exact Or.inl rfl | exact Or.inr (Or.inl rfl) | exact Or.inr (Or.inr rfl)) (hd:(x == ("__debug__" : Str))=false:=by decide)
  (hcd:(x == ("__classdict__" : Str))=false:=by decide) (hm:behindInMarks .NotIn (.Name x px)=false:=by rfl):QT X (.Compare a [.NotIn] [.Name x px] pos) (gU true i ta):=by
 refine⟨λB σ F H env Q rp h=>rT (rP (xl hu) bc (dO hN hv hd hcd) hm) ?_⟩;refine az (ha B σ F H env _ rp h) λy H1 hq0=>?_;obtain⟨F1,d,r1,s1,d1,kvs,hx,l1,l2,ok,q1⟩:=hq0;obtain⟨p,ep,us,vs,g1,g2,g3,g4,g5,g6⟩:=r1.mv i kvs hx;exact⟨.ref p,g1,p,ep,F1,kvs,us,vs,d,rfl,r1.fh,ok,g5,g6,g2,l1,l2,d1,_,rfl,F1,r1,s1,q1⟩
end
def De (X:Cx) (B:Base) (Z:Ends3):Ends where
 nx:=λσ' H'=>∃F' env',Rep X.K B F' H' σ' env'/\Z.nx env'
 rt:=λv H'=>∃F' H1 p us xs,v=.ref p/\H1 p=none/\H'=upd H1 p (.lst us)/\Rep X.K B F' H1 [] []/\aj X.K F' xs us/\Z.rt (.lst xs)
 bk:=λ_ _=>False
 ct:=λ_ _=>False
structure Bd (X:Cx) (st:List Stmt) (t:cy):Prop where
 of ::
 run:∀(B:Base) (σ:St) (F H:Hp) (env:En) (D:Ends3),Rep X.K B F H σ env->t D env->wSs X st (De X B D) σ H
def sN (i:Nat):cy:=λZ env=>∃xs,env[i]?=some (some (.own xs))/\Z.rt (.lst xs)
def qq (t u:cy):cy:=λZ env=>t { nx:=u Z,rt:=λ_=>False } env
section
variable {X:Cx} {st:Stmt} {sts:List Stmt} {t u:cy} {pos:Pos}
theorem wR {x:Str} {px:Pos} (i:Nat) (hN:X.N[i]?=some x:=by rfl) (hv:rX X.env.scope x:=by first | exact Or.inl rfl | exact Or.inr (Or.inl rfl) | exact Or.inr (Or.inr rfl)) (hd:(x == ("__debug__" : Str))=false:=by decide)
  (hcd:(x == ("__classdict__" : Str))=false:=by decide):Bd X [.Return (some (.Name x px)) pos] (sN i):=by
 refine⟨λB σ F H env D rp ⟨xs,hx,q⟩=>?_⟩;obtain⟨p,vs,h1,h2,h3,h4,h5⟩:=rp.ov i xs hx;refine fB (jM (rg (dO hN hv hd hcd))) ⟨.ref p,h1,F,λb=>if b=p then none else H b,p,vs,xs,rfl,if_pos rfl,?_,?_,h5,q⟩
 ·funext b
  by_cases z:b=p
  ·subst z;rw [aq];exact h2
  ·rw [ar z,if_neg z]
 ·refine⟨rp.f0,λb o z=>?_,λb o z=>?_,rp.nf,λi x q=>by simp at q,λi x q=>by simp at q,λi j _ _ _ _ q=>by simp at q,λi x q=>by simp at q,λi j _ _ _ _ q=>by simp at q⟩
  ·have:b≠p:=λw=>by subst w;rw [h3] at z;cases z
   rw [if_neg this];exact rp.fh _ _ z
  ·have:b≠p:=λw=>by subst w;rw [h4] at z;cases z
   rw [if_neg this];exact rp.h0 _ _ z
theorem jY (h1:QS X st t) (h2:Bd X sts u):Bd X (st :: sts) (qq t u):=by
 refine⟨λB σ F H env D rp h=>?_⟩;refine fB (fO qy cO) ?_;exact jK (h1 B σ F H env _ rp h) (λσ' H' ⟨F',env',rp',q⟩=>h2.run B σ' F' H' env' D rp' q) (λ_ _ ⟨_,_,_,_,q⟩=>q.elim) (λ_ _ ⟨_,_,_,q⟩=>q.elim) (λ_ _ ⟨_,_,_,q⟩=>q.elim)
end
section
variable {P:Program} {w:World} {K:Dj} {mg:Str->Option Value} {base:Heap}
theorem l8.rj {x qual:Str} {st:Stmt} {fa:Addr} {fd:FuncData} {N ps:List Str} {k:Nat} {f:Fw} (F:l8 K x qual st fa fd) (S:aN N ps (ak st)) (hmg:mg x=some (.ref fa)) (hb:Binds K fd ps [])
  (hl:∀ds Q,f ds Q->ds.length=ps.length)
  (hbody:∀(cdv:Value) (A:Around) (outer:List Env) (s:Shared) (H:Hp) (E:XK),bR k (A.deeper (envOfC qual (ak st) s.heap.objs.size fa cdv)) ->
   ∃t:cy,Bd (fH qS P w K mg base N qual (ak st) fa cdv A outer s H E).l5 (aX st) t/\∀ds (Q:D->Prop),f ds Q->t { nx:=λ_=>False,rt:=Q } (aA N ds)) :
  lT P w K mg base (k + 1) x f:=by
 refine⟨fa,fd,ps,F.ok S (λvs H Q E h=>?_) (λcdv A outer s H vs Q E hr h=>?_),hmg,F.kp,hb⟩
 ·obtain⟨F0,ds,P,_,hd,hf,_⟩:=h;rw [<- hd.length];exact hl ds _ hf
 ·obtain⟨F0,ds,P,fh,hd,hf,kk⟩:=h;obtain⟨t,ht,hq⟩:=hbody cdv A outer s H E hr;refine⟨_,cO,?_⟩;refine hJ (ht.run _ (start N vs) F0 H (aA N ds) _ (dF fh hd) (hq ds P hf)) (λσ' H' ⟨F',env',r,q⟩=>q.elim) (λv H' ⟨F',H1,p,us,xs,e1,hp,e2,r,dd,q⟩=>?_) (λ_ _ q=>q.elim) (λ_ _ q=>q.elim);subst e1 e2;exact kk xs us p F' H1 r.f0 r.h0 r.fh (λp h1 h2=>r.nf p ⟨h1,h2⟩) hp dd q
theorem lT.known {x:Str} {k:Nat} {f:Fw} (h:lT P w K mg base k x f):Known P w K mg base k x f:=by
 obtain⟨fa,fd,ps,G,hm,hk,hb⟩:=h.ex;refine⟨fa,fd,ps,G.imp λvs H Q E ⟨F,ds,P,fh,hd,hf,kk⟩=>⟨F,ds,P,fh,hd,hf,λxs us p F' H1 a b c n hp dd q=>?_⟩,hm,hk,hb⟩;have hF:F' p=none:=c.free hp;refine kk (.lst xs) (.ref p) (upd F' p (.lst us)) (upd H1 p (.lst us)) (a.trans (aR hF)) (b.trans (aR hp)) (iX c) (λr h1 h2=>?_) (ib (eY.of aq) (aj.mono (aR hF) _ _ dd)) q
 have:r≠p:=λz=>by
  subst z
  cases e:H r with
  | none=>exact h1 e
  | some o=>rw [b _ _ e] at hp;cases hp
 rw [ar this];exact n r h1 h2
end
section
variable {X:Cx} {a b:Expr} {ta tb:TD} {p pos:Pos}
theorem zE {pins : List (Addr × Obj)} {σ : St} {H : Hp} {s : Shared} {p : Addr} {n : Int} {v : V} (I : Inv X pins σ H s) (e : H p = some (.dK [(.inl n, v)])) : ∃ ep, Inv X pins σ (upd H p (fb p ep [(hashInt n, .int n, v)])) s := by
  obtain ⟨z, hs, vs, rel, o, es, ep, g, c, dd, kk, pp, nd⟩ := (show bw X.prog X.w H s.heap p (.dK [(.inl n, v)]) from I.hok p _ e);have rel' : KV [((.inl n : Key), v)] vs := rel
  cases rel' with
  | @cons x y xs ys h t =>
    have : ys = [] := by cases t; rfl
    subst this
    have hes : ∃ en, es.toList = [en] /\ (bg X.prog X.w).is y.1 en.key = true /\ en.val = y.2 := by
      cases hh : es.toList with
      | nil => rw [hh] at pp; cases pp
      | cons en r =>
        rw [hh] at pp
        cases pp with
        | cons h1 h2 h3 => cases h3; exact ⟨en, rfl, h1, h2⟩
    obtain ⟨en, he, h1, h2⟩ := hes;have hy : y.1 = .inl n := h.1.symm
    obtain ⟨k, k1, k2⟩ := kk en (by have : en ∈ es.toList := by rw [he]; simp
                                    simpa using this)
    have ek : k = y.1 := (bg X.prog X.w).inj _ _ _ k1 h1;rw [hy] at ek h1;subst ek
    have kv : ∃ t, en.key = Value.int n t := by
      have h1' : Value.isInt n en.key = true := h1
      cases hh : en.key with
      | int a t =>
        rw [hh] at h1';have : a = n := by simp only [Value.isInt, beq_iff_eq] at h1'; first|exact h1'|exact h1'.symm
        subst this; exact ⟨t, rfl⟩
      | _ => rw [hh] at h1'; simp [Value.isInt] at h1'
    have pr : Paired pk [(hashInt n, V.int n, v)] es.toList := by
      rw [he];exact .cons ⟨k2, kv, by rw [h2]; exact h.2⟩ .nil
    refine ⟨ep, ?_⟩;have := gb (h' := s.heap) (t' := s.toks) (ob := fb p ep [(hashInt n, V.int n, v)]) I (by rw [e]; exact True.intro) (.refl ..) ⟨o, g⟩ ⟨⟨by simp [DR], hs, es, ⟨o, g, c, dd⟩, pr⟩, ⟨o, g⟩, ?_⟩
    · exact this
    · rintro h1 h2 ⟨z, hs, es, ⟨o, ho, c, dd⟩, pr⟩ k
      exact ⟨z, hs, es, ⟨o, k _ ho, c, dd⟩, pr⟩
theorem Rep.m4 {K:Dj} {B:Base} {F H:Hp} {σ:St} {e:En} (r:Rep K B F H σ e) {i:Nat} {p:Addr} (ep:Nat) {kvs:List (D×D)} {us vs:List V} (h:H p=none) (hl:i < σ.length) (hd1:aj K F (kvs.map (·.1)) us) (hd2:aj K F (kvs.map (·.2)) vs) :
  Rep K B F (upd H p (fb p ep (bH kvs us vs))) (σ.set i (some (.ref p))) (e.set i (some (.dic kvs))):=by
 have r1:=r.loose (o:=fb p ep (bH kvs us vs)) h;have hb:B.H p=none:=r.h0.free h
 have old:∀(j:Nat) (ys:List (D×D)),e[j]?=some (some (.dic ys))->σ[j]?≠some (some (.ref p)):=λj ys q z=>by
  obtain⟨q1,_,_,_,h1,h2,_⟩:=r.mv j ys q;rw [z] at h1;cases h1;rw [h] at h2;cases h2
 refine⟨r1.f0,r1.fh,r1.h0,r1.nf,λj y q=>?_,λj y q=>?_,λj k ys zs q hjk q1 q2 q3 q4=>?_,λj y q=>?_,λj k ys zs q hjk q1 q2 q3 q4=>?_⟩
 ·have z:=kc (λ_ w=>by cases w) q;rw [Di z] at q ⊢;exact r1.dv j y q
 ·have z:=a6 (λ_ w=>by cases w) q;rw [Di z] at q ⊢;exact r1.ov j y q
 ·have z1:=a6 (λ_ w=>by cases w) q1;have z2:=a6 (λ_ w=>by cases w) q2;rw [Di z1] at q1 q3;rw [Di z2] at q2 q4;exact r.ne j k ys zs q hjk q1 q2 q3 q4
 ·by_cases z:i=j
  ·subst z
   by_cases w:i < e.length
   ·rw [Dn w] at q;cases q;exact⟨p,ep,us,vs,Dn hl,aq,r.jw h,hb,hd1,hd2⟩
   ·rw [DG (by simpa using w)] at q;cases q
  ·rw [Di z] at q ⊢;exact r1.mv j y q
 ·by_cases z1:i=j
  ·subst z1;rw [Di hjk] at q2 q4;rw [Dn hl] at q3;cases q3;exact old k zs q2 q4
  ·rw [Di z1] at q1 q3
   by_cases z2:i=k
   ·subst z2;rw [Dn hl] at q4;cases q4;exact old j ys q1 q3
   ·rw [Di z2] at q2 q4;exact r.nm j k ys zs q hjk q1 q2 q3 q4
def oR (i:Nat) (tk tv:TD):cy:=λZ env=>tk env λk=>∃n:Int,k=.int n/\tv env λv=>Z.nx (env.set i (some (.dic [(.int n,v)])))
theorem tT {x:Str} {pos' pd:Pos} (i:Nat) (hN:X.N.Nodup) (ha:QE X a ta) (hb:QE X b tb) (hi:X.N[i]?=some x:=by rfl) (hx:Loc X.env.scope x:=by first|exact Or.inl rfl|exact Or.inr rfl) (hs:swapsWith (.Dict [some a] [b] pd) (some (.Name x pos')) pos.line X.env=pure false:=by rfl)
  (hf:X.fn x=true\/X.env.scope.names.lookup x=some .local:=by first|exact .inl rfl|exact .inr rfl):QS X (.Assign [.Name x pos'] (.Dict [some a] [b] pd) pos) (oR i ta tb):=by
 refine⟨λB σ F H env Z rp h pins s I=>?_⟩;have hl:i < σ.length:=by rw [I.len];exact (Dh.mp hi).1
 refine bF (lg (i:=i) hN hi hx (sA (lK bc bc oN) rfl rfl (by simp) (by simp)) hs hf pins s σ H
  { nx:=λσ' H'=>∃p n v F' d,σ'=σ.set i (some (.ref p))/\H' p=some (.dK [(.inl n,v)])/\Rep X.K B F' (λb=>if b=p then none else H' b) σ env/\Den X.K F' d v/\Z.nx (env.set i (some (.dic [(.int n,d)]))),rt:=λ_ _=>False,bk:=λ_ _=>False,ct:=λ_ _=>False } I λp hp=>?_) λf s' q=>?_
 ·have hb0:B.H p=none:=rp.h0.free hp;refine az (ha (B.guard p (.dK [])) σ F (upd H p (.dK [])) env _ (rp.guarded hp) h) λk H1 hq0=>?_;obtain⟨F1,d1,r1,s1,e1,n,ed,q1⟩:=hq0;subst ed;simp only [Den] at e1;subst e1;refine az (hb _ σ F1 H1 env _ r1 q1) λv H2 hq0=>?_;obtain⟨F2,d2,r2,s2,e2,q2⟩:=hq0;obtain⟨r3,hp2,hf2⟩:=r2.nT hb0;refine⟨hp2,[(.inl n,v)],rfl,by simp,p,n,v,F2,d2,rfl,aq,?_,e2,q2⟩
  have e:(λb=>if b=p then none else upd H2 p (.dK (d8 [] [(.inl n,v)])) b)=λb=>if b=p then none else H2 b:=by
   funext b
   by_cases z:b=p
   ·rw [if_pos z,if_pos z]
   ·rw [if_neg z,if_neg z,ar z]
  rw [e];refine⟨r3.f0,λb o z=>?_,λb o z=>?_,r3.nf,r3.dv,λj xs hj=>?_,r3.ne,λj xs hj=>?_,r3.nm⟩
  ·have:b≠p:=λw=>by subst w;rw [hf2] at z;cases z
   rw [if_neg this];exact r3.fh _ _ z
  ·have:b≠p:=λw=>by subst w;rw [hb0] at z;cases z
   rw [if_neg this];exact r3.h0 _ _ z
  ·obtain⟨p2,us,g1,g2,g3,g4,g5⟩:=r3.ov j xs hj;have:p2≠p:=λw=>by subst w;rw [hp2] at g2;cases g2
   exact⟨p2,us,g1,by rw [if_neg this];exact g2,g3,g4,g5⟩
  ·obtain⟨p2,ep,us,vs,g1,g2,g3,g4,g5,g6⟩:=r3.mv j xs hj;have:p2≠p:=λw=>by subst w;rw [hp2] at g2;cases g2
   exact⟨p2,ep,us,vs,g1,by rw [if_neg this];exact g2,g3,g4,g5,g6⟩
 ·cases f with
  | next =>
   obtain⟨σ',H',I',p,n,v,F',d,rfl,hp,r,dd,q⟩:=q;obtain⟨ep,I2⟩:=zE I' hp;refine⟨_,_,I2,F',_,?_,q⟩;have h0:(λb=>if b=p then none else H' b) p=none:=if_pos rfl
   have e:upd H' p (fb p ep [(hashInt n,V.int n,v)])=upd (λb=>if b=p then none else H' b) p (fb p ep (bH [(D.int n,d)] [V.int n] [v])):=by
    funext b
    by_cases z:b=p
    ·subst z;rw [aq,aq];rfl
    ·rw [ar z,ar z,if_neg z]
   rw [e]
   exact r.m4 (i:=i) ep h0 hl (aH bA aK) (aH dd aK)
  | brk=>obtain⟨_,_,_,q⟩:=q;exact q.elim
  | cont=>obtain⟨_,_,_,q⟩:=q;exact q.elim
  | ret u=>obtain⟨_,_,_,_,_,q⟩:=q;exact q.elim
end
variable {T:Type}
end L2.L3
namespace L2.L3
open PySem PySem.Spec PyProof.Rows
theorem rh {N P:List Str} {sc:Scope} (a:sc.kind=.function:=by rfl) (b:sc.isCoroutine=false:=by rfl) (c:sc.isGenerator=false:=by rfl) (d:N.Nodup:=by decide +kernel) (e:N.take P.length=P:=by rfl) (f:∀x∈P,sc.names.lookup x=some .local\/sc.names.lookup x=some .cell:=by decide +kernel) (g:∀y∈sc.names,y.2≠.free:=by decide +kernel):aN N P sc:=⟨a,b,c,d,e,f,g⟩
theorem _root_.L2.bR.md {j k:Nat} {A:Around} (r:bR k A) (h:j<=k:=by decide):bR j A:=r.mono h
structure cP (K:Dj) (x:Str) (st:Stmt):Prop where
 ex:∃(f:Addr) (oc:Value) (od an:Option Addr) (sl:Array (Option Value)) (kV dc pm cd ct:Value),PySem.W.nsIn K mainGlobals x=some (some (.ref f)) /\
  K.lookup f=some ⟨oc,od,.func (PySem.W.fnOf x x (cJ st) (aX st) (ak st) .none kV dc pm an cd ct),sl⟩/\PySem.W.codeIn K cd x=true/\PySem.W.keepIn K (.ref f)=true
section
variable {K:Dj} {h:Heap} {mg:Str->Option Value} {x:Str} {st:Stmt} {i:Int}
theorem cP.get {ps:List Str} (D:cP K x st) (X:K.In h) (G:h.Ns mainGlobals mg)
  (hb:∀(kV doc pm:Value) (an:Option Addr) (cdv ct:Value) (us:List Value),us.length=ps.length->bindArgs (PySem.W.fnOf x x (cJ st) (aX st) (ak st) .none kV doc pm an cdv ct) ⟨us,[]⟩=pure (ps.zip us)) :
  ∃fa fd,l8 K x x st fa fd/\mg x=some (.ref fa)/\Binds K fd ps []:=by
 obtain⟨f,oc,od,an,sl,kV,dc,pm,cd,ct,a,l,c,k⟩:=D.ex;have F:=qY l c k;exact⟨f,_,F,Eu X G a,F.binds hb⟩
theorem cP.Dc {fa:Addr} {p:Str} (D:cP K x st) (X:K.In h) (G:h.Ns mainGlobals mg) (hfa:mg x=some (.ref fa))
  (hb:∀(kV doc pm:Value) (an:Option Addr) (cdv ct:Value) (v:Value),bindArgs (PySem.W.fnOf x x (cJ st) (aX st) (ak st) .none kV doc pm an cdv ct) ⟨[v],[]⟩=pure [(p,v)]) :
  ∃fd,l8 K x x st fa fd/\∀(s:Shared) (v:Value),BindsTo s fd ⟨[v],[]⟩ [(p,v)]:=by
 obtain⟨f,oc,od,an,sl,kV,dc,pm,cd,ct,a,l,c,k⟩:=D.ex;have e:=hfa.symm.trans (Eu X G a);cases e;exact⟨_,qY l c k,λs v=>.of_eq (hb kV dc pm an cd ct v)⟩
end
theorem CY {P:List Value->Prop} (h:P []) (us:List Value) (hu:us.length=0):P us:=by
 cases us with
 | nil=>exact h
 | cons a l=>simp at hu
theorem Am {P:List Value->Prop} (h:∀a,P [a]) (us:List Value) (hu:us.length=1):P us:=by
 cases us with
 | nil=>simp at hu
 | cons a l=>exact CY (P:=λl=>P (a :: l)) (h a) l (by simpa using hu)
theorem xU {P:List Value->Prop} (h:∀a b,P [a,b]) (us:List Value) (hu:us.length=2):P us:=by
 cases us with
 | nil=>simp at hu
 | cons a l=>exact Am (P:=λl=>P (a :: l)) (h a) l (by simpa using hu)
theorem Cg {P:List Value->Prop} (h:∀a b c,P [a,b,c]) (us:List Value) (hu:us.length=3):P us:=by
 cases us with
 | nil=>simp at hu
 | cons a l=>exact xU (P:=λl=>P (a :: l)) (h a) l (by simpa using hu)
structure Df (K:Dj) (mg:Str->Option Value) (x:Str) (st:Stmt) (ps:List Str):Prop where
 ex:∃fa fd,l8 K x x st fa fd/\mg x=some (.ref fa)/\Binds K fd ps []
section
variable {P:Program} {w:World} {K:Dj} {mg:Str->Option Value} {base:Heap} {x:Str} {st:Stmt} {N ps:List Str} {k:Nat} {f:Fw} {fx:rO} {i:Int}
theorem Df.known (F:Df K mg x st ps) (S:aN N ps (ak st)) (hl:∀ds Q,f ds Q->ds.length=ps.length)
  (hbody:∀(fa:Addr) (cdv:Value) (A:Around) (outer:List Env) (s:Shared) (H:Hp) (E:XK),bR k (A.deeper (envOfC x (ak st) s.heap.objs.size fa cdv)) ->
   ∃t,pT (fH qS P w K mg base N x (ak st) fa cdv A outer s H E).l5 (aX st) t/\∀ds (Q:D->Prop),f ds Q->t { nx:=λ_=>Q .non,rt:=Q } (aA N ds)):Known P w K mg base (k + 1) x f :=
 let ⟨fa,_,F,m,b⟩:=F.ex;l8.known F S m b hl (hbody fa)
theorem Df.qI (F:Df K mg x st ps) (S:aN N ps (ak st)) (hl:∀ds Q R,fx ds Q R->ds.length=ps.length)
  (hbody:∀(fa:Addr) (cdv:Value) (A:Around) (outer:List Env) (s:Shared) (H:Hp) (E:XK),bR k (A.deeper (envOfC x (ak st) s.heap.objs.size fa cdv)) ->
   ∃t,Aw (fH (xV P w) P w K mg base N x (ak st) fa cdv A outer s H E) (aX st) t/\∀ds (Q:D->Prop) (R:Str->Prop),fx ds Q R->t { nx:=λ_=>Q .non,rt:=Q,xc:=R } (aA N ds)):ez P w K mg base (k + 1) x fx :=
 let ⟨fa,_,F,m,b⟩:=F.ex;l8.qI F S m b hl (hbody fa)
theorem Df.rj (F:Df K mg x st ps) (S:aN N ps (ak st)) (hl:∀ds Q,f ds Q->ds.length=ps.length)
  (hbody:∀(fa:Addr) (cdv:Value) (A:Around) (outer:List Env) (s:Shared) (H:Hp) (E:XK),bR k (A.deeper (envOfC x (ak st) s.heap.objs.size fa cdv)) ->
   ∃t:cy,Bd (fH qS P w K mg base N x (ak st) fa cdv A outer s H E).l5 (aX st) t/\∀ds (Q:D->Prop),f ds Q->t { nx:=λ_=>False,rt:=Q } (aA N ds)):lT P w K mg base (k + 1) x f :=
 let ⟨fa,_,F,m,b⟩:=F.ex;l8.rj F S m b hl (hbody fa)
end
open PySem PySem.Spec PyProof.Rows PySem.W
theorem nU {a b:Int} {t u:Tok} {c:Value}:∀(l:List Value),TriplesOk l->TriplesOk (l ++ [.int a t,.int b u,c]):=by
 intro l
 fun_induction TriplesOk l with
 | case1=>intro _;trivial
 | case2 i t j u c rest ih=>intro h;exact ih h
 | case3 l h1 h2=>intro h;exact h.elim
theorem rE {pos:Pos} {a b:Int} {t u:Tok} {c cv:Value}:∀(l:List Value),TriplesOk l->codeAmong pos (l ++ [.int a t,.int b u,c])=some cv->codeAmong pos l=some cv\/cv=c:=by
 intro l
 fun_induction TriplesOk l with
 | case1 =>
  intro _ h;simp only [List.nil_append,codeAmong] at h
  split at h
  ·cases h;exact .inr rfl
  ·cases h
 | case2 i t j u c rest ih =>
  intro h z;simp only [List.cons_append,codeAmong] at z ⊢
  split at z
  ·rename_i q;rw [if_pos q];exact .inl z
  ·rename_i q;rw [if_neg q];exact ih h z
 | case3 l h1 h2=>intro h;exact h.elim
def iB (oc:Obj) (q:Str):Prop:=∃vs t,oc.data=.fields vs/\vs[1]?=some (.str q t)
theorem iB.rec {h:Heap} {c:Addr} {oc:Obj} {q:Str} (x:iB oc q) (e:h.get? c=some oc):h.CodeRec (.ref c) q:=let ⟨vs,t,d,v⟩:=x;⟨c,oc,vs,t,rfl,e,d,v⟩
section
variable {X:Cx} {pins:List (Addr×Obj)} {σ:St} {H:Hp} {s:Shared} {c P:Addr} {qual:Str}
def Made (H:Hp) (q:Str) (f c':Addr) (oc fo:Obj) (H':Hp):Prop:=H f=none/\H' f=some (.frz fo (.cdr c' q))/\H' c'=some (.frz oc (.own c'))/\iB oc q/\ah H H'
theorem _root_.L2.Inv.Az (I:Inv X pins σ H s) (hP:H P=some (.mw qual)) {ps:Array Value} (hps:s.heap.get? P=some (tabObj ps)) (htr:TriplesOk ps.toList) (hcs:∀pos cv,codeAmong pos ps.toList=some cv->∃c oc vs t,cv=.ref c/\H c=some (.frz oc (.own c))/\oc.data=.fields vs/\vs[1]?=some (.str qual t))
  {a b:Int} {t u:Tok} {c':Addr} {h':Heap} {fo:Obj} {tk:Nat} (hx:Heap.ExtBut P s.heap h') (hge:s.heap.objs.size<=c') (hlt:c' < h'.objs.size) (hrec:h'.CodeRec (.ref c') qual) (htb:h'.get? P=some (tabObj (ps ++ #[.int a t,.int b u,.ref c'])))
  (hfo:Obj.isFreed fo=false) :
  ∃oc H',Made H qual h'.objs.size c' oc fo H'/\Inv X pins σ H' { s with heap:=h'.push fo,toks:=tk }:=by
 obtain⟨c2,oc,vs,tt,e2,hoc,hd,hv⟩:=hrec;cases e2;have sz:s.heap.objs.size<=h'.objs.size:=Ej hge (Ep hlt);have nc:H c'=none:=I.hok.fresh hge;have nf:H h'.objs.size=none:=I.hok.fresh sz;have fc:h'.objs.size≠c':=Nat.ne_of_gt hlt
 let H1:Hp:=upd H c' (.frz oc (.own c'))
 have nf1:H1 h'.objs.size=none:=by show upd H c' _ _=none;rw [ar fc];exact nf
 let H2:Hp:=upd H1 h'.objs.size (.frz fo (.cdr c' qual))
 have s1:ah H H1:=aR nc;have s2:ah H1 H2:=aR nf1;have s12:=s1.trans s2;have hcP:c'≠P:=λz=>by rw [z] at nc;rw [nc] at hP;cases hP
 have hfP:h'.objs.size≠P:=λz=>by rw [z] at nf;rw [nf] at hP;cases hP
 have nP:∀x,H x=none->x≠P:=λx z w=>by rw [w,hP] at z;cases z
 have keep:∀x o,x≠P->s.heap.get? x=some o->(h'.push fo).get? x=some o:=λx o n e=>Dp _ (hx x o n e);have gP:(h'.push fo).get? P=some (tabObj (ps ++ #[.int a t,.int b u,.ref c'])):=Dp _ htb;have gc:(h'.push fo).get? c'=some oc:=Dp _ hoc;have gf:(h'.push fo).get? h'.objs.size=some fo:=DI _ hfo;have other:∀x,x≠c'->x≠h'.objs.size->H2 x=H x:=λx n1 n2=>by show upd H1 _ _ _=_;rw [ar n2];show upd H _ _ _=_;rw [ar n1]
 refine⟨oc,H2,⟨nf,aq,s2 _ _ aq,⟨vs,tt,hd,hv⟩,s12⟩,I.un (t':=tk) ⟨λx o e n _ _=>keep x o (nP x n) e,λx o e n _ _=>⟨o.slots,keep x o (nP x n) e⟩,λx o e n _=>?_,λx o e _=>?_,λx xs q=>s12 _ _ q,λx o xs q=>s12 _ _ q,λx q e=>s12 _ _ e⟩ λx o e=>?_⟩
 ·have hl:=Dx e;rw [other x (DO (Dr hl hge)) (DO (Dr hl sz))];exact n
 ·by_cases z:x=P
  ·exact⟨_,by rw [z];exact gP⟩
  ·exact⟨o,keep x o z e⟩
 ·by_cases z1:x=h'.objs.size
  ·subst z1;have e':some (HO.frz fo (.cdr c' qual))=some o:=aq.symm.trans e;cases e';exact⟨gf,⟨fo,gf⟩,oc,vs,tt,s2 _ _ aq,hd,hv⟩
  ·by_cases z2:x=c'
   ·subst z2;have e':some (HO.frz oc (.own x))=some o:=(s2 _ _ aq).symm.trans e;cases e';exact⟨gc,oc,gc⟩
   ·rw [other x z2 z1] at e
    by_cases z:x=P
    ·subst z;rw [hP] at e;cases e;refine⟨_,gP,?_,λpos cv hc=>?_⟩
     ·have:=nU (a:=a) (b:=b) (t:=t) (u:=u) (c:=.ref c') ps.toList htr
      simpa using this
     ·have hc':codeAmong pos (ps.toList ++ [.int a t,.int b u,.ref c'])=some cv:=by simpa using hc
      rcases rE ps.toList htr hc' with q|q
      ·obtain⟨c,oc',vs',t',e1,e3,e4⟩:=hcs pos cv q;exact⟨c,oc',vs',t',e1,s12 _ _ e3,e4⟩
      ·exact⟨c',oc,vs,tt,q,s2 _ _ aq,hd,hv⟩
    ·refine (I.hok x o e).qf (λy v hy q=>keep y v (λw=>?_) q) (λy q=>s12 _ _ q) (λy xs q=>s12 _ _ q) λy o' xs q=>s12 _ _ q;rcases hy with w'|w'
     ·exact z (w'.symm.trans w)
     ·rw [w,hP] at w';cases w'
theorem _root_.L2.Inv.AW (I:Inv X pins σ H s) {c':Addr} {oc fo:Obj} {h':Heap} {tk:Nat} (hc:H c'=some (.frz oc (.own c'))) (hq:iB oc qual) (hk:∀b o,s.heap.get? b=some o->h'.get? b=some o) (sz:s.heap.objs.size<=h'.objs.size) (hfo:Obj.isFreed fo=false) :
  ∃H',Made H qual h'.objs.size c' oc fo H'/\Inv X pins σ H' { s with heap:=h'.push fo,toks:=tk }:=by
 have nf:H h'.objs.size=none:=I.hok.fresh sz;have gf:(h'.push fo).get? h'.objs.size=some fo:=DI _ hfo;obtain⟨vs,tt,hd,hv⟩:=hq;exact⟨_,⟨nf,aq,aR nf _ _ hc,⟨vs,tt,hd,hv⟩,aR nf⟩,I.laid (a:=h'.objs.size) (o:=.frz fo (.cdr c' qual)) (t':=tk) (λb u e=>Dp _ (hk b u e)) sz ⟨gf,⟨fo,gf⟩,oc,vs,tt,aR nf _ _ hc,hd,hv⟩⟩
theorem ve {E:Value->Shared->Prop} {Q:Value->Shared->Prop} {M:Model} {A:Around} {name:Str} {params:Arguments} {body:List Stmt} {scope:Scope} {pos:Pos} {line:Nat} {a5:List (Str×Addr)} (I:Inv X pins σ H s) (hcode:X.env.code=.ref c) (C:CodeHd X.base c P) (hq:tq X.K P=some qual)
  (hcl:closureFor scope X.env=pure a5)
  (h:∀f c' pm dc ctv oc H' s',Made H qual f c' oc (fnMade name qual params body scope a5 dc pm c' ctv) H'->Inv X pins σ H' s'->Q (.ref f) s') :
  wpAny M A (makeFunction name qual params (.stmts body) scope X.env [] [] [] pos line) Q E s:=by
 have hP:=I.tb P qual hq;obtain⟨ps,hps,htr,hcs⟩:=I.hok P _ hP;obtain⟨bm,ob,b1,b2,b3,b4,b5,b6⟩:=I.mod.bm;have hg:=I.mod.glob.keeps I.bk
 have hgP:mainGlobals≠P:=λz=>by
  obtain⟨o,es,ep,e,hd,_⟩:=I.mod.glob;have n:=(I.bs _ _ e).2;rw [z,hP] at n;cases n
 have hbP:bm≠P:=λz=>by
  have n:=(I.bs _ _ b3).2;rw [z,hP] at n;cases n
 have hbG:bm≠mainGlobals:=λz=>by
  obtain⟨o,es,ep,e,hd,_⟩:=I.mod.glob;rw [z,e] at b3;cases b3;rw [hd] at b6;cases b6
 have hB:s.heap.BuiltinsAt X.mg P:=⟨bm,ob,b1,b2,hbG,hbP,I.bk _ _ b3,b4,b5,b6⟩
 cases ha:codeAmong pos ps.toList with
 | none =>
  refine makeFunction_K hcl I.ok.glob hg hcode (C.keeps I.bk) hps htr ha hgP hB λc' ctv dc h' tk hx hge hlt hrec htb=>?_;obtain⟨oc,H',m,I'⟩:=I.Az (fo:=fnMade name qual params body scope a5 dc ((X.mg "__name__").getD .none) c' ctv) (tk:=tk) hP hps htr hcs hx hge hlt hrec htb rfl
  exact h _ c' _ dc ctv oc H' _ m I'
 | some cv =>
  obtain⟨c',oc,vs,t,rfl,hc,hd,hv⟩:=hcs pos cv ha;refine makeFunction_hit hcl I.ok.glob hg hcode (C.keeps I.bk) hps htr ha hB λctv dc h' tk hk hsz=>?_;obtain⟨H',m,I'⟩:=I.AW (fo:=fnMade name qual params body scope a5 dc ((X.mg "__name__").getD .none) c' ctv) (tk:=tk) hc ⟨vs,t,hd,hv⟩ hk hsz rfl
  exact h _ c' _ dc ctv oc H' _ m I'
end
structure gO (P:Program) (w:World) (K:Frag) (mg:Str->Option Value) (base:Heap) (k:Nat) (Pf:Frag->Hp->Addr->Prop) (φ:Fw):Prop where
 here:∀(H:Hp) (h:Heap) (a:Addr),Pf K H a->gC P w H h->FnAt a h
 run:∀(F:Hp) (a:Addr) (A:Around) (outer:List Env) (s:Shared) (H:Hp) (us:List Value) (vs:List V) (ds:List D) (Pd:D->Prop) (Q:VK) (E:XK),(∀G,ah F G->Pf K G a)->bR k A->rD P w K mg base A outer s H->ah F H->aj K F ds vs->Vals vs us->φ ds Pd ->
  (∀(d:D) (v:V) (F' H':Hp),ah F F'->ah H H'->ah F' H'->(∀p,H p≠none->F p=none->F' p=none)->Den K F' d v->Pd d->Q v H') ->
  codeAny (model P w) A (.call (.ref a) ⟨us,[]⟩) (CR qS outer P w H s Q E) s
def qQ (i:Nat) (Pf:Frag->Hp->Addr->Prop) (φ:Fw) (ts:dR):TD:=λenv Q=>env[i]?=some (some (.d (.obj Pf)))/\ts env λds=>φ ds Q
section
variable {X:Cx} {e:Expr} {es:List Expr} {ts:dR} {p pos:Pos} {x:Str} {k:Nat} {φ:Fw} {Pf:Frag->Hp->Addr->Prop}
theorem wJ (i:Nat) (h:gO X.prog X.w X.K X.mg X.base k Pf φ) (hr:bR k X.A) (ha:QA X (e :: es) ts) (hN:X.N[i]?=some x:=by rfl) (hv:rX X.env.scope x:=by first | exact Or.inl rfl | exact Or.inr (Or.inl rfl) | exact Or.inr (Or.inr rfl)) (hd:(x == ("__debug__" : Str))=false:=by decide)
  (hcd:(x == ("__classdict__" : Str))=false:=by decide)
  (he:starEach (e :: es) X.env=(false,eval e X.env) :: starEach es X.env:=by exact bh rfl) (hpl:(backTo pos (starEach es X.env)).any (·.1)=false:=by rfl):QE X (.Call (.Name x p) (e :: es) [] pos) (qQ i Pf φ ts):=by
 refine⟨λB σ F H env Q rp hq pins s I=>?_⟩;obtain⟨hi,hq⟩:=hq;obtain⟨v,hv',hdn⟩:=rp.dv i _ hi;simp only [Den] at hdn;obtain⟨a,rfl,hP⟩:=hdn;refine wpAny_Call_Name_kw (bF (dO (pos:=p) hN hv hd hcd pins s σ H (λv H'=>v=.ref a/\H'=H) I ⟨.ref a,hv',rfl,rfl⟩) λu s1 hq0=>?_);obtain⟨v,H1,I1,r,ev,eH⟩:=hq0;subst ev;subst eH;obtain rfl:u=Value.ref a:=r;refine callWith_F (first:=[]) (h.here H1 _ a (hP H1 rp.fh) I1.hok) (bF (ha B σ F H1 env _ rp hq pos pins s1 I1) λus s2 hq1=>?_) he hpl
 obtain⟨vs,H2,I2,rv,F2,ds,r2,s2',d2,hf⟩:=hq1;have hP2:∀G,ah F2 G->Pf X.K G a:=λG sG=>hP G (s2'.trans sG);refine⟨h.here H2 _ a (hP2 H2 r2.fh) I2.hok,?_⟩;refine wpAny_call (codeAny_mono (h.run F2 a X.A X.stack s2 H2 us vs ds Q (RV X B σ env F Q) E0 hP2 hr I2.b8 r2.fh d2 rv hf λd v F' H' a b c n hd q=>⟨F',d,r2.ext a c b n,s2'.trans a,hd,q⟩) λr s' hq=>?_)
 cases r with
 | error e=>exact False.elim hq
 | ok fl =>
  cases fl with
  | ret u=>exact I2.after hq
  | next=>exact False.elim hq
  | brk=>exact False.elim hq
  | cont=>exact False.elim hq
end
structure Cm (h:Heap) (a5:List (Str×Addr)) (cn:List Str) (ws:List V):Prop where
 len:ws.length=cn.length
 inj:∀x y c,a5.lookup x=some c->a5.lookup y=some c->x=y
 cell:∀x c,a5.lookup x=some c->∃v,h.IsCell c v
 has:∀(i:Nat) x v,cn[i]?=some x->ws[i]?=some v->∃u c,RelV v u/\a5.lookup x=some c/\h.IsCell c (some u)
structure Bo (scope:Scope) (ps cn:List Str):Prop where
 kind:scope.kind=.function
 co:scope.isCoroutine=false
 gen:scope.isGenerator=false
 cell:∀y∈scope.names,y.2≠.cell
 fr:∀y∈scope.names,y.2=.free->y.1∈cn
 par:∀x∈ps,scope.names.lookup x=some .local
 cap:∀x∈cn,scope.names.lookup x=some .free
 nd:(ps ++ cn).Nodup
theorem C7 {scope:Scope} {ps cn:List Str} (a:scope.kind=.function:=by rfl) (b:scope.isCoroutine=false:=by rfl) (c:scope.isGenerator=false:=by rfl) (d:∀y∈scope.names,y.2≠.cell:=by decide +kernel) (e:∀y∈scope.names,y.2=.free->y.1∈cn:=by decide +kernel)
  (f:∀x∈ps,scope.names.lookup x=some .local:=by decide +kernel) (g:∀x∈cn,scope.names.lookup x=some .free:=by decide +kernel) (h:(ps ++ cn).Nodup:=by decide +kernel):Bo scope ps cn:=⟨a,b,c,d,e,f,g,h⟩
abbrev AX (P:Program) (w:World) (K:Frag) (mg:Str->Option Value) (base:Heap) (N:List Str) (qual:Str) (scope:Scope) (f c':Addr) (a5:List (Str×Addr)) (A:Around) (outer:List Env) (s:Shared) (H:Hp):Cx where
 prog:=P
 w:=w
 K:=K
 mg:=mg
 base:=base
 A:=A.deeper (envX qual scope s.heap.objs.size f (.ref c') a5)
 N:=N
 s₀:=s
 H₀:=H
 env:=envX qual scope s.heap.objs.size f (.ref c') a5
 outer:=outer
 stack:=envX qual scope s.heap.objs.size f (.ref c') a5 :: outer
 ex:=[]
 calm:=true
 fn:=λ_=>false
 pn:=[]
 xe:=λ_ _=>False
theorem fK:∀{ps:List Str} {us:List Value} {x:Str} {u:Value} {i:Nat},ps.Nodup->ps[i]?=some x->us[i]?=some u->(ps.zip us).reverse.lookup x=some u
 | [],_,_,_,_,_,h,_=>by simp at h
 | _ :: _,[],_,_,_,_,_,h=>by simp at h
 | y :: ps,v :: us,x,u,i,nd,h1,h2=>by
  rw [List.zip_cons_cons,List.reverse_cons,List.lookup_append]
  cases i with
  | zero =>
   simp at h1 h2;subst h1;subst h2
   have:(ps.zip us).reverse.lookup y=none:=by
    rw [List.lookup_eq_none_iff];intro p hp;rw [List.mem_reverse] at hp;obtain⟨a,b⟩:=p;have hm:=(List.of_mem_zip hp).1;simp only [bne_iff_ne,beq_eq_false_iff_ne,ne_eq];exact λw=>(Ee.mp nd).1 (by rw [w];exact hm)
   rw [this]
   simp [List.lookup]
  | succ i =>
   rw [fK (i:=i) (Ee.mp nd).2 (by simpa using h1) (by simpa using h2)];rfl
section
variable {P:Program} {w:World} {K:Frag} {mg:Str->Option Value} {base:Heap} {qual:Str} {params:Arguments} {scope:Scope} {a5:List (Str×Addr)} {ps cn:List Str} {ws:List V} {caps:List D} {k:Nat} {A:Around} {outer:List Env} {s:Shared} {H:Hp}
theorem rJ {f c':Addr} {us:List Value} {vs:List V} {h1:Heap} {tk:Nat} (S:Bo scope ps cn) (CL:Cm base a5 cn ws) (hfr:∀x c,a5.lookup x=some c->x∈cn) (hd:A.handled=none) (e0:rD P w K mg base A outer s H) (hl:vs.length=ps.length) (r:Vals vs us)
  (hns:h1.Ns s.heap.objs.size λx=>(ps.zip us).reverse.lookup x) (hk1:∀b o,s.heap.get? b=some o->h1.get? b=some o) :
  Inv (AX P w K mg base (ps ++ cn) qual scope f c' a5 A outer s H) [] (start (ps ++ cn) (vs ++ ws)) H { s with heap:=h1,toks:=tk }:=by
 have noA:∀b:Addr,b∉(AX P w K mg base (ps ++ cn) qual scope f c' a5 A outer s H).ex:=λb z=>absurd (show b∈([]:List Addr) from z) (by simp);have cellB:∀c v,base.IsCell c v->h1.IsCell c v/\H c=none:=λc v ⟨o,ho,hd⟩=>⟨⟨o,hk1 _ _ (e0.bs c o ho).1,hd⟩,(e0.bs c o ho).2⟩
 have stE:start (ps ++ cn) (vs ++ ws)=(vs ++ ws).map some:=by
  unfold start;rw [show (ps ++ cn).length - (vs ++ ws).length=0 by rw [DN,DN,hl,CL.len];omega];simp
 refine⟨⟨e0.mod,S.kind,rfl,rfl,Du _,λy z c h1 h2=>CL.inj y z c h1 h2,λy hy=>?_,λy c z _=>(by cases z),λ_=>hd,Around.frames_deeper e0.frames,.inr ⟨rfl,rfl⟩,λb z=>absurd z (noA b),e0.bs,e0.bsz,λb _ _=>noA b,λb z=>absurd z (noA b),e0.iO,e0.frf⟩,
  rfl,e0.bare,Un.kept hk1,⟨_,hns,λi y v h1 h2 h3=>?_⟩,λy c h=>?_,e0.hok.fresh (Du _),λy c h=>?_,λp hp=>absurd (show p∈([]:List (Addr×Obj)) from hp) (by simp),e0.hok.kept hk1,?_⟩
 ·have hy:scope.names.lookup y=some .cell\/scope.names.lookup y=some .free:=hy;rcases hy with hy|hy
  ·exact absurd rfl (S.cell _ (PySem.mem_of_lookup hy))
  ·have hm:=S.fr _ (PySem.mem_of_lookup hy) rfl;obtain⟨i,hi⟩:=List.mem_iff_getElem?.mp hm;have hlt:i < ws.length:=by rw [CL.len];exact (Dh.mp hi).1
   obtain⟨u,c,_,e,_⟩:=CL.has i _ _ hi (Dm hlt);exact⟨c,e⟩
 ·rw [stE,Dt] at h2
  have ha:(vs ++ ws)[i]?=some v:=by
   cases e:(vs ++ ws)[i]? with
   | none=>rw [e] at h2;cases h2
   | some a=>rw [e] at h2;cases h2;rfl
  have h1':(ps ++ cn)[i]?=some y:=h1
  by_cases hi:i < ps.length
  ·rw [Dw hi] at h1';rw [Dw (by omega)] at ha;obtain⟨u,hu,rv⟩:=r.get ha;refine⟨u,rv,.inl ⟨S.par y (Dy h1'),?_⟩⟩;exact fK (S.nd.sublist (List.sublist_append_left _ _)) h1' hu
  ·rw [Dz (by omega)] at h1';rw [Dz (by omega)] at ha;rw [hl] at ha;obtain⟨u,c,rv,e,z⟩:=CL.has _ _ _ h1' ha;exact⟨u,rv,.inr ⟨.inr (S.cap y (Dy h1')),c,e,(cellB c _ z).1⟩⟩
 ·obtain⟨v,z⟩:=CL.cell y c h;exact⟨v,(cellB c v z).1⟩
 ·obtain⟨v,z⟩:=CL.cell y c h;exact (cellB c v z).2
 ·rw [stE,DH,DN,hl,CL.len,<- DN]
end
def pN (env:En):List Nat->Option (List D)
 | []=>some []
 | i :: r=>match env[i]? with
  | some (some (.d x))=>(pN env r).map (x :: ·)
  | _=>none
theorem pJ {K:Frag} {B:Base} {F H:Hp} {σ:St} {env:En} (rp:Rep K B F H σ env):∀{ix:List Nat} {caps:List D},pN env ix=some caps->∃ws:List V,ws.length=ix.length/\aj K F caps ws/\∀(j i:Nat) w,ix[j]?=some i->ws[j]?=some w->σ[i]?=some (some w)
 | [],caps,h=>by cases h;exact⟨[],rfl,aK,λj i w z=>by simp at z⟩
 | i :: r,caps,h=>by
  unfold pN at h
  split at h
  ·rename_i x hx
   cases e:pN env r with
   | none=>rw [e] at h;cases h
   | some cs =>
    rw [e] at h;cases h;obtain⟨ws,l,d,f⟩:=pJ rp e;obtain⟨v,hv,dv⟩:=rp.dv i x hx;refine⟨v :: ws,by simp [l],aH dv d,λj i' w z1 z2=>?_⟩
    cases j with
    | zero=>simp at z1 z2;subst z1;subst z2;exact hv
    | succ j=>exact f j i' w (by simpa using z1) (by simpa using z2)
  ·cases h
def cellAt (env:Env) (x:Str):Addr:=(env.cells.lookup x).getD 0
def bD (env:Env) (cn:List Str):List (Str×Addr):=cn.map λx=>(x,cellAt env x)
theorem dg {env:Env} {x:Str} {c:Addr}:∀{cn:List Str},(bD env cn).lookup x=some c->x∈cn/\c=cellAt env x
 | [],h=>by cases h
 | y :: cn,h=>by
  have h':((y,cellAt env y) :: bD env cn).lookup x=some c:=h;rw [List.lookup_cons] at h'
  cases e:x == y with
  | true =>
   rw [e] at h';cases h';have:=eq_of_beq e;subst this
   exact⟨DC,rfl⟩
  | false =>
   rw [e] at h';obtain⟨a,b⟩:=dg (cn:=cn) h';exact⟨Dv _ a,b⟩
theorem nH {env:Env} {x:Str}:∀{cn:List Str},x∈cn->(bD env cn).lookup x=some (cellAt env x)
 | y :: cn,h=>by
  show ((y,cellAt env y) :: bD env cn).lookup x=_
  rw [List.lookup_cons]
  cases e:x == y with
  | true=>have:=eq_of_beq e;subst this;rfl
  | false =>
   rcases DD.mp h with z|z
   ·subst z;simp at e
   ·exact nH z
def resT (h:Heap) (p:Addr->Bool):Heap:=hideAll h ((List.range h.objs.size).filter λb=>!p b)
theorem sR {h:Heap} {p:Addr->Bool} {b:Addr} {o:Obj} (e:h.get? b=some o) (hp:p b=true):(resT h p).get? b=some o:=hideAll_get _ e (by simp [hp])
theorem u4 {h:Heap} {p:Addr->Bool} {b:Addr} {o:Obj} (e:(resT h p).get? b=some o):h.get? b=some o/\p b=true:=by
 have e1:h.get? b=some o:=of_hideAll _ e;refine⟨e1,?_⟩
 cases q:p b with
 | true=>rfl
 | false =>
  have hm:b∈(List.range h.objs.size).filter λb=>!p b:=List.mem_filter.mpr ⟨DT.mpr (Dx e1),by simp [q]⟩;have z:(resT h p).get? b=none:=hideAll_none _ hm;rw [z] at e;cases e
def lh (base h:Heap) (a5:List (Str×Addr)):Heap:=resT h λb=>(base.get? b).isSome || (a5.map (·.2)).contains b
section
variable {X:Cx} {pins:List (Addr×Obj)} {σ:St} {H:Hp} {s:Shared} {cn:List Str}
theorem ql {env:Env} {b:Addr} (h:((bD env cn).map (·.2)).contains b=true):∃x∈cn,b=cellAt env x:=by
 rw [List.contains_iff_mem] at h;obtain⟨p,hp,rfl⟩:=DB.mp h;obtain⟨x,hx,rfl⟩:=DB.mp hp;exact⟨x,hx,rfl⟩
theorem gu (I:Inv X pins σ H s) (hck:∀x∈cn,X.env.kindOf x=some .cell) {x:Str} (hx:x∈cn):X.env.cells.lookup x=some (cellAt X.env x):=by
 obtain⟨c,e⟩:=I.ok.has x (.inl (hck x hx));unfold cellAt;rw [e];rfl
theorem _root_.L2.Inv.Cj (I:Inv X pins σ H s) (hck:∀x∈cn,X.env.kindOf x=some .cell) (hfn:∀x∈cn,X.fn x=true):rD X.prog X.w X.K X.mg (lh X.base s.heap (bD X.env cn)) X.A X.stack s H:=by
 have keep:∀b o,X.base.get? b=some o->(lh X.base s.heap (bD X.env cn)).get? b=some o:=λb o e=>sR (I.bk b o e) (by simp [e]);refine⟨I.ok.frames,⟨I.mod.kin.keeps keep,I.mod.glob.keeps keep,let ⟨mb,h1,h2⟩:=I.mod.blt;⟨mb,h1.keeps keep,h2⟩,I.mod.nolimit.keeps keep,let ⟨bm,ob,b1,b2,b3,b4⟩:=I.mod.bm;⟨bm,ob,b1,b2,keep _ _ b3,b4⟩⟩,λb o e=>?_,Nat.le_of_eq (hideAll_size _ _),?_,⟨I.jQ,I.tb⟩,I.hok,I.bare⟩
 ·obtain⟨e1,hp⟩:=u4 e;refine⟨e1,?_⟩;rcases Bool.or_eq_true_iff.mp hp with z|z
  ·obtain⟨o',e'⟩:=Option.isSome_iff_exists.mp z;exact (I.bs b o' e').2
  ·obtain⟨x,hx,rfl⟩:=ql z;exact I.freeC x _ (gu I hck hx)
 ·have no:∀L∈gY X.stack,X.base.get? L=none->(lh X.base s.heap (bD X.env cn)).get? L=none:=λL hL hn=>by
   cases e:(lh X.base s.heap (bD X.env cn)).get? L with
   | none=>rfl
   | some o =>
    obtain⟨e1,hp⟩:=u4 e;rcases Bool.or_eq_true_iff.mp hp with z|z
    ·rw [hn] at z;cases z
    ·obtain⟨x,hx,rfl⟩:=ql z;have lk:=gu I hck hx;rcases DD.mp (I.i4 _ hL) with w|w
     ·exact absurd w (I.x8 x _ lk)
     ·obtain⟨_,o',ho',_⟩:=I.ok.iO.mem w;exact absurd (Dr (Dx ho') (I.ok.cab x _ (hfn x hx) lk)) (Nat.lt_irrefl _)
  have all:∀(l:List Env),(∀b∈gY l,b∈gY X.stack)->s.heap.FunFrames X.base l->s.heap.FunFrames (lh X.base s.heap (bD X.env cn)) l:=by
   intro l
   induction l with
   | nil=>intro _ _;trivial
   | cons env r ih =>
    intro hs hl;obtain⟨hk,⟨L,o,hf,hn,ho,hd⟩,hr⟩:=hl;have hL:L∈gY X.stack:=hs L (by unfold gY;rw [List.filterMap_cons,hf];exact DC);exact⟨hk,⟨L,o,hf,no L hL hn,ho,hd⟩,ih (λb hb=>hs b (by unfold gY;rw [List.filterMap_cons,hf];exact Dv _ hb)) hr⟩
  exact all X.stack (λ_ h=>h) I.stack
theorem _root_.L2.Inv.Cs (I:Inv X pins σ H s) (hck:∀x∈cn,X.env.kindOf x=some .cell) {ix:List Nat} (hix:ix.map (X.N[·]?)=cn.map some) {ws:List V} (hl:ws.length=ix.length) (hσ:∀(j i:Nat) w,ix[j]?=some i->ws[j]?=some w->σ[i]?=some (some w)) :
  Cm (lh X.base s.heap (bD X.env cn)) (bD X.env cn) cn ws:=by
 have put:∀x∈cn,∀v,s.heap.IsCell (cellAt X.env x) v->(lh X.base s.heap (bD X.env cn)).IsCell (cellAt X.env x) v:=λx hx v ⟨o,e,d⟩=>by
  refine⟨o,sR e ?_,d⟩
  have:((bD X.env cn).map (·.2)).contains (cellAt X.env x)=true:=by
   rw [List.contains_iff_mem];exact DB.mpr ⟨(x,cellAt X.env x),DB.mpr ⟨x,hx,rfl⟩,rfl⟩
  rw [this,Bool.or_true]
 have len:ix.length=cn.length:=by have:=congrArg List.length hix;simpa using this
 refine⟨hl.trans len,λx y c h1 h2=>?_,λx c h=>?_,λi x v h1 h2=>?_⟩
 ·obtain⟨m1,rfl⟩:=dg h1;obtain⟨m2,e⟩:=dg h2;exact I.ok.inj x y _ (gu I hck m1) (by rw [e];exact gu I hck m2)
 ·obtain⟨m,rfl⟩:=dg h;obtain⟨v,z⟩:=I.cell x _ (gu I hck m);exact⟨v,put x m v z⟩
 ·have m:=Dy h1;have hlt:i < ix.length:=by rw [len];exact (Dh.mp h1).1
  have h3:(ix.map (X.N[·]?))[i]?=(cn.map some)[i]?:=by rw [hix]
  rw [Dt,Dt,h1,Dm hlt] at h3;have h3':X.N[ix[i]]?=some x:=by simpa using h3
  have h4:=hσ i _ v (Dm hlt) h2;obtain⟨mm,_,hloc⟩:=I.loc;obtain⟨u,r,l⟩:=hloc _ x v h3' h4 (.inr (.inl (hck x m)));rcases l with ⟨k,_⟩|⟨_,c,e,z⟩
  ·rw [hck x m] at k;cases k
  ·have ec:c=cellAt X.env x:=by have:=gu I hck m;rw [e] at this;exact DA this
   subst ec;exact⟨u,_,r,nH m,put x m _ z⟩
end
def jn (K:Frag) (cdv:Value) (q:Str):Prop:=∃c P o vs file tf flags tg inF text tt,cdv=.ref c/\K.lookup c=some o/\o.cls=.type "code"/\o.data=.fields vs/\vs[11]?=some (.ref P)/\vs.getD 11 .none=.ref P/\vs.getD 18 .none=.str file tf/\vs.getD 7 .none=.int flags tg /\
 vs.getD 9 .none=.bool inF/\vs.getD 10 .none=.int text tt/\c≠P/\tq K P=some q
theorem jn.hd {K:Frag} {cdv:Value} {q:Str} {base:Heap} (x:jn K cdv q) (hb:K.In base):∃c P,cdv=.ref c/\CodeHd base c P/\tq K P=some q:=by
 obtain⟨c,P,o,vs,file,tf,flags,tg,inF,text,tt,e,l,h1,h2,h3,h4,h5,h6,h7,h8,h9,h10⟩:=x;exact⟨c,P,e,⟨o,vs,file,tf,flags,tg,inF,text,tt,hb _ _ l,h1,h2,h3,h4,h5,h6,h7,h8,h9⟩,h10⟩
section
variable {X:Cx} {e body:Expr} {params:Arguments} {scope:Scope} {lpos p pos:Pos} {a5:List (Str×Addr)} {q x:Str} {te t:TD} {ps:List Str}
theorem Made.rep {K:Frag} {B:Base} {F H H':Hp} {σ:St} {env:En} {f c':Addr} {oc fo:Obj} (m:Made H q f c' oc fo H') (r:Rep K B F H σ env):Rep K B (upd F f (.frz fo (.cdr c' q))) H' σ env/\ah F (upd F f (.frz fo (.cdr c' q))):=by
 obtain⟨nf,h1,_,_,sH⟩:=m;have nF:=r.jw nf;refine⟨r.ext (aR nF) (λb u z=>?_) sH λb h2 h3=>?_,aR nF⟩
 ·by_cases w:b=f
  ·subst w;rw [aq] at z;cases z;exact h1
  ·rw [ar w] at z;exact sH _ _ (r.fh _ _ z)
 ·rw [ar (λw=>by subst w;exact h2 nf)];exact h3
end
section
variable {X:Cx} {a b:Expr} {ta tb:TD} {p pos:Pos}
theorem uM {prog:Program} {w:World} {A:Around} {E:Value->Shared->Prop} {s:Shared} {env:Env} {k v:Expr} {Q:Value->Shared->Prop}
  (h:wpAny (model prog w) A (evalPairs (pairTrees [some k] [v] env pos)) (λvs s₁=>∃kv vv,vs=[(kv,vv)]/\wpAny (model prog w) A (dictSet s.heap.objs.size kv vv) (λ_ s₂=>Q (.ref s.heap.objs.size) s₂) E s₁) E
   { s with heap:=s.heap.push { cls:=.type "dict",data:=.dict #[] } }) :
  wpAny (model prog w) A (eval (.Dict [some k] [v] pos) env) Q E s:=by
 rw [arm_eval_Dict,zip_pairTrees [some k] [v] env pos rfl rfl,dictDisplay_pairs (pairTrees [some k] [v] env pos) (by intro z;have:=congrArg List.length z;rw [pairTrees_length [some k] [v] env pos rfl rfl] at this;cases this) (by rw [pairTrees_length [some k] [v] env pos rfl rfl];show 1 < 17;decide)];refine Dk (wpAny_standAt (Dk ?_));unfold subDict;refine Dk (wpAny_alloc ?_);refine Dk (wpAny_holding ?_)
 rw [if_pos (by rw [pairTrees_length [some k] [v] env pos rfl rfl];show 1<=15;decide)];refine Dk (DK h (λvs s₁ h₁=>?_) λ_ _ e=>e);obtain⟨kv,vv,rfl,h₁⟩:=h₁;refine wpAny_holding ?_;refine Dk ?_;rw [List.forIn_cons];refine Dk (Dk (DK h₁ (λ_ s₂ h₂=>Ds ?_) λ_ _ e=>e));show wpAny _ _ (forIn [] PUnit.unit _) _ _ _
 rw [List.forIn_nil];exact Ds (Ds (Ds (Ds h₂)))
def v9 (K:Dj) (p:Addr) (Q:VK) (k v:V) (H2:Hp):Prop:=H2 p=some (fb p 0 [])/\∃F d,ah F H2/\Den K F d k/\aG d=true/\dep d<=8/\∀ep,Q (.ref p) (upd H2 p (fb p ep [(qT d,k,v)]))
def yF (K:Dj) (p:Addr) (Q:VK):List (V×V)->Hp->Prop
 | [(k,v)],H2=>v9 K p Q k v H2
 | _,_=>False
def Ah (ta tb:TE) (K:Dj):TE:=λσ H Q=>∀p,H p=none->ta σ (upd H p (fb p 0 [])) λk H1=>tb σ H1 λv H2=>v9 K p Q k v H2
theorem wc {ta tb:TE} (hu:X.A.units + 9 < cLine) (ha:PE X a ta) (hb:PE X b tb):PE X (.Dict [some a] [b] pos) (Ah ta tb X.K):=by
 intro pins s σ H Q I q;have hn:=I.hok.fresh (Du s.heap.objs.size);have I1:=I.laid (a:=s.heap.objs.size) (o:=fb s.heap.objs.size 0 []) (h':=s.heap.push { cls:=.type "dict",data:=.dict #[] }) (t':=s.toks) (λ_ _ q=>Dp _ q) (Du _) (mT s.heap I.big)
 refine uM (bF ((lK (pos:=pos) ha hb oN) pins _ σ _ (yF X.K s.heap.objs.size Q) I1 (q _ hn)) λws s2 hq0=>?_);obtain⟨ps,H2,I2,rel,hq⟩:=hq0
 cases rel with
 | nil=>exact hq.elim
 | @cons x y xs ys r t =>
  cases t with
  | cons _ _=>exact hq.elim
  | nil =>
   obtain⟨k,v⟩:=x;obtain⟨ku,vu⟩:=y;have hq':v9 X.K s.heap.objs.size Q k v H2:=hq;obtain⟨e,F,d,fh,dd,hk,hd,q2⟩:=hq';refine⟨ku,vu,rfl,?_⟩;obtain⟨hz,hs,es,dh,pr⟩:=fW I2 e
   have es0:es=#[]:=by
    have:=Paired.length pr;apply Array.eq_empty_of_size_eq_zero
    simpa using this.symm
   subst es0;have hash:=fY fh d s2 X.A k ku I2 hk (by omega) dd r.1;have find:=jP (kvs:=[]) (us:=[]) (vs:=[]) (I2.tok (s2.toks + wo d)) fh bO.nil aK aK (es:=#[]) .nil hk hd (A:=X.A) (by omega) dd r.1;refine pI hash find dh (by simp) (λ_ h' dh' sb=>?_) λj hj=>by simp at hj
   obtain⟨o2,g2,c2,dd2⟩:=id dh';refine⟨.ref s.heap.objs.size,_,gb (ob:=fb s.heap.objs.size (0 + 1) [(qT d,k,v)]) I2 (by rw [e];exact True.intro) sb ⟨o2,g2⟩ ⟨⟨by simp [DR],hs,_,dh',.cons ⟨rfl,r.1,r.2⟩ .nil⟩,⟨o2,g2⟩,?_⟩,rfl,q2 _⟩
   rintro h1 h2 ⟨z,hs,es,⟨o,ho,c,dd⟩,pr⟩ k;exact⟨z,hs,es,⟨o,k _ ho,c,dd⟩,pr⟩
def kE (i:Nat) (tk tv:TD):cy:=λZ env=>tk env λk=>aG k=true/\dep k<=8/\tv env λv=>Z.nx (env.set i (some (.dic [(k,v)])))
theorem rN {x:Str} {pos' pd:Pos} (i:Nat) (hN:X.N.Nodup) (hu:X.A.units + 64 < cLine) (ha:QE X a ta) (hb:QE X b tb) (hi:X.N[i]?=some x:=by rfl) (hx:Loc X.env.scope x:=by first|exact Or.inl rfl|exact Or.inr rfl) (hs:swapsWith (.Dict [some a] [b] pd) (some (.Name x pos')) pos.line X.env=pure false:=by rfl)
  (hf:X.fn x=true\/X.env.scope.names.lookup x=some .local:=by first|exact .inl rfl|exact .inr rfl):QS X (.Assign [.Name x pos'] (.Dict [some a] [b] pd) pos) (kE i ta tb):=by
 refine⟨λB σ F H env Z rp h pins s I=>?_⟩;have hl:i < σ.length:=by rw [I.len];exact (Dh.mp hi).1
 refine lg (i:=i) hN hi hx (wc (by omega) bc bc) hs hf pins s σ H _ I λp hp=>?_;have hb0:B.H p=none:=rp.h0.free hp;refine az (ha (B.guard p (fb p 0 [])) σ F (upd H p (fb p 0 [])) env _ (rp.guarded hp) h) λk H1 hq0=>?_;obtain⟨F1,d1,r1,s1,e1,hk,hd,q1⟩:=hq0;refine az (hb _ σ F1 H1 env _ r1 q1) λv H2 hq0=>?_;obtain⟨F3,d2,r3,s2,e2,q3⟩:=hq0;obtain⟨r4,hp2,hf2⟩:=r3.nT hb0;refine⟨hp2,F3,d1,r3.fh,Den.mono s2 _ _ e1,hk,hd,λep=>?_⟩
 have h0:(λb=>if b=p then none else H2 b) p=none:=if_pos rfl
 have ee:upd H2 p (fb p ep [(qT d1,k,v)])=upd (λb=>if b=p then none else H2 b) p (fb p ep (bH [(d1,d2)] [k] [v])):=by
  funext b
  by_cases z:b=p
  ·subst z;rw [aq,aq];rfl
  ·rw [ar z,ar z,if_neg z]
 have r5:Rep X.K B F3 (λb=>if b=p then none else H2 b) σ env:=by
  refine⟨r4.f0,λb o z=>?_,λb o z=>?_,r4.nf,r4.dv,λj xs hj=>?_,r4.ne,λj xs hj=>?_,r4.nm⟩
  ·have:b≠p:=λw=>by subst w;rw [hf2] at z;cases z
   rw [if_neg this];exact r4.fh _ _ z
  ·have:b≠p:=λw=>by subst w;rw [hb0] at z;cases z
   rw [if_neg this];exact r4.h0 _ _ z
  ·obtain⟨p2,us,g1,g2,g3,g4,g5⟩:=r4.ov j xs hj;have:p2≠p:=λw=>by subst w;rw [hp2] at g2;cases g2
   exact⟨p2,us,g1,by rw [if_neg this];exact g2,g3,g4,g5⟩
  ·obtain⟨p2,ep,us,vs,g1,g2,g3,g4,g5,g6⟩:=r4.mv j xs hj;obtain⟨p3,_,_,_,k1,_,_,k4,_,_⟩:=r3.mv j xs hj;have e3:p3=p2:=by rw [k1] at g1;cases g1;rfl
   subst e3;have:p3≠p:=λw=>by subst w;rw [show (B.guard p3 (fb p3 0 [])).H p3=some (fb p3 0 []) from aq] at k4;cases k4
   exact⟨p3,ep,us,vs,g1,by rw [if_neg this];exact g2,g3,g4,g5,g6⟩
 rw [ee];exact⟨F3,_,r5.m4 (i:=i) ep h0 hl (aH (Den.mono s2 _ _ e1) aK) (aH e2 aK),q3⟩
end
theorem BG {K:Dj} {cdv:Value} {q:Str} {c P:Addr} {o:Obj} {vs:Array Value} {file:Str} {tf:Tok} {flags:Int} {tg:Tok} {inF:Bool} {text:Int} {tt:Tok} (e:cdv=.ref c) (l:K.lookup c=some o) (h1:o.cls=.type "code") (h2:o.data=.fields vs) (h3:vs[11]?=some (.ref P)) (h4:vs.getD 11 .none=.ref P) (h5:vs.getD 18 .none=.str file tf)
  (h6:vs.getD 7 .none=.int flags tg) (h7:vs.getD 9 .none=.bool inF) (h8:vs.getD 10 .none=.int text tt) (h9:c≠P) (h10:tq K P=some q):jn K cdv q:=⟨c,P,o,vs,file,tf,flags,tg,inF,text,tt,e,l,h1,h2,h3,h4,h5,h6,h7,h8,h9,h10⟩
structure qz (K:Dj) (x:Str) (st:Stmt) (q:Str):Prop where
 ex:∃(f:Addr) (oc:Value) (od an:Option Addr) (sl:Array (Option Value)) (kV dc pm cd ct:Value),PySem.W.nsIn K mainGlobals x=some (some (.ref f)) /\
  K.lookup f=some ⟨oc,od,.func (PySem.W.fnOf x x (cJ st) (aX st) (ak st) .none kV dc pm an cd ct),sl⟩/\PySem.W.codeIn K cd x=true/\PySem.W.keepIn K (.ref f)=true/\jn K cd q
structure By (K:Dj) (mg:Str->Option Value) (x:Str) (st:Stmt) (ps:List Str) (q:Str):Prop where
 ex:∃(fa:Addr) (oc:Value) (od:Option Addr) (kV doc pm:Value) (an:Option Addr) (cdv ct:Value) (osl:Array (Option Value)),K.lookup fa=some ⟨oc,od,.func (PySem.W.fnOf x x (cJ st) (aX st) (ak st) .none kV doc pm an cdv ct),osl⟩/\PySem.W.codeIn K cdv x=true/\PySem.W.keepIn K (.ref fa)=true /\
  jn K cdv q/\mg x=some (.ref fa)/\Binds K (PySem.W.fnOf x x (cJ st) (aX st) (ak st) .none kV doc pm an cdv ct) ps []
section
variable {P:Program} {w:World} {K:Dj} {mg:Str->Option Value} {base h:Heap} {x q:Str} {st:Stmt} {N ps:List Str} {k:Nat} {fx:rO}
theorem qz.get (D:qz K x st q) (X:K.In h) (G:h.Ns mainGlobals mg)
  (hb:∀(kV doc pm:Value) (an:Option Addr) (cdv ct:Value) (us:List Value),us.length=ps.length->bindArgs (PySem.W.fnOf x x (cJ st) (aX st) (ak st) .none kV doc pm an cdv ct) ⟨us,[]⟩=pure (ps.zip us)):By K mg x st ps q:=by
 obtain⟨f,oc,od,an,sl,kV,dc,pm,cd,ct,a,l,c,kp,ck⟩:=D.ex;exact⟨f,oc,od,kV,dc,pm,an,cd,ct,sl,l,c,kp,ck,Eu X G a,(qY l c kp).binds hb⟩
theorem By.zZ (F:By K mg x st ps q) (S:aN N ps (ak st)) (hl:∀ds Q R,fx ds Q R->ds.length=ps.length)
  (hbody:∀(fa:Addr) (cdv:Value) (A:Around) (outer:List Env) (s:Shared) (H:Hp) (E:XK),jn K cdv q->bR k (A.deeper (envOfC x (ak st) s.heap.objs.size fa cdv)) ->
   ∃t,yg (fH (xV P w) P w K mg base N x (ak st) fa cdv A outer s H E) (aX st) t/\∀ds (Q:D->Prop) (R:Str->Prop),fx ds Q R->t { nx:=λ_=>Q .non,rt:=Q,xc:=R } (aA N ds)):ez P w K mg base (k + 1) x fx:=by
 obtain⟨fa,oc,od,kV,doc,pm,an,cdv,ct,osl,lk,hcd,kp,ck,hmg,hb⟩:=F.ex;refine⟨fa,_,ps,?_,hmg,kp,hb⟩;refine uK lk hcd S (λvs H Q E h=>?_) λA outer s H vs Q E hr h=>?_
 ·obtain⟨F0,ds,P,R,_,hd,hf,_⟩:=h;rw [<- hd.length];exact hl ds _ _ hf
 ·obtain⟨F0,ds,P',R,fh,hd,hf,kk,kx⟩:=h;obtain⟨t,ht,hq⟩:=hbody fa cdv A outer s H E ck hr;refine⟨_,cO,?_⟩;have core:=ht.run _ (start N vs) F0 H (aA N ds) _ (dF fh hd) (hq ds P' R hf);intro pins s1 I;refine DK (core pins s1 (I.bz _)) (λfl s2 z=>?_) λex s2 z=>?_
  ·refine jO (SP.aW z) (λσ' H' ⟨F',env',r,q⟩=>?_) (λv H' ⟨F',d',r,dd,q⟩=>?_) (λ_ _ ⟨_,_,_,q⟩=>q) (λ_ _ ⟨_,_,_,q⟩=>q)
   ·exact kk .non .non F' H' r.f0 r.h0 r.fh (λp h1 h2=>r.nf p ⟨h1,h2⟩) nZ q
   ·exact kk d' v F' H' r.f0 r.h0 r.fh (λp h1 h2=>r.nf p ⟨h1,h2⟩) dd q
  ·obtain⟨pins',a,c,C,σ',H',F',env',rfl,th,r,hm,hx⟩:=z;exact th.leave (kx c C F' H' r.f0 r.h0 r.fh (λp h1 h2=>r.nf p ⟨h1,h2⟩) hm hx)
theorem Df.at_ (F:Df K mg x st ps):∃fa,mg x=some (.ref fa)/\PySem.W.keepIn K (.ref fa)=true:=let ⟨fa,_,F,m,_⟩:=F.ex;⟨fa,m,F.kp⟩
end
end L2.L3
namespace PySem.SeqAt
def nY (A:Around) (s:Shared) (y x:Value) (b:Bool):Prop :=
 ∀(prog:Program) (w:World) (E:Value->Shared->Prop) (Q:Value->Shared->Prop),Q (.bool b) s->wpAny (model prog w) A (richCompare .Lt y x) Q E s
def jX (e f:Nat->Bool) (z:Bool):List Nat->Bool
 | []=>z
 | i :: r=>if e i then jX e f z r else f i
theorem vL (l b:Addr) (xs ys:Array Value) (n m:Nat) (dx dy:Option Addr) (sx sy:Array (Option Value)) (e f:Nat->Bool) :
  Meets (Builtin.«tuple.__lt__» ⟨[.ref l,.ref b],[]⟩)
   (λA R s=>(s.heap.get? l=some { cls:=.type "tuple",dict:=dx,data:=.seq xs n,slots:=sx }/\s.heap.get? b=some { cls:=.type "tuple",dict:=dy,data:=.seq ys m,slots:=sy }) /\
    (∀j (h1:j < xs.size) (h2:j < ys.size),EqAt A.in1 s xs[j] ys[j] (e j)/\(e j=false->nY A.in1 s xs[j] ys[j] (f j))) /\
    R (.ok (.ret (.bool (jX e f (decide (xs.size < ys.size)) (List.range (min xs.size ys.size)))))) s) :=
 .of_wp λprog w A R s h=>by
  obtain⟨hp,g,d,tk,os⟩:=s;obtain⟨⟨hl,hb⟩,he,h⟩:=h;have f2:=AutoSeq1.sub_tuple_tuple;have hZ:(xs.toList.zip ys.toList).length=min xs.size ys.size:=by simp
  wp_walk using wpAny_loadPart' hl,wpAny_loadPart' hb,wpAny_forIn_list _ (λrest b s'=>b.1=none/\s'=⟨hp,g,d,tk,os⟩/\∃i,rest=(xs.toList.zip ys.toList).drop i /\
   R (.ok (.ret (.bool (jX e f (decide (xs.size < ys.size)) ((List.range (min xs.size ys.size)).drop i))))) ⟨hp,g,d,tk,os⟩) _
  case turn =>
   rintro⟨y,x⟩ rest b s' ⟨hb',rfl,i,hz,hR⟩
   have hlt:i < (xs.toList.zip ys.toList).length:=by
    refine Nat.lt_of_not_le λh'=>?_;rw [List.drop_of_length_le h'] at hz;cases hz
   have hm:i < min xs.size ys.size:=hZ▸hlt;have h1:i < xs.size:=by omega
   have h2:i < ys.size:=by omega
   rw [Eh hlt] at hz;injection hz with hyx hrest
   obtain⟨rfl,rfl⟩:y=xs[i]/\x=ys[i]:=⟨by simpa using congrArg Prod.fst hyx,by simpa using congrArg Prod.snd hyx⟩;have hd:(List.range (min xs.size ys.size)).drop i=i :: (List.range (min xs.size ys.size)).drop (i + 1):=by simp [Eh,hm]
   rw [hd,jX] at hR;refine Dk ((he i h1 h2).1 prog w _ _ ?_)
   cases hy:e i with
   | true =>
    rw [hy] at hR
    wp_walk
    exact⟨rfl,rfl,i + 1,hrest,by simpa using hR⟩
   | false =>
    rw [hy] at hR;have hl2:=(he i h1 h2).2 hy;simp only [Bool.not_false,if_true];refine Dk (wpAny_rule (Dk (hl2 prog w _ _ ?_)))
    wp_walk
    exact⟨_,rfl,by simpa using hR⟩
  case fin =>
   rintro⟨b1,b2⟩ s' ⟨hb',rfl,i,hz,hR⟩;simp only at hb';subst hb'
   have hge:min xs.size ys.size<=i:=by
    refine Nat.le_of_not_lt λh'=>?_;rw [Eh (hZ▸h')] at hz;cases hz
   rw [List.drop_of_length_le (by simpa using hge)] at hR
   wp_walk
   exact⟨_,rfl,by simpa [Builtin.Tuple.tupleCompareSizes,jX] using hR⟩
  case h=>exact⟨rfl,rfl,0,rfl,by simpa using h⟩
theorem nY.ints {A:Around} {s:Shared} (a b:Int) (t u:Tok):nY A s (.int a t) (.int b u) (decide (a < b)):=λprog w E Q h =>
 richCompare_gives (op:=.Lt) (typeIs_int s _ t) (typeIs_int s _ u) F.slot_int_lt F.entry_int_lt (F.args_int_lt_2 _ _) (gives_int_lt _ _ t u) (λx=>nomatch x) h
theorem nY.jE {A:Around} {s:Shared} {l b:Addr} {xs ys:Array Value} {e f:Nat->Bool} (hl:s.heap.IsTuple l xs) (hb:s.heap.IsTuple b ys) (hu:A.units < cLine)
  (he:∀j (h1:j < xs.size) (h2:j < ys.size),EqAt A.in1 s xs[j] ys[j] (e j)/\(e j=false->nY A.in1 s xs[j] ys[j] (f j))) :
  nY A s (.ref l) (.ref b) (jX e f (decide (xs.size < ys.size)) (List.range (min xs.size ys.size))):=λprog w E Q h=>by
 obtain⟨⟨c1,d1,t1,s1⟩,o1,k1,n1,g1⟩:=hl;obtain⟨⟨c2,d2,t2,s2⟩,o2,k2,n2,g2⟩:=hb;cases k1;cases k2;cases g1;cases g2;exact richCompare_meets_room (op:=.Lt) ⟨_,o1,rfl⟩ ⟨_,o2,rfl⟩ F.slot_tuple_lt F.entry_tuple_lt (F.args_tuple_lt_2 _ _) (vL l b xs ys n1 n2 d1 d2 s1 s2 e f) ⟨⟨o1,o2⟩,he,(λz=>nomatch z),h⟩ hu
end PySem.SeqAt
namespace PySem
section
variable {prog:Program} {w:World} {A:Around} {R:Result->Shared->Prop} {I S:Addr} {fp wr:List Addr} {n:Nat} {P:Nat->Value->Prop} {St:Nat->Heap->Prop} {bt:Nat->Nat->Bool} {K:Shared->Prop}
def yY (prog:Program) (w:World) (A:Around) (P:Nat->Value->Prop) (bt:Nat->Nat->Bool) (K:Shared->Prop):Prop :=
 ∀i j x y (s:Shared) (Q E:Value->Shared->Prop),K s->P i x->P j y->Q (.bool (bt i j)) s->wpAny (model prog w) A (richCompare .Lt x y) Q E s
def Holds (S:Addr) (vs:Array Value) (s:Shared):Prop:=∃c,s.heap.get? S=some { cls:=.type "list",dict:=none,data:=.seq vs c,slots:=#[] }
theorem tF (W:Walks prog w A.in1 I fp wr n P St) (hc:yY prog w A.in1 P bt K) (hS:S∉fp)
  (hK:∀(s:Shared) h' tk,K s->(∀b o,b∉wr->b≠S->s.heap.get? b=some o->h'.get? b=some o)->K { s with heap:=h',toks:=tk }) :
  ∀(k j:Nat) (s:Shared) (x:Value),j + 1 + k=n->St (j + 1) s.heap->P (argBest bt j) x->Holds S #[x,x] s->K s ->
  (∀v h' tk,P (argBest bt (n - 1)) v->(∀b o,b∉wr->b≠S->s.heap.get? b=some o->h'.get? b=some o)->R (.ok (.ret v)) { s with heap:=h',toks:=tk }) ->
  codeAny (model prog w) A (.builtin "min.loop" ⟨[.ref I,.none,.ref S],[]⟩) R s:=by
 have hw:S∉wr:=λh=>hS (W.sub _ h);have nm:(toString "min" ++ toString ".loop" : String) = "min.loop":=by decide
 intro k
 induction k with
 | zero =>
  rintro j s x rfl st px ⟨c,hs⟩ ks hR
  refine codeAny_builtin F.entry_min_loop (by
   rw [Around.under_plainId F.plain_min_loop _];refine Dk (wpAny_seqItems hs rfl (Dk (wpAny_tryCatch (W.done s _ _ st λh' tk kp=>?_))));refine Dk (wpAny_updateSeq (kp S _ hw hs) rfl (Dk (wpAny_letGo (Ds (hR x _ tk px λb o h1 h2 e=>?_)))))
   rw [Heap.get?_update_other _ _ (Ne.symm h2)];exact kp b o h1 e)
 | succ k ih =>
  rintro j s x hn st px ⟨c,hs⟩ ks hR
  refine codeAny_builtin F.entry_min_loop (by
   rw [Around.under_plainId F.plain_min_loop _];refine Dk (wpAny_seqItems hs rfl (Dk (wpAny_tryCatch (W.item (j + 1) s _ _ (by omega) st λv h' tk pv st' kp=>?_))));have hs':=kp S _ hw hs
   change wpAny _ _ (tryCatch (holding _ (richCompare .Lt v x >>= _)) _ >>= _) _ _ _;refine Dk (wpAny_tryCatch (wpAny_holding (Dk (hc (j + 1) (argBest bt j) v x _ _ _ (hK s h' tk ks λb o h1 _ e=>kp b o h1 e) pv px ?_))));refine Dk (wpAny_holding (wpAny_truthy_bool (Dk (wpAny_letGo (Ds ?_)))))
   by_cases hb:bt (j + 1) (argBest bt j)=true
   ·rw [hb,if_pos rfl];refine Dk (wpAny_updateSeq hs' rfl (Dk (wpAny_letGo ?_)));rw [nm];refine Ds ⟨plainId_quiet F.plain_min_loop _,ih (j + 1) _ v (by omega) (W.frame _ _ _ st' λb hf o e=>?_) (by rw [argBest,if_pos hb];exact pv) ⟨_,Heap.get?_update_self _ hs' rfl⟩ (hK _ _ _ (hK s h' tk ks λb o h1 _ e=>kp b o h1 e) λb o _ h2 e=>?_) λy h2 t2 py k2=>hR y h2 t2 py λb o h1 h3 e=>?_⟩
    ·rw [Heap.get?_update_other _ _ (λz:S=b=>hS (z▸hf))];exact e
    ·rw [Heap.get?_update_other _ _ (Ne.symm h2)];exact e
    ·exact k2 b o h1 h3 (by rw [Heap.get?_update_other _ _ (Ne.symm h3)];exact kp b o h1 e)
   ·rw [if_neg hb];refine Dk (wpAny_letGo ?_);rw [nm]
    exact (Ds ⟨plainId_quiet F.plain_min_loop _,ih (j + 1) _ x (by omega) st' (by rw [argBest,if_neg hb];exact px) ⟨_,hs'⟩ (hK s h' tk ks λb o h1 _ e=>kp b o h1 e) λy h2 t2 py k2=>hR y h2 t2 py λb o h1 h3 e=>k2 b o h1 h3 (kp b o h1 e)⟩))
theorem qU (W:Walks prog w A.in1 I fp wr n P St) (hc:yY prog w A.in1 P bt K) (hS:S∉fp)
  (hK:∀(s:Shared) h' tk,K s->(∀b o,b∉wr->b≠S->s.heap.get? b=some o->h'.get? b=some o)->K { s with heap:=h',toks:=tk }) {s:Shared} (hn:0 < n) (st:St 0 s.heap) (hs:Holds S #[] s) (ks:K s)
  (hR:∀v h' tk,P (argBest bt (n - 1)) v->(∀b o,b∉wr->b≠S->s.heap.get? b=some o->h'.get? b=some o)->R (.ok (.ret v)) { s with heap:=h',toks:=tk }) :
  codeAny (model prog w) A (.builtin "min.loop" ⟨[.ref I,.none,.ref S],[]⟩) R s:=by
 have hw:S∉wr:=λh=>hS (W.sub _ h);have nm:(toString "min" ++ toString ".loop" : String) = "min.loop":=by decide
 obtain⟨c,hs⟩:=hs;refine codeAny_builtin F.entry_min_loop ?_;rw [Around.under_plainId F.plain_min_loop _];refine Dk (wpAny_seqItems hs rfl (Dk (wpAny_tryCatch (W.item 0 s _ _ hn st λv h' tk pv st' kp=>?_))));have hs':=kp S _ hw hs;have k2:=hK s h' tk ks λb o h1 _ e=>kp b o h1 e
 change wpAny _ _ (updateSeq S (λ_=>#[v,v]) >>= _) _ _ _;refine Dk (wpAny_updateSeq hs' rfl ?_);rw [nm];refine Ds ⟨plainId_quiet F.plain_min_loop _,tF (K:=K) W hc hS hK (n - 1) 0 _ v (by omega) (W.frame _ _ _ st' λb hf o e=>?_) pv ⟨_,Heap.get?_update_self _ hs' rfl⟩ (hK _ _ _ k2 λb o _ h2 e=>?_) λy h2 t2 py kq=>hR y h2 t2 py λb o h1 h3 e=>kq b o h1 h3 ?_⟩
 ·rw [Heap.get?_update_other _ _ (λz:S=b=>hS (z▸hf))];exact e
 ·rw [Heap.get?_update_other _ _ (Ne.symm h2)];exact e
 ·rw [Heap.get?_update_other _ _ (Ne.symm h3)];exact kp b o h1 e
theorem t9 {E:Value->Shared->Prop} {s:Shared} {x:Value} {Q:Value->Shared->Prop}
  (h:wpAny (model prog w) A.in1 (pyIter x) (λit s₂=>∃I fp wr n P St bt K,it=.ref I/\Walks prog w A.in1 I fp wr n P St/\(St 0 s₂.heap/\(∀b∈fp,b < s₂.heap.objs.size)/\0 < n)/\yY prog w A.in1 P bt K/\K s₂ /\
   (∀(s:Shared) h' tk,K s->(∀b o,b∉wr->b≠s₂.heap.objs.size->s.heap.get? b=some o->h'.get? b=some o)->K { s with heap:=h',toks:=tk }) /\
   ∀v h' tk,P (argBest bt (n - 1)) v->(∀b o,b∉wr->s₂.heap.get? b=some o->h'.get? b=some o)->Q v { s₂ with heap:=h',toks:=tk }) E s) :
  wpAny (model prog w) A (call (.builtin "min") [x]) Q E s:=by
 have nm:(toString "min" ++ toString ".loop" : String) = "min.loop":=by decide
 refine call_function_tree F.kind_min F.plain_min F.entry_min (F.args_min1 _) ?_
 change wpAny _ _ (Builtin.Builtins.bindParams "min" _ 0 _ >>= _) _ _ _
 refine Dk (wpAny_of_eq (show Builtin.Builtins.bindParams "min" ["key","default"] 0 ⟨[],[]⟩=pure [none,none] from rfl) ?_)
 refine Dk (Ds (Dk (DK h (λit s₂ h₂=>?_) λ_ _ e=>e)));obtain⟨I,fp,wr,n,P,St,bt,K,rfl,W,⟨st,hfp,hn⟩,hc,ks,hK,hQ⟩:=h₂;have hS:s₂.heap.objs.size∉fp:=λhm=>Nat.lt_irrefl _ (hfp _ hm);refine Dk (wpAny_newObj_type ?_);rw [nm];refine Ds ⟨plainId_quiet F.plain_min_loop _,qU (K:=K) W hc hS hK hn (W.frame _ _ _ st λb _ o e=>Dp _ e) ⟨_,DI _ rfl⟩ (hK s₂ _ _ ks λb o _ _ e=>Dp _ e) λv h' tk pv kq=>hQ v h' tk pv λb o h1 e=>?_⟩
 exact kq b o h1 (DO (Dx e)) (Dp _ e)
end
end PySem
namespace L2.L3
open PySem PySem.Spec PyProof.Rows
def pX:Nat->D->Prop
 | 0,d=>∃n:Int,d=.int n
 | k + 1,d=>∃ds,d=.tup ds/\∀e∈ds,pX k e
def mC (f:D->D->Bool):List D->List D->Bool
 | [],[]=>false
 | [],_ :: _=>true
 | _ :: _,[]=>false
 | x :: xs,y :: ys=>if aS x y then mC f xs ys else f x y
def oY:Nat->D->D->Bool
 | 0,.int a,.int b=>decide (a < b)
 | k + 1,.tup xs,.tup ys=>mC (oY k) xs ys
 | _,_,_=>false
def pS (k:Nat) (d:D) (ds:List D):D:=ds.foldl (λb x=>if oY k x b then x else b) d
def rQ (k:Nat) (ds:List D) (Q:D->Prop):Prop:=match ds with
 | [.lst (d :: xs)]=>k < 8/\(∀x∈d :: xs,pX k x)/\Q (pS k d xs)
 | _=>False
theorem g8:∀(k:Nat) (d:D),pX k d->dep d<=k
 | 0,d,h=>by obtain⟨n,rfl⟩:=h;simp [dep]
 | k + 1,d,h=>by
  obtain⟨ds,rfl,h⟩:=h;simp only [dep]
  suffices ∀ds:List D,(∀e∈ds,pX k e)->cZ ds<=k by have:=this ds h;omega
  intro ds
  induction ds with
  | nil=>intro _;simp [cZ]
  | cons a t ih =>
   intro h;have h1:=g8 k a (h a (DC ..));have h2:=ih λe he=>h e (Dv _ he);simp only [cZ];omega
theorem t6 (f:D->D->Bool) (fe:Nat->Bool):∀(xs ys:List D),(∀j (h1:j < xs.length) (h2:j < ys.length),fe j=f xs[j] ys[j])->∀(e:Nat->Bool),(∀j (h1:j < xs.length) (h2:j < ys.length),e j=aS xs[j] ys[j]) ->
  SeqAt.jX e fe (decide (xs.length < ys.length)) (List.range (min xs.length ys.length))=mC f xs ys:=by
 suffices ∀(xs ys:List D) (o:Nat) (z:Bool) (e fe:Nat->Bool),(∀j (h1:j < xs.length) (h2:j < ys.length),fe (o + j)=f xs[j] ys[j])->(∀j (h1:j < xs.length) (h2:j < ys.length),e (o + j)=aS xs[j] ys[j])->z=decide (xs.length < ys.length) ->
   SeqAt.jX e fe z (List.range' o (min xs.length ys.length))=mC f xs ys by
  intro xs ys h e he;have:=this xs ys 0 _ e fe (λj h1 h2=>by rw [Nat.zero_add];exact h j h1 h2) (λj h1 h2=>by rw [Nat.zero_add];exact he j h1 h2) rfl
  rwa [<- List.range_eq_range'] at this
 intro xs
 induction xs with
 | nil=>intro ys o z e fe h1 h2 h3;cases ys <;> simp [SeqAt.jX,mC,h3]
 | cons x xs ih =>
  intro ys o z e fe h1 h2 h3
  cases ys with
  | nil=>simp [SeqAt.jX,mC,h3]
  | cons y ys =>
   have e1:min (x :: xs).length (y :: ys).length=min xs.length ys.length + 1:=by simp [Nat.succ_min_succ]
   rw [e1,List.range'_succ,SeqAt.jX,mC];have a1:=h1 0 (by simp) (by simp);have a2:=h2 0 (by simp) (by simp);simp only [Nat.add_zero,List.getElem_cons_zero] at a1 a2;rw [a2,a1]
   by_cases hq:aS x y=true
   ·rw [if_pos hq,if_pos hq];exact ih ys (o + 1) z e fe (λj g1 g2=>by have:=h1 (j + 1) (by simpa using g1) (by simpa using g2);simpa [Nat.add_comm,Nat.add_left_comm,Nat.add_assoc] using this) (λj g1 g2=>by have:=h2 (j + 1) (by simpa using g1) (by simpa using g2);simpa [Nat.add_comm,Nat.add_left_comm,Nat.add_assoc] using this) (by rw [h3];simp)
   ·rw [if_neg hq,if_neg hq]
section
variable {X:Cx} {pins:List (Addr×Obj)} {σ:List (Option V)} {H F:Hp} {s:Shared}
theorem rW (I:Inv X pins σ H s) (fh:ah F H):∀(k:Nat) (d d':D) (A:Around) (x y:V) (u v:Value),A.units + k + 1 < cLine->k < 900->pX k d->pX k d'->Den X.K F d x->Den X.K F d' y->RelV x u->RelV y v->SeqAt.nY A s u v (oY k d d')
 | 0,d,d',A,x,y,u,v,hu,hk,h1,h2,e1,e2,r1,r2=>by
  obtain⟨n,rfl⟩:=h1;obtain⟨m,rfl⟩:=h2;simp only [Den] at e1 e2;subst e1;subst e2;obtain⟨t,rfl⟩:=r1;obtain⟨t',rfl⟩:=r2
  exact SeqAt.nY.ints n m t t'
 | k + 1,d,d',A,x,y,u,v,hu,hk,h1,h2,e1,e2,r1,r2=>by
  obtain⟨ds,rfl,o1⟩:=h1;obtain⟨es,rfl,o2⟩:=h2;simp only [Den] at e1 e2;obtain⟨a1,vs1,rfl,q1,g1⟩:=e1;cases r1;obtain⟨a2,vs2,rfl,q2,g2⟩:=e2;cases r2;obtain⟨its1,rv1,ht1,hz1⟩:=I.tuple (ah.bG fh q1);obtain⟨its2,rv2,ht2,hz2⟩:=I.tuple (ah.bG fh q2);have l1:its1.length=ds.length:=by rw [g1.length,rv1.length]
  have l2:its2.length=es.length:=by rw [g2.length,rv2.length]
  have at_:∀(j:Nat) (h1:j < its1.length) (h2:j < its2.length),∃(p1:j < ds.length) (p2:j < es.length) (x y:V),Den X.K F ds[j] x/\Den X.K F es[j] y/\RelV x its1[j]/\RelV y its2[j]:=λj h1 h2=>by
   have j1:j < ds.length:=by omega
   have j2:j < es.length:=by omega
   obtain⟨x,hx,dx⟩:=g1.get (Dm j1);obtain⟨y,hy,dy⟩:=g2.get (Dm j2);obtain⟨u,hu,ru⟩:=rv1.get hx;obtain⟨v,hv,rv⟩:=rv2.get hy;rw [Dm h1] at hu;rw [Dm h2] at hv;cases hu;cases hv;exact⟨j1,j2,x,y,dx,dy,ru,rv⟩
  have key:=SeqAt.nY.jE (A:=A) (e:=λj=>aS (ds.getD j .non) (es.getD j .non)) (f:=λj=>oY k (ds.getD j .non) (es.getD j .non)) ht1 ht2 (by omega) (λj h1 h2=>by
   obtain⟨p1,p2,x,y,dx,dy,ru,rv⟩:=at_ j (by simpa using h1) (by simpa using h2);have b1:=o1 _ (Et p1);have b2:=o2 _ (Et p2);have c1:=g8 k _ b1;have c2:=g8 k _ b2;have z1:ds.getD j .non=ds[j]:=by simp [DL,Dm p1]
   have z2:es.getD j .non=es[j]:=by simp [DL,Dm p2]
   have w1:=lV I fh ds[j] es[j] A.in1 x y _ _ (by rw [units_in1];omega) (by omega) (by omega) dx dy ru rv;have w2:=rW I fh k ds[j] es[j] A.in1 x y _ _ (by rw [units_in1];omega) (by omega) b1 b2 dx dy ru rv;simp only [z1,z2]
   exact⟨by simpa using w1,λ_=>by simpa using w2⟩)
  rw [DE,DE,l1,l2,t6 (oY k) _ ds es (λj h1 h2=>by simp [DL,Dm h1,Dm h2]) _ (λj h1 h2=>by simp [DL,Dm h1,Dm h2])] at key;exact key
theorem vj (k:Nat):∀(d:D) (xs:List D) (n:Nat),n < (d :: xs).length->(d :: xs)[argBest (λi j=>oY k ((d :: xs).getD i .non) ((d :: xs).getD j .non)) n]?=some (pS k d (xs.take n)):=by
 intro d xs n
 induction n with
 | zero=>intro _;simp [argBest,pS]
 | succ n ih =>
  intro h;have ih':=ih (by omega);have hn:n < xs.length:=by simpa using h
  have e1:xs.take (n + 1)=xs.take n ++ [xs[n]]:=by rw [Er,Dm hn];rfl
  rw [e1,pS,List.foldl_append];simp only [argBest,List.foldl_cons,List.foldl_nil];have e2:(d :: xs).getD (n + 1) .non=xs[n]:=by simp [DL,Dm hn]
  have e3:(d :: xs).getD (argBest (λi j=>oY k ((d :: xs).getD i .non) ((d :: xs).getD j .non)) n) .non=pS k d (xs.take n):=by rw [DL,ih'];rfl
  by_cases hq:oY k ((d :: xs).getD (n + 1) .non) ((d :: xs).getD (argBest (λi j=>oY k ((d :: xs).getD i .non) ((d :: xs).getD j .non)) n) .non)=true
  ·rw [if_pos hq];rw [e2,e3] at hq;have hq':oY k xs[n] (List.foldl (λb x=>if oY k x b=true then x else b) d (List.take n xs))=true:=hq;rw [if_pos hq'];simp [Dm hn]
  ·rw [if_neg hq];rw [e2,e3] at hq;have hq':¬ oY k xs[n] (List.foldl (λb x=>if oY k x b=true then x else b) d (List.take n xs))=true:=hq;rw [if_neg hq'];exact ih'
def yf (X:Cx) (k:Nat) (xs:List V) (H:Hp) (Q:VK):Prop:=∃(p:Addr) (vs:List V) (F:Hp) (d:D) (ds:List D),xs=[.ref p]/\eY X.K H p vs/\ah F H/\aj X.K F (d :: ds) vs/\k < 8/\(∀x∈d :: ds,pX k x)/\∀v,Den X.K F (pS k d ds) v->Q v H
theorem ug (k:Nat) (hc:X.calm=true) (hu:X.A.units + 9 < cLine):dZ X (.builtin "min") (yf X k):=by
 intro pins s σ H xs us Q I r h;obtain⟨p,vs,F,d,ds,rfl,hq,fh,dn,hk,ho,q⟩:=h;obtain⟨u,rfl,rx⟩:=vals1 r;cases rx;obtain⟨its,r',pl,hz⟩:=I.list hq;have hl:=pl.isList;have ll:its.length=(d :: ds).length:=by rw [dn.length,r'.length]
 have hlt:p < s.heap.objs.size:=by obtain⟨_,e,_⟩:=hl;exact Dx e
 have psz:(s.heap.push { cls:=.type "list_iterator",data:=.fields #[.ref p,.int 0 0] }).objs.size=s.heap.objs.size + 1:=by simp [Heap.push]
 have at_:∀(i:Nat) (v:Value),its.toArray[i]?=some v->∃(x:V) (e:D),(d :: ds)[i]?=some e/\Den X.K F e x/\RelV x v:=λi v hP=>by
  obtain⟨y,h1,h2⟩:=eR r' (by simpa using hP:its[i]?=some v);obtain⟨e,he,hd⟩:=dn.yI h1;exact⟨y,e,he,hd,h2⟩
 refine t9 (wpAny_pyIter_list hl ?_);have kk:∀(s':Shared),(∃h' tk,s'={ s with heap:=h',toks:=tk }/\∀b o,s.heap.get? b=some o->h'.get? b=some o)->Inv X pins σ H s':=λs' ⟨h',tk,e,k⟩=>e▸I.kept k
 refine⟨s.heap.objs.size,[s.heap.objs.size,p],[s.heap.objs.size],its.toArray.size,_,_,λi j=>oY k ((d :: ds).getD i .non) ((d :: ds).getD j .non),λs'=>∃h' tk,s'={ s with heap:=h',toks:=tk }/\∀b o,s.heap.get? b=some o->h'.get? b=some o,rfl,Walks.list (A:=X.A.in1) (I.ok.hd hc) _ p (DO hlt) its.toArray,
  ⟨⟨⟨_,DI _ rfl,rfl,rfl⟩,hl.push _⟩,λb hb=>?_,by rw [DE,ll];simp⟩,?_,⟨_,_,rfl,λb o e=>Dp _ e⟩,?_,?_⟩
 ·show b < (s.heap.push _).objs.size
  rw [psz];simp only [DD,DQ,or_false] at hb;rcases hb with rfl|rfl
  ·exact Nat.lt_succ_self _
  ·exact Nat.lt_succ_of_lt hlt
 ·intro i j x y s' Q' E' ks hx hy hQ;obtain⟨x',e1,g1,d1,r1⟩:=at_ i x hx;obtain⟨y',e2,g2,d2,r2⟩:=at_ j y hy;have z1:(d :: ds).getD i .non=e1:=by rw [DL,g1];rfl
  have z2:(d :: ds).getD j .non=e2:=by rw [DL,g2];rfl
  simp only [z1,z2] at hQ;exact rW (kk s' ks) fh k e1 e2 X.A.in1 x' y' x y (by rw [units_in1];omega) (by omega) (ho _ (Dy g1)) (ho _ (Dy g2)) d1 d2 r1 r2 _ _ _ _ hQ
 ·rintro s' h' tk ⟨h1,t1,rfl,k1⟩ kp;exact⟨h',tk,rfl,λb o e=>kp b o (λhm=>by rw [DJ.mp hm] at e;exact Nat.lt_irrefl _ (Dx e)) (λhm=>by have:=Dx e;rw [hm] at this;change (s.heap.push _).objs.size < _ at this;rw [psz] at this;omega) (k1 b o e)⟩
 ·intro v h' tk hv hk';rw [DE,ll] at hv;obtain⟨x,e,g,dx,rx⟩:=at_ _ _ hv;rw [vj k d ds _ (by simp)] at g;have ht:ds.take ((d :: ds).length - 1)=ds:=by simp
  rw [ht] at g;cases g;exact⟨x,H,I.kept (t':=tk) (lx hk'),rx,q x dx⟩
theorem xn {k:Nat}:Call3 X (yf X k) (rQ k):=by
 intro B σ F H env Q ds vs Z rp h hz hf;unfold rQ at hf
 split at hf
 ·next d xs =>
  obtain⟨hk,ho,q⟩:=hf;simp only [aj] at h;obtain⟨v,r,rfl,hv,rfl⟩:=h;simp only [Den] at hv;obtain⟨p,ys,rfl,q',r⟩:=hv;exact⟨p,ys,F,d,xs,rfl,rp.fh.seq q',rp.fh,r,hk,ho,λv hv=>hz _ _ F _ rp (ah.refl _) hv q⟩
 ·exact hf.elim
variable {e:Expr} {ts:dR} {p pos:Pos}
theorem zw (k:Nat) (hu:X.A.units + 64 < cLine) (hm:X.mg "min" = none) (ha:QA X [e] ts) (hg:Gl X "min":=by rfl) (hc:X.calm=true:=by rfl) (he:starEach [e] X.env=(false,eval e X.env) :: starEach [] X.env:=by exact bh rfl):QE X (.Call (.Name "min" p) [e] [] pos) (aI (rQ k) ts) :=
 jI (ug k hc (by omega)) xn hg hm tM ha (he:=he)
end
open PySem PySem.Spec PyProof.Rows PySem.W
theorem ez.plain {P:Program} {w:World} {K:Dj} {mg:Str->Option Value} {base:Heap} {k:Nat} {x:Str} {f:rO} (h:ez P w K mg base k x f):Known P w K mg base k x (λds Q=>f ds Q λ_=>False):=by
 obtain⟨fa,fd,ps,G,hm,hk,hb⟩:=h.ex;refine⟨fa,fd,ps,⟨λvs H Q E hs=>?_,λA outer s H args us vs Q E hr he hbt hv hs=>?_⟩,hm,hk,hb⟩
 ·obtain⟨F,ds,Pd,fh,hd,hf,kk⟩:=hs;exact G.len vs H Q E ⟨F,ds,Pd,λ_=>False,fh,hd,hf,kk,λ_ _ _ _ _ _ _ _ _ z=>z.elim⟩
 ·obtain⟨F,ds,Pd,fh,hd,hf,kk⟩:=hs;refine codeAny_mono (G.run A outer s H args us vs Q (λ_ _ _=>False) hr he hbt hv ⟨F,ds,Pd,λ_=>False,fh,hd,hf,kk,λ_ _ _ _ _ _ _ _ _ z=>z⟩) λr s' hq=>?_
  cases r with
  | ok v=>cases v <;> exact hq
  | error e =>
   obtain⟨_,_,_,_,_,_,_,_,_,_,z⟩:=hq;exact z.elim
def Ae (name q:Str) (params:Arguments) (body:List Stmt) (scope:Scope) (a5:List (Str×Addr)) (G:Hp) (a:Addr):Prop:=∃c' pm dc ctv,G a=some (.frz (fnMade name q params body scope a5 dc pm c' ctv) (.cdr c' q))
def yC (name q:Str) (params:Arguments) (body:List Stmt) (scope:Scope) (a5:List (Str×Addr)) (caps:List D) (ws:List V):Frag->Hp->Addr->Prop:=λK G a=>Ae name q params body scope a5 G a/\aj K G caps ws
section
variable {P:Program} {w:World} {K:Frag} {mg:Str->Option Value} {base:Heap} {name qual:Str} {params:Arguments} {scope:Scope} {a5:List (Str×Addr)} {ps cn:List Str} {ws:List V} {caps:List D} {k:Nat}
theorem u5 {ret:Expr} {rpos:Pos} {t:TD} (S:Bo scope ps cn) (CL:Cm base a5 cn ws) (hfr:∀x c,a5.lookup x=some c->x∈cn)
  (hb:∀dc pm c' ctv (us:List Value),us.length=ps.length->bindArgs (fnX name qual params [.Return (some ret) rpos] scope a5 .none .none dc pm none (.ref c') ctv) ⟨us,[]⟩=pure (ps.zip us))
  (hbody:∀(f c':Addr) (A:Around) (outer:List Env) (s:Shared) (H:Hp),bR k (A.deeper (envX qual scope s.heap.objs.size f (.ref c') a5))->QE (AX P w K mg base (ps ++ cn) qual scope f c' a5 A outer s H) ret t) :
  gO P w K mg base (k + 1) (yC name qual params [.Return (some ret) rpos] scope a5 caps ws) λds Q=>ds.length=ps.length/\t (aA (ps ++ cn) (ds ++ caps)) Q:=by
 refine⟨λH h a hP hok=>?_,λF a A outer s H us vs ds Pd Q E hP hr e0 fh hd r hf kk=>?_⟩
 ·obtain⟨⟨c',pm,dc,ctv,e1⟩,_⟩:=hP;obtain⟨e,_⟩:=hok a _ e1;exact⟨_,_,_,_,e⟩
 ·obtain⟨⟨c',pm,dc,ctv,e1⟩,hcap⟩:=hP F (ah.refl _);obtain⟨ho,_,oc,vs',tt,e2,hd',hv'⟩:=e0.hok a _ (fh _ _ e1);obtain⟨hoc,_⟩:=e0.hok c' _ e2;have hq:iB oc qual:=⟨vs',tt,hd',hv'⟩;obtain⟨hl,hf⟩:=hf;have lu:us.length=ps.length:=by rw [<- r.length,<- hd.length];exact hl
  refine codeAny_call_function hr.depth ho rfl S.co S.gen rfl (hq.rec hoc) ?_;rw [hb dc pm c' ctv us lu];have lim:s.heap.NoLimit:=e0.mod.nolimit.keeps λb o e=>(e0.bs b o e).1;refine Ds (wpAny_newFunctionEnv S.cell (λy hy=>S.par _ (List.of_mem_zip hy).1) (λh1 hns hsb=>?_) S.kind);have hk1:∀b o,s.heap.get? b=some o->h1.get? b=some o:=λb o e=>hsb.extBut b o (DO (Dx e)) (Dp _ e);refine⟨lim.keeps hk1,codeAny_func ?_⟩
  have I:=rJ (qual:=qual) (f:=a) (c':=c') (tk:=s.toks + (ps.zip us).length) S CL hfr hr.hd e0 (by rw [<- hd.length];exact hl) r hns hk1;have hw:=hbody a c' A outer s H (hr.deeper _);have core:=(aC (br (pos:=rpos) hw)).run _ _ F H _ { nx:=λ_=>False,rt:=Pd,bk:=λ_=>False,ct:=λ_=>False } (dF (N:=ps ++ cn) fh (hd.append hcap)) hf [] _ I;refine DK core (λfl s' hs=>?_) λe s' z=>False.elim z
  cases fl with
  | ret u =>
   obtain⟨v,σ',H',J,rv,F',d,rp,dd,q⟩:=hs
   exact⟨v,H',J.os,J.bare,J.base,J.hok,rv,kk d v F' H' rp.f0 rp.h0 rp.fh (λp h1 h2=>rp.nf p ⟨h1,h2⟩) dd q⟩
  | next=>obtain⟨_,_,_,_,_,_,q⟩:=hs;exact q.elim
  | brk=>obtain⟨_,_,_,_,_,_,q⟩:=hs;exact q.elim
  | cont=>obtain⟨_,_,_,_,_,_,q⟩:=hs;exact q.elim
end
def A7 (i:Nat) (name q:Str) (params:Arguments) (body:List Stmt) (scope:Scope) (a5:List (Str×Addr)):TS:=λD σ H=>∀f c' pm dc ctv oc H',Made H q f c' oc (fnMade name q params body scope a5 dc pm c' ctv) H'->D.nx (σ.set i (some (.ref f))) H'
section
variable {X:Cx} {e ret:Expr} {params:Arguments} {body:List Stmt} {scope:Scope} {dpos rpos p p2 pos pos2:Pos} {a5:List (Str×Addr)} {q x g:Str} {te t:TD} {ps:List Str}
theorem zc (i:Nat) (hN:X.N.Nodup) (hi:X.N[i]?=some g) (hx:Loc X.env.scope g) (hck:jn X.K X.env.code q) (hq:qualnameIn X.env g g=q) (hcl:closureFor scope X.env=pure a5) (hd0:params.defaults=[]) (hk0:params.kw_defaults=[]) (ha:annTrees params none X.env=[])
  (hf:X.fn g=true\/X.env.scope.names.lookup g=some .local):PS X (.FunctionDef g params body [] none [] scope none g dpos) (A7 i g q params body scope a5):=by
 intro pins s σ H D I h;obtain⟨c,P,e,C,hP⟩:=hck.hd I.ok.mod.kin;refine nestDef_K hd0 hk0 ha ?_;rw [hq];exact ve I e C hP hcl λf c' pm dc ctv oc H' s' m I'=>fT I' hN hi hx (show RelV (.ref f) (.ref f) from rfl) (λs2 I2=>⟨_,H',I2,h f c' pm dc ctv oc H' m⟩) hf
def xw (i:Nat) (P0:Frag->Hp->Addr->Prop) (fx:Fw->(Frag->Hp->Addr->Prop)->rO) (te:TD) (ix:List Nat) (n:Nat) (N:List Str) (t:TD):TX:=λenv Q R=>env[i]?=some (some (.d (.obj P0)))/\te env λd=>∃caps,pN env ix=some caps/\∀Pf,fx (λds Q=>ds.length=n/\t (aA N (ds ++ caps)) Q) Pf [d,.obj Pf] Q R
theorem vH {fx:Fw->(Frag->Hp->Addr->Prop)->rO} {kf k:Nat} (i:Nat) (ix:List Nat) (cn:List Str)
  (h:∀base Pf φ,gO X.prog X.w X.K X.mg base (kf + 1) Pf φ->ez X.prog X.w X.K X.mg base k x (fx φ Pf)) (hfa:∃fa,X.mg x=some (.ref fa)/\keepIn X.K (.ref fa)=true) (hr:bR k X.A) (he:QE X.l5 e te) (S:Bo scope ps cn)
  (hb:∀a5 dc pm c' ctv (us:List Value),us.length=ps.length->bindArgs (fnX g q params [.Return (some ret) rpos] scope a5 .none .none dc pm none (.ref c') ctv) ⟨us,[]⟩=pure (ps.zip us))
  (hbody:∀(base:Heap) (a5:List (Str×Addr)) (f c':Addr) (A:Around) (outer:List Env) (s:Shared) (H:Hp),bR kf (A.deeper (envX q scope s.heap.objs.size f (.ref c') a5))->QE (AX X.prog X.w X.K X.mg base (ps ++ cn) q scope f c' a5 A outer s H) ret t)
  (hi:X.N[i]?=some g) (hv:rX X.env.scope g) (hdg:(g == ("__debug__" : Str))=false) (hcg:(g == ("__classdict__" : Str))=false) (hcell:∀x∈cn,X.env.kindOf x=some .cell) (hfn:∀x∈cn,X.fn x=true) (hix:ix.map (X.N[·]?)=cn.map some)
  (hg:Gl X x) (hdb:(x == ("__debug__" : Str))=false) (hst:starEach [e,.Name g p2] X.env=(false,eval e X.env) :: starEach [.Name g p2] X.env) (hpl:(backTo pos (starEach [.Name g p2] X.env)).any (·.1)=false) :
  QX X (.Call (.Name x p) [e,.Name g p2] [] pos) (xw i (λ_ G a=>Ae g q params [.Return (some ret) rpos] scope (bD X.env cn) G a) fx te ix ps.length (ps ++ cn) t):=by
 refine⟨λB σ F H env Q R rp hq0 pins s I=>?_⟩;obtain⟨fa,hm,hk⟩:=hfa;obtain⟨hi0,hq0⟩:=hq0;obtain⟨w0,hw0,hdn⟩:=rp.dv i _ hi0;simp only [Den] at hdn;obtain⟨f,rfl,hP⟩:=hdn;refine wpAny_Call_Name_kw (jU I hg hm ?_ hdb)
 have hw:=(iF (X:=X.bz (XX X pins σ B env R)) bc (iF (dO (pos:=p2) hi hv hdg hcg) oi (bh rfl)) hst) pos pins s σ H (λvs H2=>∃v d F2 caps,vs=[v,.ref f]/\Rep X.K B F2 H2 σ env/\ah F F2/\Den X.K F2 d v/\pN env ix=some caps/\∀Pf,fx (λds Q=>ds.length=ps.length/\t (aA (ps ++ cn) (ds ++ caps)) Q) Pf [d,.obj Pf] Q R) (I.bz _)
  (zy (az (he B σ F H env _ rp hq0) λv H1 hq1=>by
   obtain⟨F1,d,r1,s1,dd,caps,hc,hf⟩:=hq1
   exact⟨.ref f,hw0,v,d,F1,caps,rfl,r1,s1,dd,hc,hf⟩))
 refine callWith_K (h₀:=X.base) I.ok.mod.kin hk (bF hw λus s1 hq1=>?_) hst hpl;obtain⟨vs,H2,I2w,rv,v,d,F2,caps,rfl,r2,sF,dd,hc,hf⟩:=hq1;have I2:Inv X pins σ H2 s1:=I2w.aW;refine⟨I2.r8,?_⟩;obtain⟨ws,lw,dw,hσ⟩:=pJ r2 hc;have CL:=I2.Cs hcell hix lw hσ;have runs:=u5 (P:=X.prog) (w:=X.w) (K:=X.K) (mg:=X.mg) (name:=g) (params:=params) (ret:=ret) (rpos:=rpos) (caps:=caps) (k:=kf) S CL (λx c z=>(dg z).1) (hb _) (hbody _ _)
 have KX:=h _ _ _ runs;obtain⟨fa',fd,psx,G,hm',hk',hbd⟩:=KX.ex;obtain rfl:fa'=fa:=by rw [hm] at hm';cases hm';rfl
 have hd2:aj X.K F2 [d,.obj (yC g q params [.Return (some ret) rpos] scope (bD X.env cn) caps ws)] [v,.ref f]:=aH dd (aH (by
  simp only [Den]
  exact⟨f,rfl,λG sG=>⟨hP G (sF.trans sG),aj.mono sG _ _ dw⟩⟩) aK)
 have hsp:CH X.K X.mg (fx (λds Q=>ds.length=ps.length/\t (aA (ps ++ cn) (ds ++ caps)) Q) (yC g q params [.Return (some ret) rpos] scope (bD X.env cn) caps ws)) ([v,.ref f] ++ []) H2 (RV X B σ env F Q) (λC dd H'=>dd=none/\∃(c:Str) (F':Hp),Rep X.K B F' H' σ env/\X.mg c=some C/\R c):=by
  rw [Ea];exact⟨F2,_,Q,R,r2.fh,hd2,hf _,λd v F' H' a b c n hd q=>⟨F',d,r2.ext a c b n,sF.trans a,hd,q⟩,λc C F' H' a b c' n hm hx=>⟨rfl,c,F',r2.ext a c' b n,hm,hx⟩⟩
 have hl:(us ++ []).length=psx.length:=by
  have:=G.len _ _ _ _ hsp;rw [Ea] at this ⊢;rw [<- rv.length];exact this
 refine wpAny_call (codeAny_mono (G.run X.A X.stack s1 H2 ⟨us,[]⟩ (us ++ []) ([v,.ref f] ++ []) _ _ hr (I2.Cj hcell hfn) (hbd s1 us I2.r8 hl) (by simpa using rv) hsp) λrs s' hq'=>?_)
 cases rs with
 | error ex =>
  obtain⟨a,C,dd,H',rfl,os,bare,un,hok,fl,rfl,c,F',r',hm',hx⟩:=hq'
  exact⟨a,c,C,H',F',rfl,⟨H2,s1,I2,os,bare,un,hok,fl⟩,r',hm',hx⟩
 | ok fl =>
  cases fl with
  | ret u=>exact I2.after hq'
  | next=>exact False.elim hq'
  | brk=>exact False.elim hq'
  | cont=>exact False.elim hq'
def oW (i:Nat) (fx:Fw->(Frag->Hp->Addr->Prop)->rO) (te:TD) (ix:List Nat) (n:Nat) (N:List Str) (t:TD):nM:=λD env=>i < env.length/\∀Pf0,te (env.set i (some (.d (.obj Pf0)))) λd=>∃caps,pN (env.set i (some (.d (.obj Pf0)))) ix=some caps/\∀Pf,fx (λds Q=>ds.length=n/\t (aA N (ds ++ caps)) Q) Pf [d,.obj Pf] D.rt D.xc
theorem qX {fx:Fw->(Frag->Hp->Addr->Prop)->rO} {kf k:Nat} (i:Nat) (hN:X.N.Nodup) (ix:List Nat) (cn:List Str)
  (h:∀base Pf φ,gO X.prog X.w X.K X.mg base (kf + 1) Pf φ->ez X.prog X.w X.K X.mg base k x (fx φ Pf)) (hfa:∃fa,X.mg x=some (.ref fa)/\keepIn X.K (.ref fa)=true) (hr:bR k X.A) (he:QE X.l5 e te) (hck:jn X.K X.env.code q) (S:Bo scope ps cn)
  (hb:∀a5 dc pm c' ctv (us:List Value),us.length=ps.length->bindArgs (fnX g q params [.Return (some ret) rpos] scope a5 .none .none dc pm none (.ref c') ctv) ⟨us,[]⟩=pure (ps.zip us))
  (hbody:∀(base:Heap) (a5:List (Str×Addr)) (f c':Addr) (A:Around) (outer:List Env) (s:Shared) (H:Hp),bR kf (A.deeper (envX q scope s.heap.objs.size f (.ref c') a5))->QE (AX X.prog X.w X.K X.mg base (ps ++ cn) q scope f c' a5 A outer s H) ret t)
  (hi:X.N[i]?=some g:=by rfl) (hxl:Loc X.env.scope g:=by first|exact Or.inl rfl|exact Or.inr rfl) (hff:X.fn g=true\/X.env.scope.names.lookup g=some .local:=by first|exact .inl rfl|exact .inr rfl)
  (hv:rX X.env.scope g:=by first | exact Or.inl rfl | exact Or.inr (Or.inl rfl) | exact Or.inr (Or.inr rfl)) (hdg:(g == ("__debug__" : Str))=false:=by decide) (hcg:(g == ("__classdict__" : Str))=false:=by decide)
  (hq:qualnameIn X.env g g=q:=by rfl) (hcell:∀x∈cn,X.env.kindOf x=some .cell:=by decide +kernel) (hfn:∀x∈cn,X.fn x=true:=by exact λ_ _=>rfl) (hix:ix.map (X.N[·]?)=cn.map some:=by rfl) (hcl:closureFor scope X.env=pure (bD X.env cn):=by rfl)
  (hd0:params.defaults=[]:=by rfl) (hk0:params.kw_defaults=[]:=by rfl) (ha:annTrees params none X.env=[]:=by rfl)
  (hg:Gl X x:=by rfl) (hdb:(x == ("__debug__" : Str))=false:=by decide)
  (hst:starEach [e,.Name g p2] X.env=(false,eval e X.env) :: starEach [.Name g p2] X.env:=by exact bh rfl) (hpl:(backTo pos (starEach [.Name g p2] X.env)).any (·.1)=false:=by rfl) :
  yg X [.FunctionDef g params [.Return (some ret) rpos] [] none [] scope none g dpos,.Return (some (.Call (.Name x p) [e,.Name g p2] [] pos)) pos2] (oW i fx te ix ps.length (ps ++ cn) t):=by
 refine⟨λB σ F H env D rp hq0 pins s I=>?_⟩;have li:i < σ.length:=by rw [I.len];exact (Dh.mp hi).1
 obtain⟨le,hq0⟩:=hq0;refine (fO (zc (X:=X.bz (XZ X B D.xc)) i hN hi hxl hck hq hcl hd0 hk0 ha hff) cO) pins s σ H _ I ?_;intro f c' pm dc ctv oc H1 m;obtain⟨r1,sF0⟩:=m.rep rp
 have d0:Den X.K (upd F f (.frz (fnMade g q params [.Return (some ret) rpos] scope (bD X.env cn) dc pm c' ctv) (.cdr c' q))) (.obj λ_ G a=>Ae g q params [.Return (some ret) rpos] scope (bD X.env cn) G a) (.ref f):=by
  simp only [Den];exact⟨f,rfl,λG sG=>⟨c',pm,dc,ctv,sG _ _ aq⟩⟩
 refine (si (yE (pos:=pos2) (vH (p:=p) (pos:=pos) (p2:=p2) i ix cn h hfa hr he S hb hbody hi hv hdg hcg hcell hfn hix hg hdb hst hpl))).run B _ _ H1 _ D (r1.set d0 li) ⟨?_,hq0 _⟩;rw [Dn le]
end
def yS (scope sc:Scope):Scope:={ scope with names:=scope.names.map λ(n,k)=>if (k == .free && sc.kind == .function && sc.names.lookup n == some .cell) then (n,.cell) else (n,k) }
theorem aQ.C0 {X:Cx} {N0 N':List Str} {scope0 scope:Scope} {nt:Nat} {ix:List Nat} {C:Addr} {s:Shared} {H:Hp} {fp:List Addr} {pins:List (Addr×Obj)} (sc:Scope) (hsc:X.env.scope=sc) (kind:scope.kind=.function) (nocell:∀x∈scope.names,x.2≠.cell) (names:∀x∈scope.names,x.2=.local->scope.names.lookup x.1=some .local)
  (free:∀x∈scope.names,x.2=.free->(yS scope0 sc).names.lookup x.1=some .cell)
  (caps:∀(j:Nat) (i:Nat),ix[j]?=some i->∃x,N'[nt + j]?=some x/\N0[i]?=some x/\(x,NameKind.free)∈scope.names/\(yS scope (yS scope0 sc)).names.lookup x=some .cell) (len:N'.length=nt + ix.length):aQ (aF X N0 scope0 C s H fp pins) N' nt ix scope:=by
 subst hsc;exact⟨kind,λx _ z=>nocell _ z rfl,names,λx h1 h2=>.inl (free x h1 h2),λj i h=>let ⟨x,a,b,c,d⟩:=caps j i h;⟨x,a,b,c,.inl d⟩,len⟩
open PySem
structure M4 where
 a:Int
 b:Int
 c:Int
 d:Int
 deriving DecidableEq
namespace M4
def C2 (m:M4):Prop:=m.c < 0\/(m.c=0/\m.d < 0)
instance (m:M4):Decidable m.C2:=inferInstanceAs (Decidable (_\/_))
end M4
def isLet (c:Nat):Prop:=c=115\/c=114\/c=113
theorem snoc_ind {α:Type} {P:List α->Prop} (h0:P []) (hs:∀r c,P r->P (r ++ [c])) (xs:List α):P xs:=by
 have h:∀ys:List α,P ys.reverse:=λys=>by
  induction ys with
  | nil=>exact h0
  | cons y r ih=>rw [List.reverse_cons];exact hs _ _ ih
 simpa using h xs.reverse
abbrev Z2:=Int×Int
def B5 (x:Z2):Prop:=x.2 < 0\/(x.2=0/\x.1 < 0)
instance (x:Z2):Decidable (B5 x):=inferInstanceAs (Decidable (_\/_))
def G2 (P:D->D->(D->Prop)->(Str->Prop)->Prop):rO:=λds Q R=>∃x y,ds=[x,y]/\P x y Q R
theorem AE {P}:∀ds (Q:D->Prop) (R:Str->Prop),G2 P ds Q R->ds.length=2:=by rintro ds Q R ⟨x,y,rfl,_⟩;rfl
theorem AV {P} {x y:D} {Q R}:G2 P [x,y] Q R=P x y Q R:=by
 unfold G2;apply propext;constructor
 ·rintro⟨x',y',e,h⟩;cases e;exact h
 ·intro h;exact⟨_,_,rfl,h⟩
def Cr (p q:Int):Prop:=(p < 0/\0 < q)\/(q < 0/\0 < p)
instance (p q:Int):Decidable (Cr p q):=inferInstanceAs (Decidable (_\/_))
theorem jR {α:Type} (f:α->D) (l:List α) (i:Nat) (x:α) (h:l[i]?=some x):iV (l.map f) (i:Int)=some (f x):=by
 rw [sk (by omega) (by have:=(Dh.mp h).1;simp;omega)];simp [h]
inductive Mk where
 | half|third|gap (j:Nat)
 deriving DecidableEq
def aJ (l:List Nat):List D:=l.map λ(i:Nat)=>D.int i
open PySem L2
abbrev CU:=Z2×Z2
inductive Dg where
 | gap (i:Nat)|edge (e:CU)
 deriving DecidableEq
end L2.L3
namespace K55
open PySem L2 L2.L3
section
variable {a b:D} {Q:D->Prop}
theorem w6:i6 (.tup [a,b]) (.int 0) Q=Q a:=propext ⟨fun⟨v,e,q⟩=>by have:some a=some v:=e;cases this;exact q,λq=>⟨a,rfl,q⟩⟩
theorem AJ:i6 (.tup [a,b]) (.int 1) Q=Q b:=propext ⟨fun⟨v,e,q⟩=>by have:some b=some v:=e;cases this;exact q,λq=>⟨b,rfl,q⟩⟩
end
theorem zP {z z':Str} {Q:D->Prop}:wj (.str z) (.str z') Q=Q (.bl (!(z == z'))):=by
 unfold wj kC;simp only [dep,aS,DZ,and_self,true_and]
theorem fP {α:Type} [DecidableEq α]:∀(l m:List α),l.Nodup->(∀x∈l,x∈m)->l.length<=m.length
 | [],m,_,_=>DZ _
 | x :: l,m,nd,h=>by
  rw [Ee] at nd;have hx:=h x DC;have ih:=fP l (m.erase x) nd.2 λy hy=>(List.mem_erase_of_ne (a:=y) (b:=x) (λe=>nd.1 (by rw [<- e];exact hy))).mpr (h y (Dv _ hy));rw [List.length_erase_of_mem hx] at ih;have:0 < m.length:=List.length_pos_of_mem hx;simp only [DV];omega
structure jt (a b:List Nat):Prop where
 len:b.length=a.length
 al:∀(i x:Nat),a[i]?=some x->x < a.length
 bl:∀(i x:Nat),b[i]?=some x->x < a.length
 aa:∀(i x:Nat),a[i]?=some x->a[x]?=some i
 bbb:∀(i x y:Nat),b[i]?=some x->b[x]?=some y->b[y]?=some i
end K55
namespace KR
open PySem L2 L2.L3 K55
section
variable {β:Type} [DecidableEq β]
def cb (met:List β) (q:β):List β:=if q∈met then met else met ++ [q]
def du (met:List β) (g:β->β):List Nat:=met.map λp=>met.idxOf (g p)
structure Code (c:β->D):Prop where
 eq:∀p q,aS (c p) (c q)=decide (p=q)
 dp:∀p,dep (c p)<=8
structure Me (P:β->Prop) (met:List β):Prop where
 nd:met.Nodup
 inn:∀p∈met,P p
theorem Me.add {P:β->Prop} {met:List β} (m:Me P met) {q:β} (hq:P q):Me P (cb met q):=by
 unfold cb
 by_cases c:q∈met
 ·rw [if_pos c];exact m
 ·rw [if_neg c];refine⟨Ei.mpr ⟨m.nd,by simp,λa ha b hb e=>c (by rw [DJ] at hb;rw [<- hb,<- e];exact ha)⟩,λp hp=>?_⟩;rcases DM.mp hp with z|z
  ·exact m.inn p z
  ·rw [DJ] at z;rw [z];exact hq
def wu (met l:List β) (i:Nat):List β:=(l.take i).foldl cb met
theorem sY {l met:List β} {i:Nat} {q:β} (h:l[i]?=some q):wu met l (i + 1)=cb (wu met l i) q:=by
 unfold wu;rw [Er,h,List.foldl_append];rfl
theorem bY {met:List β} {q p:β} {i:Nat} (h:met[i]?=some p):(cb met q)[i]?=some p:=by
 unfold cb
 by_cases c:q∈met
 ·rw [if_pos c];exact h
 ·rw [if_neg c,Dw (Dh.mp h).1];exact h
theorem iD {met:List β} {q:β}:q∈cb met q:=by
 unfold cb
 by_cases c:q∈met
 ·rw [if_pos c];exact c
 ·rw [if_neg c];simp
theorem fU {met:List β} {q p:β} (h:p∈met):p∈cb met q:=by
 unfold cb
 by_cases c:q∈met
 ·rw [if_pos c];exact h
 ·rw [if_neg c];exact DM.mpr (.inl h)
theorem fi {met:List β} {q:β} (h:q∈met):met[met.idxOf q]?=some q:=by
 rw [Dm (List.idxOf_lt_length_iff.mpr h),List.getElem_idxOf]
end
section
variable {β:Type} [DecidableEq β] {ha th:β->β} {f:β} {P:β->Prop} {all:List β}
structure Full (ha th:β->β) (f:β) (P:β->Prop) (met:List β):Prop where
 me:Me P met
 cl:∀p∈met,ha p∈met/\th p∈met
 head:met[0]?=some f
 num:∀j q,0 < j->met[j]?=some q->∃i p,i < j/\met[i]?=some p/\(ha p=q\/th p=q)
structure Part (ha th:β->β) (f:β) (P:β->Prop) (met:List β) (at_:Nat):Prop where
 me:Me P met
 le:at_<=met.length
 cl:∀i p,i < at_->met[i]?=some p->ha p∈met/\th p∈met
 head:met[0]?=some f
 num:∀j q,0 < j->met[j]?=some q->∃i p,i < j/\i<=at_/\met[i]?=some p/\(ha p=q\/th p=q)
theorem Part.add {met:List β} {at_:Nat} (m:Part ha th f P met at_) {p q:β} (hp:met[at_]?=some p) (hq:P q) (e:ha p=q\/th p=q):Part ha th f P (cb met q) at_:=by
 have hl:=(Dh.mp hp).1;refine⟨m.me.add hq,?_,λi x hi hx=>?_,bY m.head,λj x hj hx=>?_⟩
 ·have:=(Dh.mp (bY (q:=q) hp)).1;omega
 ·have o:met[i]?=some (met[i]'(by omega)):=Dm _;rw [bY o] at hx;cases hx;obtain⟨a,b⟩:=m.cl i _ hi o;exact⟨fU a,fU b⟩
 ·by_cases c:j < met.length
  ·have o:met[j]?=some met[j]:=Dm c;rw [bY o] at hx;cases hx;obtain⟨i,y,h1,h2,h3,h4⟩:=m.num j _ hj o;exact⟨i,y,h1,h2,bY h3,h4⟩
  ·have hx':=hx;unfold cb at hx
   by_cases cq:q∈met
   ·rw [if_pos cq,DG (by omega)] at hx;cases hx
   ·rw [if_neg cq,Dz (by omega)] at hx
    have hj0:j - met.length=0:=by
     have:=(Dh.mp hx).1
     simpa using this
    rw [hj0] at hx;have:q=x:=by simpa using hx
    subst this;exact⟨at_,p,by omega,Du _,bY hp,e⟩
end
structure An (a b:List Nat):Prop where
 ok:jt a b
 pos:0 < a.length
 num:∀j,0 < j->j < a.length->∃i,i < j/\(a[i]?=some j\/b[i]?=some j)
theorem gi {β:Type} [DecidableEq β] {met:List β} {g:β->β} {i:Nat} {p:β} (h:met[i]?=some p):(du met g)[i]?=some (met.idxOf (g p)):=by
 unfold du;rw [Dt,h];rfl
theorem eT {β:Type} [DecidableEq β] {met:List β} (nd:met.Nodup) {i:Nat} {p:β} (h:met[i]?=some p):met.idxOf p=i:=by
 have h2:=fi (Dy h);exact (List.getElem?_inj (Dh.mp h2).1 nd).mp (h2.trans h.symm)
theorem Full.mw {β:Type} [DecidableEq β] {ha th:β->β} {f:β} {P:β->Prop} {met:List β} (m:Full ha th f P met) (hh:∀p,P p->ha (ha p)=p) (t3:∀p,P p->th (th (th p))=p):An (du met ha) (du met th):=by
 have l1:∀g:β->β,(du met g).length=met.length:=λg=>by unfold du;rw [DH]
 have inv:∀(g:β->β) (i x:Nat),(du met g)[i]?=some x->∃p,met[i]?=some p/\x=met.idxOf (g p):=λg i x h=>by
  unfold du at h;rw [Dt] at h;obtain⟨p,hp,e⟩:=DP.mp h;exact⟨p,hp,e.symm⟩
 have nd:=m.me.nd;refine⟨⟨by rw [l1,l1],λi x h=>?_,λi x h=>?_,λi x h=>?_,λi x y h1 h2=>?_⟩,?_,λj hj hl=>?_⟩
 ·obtain⟨p,hp,rfl⟩:=inv _ _ _ h;rw [l1];exact List.idxOf_lt_length_iff.mpr (m.cl p (Dy hp)).1
 ·obtain⟨p,hp,rfl⟩:=inv _ _ _ h;rw [l1];exact List.idxOf_lt_length_iff.mpr (m.cl p (Dy hp)).2
 ·obtain⟨p,hp,rfl⟩:=inv _ _ _ h;have pm:=Dy hp;rw [gi (fi (m.cl p pm).1),hh p (m.me.inn p pm),eT nd hp]
 ·obtain⟨p,hp,rfl⟩:=inv _ _ _ h1;have pm:=Dy hp;have q1:=(m.cl p pm).2;rw [gi (fi q1)] at h2;cases h2;rw [gi (fi (m.cl _ q1).2),t3 p (m.me.inn p pm),eT nd hp]
 ·rw [l1];exact List.length_pos_of_mem (Dy m.head)
 ·rw [l1] at hl;obtain⟨i,p,h1,h2,h3⟩:=m.num j met[j] hj (Dm hl);refine⟨i,h1,?_⟩;have ij:met.idxOf met[j]=j:=eT nd (Dm hl);rcases h3 with e|e
  ·left;rw [gi h2,e,ij]
  ·right;rw [gi h2,e,ij]
theorem yV {l:List Nat} {i x:Nat} (h:l[i]?=some x) {Q:D->Prop}:i6 (.tup (aJ l)) (.int (i:Int)) Q=Q (.int (x:Int)):=by
 have hi:i < l.length:=(Dh.mp h).1
 have e:iV (aJ l) (i:Int)=some (.int (x:Int)):=by
  have e1:wx l.length (i:Int)=some i:=by unfold wx;rw [if_pos (by omega),if_pos (by omega)];simp
  unfold iV aJ;rw [DH,e1];simp [h]
 exact propext ⟨fun⟨v,ev,q⟩=>by rw [e] at ev;cases ev;exact q,λq=>⟨_,e,q⟩⟩
def iP (a:List Nat) (i:Nat):Nat:=a.getD i 0
theorem lY {a:List Nat} {i:Nat} (h:i < a.length):a[i]?=some (iP a i):=by unfold iP;rw [DL,Dm h];rfl
abbrev cN:Nat->D:=λi=>.int (i:Int)
theorem An.high {a b:List Nat} (t:An a b) {met:List Nat} (cl:∀p∈met,iP a p∈met/\iP b p∈met) (h0:0∈met):∀n j,j<=n->j < a.length->j∈met
 | 0,j,h,_=>by rw [show j=0 by omega];exact h0
 | n + 1,j,h,hj=>by
  by_cases c:j=0
  ·rw [c];exact h0
  ·have le:=t.ok.len;obtain⟨i,hi,e⟩:=t.num j (by omega) hj;have ih:=An.high t cl h0 n i (by omega) (by omega);rcases e with e|e
   ·rw [lY (by omega)] at e;rw [<- DA e];exact (cl i ih).1
   ·rw [lY (by omega)] at e;rw [<- DA e];exact (cl i ih).2
abbrev fu (a b:List Nat):D:=.tup [.tup (aJ a),.tup (aJ b)]
end KR
namespace K55
open PySem L2 L2.L3
structure yq (n:Nat) (π:Nat->Nat):Prop where
 lt:∀i,i < n->π i < n
 inj:∀i j,i < n->j < n->π i=π j->i=j
def it (π:Nat->Nat):Nat->Nat->Nat
 | 0,x=>x
 | k + 1,x=>π (it π k x)
section
variable {n:Nat} {π:Nat->Nat} (h:yq n π)
include h
theorem lL {x:Nat} (hx:x < n):∀k,it π k x < n
 | 0=>hx
 | k + 1=>h.lt _ (lL hx k)
theorem vK {x y:Nat} (hx:x < n) (hy:y < n):∀k,it π k x=it π k y->x=y
 | 0,e=>e
 | k + 1,e=>vK hx hy k (h.inj _ _ (lL h hx k) (lL h hy k) e)
omit h in
theorem lH (x:Nat):∀j k,it π (j + k) x=it π j (it π k x)
 | 0,k=>by rw [Nat.zero_add];rfl
 | j + 1,k=>by rw [Nat.add_right_comm];show π (it π (j + k) x)=_;rw [lH x j k];rfl
theorem sQ {x:Nat} (hx:x < n) {i j:Nat} (hij:i < j) (e:it π i x=it π j x):it π (j - i) x=x:=by
 have:it π i (it π (j - i) x)=it π i x:=by rw [<- lH,show i + (j - i)=j by omega];exact e.symm
 exact vK h (lL h hx _) hx i this
theorem Aa {x:Nat} (hx:x < n):∃k,0 < k/\k<=n/\it π k x=x:=by
 apply Classical.byContradiction
 intro no;have ne:∀i j,i < j->j<=n->it π i x≠it π j x:=λi j hij hj e=>no ⟨j - i,by omega,by omega,sQ h hx hij e⟩
 have nd:((List.range (n + 1)).map λi=>it π i x).Nodup:=by
  rw [List.Nodup,List.pairwise_map];refine List.Pairwise.imp_of_mem ?_ (List.pairwise_lt_range (n:=n + 1));intro a b _ hb hab;exact ne a b hab (by have:=DT.mp hb;omega)
 have:=fP _ (List.range n) nd (λy hy=>by
  obtain⟨i,_,rfl⟩:=DB.mp hy
  exact DT.mpr (lL h hx i))
 simp at this;omega
end
structure km (π:Nat->Nat) (x k:Nat):Prop where
 pos:0 < k
 ret:it π k x=x
 first:∀j,0 < j->j < k->it π j x≠x
theorem vE {P:Nat->Prop}:∀k,P k->∃m,m<=k/\P m/\∀j,j < m->¬ P j:=λk=>by
 induction k using Nat.strongRecOn with
 | _ k ih =>
  intro hk
  by_cases c:∃j,j < k/\P j
  ·obtain⟨j,h1,h2⟩:=c;obtain⟨m,h3,h4⟩:=ih j h1 h2;exact⟨m,by omega,h4⟩
  ·exact⟨k,Du _,hk,λj hj hP=>c ⟨j,hj,hP⟩⟩
theorem pC {n:Nat} {π:Nat->Nat} (h:yq n π) {x:Nat} (hx:x < n):∃k,k<=n/\km π x k:=by
 obtain⟨k,h1,h2,h3⟩:=Aa h hx;obtain⟨m,h4,⟨h5,h6⟩,h7⟩:=vE (P:=λk=>0 < k/\it π k x=x) k ⟨h1,h3⟩;exact⟨m,by omega,h5,h6,λj hj hm e=>h7 j hm ⟨hj,e⟩⟩
open Classical in
noncomputable def iL (π:Nat->Nat) (x:Nat):Nat:=if h:∃k,km π x k then Classical.choose h else 0
noncomputable def lJ (π:Nat->Nat) (x:Nat):List Nat:=(List.range (iL π x)).map λk=>it π k x
theorem km.uniq {π:Nat->Nat} {x j k:Nat} (a:km π x j) (b:km π x k):j=k:=by
 rcases Nat.lt_trichotomy j k with h|h|h
 ·exact absurd a.ret (b.first j a.pos h)
 ·exact h
 ·exact absurd b.ret (a.first k b.pos h)
section
variable {n:Nat} {π:Nat->Nat} (h:yq n π) {x:Nat} (hx:x < n)
include h hx
theorem fz:km π x (iL π x):=by
 obtain⟨k,_,hk⟩:=pC h hx;have e:∃k,km π x k:=⟨k,hk⟩;unfold iL;rw [dif_pos e];exact Classical.choose_spec e
theorem qJ:iL π x<=n:=by
 obtain⟨k,h1,hk⟩:=pC h hx;rw [(fz h hx).uniq hk];exact h1
theorem Ad:∀y∈lJ π x,y < n:=λy hy=>by
 obtain⟨k,_,rfl⟩:=DB.mp hy;exact lL h hx k
theorem Bb {i j:Nat} (hij:i < j) (hj:j < iL π x):it π i x≠it π j x:=λe=>(fz h hx).first (j - i) (by omega) (by omega) (sQ h hx hij e)
theorem i5:(lJ π x).Nodup:=by
 unfold lJ;rw [List.Nodup,List.pairwise_map];refine List.Pairwise.imp_of_mem ?_ (List.pairwise_lt_range (n:=iL π x));intro a b _ hb hab;exact Bb h hx hab (DT.mp hb)
theorem qp:x∈lJ π x:=DB.mpr ⟨0,DT.mpr (fz h hx).pos,rfl⟩
theorem qG:∀y∈lJ π x,π y∈lJ π x:=λy hy=>by
 obtain⟨k,hk,rfl⟩:=DB.mp hy;have hk':=DT.mp hk
 by_cases c:k + 1 < iL π x
 ·exact DB.mpr ⟨k + 1,DT.mpr c,rfl⟩
 ·have e:k + 1=iL π x:=by omega
  have:=(fz h hx).ret;rw [<- e] at this;show it π (k + 1) x∈_
  rw [this];exact qp h hx
omit hx in
theorem yp {T:List Nat} (hc:∀y∈T,π y∈T) {y:Nat} (hy:y∈T):∀k,it π k y∈T
 | 0=>hy
 | k + 1=>hc _ (yp hc hy k)
theorem vQ {T:List Nat} (hc:∀y∈T,π y∈T) (hn:x∉T) {k:Nat} (hk:k<=iL π x):it π k x∉T:=λhm=>by
 have:=yp h hc hm (iL π x - k);rw [<- lH,show iL π x - k + k=iL π x by omega,(fz h hx).ret] at this;exact hn this
end
open Classical in
noncomputable def iw (π:Nat->Nat) (st:List Nat×List (Nat×Nat)) (i:Nat):List Nat×List (Nat×Nat):=if i∈st.1 then st else (st.1 ++ lJ π i,st.2 ++ [((lJ π i).length,i)])
noncomputable def cE (π:Nat->Nat) (i:Nat):List Nat×List (Nat×Nat):=(List.range i).foldl (iw π) ([],[])
theorem cu (π:Nat->Nat) (i:Nat):cE π (i + 1)=iw π (cE π i) i:=by
 unfold cE;rw [List.range_succ,List.foldl_append];rfl
structure Cn (π:Nat->Nat) (n i:Nat) (T:List Nat) (told:List (Nat×Nat)):Prop where
 nd:T.Nodup
 lt:∀y∈T,y < n
 cl:∀y∈T,π y∈T
 all:∀y,y < i->y∈T
 sum:(told.map (·.1)).sum=T.length
 few:told.length<=i
theorem u3 {n:Nat} {π:Nat->Nat} (h:yq n π):∀i,i<=n->Cn π n i (cE π i).1 (cE π i).2
 | 0,_=>⟨List.nodup_nil,λy hy=>absurd hy DQ,λy hy=>absurd hy DQ,λy hy=>absurd hy (El _),rfl,Du _⟩
 | i + 1,hi=>by
  have t:=u3 h i (by omega);have hx:i < n:=hi;rw [cu];unfold iw
  by_cases c:i∈(cE π i).1
  ·rw [if_pos c];refine⟨t.nd,t.lt,t.cl,λy hy=>?_,t.sum,by have:=t.few;omega⟩
   by_cases e:y=i
   ·exact e▸c
   ·exact t.all y (by omega)
  ·rw [if_neg c];refine⟨?_,λy hy=>?_,λy hy=>?_,λy hy=>?_,?_,?_⟩
   ·refine Ei.mpr ⟨t.nd,i5 h hx,λa ha b hb e=>?_⟩;subst e;obtain⟨k,hk,rfl⟩:=DB.mp hb;exact vQ h hx t.cl c (by have:=DT.mp hk;omega) ha
   ·rcases DM.mp hy with hy|hy
    ·exact t.lt y hy
    ·exact Ad h hx y hy
   ·rcases DM.mp hy with hy|hy
    ·exact DM.mpr (.inl (t.cl y hy))
    ·exact DM.mpr (.inr (qG h hx y hy))
   ·by_cases e:y=i
    ·subst e;exact DM.mpr (.inr (qp h hx))
    ·exact DM.mpr (.inl (t.all y (by omega)))
   ·simp only [List.map_append,List.sum_append,DN,t.sum];simp
   ·have:=t.few;simp;omega
def gD (a b:List Nat) (i:Nat):Nat:=b.getD (a.getD i 0) 0
theorem getD_at {l:List Nat} {i:Nat} (h:i < l.length):l[i]?=some (l.getD i 0):=by
 rw [DL,Dm h];rfl
theorem jt.nq {a b:List Nat} (t:jt a b):yq a.length (gD a b):=by
 have e:=t.len;refine⟨λi hi=>?_,λi j hi hj h=>?_⟩
 ·have h1:=t.al _ _ (getD_at hi);exact t.bl _ _ (getD_at (l:=b) (by omega))
 ·have h1:=getD_at hi;have h2:=getD_at hj;have l1:=t.al _ _ h1;have l2:=t.al _ _ h2;have g1:=getD_at (l:=b) (i:=a.getD i 0) (by omega);have g2:=getD_at (l:=b) (i:=a.getD j 0) (by omega);unfold gD at h;rw [h] at g1;have l3:=t.bl _ _ g2;have g3:=getD_at (l:=b) (i:=b.getD (a.getD j 0) 0) (by omega);have l4:=t.bl _ _ g3;have q1:=t.bbb _ _ _ g1 g3;have q2:=t.bbb _ _ _ g2 g3;rw [q1] at q2;have ea:a.getD i 0=a.getD j 0:=DA q2
  rw [ea] at h1;have r1:=t.aa _ _ h1;have r2:=t.aa _ _ h2;rw [r1] at r2;exact DA r2
def fu (a b:List Nat):D:=.tup [.tup (aJ a),.tup (aJ b)]
theorem yV {l:List Nat} {i x:Nat} (h:l[i]?=some x) {Q:D->Prop}:i6 (.tup (aJ l)) (.int (i:Int)) Q=Q (.int (x:Int)):=by
 have hi:i < l.length:=(Dh.mp h).1
 have e:iV (aJ l) (i:Int)=some (.int (x:Int)):=by
  have e1:wx l.length (i:Int)=some i:=by unfold wx;rw [if_pos (by omega),if_pos (by omega)];simp
  unfold iV aJ;rw [DH,e1];simp [h]
 exact propext ⟨fun⟨v,ev,q⟩=>by rw [e] at ev;cases ev;exact q,λq=>⟨_,e,q⟩⟩
def vC (t p:D) (Q:D->Prop):Prop:=∃(a b:List Nat) (x:Nat),t=fu a b/\p=.int (x:Int)/\jt a b/\a.length<=500/\x < a.length/\Q (.lst (aJ (lJ (gD a b) x)))
def bZ:Fw:=F2 vC
def f9:cy:=(a0 (gR (a7 (aM wj (ag 5) (ag 1))) (a0 (b0 4 (ag 5)) (cf 5 (aM i6 (ag 3) (aM i6 (ag 2) (ag 5)))))) (cX 4 (cS (ag 4))))
def fm:cy:=(a0 (fM (ag 0) (fQ 2 (aO (aE 2) (aO (aE 3) eQ)))) (a0 (b7 4 (iN (af (ag 1) aB))) (a0 (cf 5 (aM i6 (ag 3) (aM i6 (ag 2) (ag 1)))) f9)))
theorem ko:∀ds Q,bZ ds Q->ds.length=2:=qd
theorem mf:∀ds (Q:D->Prop),bZ ds Q->fm { nx:=λ_=>Q .non,rt:=Q } (aA ["table","place","halves","thirds","met","behind"] ds):=by
 rintro ds Q ⟨t,p,rfl,a,b,x,rfl,rfl,tab,hl,hx,h⟩;have e:=tab.len;have nq:=tab.nq
 have step:∀y,y < a.length->a[y]?=some (a.getD y 0)/\b[a.getD y 0]?=some (gD a b y):=λy hy=>by
  have h1:=getD_at hy;have:=tab.al _ _ h1;exact⟨h1,getD_at (l:=b) (by omega)⟩
 simp_arith only [fm,fu]
 rw [yV (step x hx).1,yV (step x hx).2];have pi:=fz nq hx;have pl:=qJ nq hx
 simp_arith only [f9,gR]
 refine⟨λen=>∃k,0 < k/\k<=iL (gD a b) x/\en=[some (.d (.tup [.tup (aJ a),.tup (aJ b)])),some (.d (.int (x:Int))),some (.d (.tup (aJ a))),some (.d (.tup (aJ b))),some (.own (aJ ((List.range k).map λj=>it (gD a b) j x))),some (.d (.int ((it (gD a b) k x:Nat):Int)))],
  λen=>match en with|[_,_,_,_,some (.own l),_]=>501 - l.length|_=>0,⟨1,Nat.one_pos,pi.pos,rfl⟩,?_⟩
 rintro env ⟨k,h1,h2,rfl⟩;have ln:(aJ ((List.range k).map λj=>it (gD a b) j x)).length=k:=by simp [aJ]
 simp_arith only [and_true]
 by_cases c:k=iL (gD a b) x
 ·subst c;rw [pi.ret,if_neg (by simp)];exact h
 ·have hne:=pi.first k h1 (by omega);rw [if_pos (by omega)];have st:=step _ (lL nq hx k);rw [ln,yV st.1,yV st.2];refine⟨by omega,⟨k + 1,by omega,by omega,?_⟩,?_⟩
  ·rw [List.range_succ,List.map_append];unfold aJ;rw [List.map_append];exact⟨rfl,rfl⟩
  ·simp only [DN,ln];simp;omega
def rC (l:List Nat):List Int:=l.map λ(i:Nat)=>(i:Int)
theorem tV (l:List Nat):aJ l=(rC l).map D.int:=by unfold aJ rC;rw [List.map_map];rfl
theorem ou {l:List Nat} {i:Nat}:(i:Int)∈rC l↔i∈l:=by
 unfold rC;rw [DB]
 constructor
 ·rintro⟨a,h,e⟩;have:a=i:=by omega
  exact this▸h
 ·exact λh=>⟨i,h,rfl⟩
theorem jd {l:List Nat} (h:l.Nodup):(rC l).Nodup:=by
 unfold rC;rw [List.Nodup,List.pairwise_map];exact List.Pairwise.imp (λhab e=>hab (by omega)) h
theorem ri (l m:List Nat):rC (l ++ m)=rC l ++ rC m:=by unfold rC;rw [List.map_append]
theorem pV:∀(js is:List Int),js.Nodup->(∀j∈js,j∉is)->mE is js=is ++ js
 | [],is,_,_=>by simp [mE]
 | j :: js,is,nd,hd=>by
  obtain⟨h1,h2⟩:=Ee.mp nd;show mE (if j∈is then is else is ++ [j]) js=_
  rw [if_neg (hd j DC),pV js _ h2 (λk hk hm=>?_)]
  ·simp
  ·rcases DM.mp hm with hm|hm
   ·exact hd k (Dv _ hk) hm
   ·have:k=j:=by simpa using hm
    subst this;exact h1 hk
theorem vG {is:List Int} (h:is.Nodup):bO (de is):=by
 refine⟨λkv hk=>?_,λi j x y hi hj e=>?_⟩
 ·obtain⟨a,_,rfl⟩:=DB.mp hk;exact⟨by simp [aG],by simp [dep]⟩
 ·unfold de at hi hj;rw [Dt] at hi hj;obtain⟨u,hu,rfl⟩:=DP.mp hi;obtain⟨v,hv,rfl⟩:=DP.mp hj;have:u=v:=by simpa using e
  subst this;exact (List.getElem?_inj (Dh.mp hu).1 h).mp (hu.trans hv.symm)
theorem ue (is:List Int) (j:Int):((de is).any λkv=>aS kv.1 (.int j))=decide (j∈is):=by
 unfold de;rw [Bool.eq_iff_iff,List.any_eq_true,decide_eq_true_eq]
 constructor
 ·rintro⟨kv,h1,h2⟩;obtain⟨a,ha,rfl⟩:=DB.mp h1;have:a=j:=by simpa [aS] using h2
  exact this▸ha
 ·intro h;exact⟨_,DB.mpr ⟨j,h,rfl⟩,by simp [aS]⟩
def jl (l:List (Nat×Nat)):List D:=l.map λwp=>.tup [.int (wp.1:Int),.int (wp.2:Int)]
noncomputable def nr (a b:List Nat):List (Nat×Nat):=(cE (gD a b) a.length).2
def xS (t:D) (Q:D->Prop):Prop:=∃a b:List Nat,t=fu a b/\jt a b/\a.length<=500/\Q (.lst (jl (nr a b)))
def i8:Fw:=F1 xS
def oD:cy:=(qq (b7 1 (iN aB)) (qq (oG 2) (qq (fX n8 (af (aI kn (af (aM i6 (ag 0) (cC (.int 0))) aB)) aB) (aE 3) (om (gU true 2 (ag 3)) (a0 (cf 4 (aI bZ (af (ag 0) (af (ag 3) aB)))) (a0 (oX 2 (ag 4)) (b0 1 (bW (af (aI kn (af (ag 4) aB)) (af (ag 3) aB)))))) b9)) (sN 1))))
theorem u9:∀ds Q,i8 ds Q->ds.length=1:=sa
theorem uJ:∀ds (Q:D->Prop),i8 ds Q->oD { nx:=λ_=>False,rt:=Q } (aA ["table","told","taken","place","met"] ds):=by
 rintro ds Q ⟨t,rfl,a,b,rfl,tab,hl,h⟩;have nq:=tab.nq;have sz:=DR;have na:(aJ a).length=a.length:=by simp [aJ]
 simp_arith only [oD,qq,fu,w6,oG]
 rw [na];refine⟨by omega,by omega,?_⟩;refine df (λi e=>i<=a.length/\∃k3 k4,e=[some (.d (.tup [.tup (aJ a),.tup (aJ b)])),some (.own (jl (cE (gD a b) i).2)),some (.dic (de (rC (cE (gD a b) i).1))),k3,k4]) ?_ ?_ ⟨DZ _,_,_,rfl⟩
 ·rintro i x env N hx ⟨hi0,k3,k4,rfl⟩ hN
  have hi:i < a.length:=by
   have:=(Dh.mp hx).1
   simpa [bE] using this
  have hxe:x=.int (i:Int):=by
   unfold bE at hx;rw [Dt,Eo (by simpa using hi)] at hx;have:=DA hx;rw [<- this];simp
  subst hxe;have tk:=u3 nq i (by omega);have nd:=jd tk.nd
  simp_arith only [gU,Lo.dic.injEq,ue]
  refine⟨by simp [aG],by simp [dep],vG nd,?_⟩
  by_cases c:i∈(cE (gD a b) i).1
  ·rw [if_neg (by simpa using ou.mpr c)];refine hN _ ⟨hi,some (.d (.int (i:Int))),k4,?_⟩;rw [cu];unfold iw;rw [if_pos c]
  ·rw [if_pos (by simpa using λh=>c (ou.mp h))]
   simp_arith only [bZ,iq,vC,oX,Lo.dic.injEq]
   have ol:=qJ nq hi;have lo:(lJ (gD a b) i).length=iL (gD a b) i:=by unfold lJ;simp
   have ln:(aJ (lJ (gD a b) i)).length=(lJ (gD a b) i).length:=by simp [aJ]
   have lt:(jl (cE (gD a b) i).2).length=(cE (gD a b) i).2.length:=by simp [jl]
   have tl:=fP _ (List.range a.length) tk.nd (λy hy=>DT.mpr (tk.lt y hy));rw [List.length_range] at tl;have few:=tk.few;have li:∀l:List Nat,(rC l).length=l.length:=λl=>by simp [rC]
   refine⟨a,b,i,rfl,rfl,tab,hl,hi,rC (cE (gD a b) i).1,rfl,nd,rC (lJ (gD a b) i),tV _,jd (i5 nq hi),by rw [li,li];omega,?_⟩;rw [ln,lt];refine⟨by omega,hN _ ⟨hi,some (.d (.int (i:Int))),some (.d (.lst (aJ (lJ (gD a b) i)))),?_⟩⟩;rw [cu];unfold iw;rw [if_neg c,pV _ _ (jd (i5 nq hi)) (λj hj hm=>?_),<- ri]
   ·unfold jl;rw [List.map_append];rfl
   ·obtain⟨y,hy,rfl⟩:=DB.mp hj;obtain⟨k,hk,rfl⟩:=DB.mp hy;exact vQ nq hi tk.cl c (by have:=DT.mp hk;omega) (ou.mp hm)
 ·rintro env ⟨_,k3,k4,rfl⟩;have li:(bE 0 ((a.length:Int)).toNat).length=a.length:=by simp [bE]
  rw [li];exact⟨_,rfl,h⟩
def lp (a b:List Nat) (p c:Nat):Nat:=if c=115 then a.getD p 0 else if c=114 then b.getD p 0 else b.getD (b.getD p 0) 0
def lw (a b:List Nat) (cs:List Nat) (p:Nat):Nat:=cs.foldl (lp a b) p
theorem zh (a b u v:List Nat) (p:Nat):lw a b (u ++ v) p=lw a b v (lw a b u p):=List.foldl_append
theorem oI (a b u:List Nat) (c p:Nat):lw a b (u ++ [c]) p=lp a b (lw a b u p) c:=zh a b u [c] p
section
variable {a b:List Nat} (t:jt a b)
include t
theorem BH {p:Nat} (h:p < a.length):a.getD p 0 < a.length:=t.al _ _ (getD_at h)
theorem uF {p:Nat} (h:p < a.length):b.getD p 0 < a.length:=t.bl _ _ (getD_at (l:=b) (by rw [t.len];exact h))
theorem yi {p:Nat} (h:p < a.length) (c:Nat):lp a b p c < a.length:=by
 unfold lp;split
 ·exact BH t h
 ·split
  ·exact uF t h
  ·exact uF t (uF t h)
end
end K55
namespace KR
open PySem L2 L2.L3 K55
structure PP where
 fst:Nat
 snd:Nat
 deriving DecidableEq
section
variable {β:Type} [DecidableEq β] {ha th:β->β} {f:β} {P:β->Prop}
def aL (ha th:β->β) (f:β):Nat->List β
 | 0=>[f]
 | n + 1=>match (aL ha th f n)[n]? with
  | some p=>cb (cb (aL ha th f n) (ha p)) (th p)
  | none=>aL ha th f n
theorem nJ {n:Nat} {p:β} (h:(aL ha th f n)[n]?=some p):aL ha th f (n + 1)=cb (cb (aL ha th f n) (ha p)) (th p):=by
 rw [aL,h]
structure Done (ha th:β->β) (f:β) (n:Nat):Prop where
 le:∀i,i<=n->(aL ha th f i).length<=60
 lt:∀i,i < n->i < (aL ha th f i).length
 fin:(aL ha th f n).length<=n
structure Over (ha th:β->β) (f:β) (n:Nat):Prop where
 le:∀i,i<=n->(aL ha th f i).length<=60
 lt:∀i,i<=n->i < (aL ha th f i).length
 gt:60 < (aL ha th f (n + 1)).length
theorem Part.step {met:List β} {at_:Nat} (m:Part ha th f P met at_) {p:β} (hp:met[at_]?=some p) (c:P (ha p)/\P (th p)):Part ha th f P (cb (cb met (ha p)) (th p)) (at_ + 1):=by
 have m1:=m.add hp c.1 (.inl rfl);have hp1:=bY (q:=ha p) hp;have m2:=m1.add hp1 c.2 (.inr rfl);have hp2:=bY (q:=th p) hp1;refine⟨m2.me,?_,λi x hi hx=>?_,m2.head,λj q hj hq=>?_⟩
 ·have:=(Dh.mp hp2).1;omega
 ·by_cases e:i=at_
  ·subst e;rw [hp2] at hx;cases hx;exact⟨fU iD,iD⟩
  ·exact m2.cl i x (by omega) hx
 ·obtain⟨i,y,h1,h2,h3,h4⟩:=m2.num j q hj hq;exact⟨i,y,h1,by omega,h3,h4⟩
theorem iW (hf:P f) (cl:∀p,P p->P (ha p)/\P (th p)):∀n,(∀i,i < n->i < (aL ha th f i).length)->Part ha th f P (aL ha th f n) n
 | 0,_=>⟨⟨by simp [aL],λq hq=>by simp [aL] at hq;rw [hq];exact hf⟩,by simp [aL],λi q hi=>absurd hi (El _),rfl,λj q hj hq=>by
  have:=(Dh.mp hq).1;simp [aL] at this
  omega⟩
 | n + 1,h=>by
  have m:=iW hf cl n λi hi=>h i (by omega);have hl:=h n (by omega);have hp:(aL ha th f n)[n]?=some ((aL ha th f n)[n]):=Dm hl;rw [nJ hp];exact m.step hp (cl _ (m.me.inn _ (Dy hp)))
theorem Part.full {met:List β} (m:Part ha th f P met met.length):Full ha th f P met:=⟨m.me,λq hq=>by
 obtain⟨i,hi⟩:=Ed hq
 exact m.cl i q (Dh.mp hi).1 hi,m.head,λj q hj hq=>by
 obtain⟨i,y,h1,_,h3,h4⟩:=m.num j q hj hq
 exact⟨i,y,h1,h3,h4⟩⟩
def fG (met:List β) (g:β->β) (n:Nat):List Nat:=(met.take n).map λp=>met.idxOf (g p)
theorem uA {met:List β} {p q:β} (h:p∈met):(cb met q).idxOf p=met.idxOf p:=by
 unfold cb
 by_cases c:q∈met
 ·rw [if_pos c]
 ·rw [if_neg c,List.idxOf_append,if_pos h]
theorem qh {met:List β} {q:β} {g:β->β} {n:Nat} (hn:n<=met.length) (h:∀i p,i < n->met[i]?=some p->g p∈met):fG (cb met q) g n=fG met g n:=by
 unfold fG
 have e:(cb met q).take n=met.take n:=by
  unfold cb
  split
  ·rfl
  ·rw [List.take_append_of_le_length hn]
 rw [e];refine List.map_congr_left λp hp=>?_;obtain⟨i,hi⟩:=Ed hp;have hin:i < n:=by have:=(Dh.mp hi).1;simp at this;omega
 rw [List.getElem?_take_of_lt hin] at hi;exact uA (h i p hin hi)
theorem tH {met:List β} {g:β->β} {n:Nat} {p:β} (h:met[n]?=some p):fG met g (n + 1)=fG met g n ++ [met.idxOf (g p)]:=by
 unfold fG;rw [Er,h];simp
theorem tZ {met:List β} {at_:Nat} (m:Part ha th f P met at_) {p:β} (hp:met[at_]?=some p):∀g:β->β,(g=ha\/g=th)->fG (cb (cb met (ha p)) (th p)) g (at_ + 1)=fG met g at_ ++ [(cb (cb met (ha p)) (th p)).idxOf (g p)]:=λg hg=>by
 have hp1:=bY (q:=ha p) hp;have hp2:=bY (q:=th p) hp1
 have hm:∀i q,i < at_->met[i]?=some q->g q∈met:=λi q hi hq=>by
  obtain⟨a,b⟩:=m.cl i q hi hq;rcases hg with rfl|rfl
  ·exact a
  ·exact b
 have le:=(Dh.mp hp).1;rw [tH hp2,qh (by have:=(Dh.mp hp1).1;omega) (λi x hi hx=>?_),qh (by omega) hm];have o:met[i]?=some (met[i]'(by omega)):=Dm _;rw [bY o] at hx;cases hx;exact fU (hm i _ hi o)
structure wq (cd:β->D) (kvs:List (D×D)) (l:List β):Prop where
 ok:bO kvs
 le:kvs.length<=l.length
 get:∀q:β,eU kvs (cd q)=if q∈l then some (cN (l.idxOf q)) else none
theorem wq.one {cd:β->D} (code:Code cd) (key:∀p,aG (cd p)=true) (f:β):wq cd [(cd f,.int 0)] [f]:=by
 have e:[(cd f,D.int 0)]=putN [] (cd f) (.int 0):=by simp [putN]
 refine⟨?_,by simp,λq=>?_⟩
 ·rw [e];exact bO.nil.put (key f) (code.dp f)
 ·rw [e,lN bO.nil (key f) (key q),code.eq]
  by_cases c:f=q
  ·subst c;simp [cN]
  ·rw [decide_eq_false c,if_neg (by simp),if_neg (by simp;exact λz=>c z.symm)];simp [eU]
theorem wq.put {cd:β->D} {kvs:List (D×D)} {l:List β} (code:Code cd) (key:∀p,aG (cd p)=true) (n:wq cd kvs l) {q:β} (h:q∉l):wq cd (putN kvs (cd q) (cN l.length)) (l ++ [q]):=by
 refine⟨n.ok.put (key q) (code.dp q),?_,λr=>?_⟩
 ·have:(putN kvs (cd q) (cN l.length)).length<=kvs.length + 1:=by
   unfold putN
   split <;> simp
  have:=n.le;simp;omega
 ·rw [lN n.ok (key q) (key r),n.get,code.eq]
  by_cases c:q=r
  ·subst c;rw [decide_eq_true rfl,if_pos rfl,if_pos (by simp),List.idxOf_append,if_neg h];simp
  ·rw [decide_eq_false c,if_neg (by simp)]
   by_cases m:r∈l
   ·rw [if_pos m,if_pos (by simp [m]),List.idxOf_append,if_pos m]
   ·rw [if_neg m,if_neg (by simp [m];exact λe=>c e.symm)]
theorem wq.any {cd:β->D} {kvs:List (D×D)} {l:List β} (n:wq cd kvs l) (q:β):(kvs.any λkv=>aS kv.1 (cd q))=decide (q∈l):=by
 rw [kF,n.get]
 by_cases c:q∈l
 ·rw [if_pos c,decide_eq_true c];rfl
 ·rw [if_neg c,decide_eq_false c];rfl
end
def bP (φ:Fw) (Pf:Dj->Hp->Addr->Prop):rO:=λds Q R=>∃(β:Type) (_:DecidableEq β) (cd:β->D) (ha th:β->β) (f:β) (P:β->Prop),ds=[cd f,.obj Pf]/\Code cd/\(∀p,aG (cd p)=true)/\P f/\(∀p,P p->P (ha p)/\P (th p)) /\
 (∀p,P p->∀Q':D->Prop,Q' (.lst [cd (ha p),cd (th p)])->φ [cd p] Q')/\(∀n,Over ha th f n->R "TooMany")/\∀n,Done ha th f n->Q (fu (du (aL ha th f n) ha) (du (aL ha th f n) th))
theorem jH {φ:Fw} {Pf:Dj->Hp->Addr->Prop}:∀ds (Q:D->Prop) (R:Str->Prop),bP φ Pf ds Q R->ds.length=2:=by
 rintro ds Q R ⟨_,_,_,_,_,_,_,rfl,_⟩;rfl
def eG (φ:Fw) (Pf:Dj->Hp->Addr->Prop):nM:=(fF (n6 (b7 2 (iN (af (ag 0) aB)))) (fF (n6 (kE 3 (ag 0) (cC (.int 0)))) (fF (n6 (b7 4 (iN aB))) (fF (n6 (b7 5 (iN aB))) (fF (qB (a7 (aM A0 (cF 4) (cF 2))) (fF (n6 (fM (qQ 1 Pf φ (af (dJ 2 (cF 4)) aB)) (qj 2 (aO (aE 6) (aO (aE 7) eQ))))) (fF (n6 (jz (bW (af (ag 6) (af (ag 7) aB))) (aE 8) (om (gU true 3 (ag 8)) (a0 (ic 3 (ag 8) (cF 2)) (b0 2 (ag 8))) b9))) (fF (Al (a7 (aM Cp (cF 2) (cC (.int 60)))) (gL "TooMany" (af (cC (.str "there are more than sixty places")) aB)) (n6 b9)) (fF (n6 (b0 4 (gy 3 (ag 6)))) (n6 (b0 5 (gy 3 (ag 7))))))))) (n6 (cX 4 (cX 5 (cS (bW (af (aI dM (af (ag 4) aB)) (af (aI dM (af (ag 5) aB)) aB))))))))))))
theorem j7 {φ:Fw} {Pf:Dj->Hp->Addr->Prop}:∀ds (Q:D->Prop) (R:Str->Prop),bP φ Pf ds Q R->eG φ Pf { nx:=λ_=>Q .non,rt:=Q,xc:=R } (aA ["first","behind","met","numbers","halves","thirds","half","third","thing"] ds):=by
 rintro ds Q R ⟨β,dec,cd,ha,th,f,P,rfl,code,key,pf,cl,run,hov,hdn⟩;have sz:=DR
 simp_arith! only [eG,qB,kE]
 have pl:∀n,(∀i,i < n->i < (aL ha th f i).length)->Part ha th f P (aL ha th f n) n:=iW pf cl
 have rl:∀n g,(∀i,i < n->i < (aL ha th f i).length)->(aJ (fG (aL ha th f n) g n)).length=n:=λn g h=>by
  have:=(pl n h).le;unfold aJ fG;simp;omega
 refine⟨key f,code.dp f,λe=>∃n kvs k6 k7 k8,(∀i,i<=n->(aL ha th f i).length<=60)/\(∀i,i < n->i < (aL ha th f i).length)/\wq cd kvs (aL ha th f n)/\e=[some (.d (cd f)),some (.d (.obj Pf)),some (.own ((aL ha th f n).map cd)),some (.dic kvs),some (.own (aJ (fG (aL ha th f n) ha n))),some (.own (aJ (fG (aL ha th f n) th n))),k6,k7,k8],
  λe=>61 - AY 4 e,⟨0,_,none,none,none,λi hi=>by rw [Nat.le_zero.mp hi];simp [aL],λi hi=>absurd hi (El _),wq.one code key f,rfl⟩,?_⟩
 rintro env ⟨n,kvs,k6,k7,k8,hle,hlt,nm,rfl⟩;have m:=pl n hlt;have ln:=hle n (Du _);refine⟨_,rfl,_,rfl,?_⟩;simp only [rl n _ hlt,DH]
 by_cases cc:n < (aL ha th f n).length
 ·rw [if_pos (by omega)];obtain⟨p,hp⟩:∃p,(aL ha th f n)[n]?=some p:=⟨_,Dm cc⟩;have ip:=m.me.inn p (Dy hp);have c:=cl p ip;have ai:iV ((aL ha th f n).map cd) (n:Int)=some (cd p):=jR _ _ _ _ hp;have ms:=nJ hp;have m2:=m.step hp c
  simp_arith! only [qQ,rl n _ hlt]
  refine⟨_,_,rfl,ai,run p ip _ ⟨_,rfl,rfl,?_⟩⟩
  simp_arith! only [mV]
  refine df (λi e=>i<=2/\∃kvs k8,e=[some (.d (cd f)),some (.d (.obj Pf)),some (.own ((wu (aL ha th f n) [ha p,th p] i).map cd)),some (.dic kvs),some (.own (aJ (fG (aL ha th f n) ha n))),some (.own (aJ (fG (aL ha th f n) th n))),some (.d (cd (ha p))),some (.d (cd (th p))),k8]/\wq cd kvs (wu (aL ha th f n) [ha p,th p] i)/\(wu (aL ha th f n) [ha p,th p] i).length<=60 + i) ?_ ?_ ⟨by omega,kvs,k8,rfl,nm,ln⟩
  ·rintro i x' env N hx ⟨hi2,kvs,k8,rfl,nm,ml⟩ hN;obtain⟨q,hq,rfl⟩:∃q,[ha p,th p][i]?=some q/\cd q=x':=DP.mp ((Dt (f:=cd) (l:=[ha p,th p]) (i:=i)).symm.trans hx);have eq:wu (aL ha th f n) [ha p,th p] (i + 1)=cb (wu (aL ha th f n) [ha p,th p] i) q:=sY hq;have hi:i < 2:=by have:=(Dh.mp hx).1;simpa using this
   have kl:=nm.le
   simp_arith! only [gU,ic,Lo.dic.injEq]
   refine⟨key q,code.dp q,nm.ok,?_⟩;rw [nm.any];unfold cb at eq
   by_cases c2:q∈wu (aL ha th f n) [ha p,th p] i
   ·rw [if_pos c2] at eq;rw [decide_eq_true c2];refine hN _ ⟨by omega,kvs,some (.d (cd q)),?_,by rw [eq];exact nm,by rw [eq];omega⟩;rw [eq]
   ·rw [if_neg c2] at eq;rw [decide_eq_false c2];refine⟨key q,code.dp q,nm.ok,by omega,?_⟩;refine⟨by simp;omega,hN _ ⟨by omega,_,some (.d (cd q)),?_,by rw [eq];exact nm.put code key c2,by rw [eq];simp;omega⟩⟩;rw [eq,List.map_append];simp only [DH];rfl
  ·rintro env ⟨_,kvs,k8,rfl,nm,_⟩;have e2:wu (aL ha th f n) [ha p,th p] [cd (ha p),cd (th p)].length=aL ha th f (n + 1):=by rw [ms];rfl
   rw [e2] at nm ⊢;have hp2:=bY (q:=th p) (bY (q:=ha p) hp);rw [<- ms] at hp2;have lt2:=(Dh.mp hp2).1
   simp_arith! only [DH,gy,Lo.dic.injEq]
   by_cases c6:(aL ha th f (n + 1)).length<=60
   ·rw [if_neg (by omega)];have ih:ha p∈aL ha th f (n + 1):=by rw [ms];exact fU iD
    have it:th p∈aL ha th f (n + 1):=by rw [ms];exact iD
    refine⟨by rw [rl n _ hlt];omega,_,key _,code.dp _,nm.ok,by rw [nm.get,if_pos ih],by rw [rl n _ hlt];omega,_,key _,code.dp _,nm.ok,by rw [nm.get,if_pos it],?_⟩
    have lt':∀i,i < n + 1->i < (aL ha th f i).length:=λi hi=>by
     rcases Ew.mp hi with z|z
     ·exact hlt i z
     ·rw [z];exact cc
    have er:∀g,(g=ha\/g=th)->aJ (fG (aL ha th f n) g n) ++ [cN (List.idxOf (g p) (aL ha th f (n + 1)))]=aJ (fG (aL ha th f (n + 1)) g (n + 1)):=λg hg=>by
     rw [ms,tZ m hp g hg];unfold aJ;rw [List.map_append];rfl
    refine⟨⟨n + 1,kvs,_,_,_,λi hi=>?_,lt',nm,rfl,rfl,er ha (.inl rfl),er th (.inr rfl),rfl,rfl,rfl⟩,?_⟩
    ·rcases Ek i (n + 1) with z|z
     ·exact hle i (by omega)
     ·rw [show i=n + 1 by omega];exact c6
    ·simp only [AY,DY,DX,DN,List.length_singleton,rl n _ hlt];omega
   ·rw [if_pos (by omega)]
    exact hov n ⟨hle,λi hi=>by
     rcases Ek i n with z|z
     ·exact hlt i z
     ·rw [show i=n by omega];exact cc,by omega⟩
 ·rw [if_neg (by omega)];have ea:n=(aL ha th f n).length:=by have:=m.le;omega
  have rn:∀g,fG (aL ha th f n) g n=du (aL ha th f n) g:=λg=>by
   unfold fG du;rw [Es (by omega)]
  simp_arith! only [rn,dP]
  exact hdn n ⟨hle,hlt,by omega⟩
abbrev dH:=List (Int×Int)
def qu (p q:Int×Int):Bool:=decide (p.1 < q.1) || (decide (p.1=q.1) && decide (p.2 < q.2))
def fI:dH->dH->Bool
 | [],[]=>false
 | [],_ :: _=>true
 | _ :: _,[]=>false
 | x :: xs,y :: ys=>if x=y then fI xs ys else qu x y
theorem xF {p q:Int×Int} (h:p≠q):qu p q=true\/qu q p=true:=by
 obtain⟨a,b⟩:=p;obtain⟨c,d⟩:=q;have h':¬ (a=c/\b=d):=fun⟨x,y⟩=>h (by rw [x,y]);simp only [qu,Bool.or_eq_true,Bool.and_eq_true,decide_eq_true_eq];omega
theorem vn {p q:Int×Int} (h:qu p q=true):qu q p=false:=by
 obtain⟨a,b⟩:=p;obtain⟨c,d⟩:=q;simp only [qu,Bool.or_eq_true,Bool.and_eq_true,decide_eq_true_eq] at h;simp only [qu,Bool.or_eq_false_iff,Bool.and_eq_false_iff,decide_eq_false_iff_not];omega
theorem tD {p q r:Int×Int} (h:qu p q=true) (g:qu q r=true):qu p r=true:=by
 obtain⟨a,b⟩:=p;obtain⟨c,d⟩:=q;obtain⟨e,f⟩:=r;simp only [qu,Bool.or_eq_true,Bool.and_eq_true,decide_eq_true_eq] at h g ⊢;omega
theorem oK:∀{x y:dH},fI x y=false->fI y x=false->x=y
 | [],[],_,_=>rfl
 | [],_ :: _,h,_=>by simp [fI] at h
 | _ :: _,[],_,h=>by simp [fI] at h
 | a :: x,b :: y,h,g=>by
  by_cases e:a=b
  ·subst e;rw [fI,if_pos rfl] at h g;rw [oK h g]
  ·rw [fI,if_neg e] at h;rw [fI,if_neg (Ne.symm e)] at g;rcases xF e with z|z
   ·rw [z] at h;cases h
   ·rw [z] at g;cases g
theorem je:∀{x y z:dH},fI x y=true->fI y z=true->fI x z=true
 | [],[],_,h,_=>by simp [fI] at h
 | [],_ :: _,[],_,g=>by simp [fI] at g
 | [],_ :: _,_ :: _,_,_=>rfl
 | _ :: _,[],_,h,_=>by simp [fI] at h
 | _ :: _,_ :: _,[],_,g=>by simp [fI] at g
 | a :: x,b :: y,c :: z,h,g=>by
  rw [fI] at h g ⊢
  by_cases e:a=b
  ·subst e;rw [if_pos rfl] at h
   by_cases e2:a=c
   ·rw [if_pos e2] at g ⊢;exact je h g
   ·rw [if_neg e2] at g ⊢;exact g
  ·rw [if_neg e] at h
   by_cases e2:b=c
   ·subst e2;rw [if_neg e];exact h
   ·rw [if_neg e2] at g;have k:=tD h g
    by_cases e3:a=c
    ·subst e3;have:=vn h;rw [g] at this;cases this
    ·rw [if_neg e3];exact k
theorem sg:∀x:dH,fI x x=false
 | []=>rfl
 | a :: x=>by rw [fI,if_pos rfl];exact sg x
def jC (r:dH) (rs:List dH):dH:=rs.foldl (λb x=>if fI x b then x else b) r
theorem eJ:∀(rs:List dH) (r:dH),jC r rs∈r :: rs/\∀x∈r :: rs,fI x (jC r rs)=false
 | [],r=>⟨by simp [jC],λx hx=>by simp at hx;subst hx;exact sg _⟩
 | y :: rs,r=>by
  have e:jC r (y :: rs)=jC (if fI y r then y else r) rs:=rfl;rw [e];obtain⟨m,k⟩:=eJ rs (if fI y r then y else r)
  by_cases c:fI y r=true
  ·rw [if_pos c] at m k ⊢;refine⟨Dv _ m,λx hx=>?_⟩;rcases DD.mp hx with rfl|hx
   ·have ky:=k y DC
    cases q:fI x (jC y rs) with
    | false=>rfl
    | true=>rw [je c q] at ky;cases ky
   ·exact k x hx
  ·rw [if_neg c] at m k ⊢;refine⟨by rcases DD.mp m with z|z <;> simp [z],λx hx=>?_⟩
   rcases DD.mp hx with rfl|hx
   ·exact k x DC
   ·rcases DD.mp hx with rfl|hx
    ·have kr:=k r DC
     cases q:fI x (jC r rs) with
     | false=>rfl
     | true =>
      by_cases z:x=r
      ·rw [z] at q;rw [q] at kr;cases kr
      ·have c':fI x r=false:=by simpa using c
       cases q2:fI r x with
       | false=>exact absurd (oK c' q2) z
       | true=>rw [je q2 q] at kr;cases kr
    ·exact k x (Dv _ hx)
theorem uf {r r':dH} {rs rs':List dH} (h:∀x,x∈r :: rs↔x∈r' :: rs'):jC r rs=jC r' rs':=by
 obtain⟨m,k⟩:=eJ rs r;obtain⟨m',k'⟩:=eJ rs' r';exact oK (k' _ ((h _).mp m)) (k _ ((h _).mpr m'))
def mulR (f N:Int) (r:dH):dH:=r.map λp=>(f * p.1 % N,f * p.2 % N)
def eM (N:Int) (r:dH):dH:=r.map λp=>(p.1 % N,p.2 % N)
theorem iC {f g N:Int} (r:dH):mulR f N (mulR g N r)=mulR (f * g) N r:=by
 unfold mulR;rw [List.map_map];refine List.map_congr_left λp _=>?_;simp only [Function.comp,Prod.mk.injEq];exact⟨by rw [Int.mul_emod,Int.emod_emod,<- Int.mul_emod,Int.mul_assoc],by rw [Int.mul_emod,Int.emod_emod,<- Int.mul_emod,Int.mul_assoc]⟩
theorem uN {f N:Int} (r:dH):mulR f N (eM N r)=mulR f N r:=by
 unfold mulR eM;rw [List.map_map];refine List.map_congr_left λp _=>?_;simp only [Function.comp,Prod.mk.injEq];exact⟨by rw [Int.mul_emod,Int.emod_emod,<- Int.mul_emod],by rw [Int.mul_emod,Int.emod_emod,<- Int.mul_emod]⟩
theorem cT {f g N:Int} (h:f % N=g % N) (r:dH):mulR f N r=mulR g N r:=by
 unfold mulR;refine List.map_congr_left λp _=>?_;simp only [Prod.mk.injEq];exact⟨by rw [Int.mul_emod,h,<- Int.mul_emod],by rw [Int.mul_emod,h,<- Int.mul_emod]⟩
theorem pK {N:Int} (r:dH):mulR 1 N r=eM N r:=by
 unfold mulR eM;refine List.map_congr_left λp _=>?_;simp only [Int.one_mul]
structure Good (N:Int) (fs:List Int):Prop where
 pos:0 < N
 one:∃e∈fs,e % N=1 % N
 mul:∀f∈fs,∀g∈fs,∃h∈fs,h % N=f * g % N
 inv:∀f∈fs,∃g∈fs,g * f % N=1 % N
 neg:∃e∈fs,e % N=(-1) % N
def lm (N:Int) (fs:List Int) (r:dH):dH:=match fs with
 | []=>[]
 | f :: t=>jC (mulR f N r) (t.map λg=>mulR g N r)
variable {N:Int} {fs:List Int} {r r':dH}
theorem lD (h:fs≠[]):∃f∈fs,lm N fs r=mulR f N r:=by
 cases fs with
 | nil=>exact absurd rfl h
 | cons f t =>
  have:=(eJ (t.map λg=>mulR g N r) (mulR f N r)).1;rw [<- DF (f:=λg=>mulR g N r)] at this;obtain⟨g,hg,e⟩:=DB.mp this;exact⟨g,hg,e.symm⟩
theorem xm (h:∀x,(∃f∈fs,x=mulR f N r)↔∃f∈fs,x=mulR f N r'):lm N fs r=lm N fs r':=by
 cases fs with
 | nil=>rfl
 | cons f t =>
  refine uf λx=>?_;rw [<- DF (f:=λg=>mulR g N r),<- DF (f:=λg=>mulR g N r'),DB,DB];have:=h x
  constructor
  ·rintro⟨g,hg,e⟩;obtain⟨g',h1,h2⟩:=this.mp ⟨g,hg,e.symm⟩;exact⟨g',h1,h2.symm⟩
  ·rintro⟨g,hg,e⟩;obtain⟨g',h1,h2⟩:=this.mpr ⟨g,hg,e.symm⟩;exact⟨g',h1,h2.symm⟩
theorem Good.ne (G:Good N fs):fs≠[]:=by
 obtain⟨e,he,_⟩:=G.one;intro z;rw [z] at he;cases he
theorem yj (G:Good N fs) {g:Int} (hg:g∈fs) (h:eM N r'=mulR g N r):lm N fs r'=lm N fs r:=by
 have key:∀f,mulR f N r'=mulR (f * g) N r:=λf=>by rw [<- uN r',h,iC]
 refine xm λx=>⟨?_,?_⟩
 ·rintro⟨f,hf,rfl⟩;obtain⟨k,hk,e⟩:=G.mul f hf g hg;exact⟨k,hk,by rw [key,cT e]⟩
 ·rintro⟨f,hf,rfl⟩;obtain⟨i,hi,ei⟩:=G.inv g hg;obtain⟨k,hk,e⟩:=G.mul f hf i hi;refine⟨k,hk,?_⟩;rw [key];refine cT ?_ r;rw [Int.mul_emod,e,<- Int.mul_emod,Int.mul_assoc,Int.mul_emod,ei,<- Int.mul_emod,Int.mul_one]
theorem zk (G:Good N fs):lm N fs r'=lm N fs r↔∃g∈fs,eM N r'=mulR g N r:=by
 refine⟨λh=>?_,fun⟨g,hg,h⟩=>yj G hg h⟩;obtain⟨f,hf,e⟩:=lD (N:=N) (r:=r) G.ne;obtain⟨f',hf',e'⟩:=lD (N:=N) (r:=r') G.ne;obtain⟨i,hi,ei⟩:=G.inv f' hf';obtain⟨k,hk,ek⟩:=G.mul i hi f hf;refine⟨k,hk,?_⟩;have z:mulR i N (mulR f' N r')=mulR i N (mulR f N r):=by rw [<- e,<- e',h]
 rw [iC,iC,cT ei,pK] at z;rw [z,cT ek]
theorem sP (G:Good N fs) (t:dH->dH) (ht:∀f r,eM N (t (mulR f N r))=mulR f N (t r)):lm N fs (t (lm N fs r))=lm N fs (t r):=by
 obtain⟨f,hf,e⟩:=lD (N:=N) (r:=r) G.ne;rw [e];exact yj G hf (ht f r)
end KR
namespace KR
open PySem L2 L2.L3 K55
def strN (cs:List Nat):D:=.str ⟨cs.toArray⟩
structure wK (kvs:List (D×D)) (ks:List Nat) (W:Nat->List Nat):Prop where
 ok:bO kvs
 get:∀i:Nat,eU kvs (.int (i:Int))=if i∈ks then some (strN (W i)) else none
 len:kvs.length=ks.length
 nd:ks.Nodup
structure As (a b:List Nat) (ks:List Nat) (W:Nat->List Nat):Prop where
 z:0∈ks
 lt:∀i∈ks,i < a.length
 w:∀i∈ks,(∀c∈W i,isLet c)/\lw a b (W i) 0=i/\(W i).length < ks.length
theorem wK.put {kvs:List (D×D)} {ks:List Nat} {W:Nat->List Nat} (m:wK kvs ks W) {k:Nat} (hk:k∉ks) (v:List Nat):wK (putN kvs (.int (k:Int)) (strN v)) (ks ++ [k]) (λi=>if i=k then v else W i):=by
 have g0:eU kvs (.int (k:Int))=none:=by rw [m.get,if_neg hk]
 refine⟨m.ok.put (by simp [aG]) (by simp [dep]),λi=>?_,?_,?_⟩
 ·rw [lN m.ok (by simp [aG]) (by simp [aG]),m.get]
  by_cases c:i=k
  ·subst c;rw [if_pos (by simp [aS]),if_pos (by simp),if_pos rfl]
  ·rw [if_neg (by simp [aS];omega),if_neg c]
   by_cases c2:i∈ks
   ·rw [if_pos c2,if_pos (by simp [c2])]
   ·rw [if_neg c2,if_neg (by simp [c,c2])]
 ·have:(kvs.any λkv=>aS kv.1 (.int (k:Int)))=false:=by rw [kF,g0];rfl
  unfold putN;rw [this];simp [m.len]
 ·exact Ei.mpr ⟨m.nd,by simp,λx hx y hy e=>hk (by rw [DJ] at hy;rw [<- hy,<- e];exact hx)⟩
theorem wC:wK [(.int 0,strN [])] [0] (λ_=>[]):=by
 refine⟨⟨λkv h=>?_,λi j x y hi hj e=>?_⟩,λi=>?_,rfl,by simp⟩
 ·rw [DJ.mp h];simp [aG,dep]
 ·have h1:=(Dh.mp hi).1;have h2:=(Dh.mp hj).1;simp at h1 h2;omega
 ·unfold eU
  by_cases c:i=0
  ·subst c;simp [aS]
  ·have:¬ ((0:Int)=(i:Int)):=by omega
   simp [aS,this,c]
theorem As.put {a b ks:List Nat} {W:Nat->List Nat} (s:As a b ks W) (t:jt a b) {h c:Nat} (hh:h∈ks) (hc:isLet c) (hn:lp a b h c∉ks):As a b (ks ++ [lp a b h c]) (λi=>if i=lp a b h c then W h ++ [c] else W i):=by
 obtain⟨w1,w2,w3⟩:=s.w h hh;refine⟨D0 _ s.z,λi hi=>?_,λi hi=>?_⟩
 ·rcases DM.mp hi with hi|hi
  ·exact s.lt i hi
  ·rw [DJ.mp hi];exact yi t (s.lt h hh) c
 ·by_cases e:i=lp a b h c
  ·simp only [if_pos e];refine⟨λx hx=>?_,?_,by simp;omega⟩
   ·rcases DM.mp hx with hx|hx
    ·exact w1 x hx
    ·rw [DJ.mp hx];exact hc
   ·rw [oI,w2,e]
  ·have hi':i∈ks:=by
    rcases DM.mp hi with hi|hi
    ·exact hi
    ·exact absurd (DJ.mp hi) e
   simp only [if_neg e];obtain⟨x1,x2,x3⟩:=s.w i hi';exact⟨x1,x2,by simp;omega⟩
structure TT where
 x:Nat
 y:Nat
 z:Nat
 deriving DecidableEq
section
variable {a b c d e f:List Nat} {k l m:Nat} {φ ψ:Nat->Nat}
theorem o9 {β:Type} [DecidableEq β] {met:List β} {g:β->β} {p:β} (hp:p∈met):iP (du met g) (met.idxOf p)=met.idxOf (g p):=by
 have h:=gi (g:=g) (fi hp);unfold iP;rw [DL,h];rfl
end
structure SP where
 l:List Nat
 deriving DecidableEq
structure Gm {β:Type} [DecidableEq β] (ha th:β->β) (f:β) (P:β->Prop) (E F:List Nat) (met:List β):Prop where
 full:Full ha th f P met
 eE:E=du met ha
 eF:F=du met th
section
variable {β:Type} [DecidableEq β] {ha th:β->β} {f:β} {P:β->Prop} {E F c d:List Nat} {met:List β} {n:Nat}
theorem Gm.of (hf:P f) (cl:∀p,P p->P (ha p)/\P (th p)) (h:Done ha th f n):Gm ha th f P (du (aL ha th f n) ha) (du (aL ha th f n) th) (aL ha th f n):=by
 have m:=iW hf cl n h.lt;have e:n=(aL ha th f n).length:=Nat.le_antisymm m.le h.fin;have m':Part ha th f P (aL ha th f n) (aL ha th f n).length:=by rw [<- e];exact m
 exact⟨m'.full,rfl,rfl⟩
theorem Gm.Bm (m:Gm ha th f P E F met):E.length=met.length:=by rw [m.eE];unfold du;rw [DH]
theorem Gm.z (m:Gm ha th f P E F met):met.idxOf f=0:=eT m.full.me.nd m.full.head
theorem Gm.Bj (m:Gm ha th f P E F met):f∈met:=Dy m.full.head
theorem Gm.sE (m:Gm ha th f P E F met) {p:β} (hp:p∈met):iP E (met.idxOf p)=met.idxOf (ha p):=by rw [m.eE];exact o9 hp
theorem Gm.sF (m:Gm ha th f P E F met) {p:β} (hp:p∈met):iP F (met.idxOf p)=met.idxOf (th p):=by rw [m.eF];exact o9 hp
theorem Gm.inj (m:Gm ha th f P E F met) {p q:β} (hp:p∈met) (hq:q∈met) (e:met.idxOf p=met.idxOf q):p=q:=by
 have h1:=fi hp;have h2:=fi hq;rw [e,h2] at h1;exact (DA h1).symm
theorem Gm.at_ (m:Gm ha th f P E F met) {i:Nat} (hi:i < E.length):∃p,p∈met/\met.idxOf p=i/\met[i]?=some p:=by
 rw [m.Bm] at hi;have h:=Dm hi;exact⟨met[i],Et hi,eT m.full.me.nd h,h⟩
end
theorem cg {N x y k:Int} (h:x=y + N * k):x % N=y % N:=by rw [h,Int.add_mul_emod_self_left]
theorem cL {N x y:Int} (h:x % N=y % N):∃k,x=y + N * k:=by
 refine⟨x / N - y / N,?_⟩;rw [Int.emod_def,Int.emod_def] at h;rw [Int.mul_sub];omega
structure Mx where
 a:Int
 b:Int
 c:Int
 d:Int
 deriving DecidableEq
def Mx.mul (m n:Mx):Mx:=⟨m.a * n.a + m.b * n.c,m.a * n.b + m.b * n.d,m.c * n.a + m.d * n.c,m.c * n.b + m.d * n.d⟩
def Mx.det (m:Mx):Int:=m.a * m.d - m.b * m.c
def mS:Mx:=⟨0,-1,1,0⟩
def mR:Mx:=⟨0,-1,1,-1⟩
def mQ:Mx:=⟨1,-1,1,0⟩
def m1:Mx:=⟨1,0,0,1⟩
def mL (c:Nat):Mx:=if c=115 then mS else if c=114 then mR else mQ
def mW (w:List Nat):Mx:=w.foldl (λm c=>m.mul (mL c)) m1
def i9 (pl:Bool) (m:Mx):dH:=if pl then [(m.a,m.b),(m.c,m.d)] else [(m.c,m.d)]
def tS (r:dH):dH:=r.map λp=>(p.2,-p.1)
def tR (r:dH):dH:=r.map λp=>(p.2,-p.1 - p.2)
theorem jJ (m n:Mx):(m.mul n).det=m.det * n.det:=by
 simp only [Mx.det,Mx.mul];grind
theorem Bw (c:Nat):(mL c).det=1:=by
 unfold mL;split
 ·rfl
 ·split <;> rfl
theorem xT (w:List Nat):(mW w).det=1:=by
 refine snoc_ind (P:=λw=>(mW w).det=1) rfl (λr c ih=>?_) w;rw [mW,List.foldl_append];show ((mW r).mul (mL c)).det=1
 rw [jJ,ih,Bw];rfl
theorem oz (w:List Nat) (c:Nat):mW (w ++ [c])=(mW w).mul (mL c):=by rw [mW,List.foldl_append];rfl
theorem Ca (pl:Bool) (m:Mx):i9 pl (m.mul mS)=tS (i9 pl m):=by
 cases pl <;> simp [i9,tS,Mx.mul,mS]
theorem Ck (pl:Bool) (m:Mx):i9 pl (m.mul mR)=tR (i9 pl m):=by
 cases pl <;> simp [i9,tR,Mx.mul,mR,Int.sub_eq_add_neg]
variable {N:Int} {fs:List Int}
theorem yM (f:Int) (r:dH):eM N (tS (mulR f N r))=mulR f N (tS r):=by
 unfold eM tS mulR;rw [List.map_map,List.map_map,List.map_map];refine List.map_congr_left λp _=>?_;simp only [Function.comp,Prod.mk.injEq];refine⟨Int.emod_emod _ _,cg (k:=f * p.1 / N) ?_⟩;rw [Int.emod_def,Int.mul_neg];omega
theorem zJ (f:Int) (r:dH):eM N (tR (mulR f N r))=mulR f N (tR r):=by
 unfold eM tR mulR;rw [List.map_map,List.map_map,List.map_map];refine List.map_congr_left λp _=>?_;simp only [Function.comp,Prod.mk.injEq];refine⟨Int.emod_emod _ _,cg (k:=f * p.1 / N + f * p.2 / N) ?_⟩;rw [Int.emod_def,Int.emod_def,Int.mul_sub,Int.mul_neg,Int.mul_add];omega
def kM (N:Int) (fs:List Int) (pl:Bool) (m:Mx):dH:=lm N fs (i9 pl m)
theorem sX (G:Good N fs) (pl:Bool) (m:Mx):lm N fs (tS (kM N fs pl m))=kM N fs pl (m.mul mS):=by
 unfold kM;rw [Ca];exact sP G tS yM
theorem qM (G:Good N fs) (pl:Bool) (m:Mx):lm N fs (tR (kM N fs pl m))=kM N fs pl (m.mul mR):=by
 unfold kM;rw [Ck];exact sP G tR zJ
theorem jk (G:Good N fs) {pl:Bool} {m n:Mx}:kM N fs pl m=kM N fs pl n↔∃g∈fs,eM N (i9 pl m)=mulR g N (i9 pl n):=zk G
theorem qx (G:Good N fs) (pl:Bool) {m n:Mx} (h:m=⟨-n.a,-n.b,-n.c,-n.d⟩):kM N fs pl m=kM N fs pl n:=by
 rw [jk G];obtain⟨e,he,h'⟩:=G.neg;refine⟨e,he,?_⟩;rw [cT h',h];cases pl <;> simp [i9,eM,mulR]
theorem Cb (G:Good N fs) (pl:Bool) (m:Mx):kM N fs pl (m.mul mQ)=kM N fs pl ((m.mul mR).mul mR):=qx G pl (by
 simp only [Mx.mul,mR,mQ,Mx.mk.injEq]
 omega)
theorem Bp (G:Good N fs) (pl:Bool) (m:Mx):kM N fs pl ((m.mul mS).mul mS)=kM N fs pl m:=qx G pl (by
 simp only [Mx.mul,mS,Mx.mk.injEq]
 omega)
theorem Ai (pl:Bool) (m:Mx):kM N fs pl (((m.mul mR).mul mR).mul mR)=kM N fs pl m:=by
 have e:((m.mul mR).mul mR).mul mR=m:=by
  obtain⟨a,b,c,d⟩:=m;simp only [Mx.mul,mR,Mx.mk.injEq];omega
 rw [e]
def lW (m n:Mx):Mx:=m.mul ⟨n.d,-n.b,-n.c,n.a⟩
theorem vq {m n:Mx} (h:n.det=1):(lW m n).mul n=m:=by
 obtain⟨a,b,c,d⟩:=m;obtain⟨e,f,g,i⟩:=n;simp only [Mx.det] at h;simp only [lW,Mx.mul,Mx.mk.injEq];refine⟨?_,?_,?_,?_⟩ <;> grind
theorem uC {m n:Mx} (hm:m.det=1) (h:n.det=1):(lW m n).det=1:=by
 unfold lW;rw [jJ,hm];show 1 * (n.d * n.a - -n.b * -n.c)=1
 simp only [Mx.det] at h
 grind
def isIn (k:Nat) (N:Int) (l:Mx):Bool:=if l.c % N≠0 then false else if k=1 then true else if ¬ (l.a % N=1 % N\/l.a % N=(-1) % N) then false else k=2 || (decide (l.b % N=0) && decide (l.d % N=l.a % N))
theorem uL {x:Int} (h:x % N=0):∃k,x=N * k:=⟨x / N,by have:=Int.emod_add_mul_ediv x N;omega⟩
theorem wa (G:Good N [1,-1]) {m n:Mx} (hm:m.det=1) (hn:n.det=1):isIn 0 N (lW m n)=true↔kM N [1,-1] true m=kM N [1,-1] true n:=by
 rw [jk G];have act:=vq (m:=m) hn;have hd:=hn;simp only [Mx.det] at hd;generalize hL:lW m n=L at act ⊢;have rows:∀g:Int,eM N (i9 true m)=mulR g N (i9 true n)↔(m.a % N=g * n.a % N/\m.b % N=g * n.b % N)/\m.c % N=g * n.c % N/\m.d % N=g * n.d % N:=λg=>by simp [i9,eM,mulR]
 constructor
 ·intro h
  have hc:L.c % N=0:=by
   by_cases c:L.c % N=0
   ·exact c
   ·simp [isIn,c] at h
  have ha:L.a % N=1 % N\/L.a % N=(-1) % N:=by
   by_cases c:L.a % N=1 % N\/L.a % N=(-1) % N
   ·exact c
   ·simp [isIn,hc,c] at h
  have hb:L.b % N=0/\L.d % N=L.a % N:=by
   simpa [isIn,hc,ha] using h
  obtain⟨k3,e3⟩:=uL hc;obtain⟨k2,e2⟩:=uL hb.1
  obtain⟨g,hg,eg⟩:∃g∈([1,-1]:List Int),L.a % N=g % N:=by
   rcases ha with h|h
   ·exact⟨1,by simp,h⟩
   ·exact⟨-1,by simp,h⟩
  obtain⟨k1,e1⟩:=cL eg;obtain⟨k4,e4⟩:=cL (hb.2.trans eg);refine⟨g,hg,(rows g).mpr ?_⟩;rw [<- act];simp only [Mx.mul];refine⟨⟨cg (k:=k1 * n.a + k2 * n.c) ?_,cg (k:=k1 * n.b + k2 * n.d) ?_⟩,cg (k:=k3 * n.a + k4 * n.c) ?_,cg (k:=k3 * n.b + k4 * n.d) ?_⟩ <;> grind
 ·rintro⟨g,hg,h⟩;obtain⟨⟨ha,hb⟩,hc,hd'⟩:=(rows g).mp h;obtain⟨k1,e1⟩:=cL ha;obtain⟨k2,e2⟩:=cL hb;obtain⟨k3,e3⟩:=cL hc;obtain⟨k4,e4⟩:=cL hd';have la:L.a % N=g % N:=cg (k:=k1 * n.d - k2 * n.c) (by rw [<- hL];simp only [lW,Mx.mul];grind)
  have lb:L.b % N=0:=by
   have:L.b=0 + N * (k2 * n.a - k1 * n.b):=by rw [<- hL];simp only [lW,Mx.mul];grind
   rw [cg this];exact Int.zero_emod _
  have lc:L.c % N=0:=by
   have:L.c=0 + N * (k3 * n.d - k4 * n.c):=by rw [<- hL];simp only [lW,Mx.mul];grind
   rw [cg this];exact Int.zero_emod _
  have ld:L.d % N=g % N:=cg (k:=k4 * n.a - k3 * n.b) (by rw [<- hL];simp only [lW,Mx.mul];grind)
  have ga:L.a % N=1 % N\/L.a % N=(-1) % N:=by
   simp only [DD,DQ,or_false] at hg;rcases hg with rfl|rfl
   ·exact .inl la
   ·exact .inr la
  simp [isIn,lc,lb,ga,la,ld];have:=ga;rw [la] at this
  first|exact this|simpa using this
theorem vT (G:Good N fs) {m n:Mx} (hm:m.det=1) (hn:n.det=1):(∃g∈fs,eM N (i9 false m)=mulR g N (i9 false n))↔∃g∈fs,(lW m n).c % N=0/\(lW m n).d % N=g % N:=by
 have act:=vq (m:=m) hn;have hd:=hn;simp only [Mx.det] at hd;generalize hL:lW m n=L at act ⊢;have rows:∀g:Int,eM N (i9 false m)=mulR g N (i9 false n)↔m.c % N=g * n.c % N/\m.d % N=g * n.d % N:=λg=>by simp [i9,eM,mulR]
 constructor
 ·rintro⟨g,hg,h⟩;obtain⟨hc,hd'⟩:=(rows g).mp h;obtain⟨k3,e3⟩:=cL hc;obtain⟨k4,e4⟩:=cL hd';refine⟨g,hg,?_,cg (k:=k4 * n.a - k3 * n.b) (by rw [<- hL];simp only [lW,Mx.mul];grind)⟩
  have:L.c=0 + N * (k3 * n.d - k4 * n.c):=by rw [<- hL];simp only [lW,Mx.mul];grind
  rw [cg this];exact Int.zero_emod _
 ·rintro⟨g,hg,hc,hd'⟩;obtain⟨k3,e3⟩:=uL hc;obtain⟨k4,e4⟩:=cL hd';refine⟨g,hg,(rows g).mpr ?_⟩;rw [<- act];simp only [Mx.mul];refine⟨cg (k:=k3 * n.a + k4 * n.c) ?_,cg (k:=k3 * n.b + k4 * n.d) ?_⟩ <;> grind
theorem uV (G:Good N [1,-1]) {m n:Mx} (hm:m.det=1) (hn:n.det=1):isIn 2 N (lW m n)=true↔kM N [1,-1] false m=kM N [1,-1] false n:=by
 rw [jk G,vT G hm hn];have dL:=uC hm hn;generalize lW m n=L at dL ⊢;simp only [Mx.det] at dL
 have turn:∀g:Int,g * g=1->L.c % N=0->(L.a % N=g % N↔L.d % N=g % N):=λg hg hc=>by
  obtain⟨k3,e3⟩:=uL hc
  constructor
  ·intro h;obtain⟨k1,e1⟩:=cL h;exact cg (k:=g * (L.b * k3 - k1 * L.d)) (by grind)
  ·intro h;obtain⟨k1,e1⟩:=cL h;exact cg (k:=g * (L.b * k3 - k1 * L.a)) (by grind)
 constructor
 ·intro h
  have hc:L.c % N=0:=by
   by_cases c:L.c % N=0
   ·exact c
   ·simp [isIn,c] at h
  have ha:L.a % N=1 % N\/L.a % N=(-1) % N:=by
   by_cases c:L.a % N=1 % N\/L.a % N=(-1) % N
   ·exact c
   ·simp [isIn,hc,c] at h
  rcases ha with ha|ha
  ·exact⟨1,by simp,hc,(turn 1 rfl hc).mp ha⟩
  ·exact⟨-1,by simp,hc,(turn (-1) rfl hc).mp ha⟩
 ·rintro⟨g,hg,hc,hd⟩;simp only [DD,DQ,or_false] at hg
  have ga:L.a % N=1 % N\/L.a % N=(-1) % N:=by
   rcases hg with rfl|rfl
   ·exact .inl ((turn 1 rfl hc).mpr hd)
   ·exact .inr ((turn (-1) rfl hc).mpr hd)
  simp [isIn,hc,ga]
theorem v5 (G:Good N fs) (hu:∀u v:Int,u * v % N=1 % N->∃g∈fs,v % N=g % N) {m n:Mx} (hm:m.det=1) (hn:n.det=1):isIn 1 N (lW m n)=true↔kM N fs false m=kM N fs false n:=by
 rw [jk G,vT G hm hn];have dL:=uC hm hn;generalize lW m n=L at dL ⊢;simp only [Mx.det] at dL
 constructor
 ·intro h
  have hc:L.c % N=0:=by
   by_cases c:L.c % N=0
   ·exact c
   ·simp [isIn,c] at h
  obtain⟨k3,e3⟩:=uL hc;obtain⟨g,hg,e⟩:=hu L.a L.d (cg (k:=L.b * k3) (by grind));exact⟨g,hg,hc,e⟩
 ·rintro⟨g,hg,hc,hd⟩;simp [isIn,hc]
end KR
namespace KR
open PySem L2 L2.L3 K55
def jS (p:Int×Int):D:=.tup [.int p.1,.int p.2]
def bN (r:dH):D:=.tup (r.map jS)
theorem uT (p q:Int×Int):aS (jS p) (jS q)=decide (p=q):=by
 obtain⟨a,b⟩:=p;obtain⟨c,d⟩:=q;simp only [jS,aS,cH,EB]
 by_cases h:a=c <;> by_cases g:b=d <;> simp [h,g,aS,cH]
theorem y6 (p q:Int×Int):oY 1 (jS p) (jS q)=qu p q:=by
 obtain⟨a,b⟩:=p;obtain⟨c,d⟩:=q;simp only [jS,oY,mC,qu,aS]
 by_cases h:a=c
 ·subst h
  by_cases g:b=d
  ·subst g;simp
  ·simp [g]
 ·simp [h]
theorem xi:∀(x y:dH),oY 2 (bN x) (bN y)=fI x y:=by
 suffices ∀(x y:dH),mC (oY 1) (x.map jS) (y.map jS)=fI x y from this
 intro x
 induction x with
 | nil=>intro y;cases y <;> rfl
 | cons p x ih =>
  intro y
  cases y with
  | nil=>rfl
  | cons q y =>
   simp only [DF,mC,fI,uT,y6,decide_eq_true_eq,ih]
theorem jh:∀(rs:List dH) (r:dH),pS 2 (bN r) (rs.map bN)=bN (jC r rs)
 | [],r=>rfl
 | y :: rs,r=>by
  show pS 2 (if oY 2 (bN y) (bN r)=true then bN y else bN r) (rs.map bN)=bN (jC (if fI y r=true then y else r) rs)
  rw [xi]
  by_cases c:fI y r=true
  ·rw [if_pos c,if_pos c];exact jh rs y
  ·rw [if_neg c,if_neg c];exact jh rs r
theorem qi (r:dH):pX 2 (bN r):=⟨_,rfl,λe he=>by
 obtain⟨p,_,rfl⟩:=DB.mp he;refine⟨_,rfl,λx hx=>?_⟩;simp only [DD,DQ,or_false] at hx
 rcases hx with rfl|rfl <;> exact⟨_,rfl⟩⟩
theorem dE {α:Type} {te:TD} {b8:En} {Q:List D->Prop} (c g:α->D):∀(l:List α) (acc:List D),(∀i∈l,∀N:D->Prop,N (g i)->te (b8.set 0 (some (.d (c i)))) N)->acc.length + l.length<=sizeLine->Q (acc ++ l.map g)->comps bL te b8 Q (l.map c) acc
 | [],acc,_,_,q=>by simpa [comps] using q
 | x :: l,acc,h,hl,q=>by
  show comps bL te b8 Q (c x :: l.map c) acc
  simp only [comps,bL,if_true];refine h x DC _ ⟨by simp at hl;omega,dE c g l _ (λy hy=>h y (Dv _ hy)) (by simp at hl ⊢;omega) ?_⟩;rw [List.append_assoc];exact q
theorem gz {te:TD} {b8:En} {Q:List D->Prop} (g:Int×Int->D):∀(l:dH) (acc:List D),(∀p∈l,∀N:D->Prop,N (g p)->te ((b8.set 0 (some (.d (.int p.1)))).set 1 (some (.d (.int p.2)))) N)->acc.length + l.length<=sizeLine->Q (acc ++ l.map g)->dQ bL te b8 Q (l.map jS) acc
 | [],acc,_,_,q=>by simpa [dQ] using q
 | x :: l,acc,h,hl,q=>by
  show dQ bL te b8 Q (jS x :: l.map jS) acc
  simp only [dQ,bL,if_true];refine⟨_,_,rfl,h x DC _ ⟨by simp at hl;omega,gz g l _ (λy hy=>h y (Dv _ hy)) (by simp at hl ⊢;omega) ?_⟩⟩;rw [List.append_assoc];exact q
def zV (x:D) (fs:List Int):Prop:=x=.tup (fs.map D.int)\/x=.lst (fs.map D.int)
def yv (n:Int):Prop:=-(2 ^ 64) < n/\n < 2 ^ 64
def CP (x y z:D) (Q:D->Prop):Prop:=∃(r:dH) (fs:List Int) (N:Int),x=bN r/\zV y fs/\z=.int N/\0 < N/\fs≠[]/\fs.length<=100/\r.length<=2/\(∀f∈fs,yv f)/\Q (bN (lm N fs r))
def aD:Fw:=F3 CP
theorem zW {x:D} {fs:List Int} (h:zV x fs):bM x=some (fs.map D.int):=by
 rcases h with rfl|rfl <;> rfl
def cV:cy:=(cS (aI (rQ 2) (af (bu (c9 [0,2] (ag 1) bL (aI dM (af (bu (iY [0,2] (ag 1) bL (bW (af (aM dm (aM cM (ag 2) (ag 0)) (ag 3)) (af (aM dm (aM cM (ag 2) (ag 1)) (ag 3)) aB))))) aB)))) aB)))
theorem gV:∀ds Q,aD ds Q->ds.length=3:=vw
theorem iA:∀ds (Q:D->Prop),aD ds Q->cV { nx:=λ_=>Q .non,rt:=Q } (aA ["rows","factors","number"] ds):=by
 rintro ds Q ⟨x,y,z,rfl,r,fs,N,rfl,hy,rfl,hN,hf,lf,lr,hs,h⟩;have sz:=DR
 simp_arith only [cV,ba]
 refine⟨_,zW hy,dE D.int (λf=>bN (mulR f N r)) fs [] (λf hfm Z hZ=>?_) (by simp;omega) ?_⟩
 ·obtain⟨s1,s2⟩:=hs f hfm
  simp_arith only [ba,bM,bN]
  refine gz (λp=>jS (f * p.1 % N,f * p.2 % N)) r [] (λp hp Z hZ=>?_) (by simp;omega) ?_
  ·simp_arith only [Int.fmod_eq_emod_of_nonneg _ (Int.le_of_lt hN)]
   exact⟨aV s1 s2,dA _ (by omega),aV s1 s2,dA _ (by omega),hZ⟩
  ·simp_arith only [List.nil_append]
   have e:bN (mulR f N r)=.tup (r.map λp=>jS (f * p.1 % N,f * p.2 % N)):=by
    unfold bN mulR;rw [List.map_map];rfl
   rw [e] at hZ;exact hZ
 ·cases fs with
  | nil=>exact absurd rfl hf
  | cons f t =>
   simp only [List.nil_append,DF];refine⟨by decide,λx hx=>?_,?_⟩
   ·rw [<- DF (f:=λf=>bN (mulR f N r))] at hx;obtain⟨g,_,rfl⟩:=DB.mp hx;exact qi _
   ·have e:t.map (λf=>bN (mulR f N r))=(t.map λg=>mulR g N r).map bN:=by rw [List.map_map];rfl
    rw [e,jh];exact h
def Dd (x:D) (Q:D->Prop):Prop:=∃r:dH,x=bN r/\r.length<=2/\Q (.lst [bN (tS r),bN (tR r)])
def a8:Fw:=F1 Dd
def et:cy:=(cS (lQ (af (aI dM (af (bu (iY [] (ag 0) bL (bW (af (ag 1) (af (rB mi (ag 0)) aB))))) aB)) (af (aI dM (af (bu (iY [] (ag 0) bL (bW (af (ag 1) (af (aM uH (rB mi (ag 0)) (ag 1)) aB))))) aB)) aB))))
theorem jy:∀ds Q,a8 ds Q->ds.length=1:=sa
theorem j5:∀ds (Q:D->Prop),a8 ds Q->et { nx:=λ_=>Q .non,rt:=Q } (aA ["rows"] ds):=by
 rintro ds Q ⟨x,rfl,r,rfl,lr,h⟩;have sz:=DR
 simp_arith only [et,ba,bN,bM]
 refine gz (λp=>jS (p.2,-p.1)) r [] (λp hp Z hZ=>?_) (by simp;omega) ?_
 ·simp_arith only [and_true];exact hZ
 ·simp_arith only [ba,bM]
  refine gz (λp=>jS (p.2,-p.1 - p.2)) r [] (λp hp Z hZ=>?_) (by simp;omega) ?_
  ·simp_arith only [and_true];exact hZ
  ·simp_arith only [List.nil_append]
   have e1:bN (tS r)=.tup (r.map λp=>jS (p.2,-p.1)):=by unfold bN tS;rw [List.map_map];rfl
   have e2:bN (tR r)=.tup (r.map λp=>jS (p.2,-p.1 - p.2)):=by unfold bN tR;rw [List.map_map];rfl
   rw [e1,e2] at h;exact h
structure RR where
 r:dH
 deriving DecidableEq
def cR (p:RR):D:=bN p.r
theorem pW:∀x y:dH,cH (x.map jS) (y.map jS)=decide (x=y)
 | [],[]=>rfl
 | [],_ :: _=>by simp [cH]
 | _ :: _,[]=>by simp [cH]
 | p :: x,q :: y=>by
  simp only [DF,cH,uT,pW x y]
  by_cases h:p=q <;> by_cases g:x=y <;> simp [h,g]
theorem zl:Code cR:=⟨λp q=>by
 obtain⟨p⟩:=p;obtain⟨q⟩:=q;show aS (.tup (p.map jS)) (.tup (q.map jS))=_
 rw [aS,pW,Bool.eq_iff_iff,decide_eq_true_eq,decide_eq_true_eq]
 exact⟨λh=>by rw [h],λh=>RR.mk.inj h⟩,λp=>by
 have:=g8 2 _ (qi p.r);show dep (bN p.r)<=8
 omega⟩
theorem BC (p:RR):aG (cR p)=true:=by
 obtain⟨l⟩:=p;show eO (l.map jS)=true
 induction l with
 | nil=>rfl
 | cons x l ih=>show (true && eO (l.map jS))=true;rw [ih];rfl
def cK (N:Nat):List Int:=((List.range N).filter λ(i:Nat)=>decide (Int.gcd (i:Int) (N:Int)=1)).map λ(i:Nat)=>(i:Int)
def bB (k:Str) (N:Nat):List Int:=if k = "upper" then cK N else [1,-1]
def kz (N:Nat) (fs:List Int) (p:RR):RR:=⟨lm N fs (tS p.r)⟩
def jA (N:Nat) (fs:List Int) (p:RR):RR:=⟨lm N fs (tR p.r)⟩
def fR (N:Nat) (fs:List Int) (pl:Bool):RR:=⟨kM N fs pl m1⟩
def inR (p:RR):Prop:=p.r.length<=2
theorem rf {N:Int} {fs:List Int} (h:fs≠[]) (r:dH):(lm N fs r).length=r.length:=by
 obtain⟨f,_,e⟩:=lD (N:=N) (r:=r) h;rw [e];simp [mulR]
theorem y4 {N:Nat} {fs:List Int} (h:fs≠[]) (p:RR) (hp:inR p):inR (kz N fs p)/\inR (jA N fs p):=by
 have hp':p.r.length<=2:=hp;refine⟨?_,?_⟩
 ·show (lm _ _ _).length<=2;rw [rf h];simpa [tS] using hp'
 ·show (lm _ _ _).length<=2;rw [rf h];simpa [tR] using hp'
structure Kd (k:Str) (N:Nat):Prop where
 kind:k = "plain"\/k = "upper"\/k = "first"
 n1:1<=N
 n24:N<=24
def gW (k:Str):Bool:=decide (k = "plain")
theorem yW {k:Str} {N:Nat} (h:Kd k N):bB k N≠[]:=by
 unfold bB
 split
 ·have h1:=h.n1;have h2:=h.n24;have:∀n:Fin 25,1<=n.val->cK n.val≠[]:=by decide +kernel
  exact this ⟨N,by omega⟩ h1
 ·simp
theorem tX {k:Str} {N:Nat} (h:Kd k N):(bB k N).length<=100/\∀f∈bB k N,yv f:=by
 unfold bB
 split
 ·have h2:=h.n24;have:∀n:Fin 25,(cK n.val).length<=100/\∀f∈cK n.val,-(2 ^ 64) < f/\f < 2 ^ 64:=by decide +kernel
  exact this ⟨N,by omega⟩
 ·refine⟨by simp,λf hf=>?_⟩;simp only [DD,DQ,or_false] at hf;rcases hf with rfl|rfl <;> exact⟨by decide,by decide⟩
def C3 (x y:D) (Q:D->Prop) (R:Str->Prop):Prop:=∃(k:Str) (N:Nat),x=.str k/\y=.int (N:Int)/\Kd k N/\(∀n,Over (kz N (bB k N)) (jA N (bB k N)) (fR N (bB k N) (gW k)) n->R "TooMany") /\
 ∀n,Done (kz N (bB k N)) (jA N (bB k N)) (fR N (bB k N) (gW k)) n->Q (fu (du (aL (kz N (bB k N)) (jA N (bB k N)) (fR N (bB k N) (gW k)) n) (kz N (bB k N))) (du (aL (kz N (bB k N)) (jA N (bB k N)) (fR N (bB k N) (gW k)) n) (jA N (bB k N))))
def c7:rO:=G2 C3
theorem iT {te:TD} {tt:TB} {b8:En} {Q:List D->Prop} (N:Nat):∀(l:List Nat) (acc:List D),(∀i∈l,∀Z:Bool->Prop,Z (decide (Int.gcd (i:Int) (N:Int)=1))->tt (b8.set 0 (some (.d (.int (i:Int))))) Z)->(∀i∈l,∀Z:D->Prop,Z (.int (i:Int))->te (b8.set 0 (some (.d (.int (i:Int))))) Z)->acc.length + l.length<=sizeLine ->
  Q (acc ++ ((l.filter λ(i:Nat)=>decide (Int.gcd (i:Int) (N:Int)=1)).map λ(i:Nat)=>(i:Int)).map D.int)->comps tt te b8 Q (l.map λ(i:Nat)=>D.int (i:Int)) acc
 | [],acc,_,_,_,q=>by simpa [comps] using q
 | x :: l,acc,h1,h2,hl,q=>by
  show comps tt te b8 Q (.int (x:Int) :: l.map λ(i:Nat)=>D.int (i:Int)) acc
  simp only [comps];refine h1 x DC _ ?_
  by_cases c:Int.gcd (x:Int) (N:Int)=1
  ·rw [decide_eq_true c,if_pos rfl];refine h2 x DC _ ⟨by simp at hl;omega,iT N l _ (λy hy=>h1 y (Dv _ hy)) (λy hy=>h2 y (Dv _ hy)) (by simp at hl ⊢;omega) ?_⟩;rw [List.filter_cons_of_pos (by simpa using c)] at q
   simpa using q
  ·rw [decide_eq_false c,if_neg (by simp)];refine iT N l _ (λy hy=>h1 y (Dv _ hy)) (λy hy=>h2 y (Dv _ hy)) (by simp at hl ⊢;omega) ?_;rw [List.filter_cons_of_neg (by simpa using c)] at q;exact q
def d9:nM:=(fF (n6 (cf 3 (x5 (a7 (aM l7 (ag 0) (cC (.str "plain")))) (bW (af (bW (af (cC (.int 1)) (af (cC (.int 0)) aB))) (af (bW (af (cC (.int 0)) (af (cC (.int 1)) aB))) aB))) (bW (af (bW (af (cC (.int 0)) (af (cC (.int 1)) aB))) aB))))) (oW 4 bP (aI aD (af (ag 3) (af (ag 2) (af (ag 1) aB)))) [1,2] 1 ["here","number","factors"] (bu (c9 [1,2] (aI a8 (af (ag 0) aB)) bL (aI aD (af (ag 0) (af (ag 2) (af (ag 1) aB))))))))
def fS:nM:=(fF (n6 (cf 2 (bW (af (cC (.int 1)) (af (rB mi (cC (.int 1))) aB))))) (fF (n6 (om (a7 (aM l7 (ag 0) (cC (.str "upper")))) (cf 2 (bu (fw n8 [1] (af (ag 1) aB) (a7 (aM l7 (aI aY (af (ag 0) (af (ag 1) aB))) (cC (.int 1)))) (ag 0)))) b9)) d9))
theorem mr:∀ds (Q:D->Prop) (R:Str->Prop),c7 ds Q R->ds.length=2:=AE
theorem nW:∀ds (Q:D->Prop) (R:Str->Prop),c7 ds Q R->fS { nx:=λ_=>Q .non,rt:=Q,xc:=R } (aA ["kind","number","factors","rows","behind"] ds):=by
 rintro ds Q R ⟨x,y,rfl,k,N,rfl,rfl,kd,ho,hd⟩;have sz:=DR;have fne:=yW kd;obtain⟨fl,fsm⟩:=tX kd;have n1:=kd.n1;have n24:=kd.n24
 have tail:∀(fd:D),zV fd (bB k N)->d9 { nx:=λ_=>Q .non,rt:=Q,xc:=R } [some (.d (.str k)),some (.d (.int (N:Int))),some (.d fd),none,none]:=by
  intro fd hs
  have run:∀(p:RR),inR p->∀Q':D->Prop,Q' (.lst [cR (kz N (bB k N) p),cR (jA N (bB k N) p)])->(bu (c9 [1,2] (aI a8 (af (ag 0) aB)) bL (aI aD (af (ag 0) (af (ag 2) (af (ag 1) aB)))))) [some (.d (cR p)),some (.d (.int (N:Int))),some (.d fd)] Q':=by
   intro p hp Q' hq
   simp_arith only [a8,sM,ba]
   refine⟨p.r,rfl,hp,_,rfl,?_⟩;have e:[bN (tS p.r),bN (tR p.r)]=[tS p.r,tR p.r].map bN:=rfl;rw [e];refine dE bN (λr=>bN (lm N (bB k N) r)) [tS p.r,tR p.r] [] (λr hr Z hZ=>?_) (by simp;omega) ?_
   ·simp_arith only [aD,wg]
    refine⟨r,bB k N,N,rfl,hs,rfl,by omega,fne,fl,?_,fsm,hZ⟩;have hp':p.r.length<=2:=hp;simp only [DD,DQ,or_false] at hr;rcases hr with rfl|rfl
    ·simpa [tS] using hp'
    ·simpa [tR] using hp'
   ·simp_arith only [and_true]
    exact hq
  have fin:∀r:dH,r=i9 (gW k) m1->∀Pf0,aD [bN r,fd,.int (N:Int)] λd=>∃caps,pN [some (.d (.str k)),some (.d (.int (N:Int))),some (.d fd),some (.d (bN r)),some (.d (.obj Pf0))] [1,2]=some caps/\∀Pf,bP (λds Q=>ds.length=1/\(bu (c9 [1,2] (aI a8 (af (ag 0) aB)) bL (aI aD (af (ag 0) (af (ag 2) (af (ag 1) aB)))))) (aA ["here","number","factors"] (ds ++ caps)) Q) Pf [d,.obj Pf] Q R:=by
   rintro r rfl Pf0;have lr:(i9 (gW k) m1).length<=2:=by unfold i9;split <;> simp
   refine⟨_,_,_,rfl,_,_,_,rfl,hs,rfl,by omega,fne,fl,lr,fsm,_,rfl,λPf=>⟨RR,inferInstance,cR,kz N (bB k N),jA N (bB k N),fR N (bB k N) (gW k),inR,rfl,zl,BC,?_,y4 fne,λp hp Q' hq=>⟨rfl,?_⟩,ho,hd⟩⟩
   ·show (lm _ _ _).length<=2
    rw [rf fne];exact lr
   ·simp only [aA,DF,List.map_nil,List.cons_append,List.nil_append,DV,Ec,Nat.reduceAdd,Nat.sub_self,List.replicate_zero,Ea];exact run p hp Q' hq
  simp_arith only [d9,oW]
  by_cases c:k = "plain"
  ·rw [if_pos (by simpa using c)];exact fin _ (by unfold gW;rw [decide_eq_true c])
  ·rw [if_neg (by simpa using c)];exact fin _ (by unfold gW;rw [decide_eq_false c])
 simp_arith only [fS,aY,iq,vd]
 by_cases c:k = "upper"
 ·rw [if_pos (by simpa using c)];refine⟨by omega,by omega,?_⟩
  have e:bE 0 (N:Int).toNat=(List.range N).map λ(i:Nat)=>D.int (i:Int):=by
   unfold bE;rw [Int.toNat_natCast];refine List.map_congr_left λi _=>?_;rw [Int.zero_add]
  rw [e];refine iT N (List.range N) [] (λi hi Z hZ=>?_) (λi hi Z hZ=>?_) (by simp;omega) ?_
  ·simp_arith only [ba,iq,vd]
   refine⟨_,_,rfl,rfl,?_⟩
   have e1:decide (((Int.gcd (i:Int) (N:Int):Nat):Int)=1)=decide (Int.gcd (i:Int) (N:Int)=1):=by
    rw [Bool.eq_iff_iff,decide_eq_true_eq,decide_eq_true_eq];omega
   rw [<- e1] at hZ;exact hZ
  ·simp_arith only [ba]
   exact hZ
  ·exact tail _ (.inr (by unfold bB;rw [if_pos c];rfl))
 ·rw [if_neg (by simpa using c)];exact tail _ (.inl (by unfold bB;rw [if_neg c];rfl))
theorem oA {N:Int} (h:0 < N):Good N [1,-1]:=by
 refine⟨h,⟨1,by simp,rfl⟩,λf hf g hg=>?_,λf hf=>?_,⟨-1,by simp,rfl⟩⟩
 ·simp only [DD,DQ,or_false] at hf hg;rcases hf with rfl|rfl <;> rcases hg with rfl|rfl
  ·exact⟨1,by simp,rfl⟩
  ·exact⟨-1,by simp,rfl⟩
  ·exact⟨-1,by simp,rfl⟩
  ·exact⟨1,by simp,rfl⟩
 ·simp only [DD,DQ,or_false] at hf;rcases hf with rfl|rfl
  ·exact⟨1,by simp,rfl⟩
  ·exact⟨-1,by simp,rfl⟩
theorem jN {N:Nat} (hN:1<=N) {u v:Int} (h:u * v % N=1 % N):∃g∈cK N,v % N=g % N:=by
 have n0:(0:Int) < N:=by omega
 have h0:=Int.emod_nonneg v (Int.ne_of_gt n0);have h1:=Int.emod_lt_of_pos v n0;refine⟨v % N,?_,(Int.emod_emod _ _).symm⟩;unfold cK;refine DB.mpr ⟨(v % N).toNat,List.mem_filter.mpr ⟨DT.mpr (by omega),?_⟩,by omega⟩;rw [decide_eq_true_eq,Int.toNat_of_nonneg h0];obtain⟨k,e⟩:=cL h;have g1:((Int.gcd (v % N) N:Nat):Int) ∣ v % N:=Int.gcd_dvd_left ..;have g2:((Int.gcd (v % N) N:Nat):Int) ∣ (N:Int):=Int.gcd_dvd_right ..
 obtain⟨x,hx⟩:=g1;obtain⟨y,hy⟩:=g2;have hv:=Int.emod_add_mul_ediv v N
 have:((Int.gcd (v % N) N:Nat):Int) ∣ 1:=⟨u * (x + y * (v / N)) - y * k,by
  generalize ((Int.gcd (v % N) N:Nat):Int)=g at hx hy;rw [hx] at hv
  grind⟩
 have:=Int.eq_one_of_dvd_one (by omega) this;omega
theorem jV {N:Nat} (hN:1<=N) (h24:N<=24) {f:Int} (h:f∈cK N):∃g∈cK N,g * f % N=1 % N:=by
 have:∀n:Fin 25,(cK n.val).all (λf=>(cK n.val).any λg=>decide (g * f % (n.val:Int)=1 % (n.val:Int)))=true:=by decide +kernel
 have:=List.all_eq_true.mp (this ⟨N,by omega⟩) f h;obtain⟨g,hg,e⟩:=List.any_eq_true.mp this;exact⟨g,hg,by simpa using e⟩
theorem kS {N:Nat} (hN:1<=N) (h24:N<=24):Good N (cK N):=by
 refine⟨by omega,?_,λf hf g hg=>?_,λf hf=>jV hN h24 hf,?_⟩
 ·obtain⟨g,hg,e⟩:=jN hN (u:=1) (v:=1) (N:=N) rfl;exact⟨g,hg,e.symm⟩
 ·obtain⟨i,hi,ei⟩:=jV hN h24 hf;obtain⟨j,hj,ej⟩:=jV hN h24 hg
  obtain⟨k,hk,e⟩:=jN hN (u:=i * j) (v:=f * g) (N:=N) (by
   obtain⟨a,ea⟩:=cL ei;obtain⟨b,eb⟩:=cL ej
   exact cg (k:=a * (j * g) + b) (by grind))
  exact⟨k,hk,e.symm⟩
 ·obtain⟨g,hg,e⟩:=jN hN (u:=-1) (v:=-1) (N:=N) rfl;exact⟨g,hg,e.symm⟩
theorem dr {k:Str} {N:Nat} (kd:Kd k N):Good N (bB k N):=by
 unfold bB
 split
 ·exact kS kd.n1 kd.n24
 ·exact oA (by have:=kd.n1;omega)
def kN (k:Str):Nat:=if k = "plain" then 0 else if k = "upper" then 1 else 2
theorem yy {k:Str} {N:Nat} (kd:Kd k N) {m n:Mx} (hm:m.det=1) (hn:n.det=1):isIn (kN k) N (lW m n)=true↔kM N (bB k N) (gW k) m=kM N (bB k N) (gW k) n:=by
 have G:=dr kd;rcases kd.kind with h|h|h
 ·have e1:kN k=0:=by rw [h];rfl
  have e2:gW k=true:=by rw [h];rfl
  have e3:bB k N=[1,-1]:=by rw [h];rfl
  rw [e3] at G;rw [e1,e2,e3];exact wa G hm hn
 ·have e1:kN k=1:=by rw [h];rfl
  have e2:gW k=false:=by rw [h];rfl
  have e3:bB k N=cK N:=by rw [h];rfl
  rw [e3] at G;rw [e1,e2,e3];exact v5 G (λu v=>jN kd.n1) hm hn
 ·have e1:kN k=2:=by rw [h];rfl
  have e2:gW k=false:=by rw [h];rfl
  have e3:bB k N=[1,-1]:=by rw [h];rfl
  rw [e3] at G;rw [e1,e2,e3];exact uV G hm hn
def BM (N:Nat) (fs:List Int) (pl:Bool) (p:RR):Prop:=∃m:Mx,p=⟨kM N fs pl m⟩
section
variable {k:Str} {N n:Nat} {E F:List Nat} {met:List RR}
theorem zi (kd:Kd k N) (p:RR) (h:BM N (bB k N) (gW k) p):BM N (bB k N) (gW k) (kz N (bB k N) p)/\BM N (bB k N) (gW k) (jA N (bB k N) p):=by
 obtain⟨m,rfl⟩:=h;exact⟨⟨m.mul mS,congrArg RR.mk (sX (dr kd) _ m)⟩,⟨m.mul mR,congrArg RR.mk (qM (dr kd) _ m)⟩⟩
abbrev tP (k:Str) (N:Nat) (E F:List Nat) (met:List RR):Prop:=Gm (kz N (bB k N)) (jA N (bB k N)) (fR N (bB k N) (gW k)) (BM N (bB k N) (gW k)) E F met
theorem CQ (kd:Kd k N) (h:Done (kz N (bB k N)) (jA N (bB k N)) (fR N (bB k N) (gW k)) n):tP k N (du (aL (kz N (bB k N)) (jA N (bB k N)) (fR N (bB k N) (gW k)) n) (kz N (bB k N))) (du (aL (kz N (bB k N)) (jA N (bB k N)) (fR N (bB k N) (gW k)) n) (jA N (bB k N))) (aL (kz N (bB k N)) (jA N (bB k N)) (fR N (bB k N) (gW k)) n) :=
 Gm.of ⟨m1,rfl⟩ (zi kd) h
theorem tP.mw (kd:Kd k N) (m:tP k N E F met):An E F:=by
 have G:=dr kd;rw [m.eE,m.eF];refine m.full.mw (λp hp=>?_) λp hp=>?_
 ·obtain⟨x,rfl⟩:=hp;show RR.mk (lm _ _ (tS (lm _ _ (tS _))))=_
  rw [sX G,sX G,Bp G]
 ·obtain⟨x,rfl⟩:=hp;show RR.mk (lm _ _ (tR (lm _ _ (tR (lm _ _ (tR _))))))=_
  rw [qM G,qM G,qM G,Ai]
def gB (k:Str) (N:Nat) (m:Mx):RR:=⟨kM N (bB k N) (gW k) m⟩
theorem tP.led (kd:Kd k N) (m:tP k N E F met):∀w:List Nat,(∀c∈w,isLet c)->gB k N (mW w)∈met/\lw E F w 0=met.idxOf (gB k N (mW w)):=by
 have G:=dr kd;have S:∀x:Mx,kz N (bB k N) (gB k N x)=gB k N (x.mul mS):=λx=>congrArg RR.mk (sX G _ x);have R:∀x:Mx,jA N (bB k N) (gB k N x)=gB k N (x.mul mR):=λx=>congrArg RR.mk (qM G _ x);have Q:∀x:Mx,gB k N (x.mul mQ)=jA N (bB k N) (jA N (bB k N) (gB k N x)):=λx=>by rw [R,R];exact congrArg RR.mk (Cb G _ x)
 refine snoc_ind (P:=λw=>(∀c∈w,isLet c)->gB k N (mW w)∈met/\lw E F w 0=met.idxOf (gB k N (mW w))) (λ_=>?_) λr c ih hl=>?_
 ·exact⟨m.Bj,m.z.symm⟩
 ·obtain⟨h1,h2⟩:=ih λc hc=>hl c (D0 _ hc);have hc:=hl c (by simp);rw [oI,h2,oz];have c1:=m.full.cl _ h1;rcases hc with rfl|rfl|rfl
  ·rw [show mL 115=mS from rfl,<- S];exact⟨c1.1,m.sE h1⟩
  ·rw [show mL 114=mR from rfl,<- R];exact⟨c1.2,m.sF h1⟩
  ·rw [show mL 113=mQ from rfl,Q];refine⟨(m.full.cl _ c1.2).2,?_⟩;show iP F (iP F (met.idxOf (gB k N (mW r))))=_
   rw [m.sF h1,m.sF c1.2]
theorem tP.same (kd:Kd k N) (m:tP k N E F met) {u w:List Nat} (hu:∀c∈u,isLet c) (hw:∀c∈w,isLet c):isIn (kN k) N (lW (mW u) (mW w))=true↔lw E F u 0=lw E F w 0:=by
 rw [yy kd (xT u) (xT w)];obtain⟨a1,a2⟩:=m.led kd u hu;obtain⟨b1,b2⟩:=m.led kd w hw;rw [a2,b2];exact⟨λh=>by unfold gB;rw [h],λh=>RR.mk.inj (m.inj a1 b1 h)⟩
end
theorem wK.any {kvs:List (D×D)} {ks:List Nat} {W:Nat->List Nat} (m:wK kvs ks W) (q:Nat):(kvs.any λkv=>aS kv.1 (.int (q:Int)))=decide (q∈ks):=by
 rw [kF,m.get]
 by_cases c:q∈ks
 ·rw [if_pos c,decide_eq_true c];rfl
 ·rw [if_neg c,decide_eq_false c];rfl
def BV (a b:List Nat) (W:Nat->List Nat):Prop:=∀i,i < a.length->(∀c∈W i,isLet c)/\lw a b (W i) 0=i/\(W i).length < 500
def Ak (t:D) (Q:D->Prop):Prop:=∃a b:List Nat,t=fu a b/\An a b/\a.length<=500/\∀W:Nat->List Nat,BV a b W->Q (.lst ((List.range a.length).map λi=>strN (W i)))
def bV:Fw:=F1 Ak
structure CI (a b ks:List Nat) (at_ p i:Nat) (kvs:List (D×D)) (k2:List Nat) (W:Nat->List Nat):Prop where
 wd:wK kvs k2 W
 ws:As a b k2 W
 pre:∃r,k2=ks ++ r
 s:1<=i->iP a p∈k2
 r:2<=i->iP b p∈k2
def eI:cy:=(a0 (jz (lQ (af (bW (af (cC (.str "s")) (af (aM i6 (ag 0) (cC (.int 0))) aB))) (af (bW (af (cC (.str "r")) (af (aM i6 (ag 0) (cC (.int 1))) aB))) aB))) (fQ 2 (aO (aE 4) (aO (aE 5) eQ))) (a0 (cf 6 (aM i6 (ag 5) (dJ 2 (ag 3)))) (om (gU true 1 (ag 6)) (a0 (ic 1 (ag 6) (aM cU (gy 1 (dJ 2 (ag 3))) (ag 4))) (b0 2 (ag 6))) b9))) (cf 3 (aM cU (ag 3) (cC (.int 1)))))
def fj:cy:=(a0 (oR 1 (cC (.int 0)) (cC (.str ""))) (a0 (b7 2 (iN (af (cC (.int 0)) aB))) (a0 (cf 3 (cC (.int 0))) (a0 (gR (a7 (aM A0 (ag 3) (cF 2))) eI) (kR 1 (cS (bu (fw n8 [1] (af (aI kn (af (aM i6 (ag 0) (cC (.int 0))) aB)) aB) bL (aM CB (ag 1) (ag 0))))))))))
theorem jW:∀ds Q,bV ds Q->ds.length=1:=sa
theorem mF:∀ds (Q:D->Prop),bV ds Q->fj { nx:=λ_=>Q .non,rt:=Q } (aA ["_law_table","_law_words_here","_law_met","_law_at","_law_letter","_law_places","_law_there"] ds):=by
 rintro ds Q ⟨t,rfl,a,b,rfl,tab,la,h⟩;have sz:=DR;have lb:=tab.ok.len
 have few:∀ks:List Nat,ks.Nodup->(∀i∈ks,i < a.length)->ks.length<=a.length:=λks nd lt=>by
  have:=fP ks (List.range a.length) nd λi hi=>DT.mpr (lt i hi)
  simpa using this
 simp_arith only [fj,oR,gR]
 refine⟨λe=>∃(kvs:List (D×D)) (ks:List Nat) (W:Nat->List Nat) (at_:Nat) (k4 k5 k6:Option Lo),e=[some (.d (fu a b)),some (.dic kvs),some (.own (aJ ks)),some (.d (.int (at_:Int))),k4,k5,k6]/\wK kvs ks W/\As a b ks W/\at_<=ks.length/\(∀j q,j < at_->ks[j]?=some q->iP a q∈ks/\iP b q∈ks),
  λe=>501 - AI 3 e,⟨_,[0],λ_=>[],0,none,none,none,rfl,wC,⟨by simp,λi hi=>by rw [DJ.mp hi];exact tab.pos,λi hi=>⟨λc hc=>(nomatch hc),(DJ.mp hi).symm,by simp⟩⟩,DZ _,λj q hj=>absurd hj (El _)⟩,?_⟩
 rintro env ⟨kvs,ks,W,at_,k4,k5,k6,rfl,m,s,hat,cl⟩;have lk:=few ks m.nd s.lt;have nk:(aJ ks).length=ks.length:=by simp [aJ]
 simp_arith only [nk]
 by_cases cc:at_ < ks.length
 ·rw [if_pos (by omega)];obtain⟨p,hp⟩:∃p,ks[at_]?=some p:=⟨_,Dm cc⟩;have pm:=Dy hp;have pl:=s.lt p pm
  simp_arith only [eI,fu,w6,AJ]
  refine df (λi e=>i<=2/\∃(kvs:List (D×D)) (k2:List Nat) (W:Nat->List Nat) (k4 k5 k6:Option Lo),e=[some (.d (fu a b)),some (.dic kvs),some (.own (aJ k2)),some (.d (.int (at_:Int))),k4,k5,k6]/\CI a b ks at_ p i kvs k2 W) ?_ ?_ ⟨by omega,kvs,ks,W,k4,k5,k6,rfl,⟨m,s,⟨[],by simp⟩,λz=>absurd z (by decide),λz=>absurd z (by decide)⟩⟩
  ·rintro i x env N hx ⟨_,kvs,k2,W,k4,k5,k6,rfl,wi⟩ hN;have hi:i < 2:=by have:=(Dh.mp hx).1;simpa using this
   obtain⟨r,er⟩:=wi.pre;have hp2:k2[at_]?=some p:=by rw [er,Dw cc];exact hp
   have ai:iV (aJ k2) (at_:Int)=some (.int (p:Int)):=jR _ _ _ _ hp2;have l2:=few k2 wi.wd.nd wi.ws.lt;have kl:=wi.wd.len;have pm2:=Dy hp2;obtain⟨w1,w2,w3⟩:=wi.ws.w p pm2
   obtain⟨c,g,hc,hlp,hg,rfl,fin⟩:∃(c:Nat) (g:List Nat),isLet c/\(∀q,lp a b q c=iP g q)/\g.length=a.length/\x=.tup [.str ⟨#[c]⟩,.tup (aJ g)]/\∀(k3:List Nat) (kv3:List (D×D)) (W3:Nat->List Nat),(∃r,k3=ks ++ r)->(∀q∈k2,q∈k3)->iP g p∈k3->wK kv3 k3 W3->As a b k3 W3->CI a b ks at_ p (i + 1) kv3 k3 W3:=by
    rcases (show i=0\/i=1 by omega) with rfl|rfl
    ·refine⟨115,a,.inl rfl,λq=>rfl,rfl,by have e:=DA hx;rw [<- e];rfl,λk3 kv3 W3 pr su st wd ws=>⟨wd,ws,pr,λ_=>st,λz=>absurd z (by decide)⟩⟩
    ·refine⟨114,b,.inr (.inl rfl),λq=>rfl,lb,by have e:=DA hx;rw [<- e];rfl,λk3 kv3 W3 pr su st wd ws=>⟨wd,ws,pr,λ_=>su _ (wi.s (by omega)),λ_=>st⟩⟩
   have gp:iV (aJ g) (p:Int)=some (.int ((iP g p:Nat):Int)):=jR _ _ _ _ (lY (by omega))
   simp_arith only [dJ,ai]
   refine⟨_,_,rfl,ai,?_⟩;rw [yV (lY (by omega))]
   simp_arith only [gU,ic,gy,Lo.dic.injEq]
   refine⟨by simp [aG],by simp [dep],wi.wd.ok,?_⟩;rw [wi.wd.any]
   by_cases c2:iP g p∈k2
   ·rw [decide_eq_true c2];exact hN _ ⟨by omega,kvs,k2,W,_,_,_,rfl,fin k2 kvs W ⟨r,er⟩ (λq h=>h) c2 wi.wd wi.ws⟩
   ·rw [decide_eq_false c2];have wd3:=wi.wd.put c2 (W p ++ [c]);have ws3:=wi.ws.put tab.ok pm2 hc (by rw [hlp];exact c2);rw [hlp] at ws3;simp only [Bool.not_false,if_true];have n2:(aJ k2).length=k2.length:=by simp [aJ]
    refine⟨_,_,rfl,ai,strN (W p),by simp [aG],by simp [dep],wi.wd.ok,by rw [wi.wd.get,if_pos pm2],?_⟩;show cU (.str ⟨(W p).toArray⟩) (.str ⟨#[c]⟩) _
    rw [fA]
    have el:(⟨(W p).toArray⟩ ++ ⟨#[c]⟩:Str)=⟨(W p ++ [c]).toArray⟩:=by
     show Str.mk ((W p).toArray ++ #[c])=_
     congr 1
     simp
    rw [el];refine⟨?_,by simp [aG],by simp [dep],wi.wd.ok,by omega,by omega,hN _ ⟨by omega,_,k2 ++ [iP g p],_,some (.d (.str ⟨#[c]⟩)),some (.d (.tup (aJ g))),some (.d (.int ((iP g p:Nat):Int))),?_,fin _ _ _ ⟨r ++ [iP g p],by rw [er,List.append_assoc]⟩ (λq h=>D0 _ h) (by simp) wd3 ws3⟩⟩
    ·show (W p).toArray.size + 1<=_
     simp;omega
    ·simp only [aJ,List.map_append,DF,List.map_nil];rfl
  ·rintro env ⟨_,kvs,k2,W,k4,k5,k6,rfl,wi⟩;obtain⟨r,er⟩:=wi.pre
   simp_arith only [and_true]
   have l2:=few k2 wi.wd.nd wi.ws.lt;have lr:ks.length + r.length=k2.length:=by rw [er,DN]
   refine⟨⟨kvs,k2,W,at_ + 1,_,_,_,rfl,rfl,by omega,rfl,rfl,rfl,wi.wd,wi.ws,by omega,λj q hj hq=>?_⟩,?_⟩
   ·rcases Ew.mp hj with z|z
    ·have hq':ks[j]?=some q:=by rw [er,Dw (by omega)] at hq;exact hq
     obtain⟨y1,y2⟩:=cl j q z hq';rw [er];exact⟨D0 _ y1,D0 _ y2⟩
    ·rw [z,er,Dw cc,hp] at hq;cases hq;exact⟨wi.s (by simp),wi.r (by simp)⟩
   ·simp only [AI,DY,DX];omega
 ·rw [if_neg (by omega)];have e0:at_=ks.length:=by omega
  have all:∀i,i < a.length->i∈ks:=λi hi=>tab.high (λq hq=>by
   obtain⟨j,hj⟩:=Ed hq
   exact cl j q (by have:=(Dh.mp hj).1;omega) hj) s.z i i (Du _) hi
  have na:(aJ a).length=a.length:=by simp [aJ]
  simp_arith only [kR,Lo.dic.injEq,fu,w6,gS,na]
  refine⟨by omega,by omega,?_⟩
  have er:bE 0 ((a.length:Nat):Int).toNat=(List.range a.length).map λ(i:Nat)=>D.int (i:Int):=by
   unfold bE;rw [Int.toNat_natCast];refine List.map_congr_left λi _=>?_;rw [Int.zero_add]
  rw [er];refine dE (λ(i:Nat)=>D.int (i:Int)) (λi=>strN (W i)) (List.range a.length) [] (λi hi Z hZ=>?_) (by simp;omega) ?_
  ·simp_arith only [ba]
   refine⟨kvs,_,rfl,by simp [aG],by simp [dep],m.ok,by rw [m.get,if_pos (all i (DT.mp hi))],hZ⟩
  ·refine h W λi hi=>?_;obtain⟨x1,x2,x3⟩:=s.w i (all i hi);exact⟨x1,x2,by omega⟩
def mD (N:Nat) (m:Mx):D:=.tup [.int (m.a % N),.int (m.b % N),.int (m.c % N),.int (m.d % N)]
def r4 (w x y z:Int) (N:Nat):D:=.tup [.int (w % N),.int (x % N),.int (y % N),.int (z % N)]
structure qw (N:Nat) (w x y z:Int) (m:Mx):Prop where
 a:w % N=m.a % N
 b:x % N=m.b % N
 c:y % N=m.c % N
 d:z % N=m.d % N
theorem qw.mul {N:Nat} {w x y z:Int} {m:Mx} (h:qw N w x y z m) {e f g i:Int} {n:Mx} (k:qw N e f g i n):qw N (w * e + x * g) (w * f + x * i) (y * e + z * g) (y * f + z * i) (m.mul n):=by
 have two:∀{p q r s p' q' r' s':Int},p % N=p' % N->q % N=q' % N->r % N=r' % N->s % N=s' % N->(p * q + r * s) % N=(p' * q' + r' * s') % N:=λ{p q r s p' q' r' s'} h1 h2 h3 h4=>by
  obtain⟨k1,e1⟩:=cL h1;obtain⟨k2,e2⟩:=cL h2;obtain⟨k3,e3⟩:=cL h3;obtain⟨k4,e4⟩:=cL h4;exact cg (k:=p' * k2 + k1 * q' + N * k1 * k2 + r' * k4 + k3 * s' + N * k3 * k4) (by subst e1 e2 e3 e4;grind)
 exact⟨two h.a k.a h.b k.c,two h.a k.b h.b k.d,two h.c k.a h.d k.c,two h.c k.b h.d k.d⟩
theorem qw.mod {N:Nat} {w x y z:Int} {m:Mx} (h:qw N w x y z m):qw N (w % N) (x % N) (y % N) (z % N) m:=⟨by rw [Int.emod_emod];exact h.a,by rw [Int.emod_emod];exact h.b,by rw [Int.emod_emod];exact h.c,by rw [Int.emod_emod];exact h.d⟩
theorem qw.refl {N:Nat} (m:Mx):qw N m.a m.b m.c m.d m:=⟨rfl,rfl,rfl,rfl⟩
theorem qw.eq {N:Nat} {w x y z:Int} {m:Mx} (h:qw N w x y z m):r4 w x y z N=mD N m:=by
 unfold r4 mD;rw [h.a,h.b,h.c,h.d]
theorem iu {N:Nat} (h1:1<=N) (h2:N<=24) (x:Int):yv (x % N):=by
 have:=Int.emod_nonneg x (show (N:Int)≠0 by omega);have:=Int.emod_lt_of_pos x (show (0:Int) < N by omega);exact⟨by omega,by omega⟩
def zB (x y:D) (Q:D->Prop):Prop:=∃(w:List Nat) (N:Nat),x=strN w/\y=.int (N:Int)/\(∀c∈w,isLet c)/\1<=N/\N<=24/\w.length<=1000000/\Q (mD N (mW w))
def bf:Fw:=F2 zB
theorem mZ {N:Nat} (hN:1<=N) {b8:En} {Q:List D->Prop} (l:List Int) (he:b8=[none,some (.d (.int (N:Int)))]) (hl:l.length<=1000) (h:Q (l.map λx=>.int (x % N))):comps bL (aM dm (ag 0) (ag 1)) b8 Q (l.map D.int) []:=by
 have sz:=DR;refine dE D.int (λx=>.int (x % N)) l [] (λx hx Z hZ=>?_) (by simp;omega) (by simpa using h);subst he
 simp_arith only [Int.fmod_eq_emod_of_nonneg _ (show (0:Int)<=N by omega)]
 exact⟨dA _ (by omega),hZ⟩
def eZ:cy:=(a0 (fM (bW (af (cC (.int 1)) (af (cC (.int 0)) (af (cC (.int 0)) (af (cC (.int 1)) aB))))) (fQ 4 (aO (aE 2) (aO (aE 3) (aO (aE 4) (aO (aE 5) eQ)))))) (a0 (jz (ag 0) (aE 6) (a0 (fM (aM BJ (jv [.inr "s",.inr "r",.inr "q"] (af (bW (af (cC (.int 0)) (af (rB mi (cC (.int 1))) (af (cC (.int 1)) (af (cC (.int 0)) aB))))) (af (bW (af (cC (.int 0)) (af (rB mi (cC (.int 1))) (af (cC (.int 1)) (af (rB mi (cC (.int 1))) aB))))) (af (bW (af (cC (.int 1)) (af (rB mi (cC (.int 1))) (af (cC (.int 1)) (af (cC (.int 0)) aB))))) aB)))) (ag 6)) (fQ 4 (aO (aE 7) (aO (aE 8) (aO (aE 9) (aO (aE 10) eQ)))))) (fM (bu (c9 [1] (bW (af (aM cU (aM cM (ag 2) (ag 7)) (aM cM (ag 3) (ag 9))) (af (aM cU (aM cM (ag 2) (ag 8)) (aM cM (ag 3) (ag 10))) (af (aM cU (aM cM (ag 4) (ag 7)) (aM cM (ag 5) (ag 9))) (af (aM cU (aM cM (ag 4) (ag 8)) (aM cM (ag 5) (ag 10))) aB))))) bL (aM dm (ag 0) (ag 1)))) (qj 4 (aO (aE 2) (aO (aE 3) (aO (aE 4) (aO (aE 5) eQ)))))))) (cS (bW (af (aM dm (ag 2) (ag 1)) (af (aM dm (ag 3) (ag 1)) (af (aM dm (ag 4) (ag 1)) (af (aM dm (ag 5) (ag 1)) aB))))))))
theorem kI:∀ds Q,bf ds Q->ds.length=2:=qd
theorem mH:∀ds (Q:D->Prop),bf ds Q->eZ { nx:=λ_=>Q .non,rt:=Q } (aA ["_law_word","_law_number","_law_a","_law_b","_law_c","_law_d","_law_letter","_law_e","_law_f","_law_g","_law_h"] ds):=by
 rintro ds Q ⟨x,y,rfl,w,N,rfl,rfl,hw,n1,n24,lw,h⟩;have sz:=DR
 simp_arith only [eZ,strN,bM]
 refine df (λi e=>∃(x1 x2 x3 x4:Int) (k6 k7 k8 k9 k10:Option Lo),e=[some (.d (strN w)),some (.d (.int (N:Int))),some (.d (.int x1)),some (.d (.int x2)),some (.d (.int x3)),some (.d (.int x4)),k6,k7,k8,k9,k10]/\qw N x1 x2 x3 x4 (mW (w.take i))/\yv x1/\yv x2/\yv x3/\yv x4) ?_ ?_ ⟨1,0,0,1,_,_,_,_,_,rfl,⟨rfl,rfl,rfl,rfl⟩,⟨by decide,by decide⟩,⟨by decide,by decide⟩,⟨by decide,by decide⟩,⟨by decide,by decide⟩⟩
 ·rintro i x' env Z hx ⟨x1,x2,x3,x4,k6,k7,k8,k9,k10,rfl,c4,s1,s2,s3,s4⟩ hZ;unfold e7 at hx;rw [Dt] at hx
  cases hc:w[i]? with
  | none=>rw [show (⟨w.toArray⟩:Str).cps.toList[i]?=w[i]? by simp,hc] at hx;cases hx
  | some c =>
   rw [show (⟨w.toArray⟩:Str).cps.toList[i]?=w[i]? by simp,hc] at hx;cases hx;have hl:=hw c (Dy hc);have ew:mW (w.take (i + 1))=(mW (w.take i)).mul (mL c):=by rw [Er,hc];exact oz _ _
   have go:∀e f g j:Int,qw N e f g j (mL c)->(a0 (fM (bu (c9 [1] (bW (af (aM cU (aM cM (ag 2) (ag 7)) (aM cM (ag 3) (ag 9))) (af (aM cU (aM cM (ag 2) (ag 8)) (aM cM (ag 3) (ag 10))) (af (aM cU (aM cM (ag 4) (ag 7)) (aM cM (ag 5) (ag 9))) (af (aM cU (aM cM (ag 4) (ag 8)) (aM cM (ag 5) (ag 10))) aB))))) bL (aM dm (ag 0) (ag 1)))) (qj 4 (aO (aE 2) (aO (aE 3) (aO (aE 4) (aO (aE 5) eQ)))))) b9) { nx:=Z,rt:=Q } [some (.d (strN w)),some (.d (.int (N:Int))),some (.d (.int x1)),some (.d (.int x2)),some (.d (.int x3)),some (.d (.int x4)),some (.d (.str ⟨#[c]⟩)),some (.d (.int e)),some (.d (.int f)),some (.d (.int g)),some (.d (.int j))]:=by
    intro e f g j cm
    simp_arith only [ba]
    refine⟨aV s1.1 s1.2,aV s2.1 s2.2,aV s1.1 s1.2,aV s2.1 s2.2,aV s3.1 s3.2,aV s4.1 s4.2,aV s3.1 s3.2,aV s4.1 s4.2,?_⟩;refine mZ n1 [x1 * e + x2 * g,x1 * f + x2 * j,x3 * e + x4 * g,x3 * f + x4 * j] rfl (by simp) ?_
    simp_arith only [mV]
    exact hZ _ ⟨_,_,_,_,_,_,_,_,_,rfl,by rw [ew];exact (c4.mul cm).mod,iu n1 n24 _,iu n1 n24 _,iu n1 n24 _,iu n1 n24 _⟩
   simp_arith only [BJ,wN]
   have ml:mL c=mS\/mL c=mR\/mL c=mQ:=by rcases hl with rfl|rfl|rfl <;> simp [mL]
   have e:pQ [Sum.inr (Str.ofString "s"),Sum.inr (Str.ofString "r"),Sum.inr (Str.ofString "q")] [D.tup [D.int 0,D.int (-1),D.int 1,D.int 0],D.tup [D.int 0,D.int (-1),D.int 1,D.int (-1)],D.tup [D.int 1,D.int (-1),D.int 1,D.int 0]] (Sum.inr ⟨#[c]⟩)=some (.tup [.int (mL c).a,.int (mL c).b,.int (mL c).c,.int (mL c).d]):=by
    rcases hl with rfl|rfl|rfl <;> rfl
   refine⟨_,_,rfl,e,_,rfl,rfl,?_⟩
   simp_arith only [mV]
   have g:=go _ _ _ _ (qw.refl (mL c))
   simp_arith only [and_true] at g
   exact g
 ·rintro env ⟨x1,x2,x3,x4,k6,k7,k8,k9,k10,rfl,c4,s1,s2,s3,s4⟩
  simp_arith only [Int.fmod_eq_emod_of_nonneg _ (show (0:Int)<=N by omega)]
  refine⟨dA _ (by omega),dA _ (by omega),dA _ (by omega),dA _ (by omega),?_⟩;have e:=c4.eq;unfold r4 at e;rw [e,Es (by simp [e7])];exact h
def BU (m:Mx):Mx:=⟨m.d,-m.b,-m.c,m.a⟩
def Num (N:Nat):Prop:=1<=N/\N<=24
def zf (x y:D) (Q:D->Prop):Prop:=∃(m:Mx) (N:Nat),x=mD N m/\y=.int (N:Int)/\Num N/\Q (mD N (BU m))
def bJ:Fw:=F2 zf
theorem xH (N:Nat) (x:Int):(0 - x % N) % N=(-x) % N:=cg (k:=x / N) (by have:=Int.emod_add_mul_ediv x N;omega)
def fJ:cy:=(a0 (fM (ag 0) (fQ 4 (aO (aE 2) (aO (aE 3) (aO (aE 4) (aO (aE 5) eQ)))))) (cS (bW (af (ag 5) (af (aM dm (aM uH (cC (.int 0)) (ag 3)) (ag 1)) (af (aM dm (aM uH (cC (.int 0)) (ag 4)) (ag 1)) (af (ag 2) aB)))))))
theorem l9:∀ds Q,bJ ds Q->ds.length=2:=qd
theorem oV:∀ds (Q:D->Prop),bJ ds Q->fJ { nx:=λ_=>Q .non,rt:=Q } (aA ["_law_rests_here","_law_number","_law_a","_law_b","_law_c","_law_d"] ds):=by
 rintro ds Q ⟨x,y,rfl,m,N,rfl,rfl,⟨n1,n24⟩,h⟩
 simp_arith only [fJ,mD,Int.fmod_eq_emod_of_nonneg _ (show (0:Int)<=N by omega),xH]
 exact⟨dA _ (by omega),dA _ (by omega),h⟩
def A8 (x y z:D) (Q:D->Prop):Prop:=∃(m n:Mx) (N:Nat),x=mD N m/\y=mD N n/\z=.int (N:Int)/\Num N/\Q (mD N (m.mul n))
def aU:Fw:=F3 A8
def dG:cy:=(a0 (fM (ag 0) (fQ 4 (aO (aE 3) (aO (aE 4) (aO (aE 5) (aO (aE 6) eQ)))))) (a0 (fM (ag 1) (fQ 4 (aO (aE 7) (aO (aE 8) (aO (aE 9) (aO (aE 10) eQ)))))) (cS (aI dM (af (bu (c9 [2] (bW (af (aM cU (aM cM (ag 3) (ag 7)) (aM cM (ag 4) (ag 9))) (af (aM cU (aM cM (ag 3) (ag 8)) (aM cM (ag 4) (ag 10))) (af (aM cU (aM cM (ag 5) (ag 7)) (aM cM (ag 6) (ag 9))) (af (aM cU (aM cM (ag 5) (ag 8)) (aM cM (ag 6) (ag 10))) aB))))) bL (aM dm (ag 0) (ag 1)))) aB)))))
theorem jg:∀ds Q,aU ds Q->ds.length=3:=vw
theorem jF:∀ds (Q:D->Prop),aU ds Q->dG { nx:=λ_=>Q .non,rt:=Q } (aA ["_law_one","_law_other","_law_number","_law_a","_law_b","_law_c","_law_d","_law_e","_law_f","_law_g","_law_h"] ds):=by
 rintro ds Q ⟨x,y,z,rfl,m,n,N,rfl,rfl,rfl,⟨n1,n24⟩,h⟩;have s:∀x:Int,yv (x % N):=iu n1 n24
 simp_arith only [dG,mD,ba]
 refine⟨aV (s _).1 (s _).2,aV (s _).1 (s _).2,aV (s _).1 (s _).2,aV (s _).1 (s _).2,aV (s _).1 (s _).2,aV (s _).1 (s _).2,aV (s _).1 (s _).2,aV (s _).1 (s _).2,?_⟩;refine mZ n1 [m.a % N * (n.a % N) + m.b % N * (n.c % N),m.a % N * (n.b % N) + m.b % N * (n.d % N),m.c % N * (n.a % N) + m.d % N * (n.c % N),m.c % N * (n.b % N) + m.d % N * (n.d % N)] rfl (by simp) ?_;have e:=((qw.refl m).mod.mul (qw.refl (N:=N) n).mod).eq
 unfold r4 mD at e
 simp_arith only [and_true]
 rw [e];exact h
def AH (x y z:D) (Q:D->Prop):Prop:=∃(k:Str) (m:Mx) (N:Nat),x=.str k/\y=mD N m/\z=.int (N:Int)/\Kd k N/\Q (.bl (isIn (kN k) N m))
def bI:Fw:=F3 AH
def fZ:cy:=(a0 (fM (ag 1) (fQ 4 (aO (aE 3) (aO (aE 4) (aO (aE 5) (aO (aE 6) eQ)))))) (a0 (cf 7 (aM dm (cC (.int 1)) (ag 2))) (a0 (cf 8 (aM dm (aM uH (cC (.int 0)) (cC (.int 1))) (ag 2))) (a0 (om (a7 (aM wj (ag 5) (cC (.int 0)))) (cS (cC (.bl false))) b9) (a0 (om (a7 (aM l7 (ag 0) (cC (.str "upper")))) (cS (cC (.bl true))) b9) (a0 (om (a7 (aM (w8 true) (ag 3) (bW (af (ag 7) (af (ag 8) aB))))) (cS (cC (.bl false))) b9) (cS (oy (aM l7 (ag 0) (cC (.str "first"))) (jo (aM l7 (ag 4) (cC (.int 0))) (aM l7 (ag 6) (ag 3)))))))))))
theorem mx:∀ds Q,bI ds Q->ds.length=3:=vw
theorem og:∀ds (Q:D->Prop),bI ds Q->fZ { nx:=λ_=>Q .non,rt:=Q } (aA ["_law_kind","_law_rests_here","_law_number","_law_a","_law_b","_law_c","_law_d","_law_one","_law_less"] ds):=by
 rintro ds Q ⟨x,y,z,rfl,k,m,N,rfl,rfl,rfl,kd,h⟩;have n1:=kd.n1
 simp_arith only [fZ,mD,w8,Aq,Int.fmod_eq_emod_of_nonneg _ (show (0:Int)<=N by omega)]
 refine⟨dA _ (by omega),dA _ (by omega),?_⟩
 by_cases c1:m.c % (N:Int)=0
 ·rw [if_neg (by simpa using c1)]
  by_cases c2:k = "upper"
  ·rw [if_pos (by simpa using c2)];have e:isIn (kN k) N m=true:=by rw [c2,show kN "upper" = 1 from rfl];simp [isIn,c1]
   rw [e] at h;exact h
  ·rw [if_neg (by simpa using c2)];refine⟨by simp [cZ,dep],by simp [dep],?_⟩
   have k1:kN k≠1:=by
    unfold kN
    split
    ·simp
    ·simp
   by_cases c3:m.a % (N:Int)=1 % N\/m.a % (N:Int)=(-1) % N
   ·have e1:([D.int (1 % (N:Int)),D.int (-1 % (N:Int))].any λe=>aS e (D.int (m.a % (N:Int))))=true:=by
     simp only [List.any_cons,List.any_nil,aS,Bool.or_false,Bool.or_eq_true,decide_eq_true_eq,beq_iff_eq];rcases c3 with c3|c3
     ·exact .inl c3.symm
     ·exact .inr c3.symm
    rw [if_neg (by rw [e1];simp)]
    by_cases c4:k = "first"
    ·rw [if_pos (by simpa using c4)];have e:isIn (kN k) N m=true:=by rw [c4,show kN "first" = 2 from rfl];simp [isIn,c1,c3]
     rw [e] at h;exact h
    ·rw [if_neg (by simpa using c4)]
     have k0:kN k=0:=by
      rcases kd.kind with z|z|z
      ·rw [z];rfl
      ·exact absurd z c2
      ·exact absurd z c4
     by_cases c5:m.b % (N:Int)=0
     ·rw [if_pos c5];have e:isIn (kN k) N m=decide (m.d % (N:Int)=m.a % N):=by rw [k0];simp [isIn,c1,c3,c5]
      rw [e] at h;exact h
     ·rw [if_neg c5];have e:isIn (kN k) N m=false:=by rw [k0];simp [isIn,c1,c3,c5]
      rw [e] at h;exact h
   ·have e1:([D.int (1 % (N:Int)),D.int (-1 % (N:Int))].any λe=>aS e (D.int (m.a % (N:Int))))=false:=by
     rw [Bool.eq_false_iff];simp only [List.any_cons,List.any_nil,aS,Bool.or_false,ne_eq,Bool.or_eq_true,decide_eq_true_eq,beq_iff_eq]
     rintro (z|z)
     ·exact c3 (.inl z.symm)
     ·exact c3 (.inr z.symm)
    rw [if_pos e1];have e:isIn (kN k) N m=false:=by simp [isIn,c1,k1,c3]
    rw [e] at h;exact h
 ·rw [if_pos (by simpa using c1)];have e:isIn (kN k) N m=false:=by simp [isIn,c1]
  rw [e] at h;exact h
end KR
namespace K55
open PySem L2 L2.L3
theorem j4 {n:Nat} {π:Nat->Nat} (h:yq n π):∀i,i<=n->∀wp∈(cE π i).2,0 < wp.1/\wp.1<=n
 | 0,_,wp,hw=>absurd hw DQ
 | i + 1,hi,wp,hw=>by
  rw [cu] at hw;unfold iw at hw
  by_cases c:i∈(cE π i).1
  ·rw [if_pos c] at hw;exact j4 h i (by omega) wp hw
  ·rw [if_neg c] at hw;rcases DM.mp hw with hw|hw
   ·exact j4 h i (by omega) wp hw
   ·have e:wp=((lJ π i).length,i):=by simpa using hw
    have lo:(lJ π i).length=iL π i:=by unfold lJ;simp
    rw [e];show 0 < (lJ π i).length/\(lJ π i).length<=n
    rw [lo];exact⟨(fz h hi).pos,qJ h hi⟩
noncomputable def d7 (a b:List Nat):List Nat:=(nr a b).map (·.1)
def gA (l:List Nat):Nat:=l.foldl Nat.lcm 1
theorem t7 (l:List Nat) (x:Nat):gA (l ++ [x])=Nat.lcm (gA l) x:=by unfold gA;rw [List.foldl_append];rfl
def wy (t:D) (Q:D->Prop):Prop:=∃a b:List Nat,t=fu a b/\jt a b/\a.length<=500/\Q (.int (gA (d7 a b):Int))
def cz:Fw:=F1 wy
def f7:cy:=(a0 (cf 1 (cC (.int 1))) (a0 (jz (aI i8 (af (ag 0) aB)) (fQ 2 (aO (aE 2) (aO (aE 3) eQ))) (cf 1 (aM lO (aM cM (ag 1) (ag 2)) (aI aY (af (ag 1) (af (ag 2) aB)))))) (cS (ag 1))))
theorem mz:∀ds Q,cz ds Q->ds.length=1:=sa
theorem oO:∀ds (Q:D->Prop),cz ds Q->f7 { nx:=λ_=>Q .non,rt:=Q } (aA ["table","number","width","place"] ds):=by
 rintro ds Q ⟨t,rfl,a,b,rfl,tab,hl,h⟩;have nq:=tab.nq;have pos:=j4 nq a.length (Du _)
 simp_arith only [f7,i8,sM,xS,aY,iq,vd]
 refine⟨a,b,rfl,tab,hl,?_⟩;refine df (λi e=>i<=(nr a b).length/\∃k2 k3,e=[some (.d (fu a b)),some (.d (.int (gA ((d7 a b).take i):Int))),k2,k3]) ?_ ?_ ⟨DZ _,_,_,rfl⟩
 ·rintro i x env N hx ⟨hi0,k2,k3,rfl⟩ hN;unfold jl at hx;rw [Dt] at hx;obtain⟨wp,hw,rfl⟩:=DP.mp hx;have hi:i < (nr a b).length:=(Dh.mp hw).1;have pw:=pos wp (Dy hw)
  simp_arith only [iq,vd]
  have ew:(d7 a b)[i]?=some wp.1:=by unfold d7;rw [Dt,hw];rfl
  have wl:(d7 a b).take (i + 1)=(d7 a b).take i ++ [wp.1]:=by rw [Er,ew];rfl
  have gp:0 < Nat.gcd (gA ((d7 a b).take i)) wp.1:=Nat.gcd_pos_of_pos_right _ pw.1;have gl:Nat.gcd (gA ((d7 a b).take i)) wp.1<=wp.1:=Nat.gcd_le_right _ pw.1;refine⟨uz (by omega) (by omega),_,_,rfl,rfl,?_⟩;show mX _ ((Nat.gcd (gA ((d7 a b).take i)) wp.1:Nat):Int)/\_
  refine⟨wV _ ⟨by omega,by rw [Int.natAbs_natCast];exact Ez gl (Ez (Ej pw.2 hl) (by decide))⟩,hN _ ⟨hi,some (.d (.int (wp.1:Int))),some (.d (.int (wp.2:Int))),?_⟩⟩
  have ev:((gA ((d7 a b).take i):Int) * (wp.1:Int)).fdiv (Nat.gcd (gA ((d7 a b).take i)) wp.1:Int)=(gA ((d7 a b).take (i + 1)):Int):=by
   rw [wl,t7];unfold Nat.lcm;rw [Int.fdiv_eq_ediv_of_nonneg _ (by omega)];simp
  rw [<- ev];rfl
 ·rintro env ⟨_,k2,k3,rfl⟩
  simp_arith only [and_true]
  have li:(jl (nr a b)).length=(d7 a b).length:=by simp [jl,d7]
  rw [li,Es (Du _)];exact h
end K55
namespace KR
open PySem L2 L2.L3 K55
theorem kZ {n:Nat} {π:Nat->Nat} (h:yq n π):∀i,i<=n->∀wp∈(cE π i).2,∃x,x < n/\wp.1=iL π x
 | 0,_,wp,hw=>absurd hw DQ
 | i + 1,hi,wp,hw=>by
  rw [cu] at hw;unfold iw at hw
  by_cases c:i∈(cE π i).1
  ·rw [if_pos c] at hw;exact kZ h i (by omega) wp hw
  ·rw [if_neg c] at hw;rcases DM.mp hw with hw|hw
   ·exact kZ h i (by omega) wp hw
   ·have e:wp=((lJ π i).length,i):=by simpa using hw
    exact⟨i,by omega,by rw [e];unfold lJ;simp⟩
theorem gX {π:Nat->Nat}:∀i,(iL π 0,0)∈(cE π (i + 1)).2
 | 0=>by
  rw [cu];unfold iw;have:(cE π 0)=([],[]):=rfl;rw [this]
  simp [lJ]
 | i + 1=>by
  rw [cu];unfold iw
  split
  ·exact gX i
  ·exact D0 _ (gX i)
theorem we {π:Nat->Nat} {x k:Nat} (e:it π k x=x):∀q,it π (q * k) x=x
 | 0=>by rw [Nat.zero_mul];rfl
 | q + 1=>by rw [Nat.succ_mul,lH,e,we e q]
theorem xp {n:Nat} {π:Nat->Nat} (h:yq n π) {x N:Nat} (hx:x < n) (e:it π N x=x):iL π x ∣ N:=by
 have p:=fz h hx
 have h1:it π (N % iL π x) x=x:=by
  have:=e;rw [<- Nat.mod_add_div N (iL π x),lH,Nat.mul_comm,we p.ret] at this;exact this
 rcases Nat.eq_zero_or_pos (N % iL π x) with z|z
 ·exact Nat.dvd_of_mod_eq_zero z
 ·exact absurd h1 (p.first _ z (Nat.mod_lt _ p.pos))
theorem pU {N:Nat}:∀(l:List Nat) (s:Nat),s ∣ N->(∀x∈l,x ∣ N)->l.foldl Nat.lcm s ∣ N
 | [],s,hs,_=>hs
 | y :: l,s,hs,h=>pU l _ (Nat.lcm_dvd hs (h y DC)) λx hx=>h x (Dv _ hx)
theorem qg:∀(l:List Nat) (s:Nat),s ∣ l.foldl Nat.lcm s/\∀x∈l,x ∣ l.foldl Nat.lcm s
 | [],s=>⟨Nat.dvd_refl _,λx hx=>(nomatch hx)⟩
 | y :: l,s=>by
  obtain⟨h1,h2⟩:=qg l (Nat.lcm s y);refine⟨Nat.dvd_trans (Nat.dvd_lcm_left s y) h1,λx hx=>?_⟩;rcases DD.mp hx with rfl|hx
  ·exact Nat.dvd_trans (Nat.dvd_lcm_right s x) h1
  ·exact h2 x hx
def tK (k:Int):Mx:=⟨1,-k,0,1⟩
section
variable {k:Str} {N:Nat} {E F:List Nat} {met:List RR}
theorem tP.turn (kd:Kd k N) (m:tP k N E F met) {x:Mx} (hx:gB k N x∈met):∀j:Nat,gB k N (x.mul (tK j))∈met/\it (gD E F) j (met.idxOf (gB k N x))=met.idxOf (gB k N (x.mul (tK j)))
 | 0=>by
  have e:x.mul (tK (0:Nat))=x:=by
   obtain⟨a,b,c,d⟩:=x;simp [Mx.mul,tK]
  rw [e];exact⟨hx,rfl⟩
 | j + 1=>by
  have G:=dr kd;obtain⟨h1,h2⟩:=m.turn kd hx j;have S:∀x:Mx,kz N (bB k N) (gB k N x)=gB k N (x.mul mS):=λx=>congrArg RR.mk (sX G _ x);have R:∀x:Mx,jA N (bB k N) (gB k N x)=gB k N (x.mul mR):=λx=>congrArg RR.mk (qM G _ x)
  have e:gB k N (((x.mul (tK j)).mul mS).mul mR)=gB k N (x.mul (tK ((j + 1:Nat):Int))):=congrArg RR.mk (qx G _ (by
   obtain⟨a,b,c,d⟩:=x;simp only [Mx.mul,mS,mR,tK,Mx.mk.injEq]
   refine⟨?_,?_,?_,?_⟩ <;> grind))
  have c1:=(m.full.cl _ h1).1;have c2:=(m.full.cl _ c1).2;rw [<- e,<- R,<- S];refine⟨c2,?_⟩;show gD E F (it (gD E F) j _)=_
  rw [h2];show iP F (iP E _)=_
  rw [m.sE h1,m.sF c1]
theorem tP.whole (kd:Kd k N) (m:tP k N E F met) {p:Nat} (hp:p < E.length):it (gD E F) N p=p:=by
 have G:=dr kd;obtain⟨q,hq,e,_⟩:=m.at_ hp;obtain⟨x,rfl⟩:=m.full.me.inn q hq;have t:=(m.turn kd hq N).2
 have z:gB k N (x.mul (tK N))=gB k N x:=by
  refine congrArg RR.mk ((jk G).mpr ?_);obtain⟨o,ho,eo⟩:=G.one;refine⟨o,ho,?_⟩;rw [cT eo,pK];obtain⟨a,b,c,d⟩:=x;have e1:∀u v:Int,(u * -(N:Int) + v * 1) % N=v % N:=λu v=>cg (k:=-u) (by grind);unfold i9;have e2:∀u v:Int,(u * -(N:Int) + v) % N=v % N:=λu v=>by have:=e1 u v;rwa [Int.mul_one] at this
  split <;> simp [eM,Mx.mul,tK,e2]
 rw [<- e];exact t.trans (by rw [z];rfl)
theorem tP.number (kd:Kd k N) (m:tP k N E F met):gA (d7 E F) ∣ N/\(gW k=true->gA (d7 E F)=N):=by
 have t:=m.mw kd;have nq:=t.ok.nq
 have d:gA (d7 E F) ∣ N:=pU _ _ (Nat.one_dvd _) λx hx=>by
  unfold d7 at hx;obtain⟨wp,hw,rfl⟩:=DB.mp hx;obtain⟨y,hy,e⟩:=kZ nq _ (Du _) wp hw;show wp.1 ∣ N
  rw [e];exact xp nq hy (m.whole kd hy)
 refine⟨d,λhpl=>Nat.dvd_antisymm d ?_⟩;have p0:=t.pos;have isP:=fz nq p0
 have h0:N ∣ iL (gD E F) 0:=by
  have G:=dr kd;have f0:gB k N m1∈met:=m.Bj;have z:met.idxOf (gB k N m1)=0:=m.z;obtain⟨h1,h2⟩:=m.turn kd f0 (iL (gD E F) 0);rw [z,isP.ret] at h2;have e:=RR.mk.inj (m.inj h1 f0 (h2.symm.trans z.symm));obtain⟨g,hg,er⟩:=(jk G).mp e;rw [hpl] at er;simp only [i9,m1,tK,Mx.mul,eM,mulR,if_true,DF,List.map_nil,List.cons.injEq,Prod.mk.injEq] at er;have e2:=er.1.2
  have e3:(-((iL (gD E F) 0:Nat):Int)) % N=0:=by
   rw [show (1 * -((iL (gD E F) 0:Nat):Int) + 0 * 1) = -((iL (gD E F) 0:Nat):Int) by omega,show g * 0=(0:Int) by omega,Int.zero_emod] at e2;exact e2
  have:=Int.dvd_of_emod_eq_zero e3;rw [Int.dvd_neg] at this;exact Int.natCast_dvd_natCast.mp this
 refine Nat.dvd_trans h0 ((qg _ _).2 _ ?_);unfold d7 nr;refine DB.mpr ⟨(iL (gD E F) 0,0),?_,rfl⟩;obtain⟨n,hn⟩:∃n,E.length=n + 1:=⟨E.length - 1,by omega⟩;rw [hn];exact gX n
end
theorem p6 {β:Type} [DecidableEq β] {ha th:β->β} {f:β} {A:β->Prop} (h0:A f) (cl:∀p,A p->A (ha p)/\A (th p)):∀n,(aL ha th f n).Nodup/\∀p∈aL ha th f n,A p
 | 0=>⟨by simp [aL],λp hp=>by simp [aL] at hp;rw [hp];exact h0⟩
 | n + 1=>by
  obtain⟨nd,inn⟩:=p6 h0 cl n;rw [aL]
  split
  ·next p hp =>
   have c:=cl p (inn p (Dy hp))
   have add:∀(l:List β) (q:β),l.Nodup->(∀p∈l,A p)->A q->(cb l q).Nodup/\∀p∈cb l q,A p:=λl q n1 i1 hq=>by
    unfold cb
    split
    ·exact⟨n1,i1⟩
    ·next hn=>exact⟨Ei.mpr ⟨n1,by simp,λx hx y hy e=>hn (by rw [DJ] at hy;rw [<- hy,<- e];exact hx)⟩,λp hp=>by
      rcases DM.mp hp with hp|hp
      ·exact i1 p hp
      ·rw [DJ.mp hp];exact hq⟩
   obtain⟨a1,a2⟩:=add _ _ nd inn c.1;exact add _ _ a1 a2 c.2
  ·exact⟨nd,inn⟩
theorem kO {β:Type} [DecidableEq β] {ha th:β->β} {f:β} {A:β->Prop} {l:List β} (h0:A f) (cl:∀p,A p->A (ha p)/\A (th p)) (sub:∀p,A p->p∈l) (hl:l.length<=60) {n:Nat} (o:Over ha th f n):False:=by
 obtain⟨nd,inn⟩:=p6 h0 cl (n + 1);have:=fP _ l nd λp hp=>sub p (inn p hp);have:=o.gt;omega
def yl (N:Nat):List Int:=(List.range N).map λ(i:Nat)=>(i:Int)
def Ap (N:Nat):List (Int×Int):=(yl N).flatMap λx=>(yl N).map λy=>(x,y)
def xv (N:Nat) (fs:List Int) (p:Int×Int):Bool:=decide (Int.gcd (Int.gcd p.1 p.2) N=1) && fs.all λf=>!qu (f * p.1 % N,f * p.2 % N) p
def uQ (N:Nat) (fs:List Int):List RR:=((Ap N).filter (xv N fs)).map λp=>⟨[p]⟩
theorem ud:∀n:Fin 25,((Ap n.val).filter (xv n.val (cK n.val))).length<=60:=by decide +kernel
theorem sT:∀n:Fin 13,((Ap n.val).filter (xv n.val [1,-1])).length<=60:=by decide +kernel
def allB (N:Nat) (p:(Int×Int)×(Int×Int)):Bool:=decide ((p.1.1 * p.2.2 - p.1.2 * p.2.1) % N=1 % N) && !fI [(-p.1.1 % N,-p.1.2 % N),(-p.2.1 % N,-p.2.2 % N)] [p.1,p.2]
def zj (N:Nat):List ((Int×Int)×(Int×Int)):=(Ap N).flatMap λx=>(Ap N).map λy=>(x,y)
theorem all_plain:∀n:Fin 6,((zj n.val).filter (allB n.val)).length<=60:=by decide +kernel
theorem sd {N:Nat} (hN:1<=N) (x:Int):x % N∈yl N:=by
 have h0:=Int.emod_nonneg x (show (N:Int)≠0 by omega);have h1:=Int.emod_lt_of_pos x (show (0:Int) < N by omega);exact DB.mpr ⟨(x % N).toNat,DT.mpr (by omega),by omega⟩
theorem nR {N:Nat} (hN:1<=N) (x y:Int):(x % N,y % N)∈Ap N:=List.mem_flatMap.mpr ⟨_,sd hN x,DB.mpr ⟨_,sd hN y,rfl⟩⟩
theorem uR {N:Int} {fs:List Int} (G:Good N fs) (r:dH):∃g∈fs,lm N fs r=mulR g N r/\∀f∈fs,fI (mulR f N (mulR g N r)) (mulR g N r)=false:=by
 obtain⟨g,hg,e⟩:=lD (N:=N) (r:=r) G.ne;refine⟨g,hg,e,λf hf=>?_⟩;obtain⟨h,hh,eh⟩:=G.mul f hf g hg;rw [iC,<- cT eh,<- e]
 cases fs with
 | nil=>cases hg
 | cons x t =>
  refine (eJ (t.map λg=>mulR g N r) (mulR x N r)).2 _ ?_;rw [<- DF (f:=λg=>mulR g N r)];exact DB.mpr ⟨h,hh,rfl⟩
theorem one_gcd {N:Nat} {x y:Int} {u v w:Int} (h:u * x + v * y=1 + N * w):Int.gcd (Int.gcd x y) N=1:=by
 have g1:((Int.gcd (Int.gcd x y) N:Nat):Int) ∣ ((Int.gcd x y:Nat):Int):=Int.gcd_dvd_left ..;have g2:((Int.gcd (Int.gcd x y) N:Nat):Int) ∣ (N:Int):=Int.gcd_dvd_right ..;have d1:=Int.dvd_trans g1 (Int.gcd_dvd_left x y);have d2:=Int.dvd_trans g1 (Int.gcd_dvd_right x y);obtain⟨a,ha⟩:=d1;obtain⟨b,hb⟩:=d2;obtain⟨c,hc⟩:=g2
 have:((Int.gcd (Int.gcd x y) N:Nat):Int) ∣ 1:=⟨u * a + v * b - c * w,by
  generalize ((Int.gcd (Int.gcd x y) N:Nat):Int)=g at ha hb hc
  grind⟩
 have:=Int.eq_one_of_dvd_one (by omega) this;omega
theorem uv {N:Nat} {fs:List Int} (hN:1<=N) (G:Good N fs) {m:Mx} (hm:m.det=1):(⟨kM N fs false m⟩:RR)∈uQ N fs:=by
 obtain⟨g,hg,e,low⟩:=uR G (i9 false m);have er:mulR g N (i9 false m)=[(g * m.c % N,g * m.d % N)]:=rfl;unfold kM;rw [e,er];refine DB.mpr ⟨_,List.mem_filter.mpr ⟨nR hN _ _,?_⟩,rfl⟩;unfold xv;rw [Bool.and_eq_true,decide_eq_true_eq]
 constructor
 ·obtain⟨i,hi,ei⟩:=G.inv g hg;obtain⟨k,ek⟩:=cL ei;have h1:=Int.emod_add_mul_ediv (g * m.c) N;have h2:=Int.emod_add_mul_ediv (g * m.d) N;simp only [Mx.det] at hm;exact one_gcd (u:=-(i * m.b)) (v:=i * m.a) (w:=k - i * (m.a * (g * m.d / N) - m.b * (g * m.c / N))) (by grind)
 ·rw [List.all_eq_true];intro f hf;have:=low f hf;rw [er] at this;have e2:mulR f N [(g * m.c % N,g * m.d % N)]=[(f * (g * m.c % N) % N,f * (g * m.d % N) % N)]:=rfl;rw [e2] at this;unfold fI at this
  split at this
  ·next z=>rw [z];simp [qu]
  ·rw [this];rfl
theorem Ag {g a b c d:Int} (h:g * g=1) (k:a * d - b * c=1):(g * a) * (g * d) - (g * b) * (g * c)=1:=by
 have e:(g * a) * (g * d) - (g * b) * (g * c)=(g * g) * (a * d - b * c):=by grind
 rw [e,h,k];rfl
theorem yK {N x y z w A B C D p q r s:Int} (h1:A + N * p=x) (h2:B + N * q=y) (h3:C + N * r=z) (h4:D + N * s=w) (t:x * w - y * z=1):A * D - B * C=1 + N * ((q * z + B * r) - (p * w + A * s)):=by grind
theorem z8 {N:Nat} (hN:1<=N) {m:Mx} (hm:m.det=1):(⟨kM N [1,-1] true m⟩:RR)∈((zj N).filter (allB N)).map λp=>(⟨[p.1,p.2]⟩:RR):=by
 have G:=oA (N:=N) (by omega);obtain⟨g,hg,e,low⟩:=uR G (i9 true m);have er:mulR g N (i9 true m)=[(g * m.a % N,g * m.b % N),(g * m.c % N,g * m.d % N)]:=rfl;unfold kM;rw [e,er];refine DB.mpr ⟨((g * m.a % N,g * m.b % N),(g * m.c % N,g * m.d % N)),List.mem_filter.mpr ⟨List.mem_flatMap.mpr ⟨_,nR hN _ _,DB.mpr ⟨_,nR hN _ _,rfl⟩⟩,?_⟩,rfl⟩
 have gg:g * g=1:=by
  simp only [DD,DQ,or_false] at hg;rcases hg with rfl|rfl <;> rfl
 unfold allB;rw [Bool.and_eq_true,decide_eq_true_eq]
 constructor
 ·have h1:=Int.emod_add_mul_ediv (g * m.a) N;have h2:=Int.emod_add_mul_ediv (g * m.b) N;have h3:=Int.emod_add_mul_ediv (g * m.c) N;have h4:=Int.emod_add_mul_ediv (g * m.d) N;simp only [Mx.det] at hm;exact cg (yK h1 h2 h3 h4 (Ag gg hm))
 ·have:=low (-1) (by simp);rw [er] at this;have e2:mulR (-1) N [(g * m.a % N,g * m.b % N),(g * m.c % N,g * m.d % N)]=[(-1 * (g * m.a % N) % N,-1 * (g * m.b % N) % N),(-1 * (g * m.c % N) % N,-1 * (g * m.d % N) % N)]:=rfl;rw [e2] at this;simp only [Int.neg_one_mul] at this;show (!fI _ _)=true
  rw [this];rfl
def CK (k:Str) (N:Nat):Prop:=(k = "plain"/\N<=5)\/(k = "upper"/\N<=24)\/(k = "first"/\N<=12)
theorem uP {k:Str} {N n:Nat} (kd:Kd k N) (hf:CK k N) (o:Over (kz N (bB k N)) (jA N (bB k N)) (fR N (bB k N) (gW k)) n):False:=by
 have G:=dr kd;have n1:=kd.n1
 have cl:∀p:RR,(∃m:Mx,m.det=1/\p=gB k N m)->(∃m:Mx,m.det=1/\kz N (bB k N) p=gB k N m)/\∃m:Mx,m.det=1/\jA N (bB k N) p=gB k N m:=by
  rintro p ⟨m,hm,rfl⟩;exact⟨⟨m.mul mS,by rw [jJ,hm];rfl,congrArg RR.mk (sX G _ m)⟩,⟨m.mul mR,by rw [jJ,hm];rfl,congrArg RR.mk (qM G _ m)⟩⟩
 have f0:∃m:Mx,m.det=1/\fR N (bB k N) (gW k)=gB k N m:=⟨m1,rfl,rfl⟩;rcases hf with ⟨e,h⟩|⟨e,h⟩|⟨e,h⟩
 ·refine kO (A:=λp=>∃m:Mx,m.det=1/\p=gB k N m) f0 cl (l:=((zj N).filter (allB N)).map λp=>(⟨[p.1,p.2]⟩:RR)) ?_ (by rw [DH];exact all_plain ⟨N,by omega⟩) o
  rintro p ⟨m,hm,rfl⟩;have:=z8 n1 hm;rw [e];exact this
 ·refine kO (A:=λp=>∃m:Mx,m.det=1/\p=gB k N m) f0 cl (l:=uQ N (cK N)) ?_ (by unfold uQ;rw [DH];exact ud ⟨N,by omega⟩) o
  rintro p ⟨m,hm,rfl⟩;have:=uv n1 (kS n1 h) hm;rw [e];exact this
 ·refine kO (A:=λp=>∃m:Mx,m.det=1/\p=gB k N m) f0 cl (l:=uQ N [1,-1]) ?_ (by unfold uQ;rw [DH];exact sT ⟨N,by omega⟩) o
  rintro p ⟨m,hm,rfl⟩;have:=uv n1 (oA (by omega)) hm;rw [e];exact this
def fv:Fw:=λds Q=>c7 ds Q λ_=>False
theorem one_mul (m:Mx):m1.mul m=m:=by
 obtain⟨a,b,c,d⟩:=m;simp [Mx.mul,m1]
theorem zC (c:Nat):mW [c]=mL c:=one_mul _
theorem xA:∀ds Q,tm 63 ds Q->ds.length=1:=by rintro ds Q ⟨ns,rfl,_⟩;rfl
def ot:cy:=(a0 (cf 12 (aI cz (af (ag 4) aB))) (a0 (om (wt (nL (a7 (n5 "int" (ag 12)))) (wt (a7 (n5 "bool" (ag 12))) (wt (a7 (aM A0 (ag 12) (cC (.int 1)))) (a7 (aM Cp (aM dm (ag 3) (ag 12)) (cC (.int 0))))))) (cS (cC (.bl false))) b9) (cS (oy (aM wj (ag 2) (cC (.str "plain"))) (aM l7 (ag 12) (ag 3))))))
def se:cy:=(a0 (fX n8 (af (ag 6) aB) (aE 7) (a0 (fX xJ (af (aM cU (ag 7) (cC (.int 1))) (af (ag 6) aB)) (aE 8) (om (a7 (aI bI (af (ag 2) (af (aI aU (af (aM i6 (ag 5) (ag 8)) (af (aI bJ (af (aM i6 (ag 5) (ag 7)) (af (ag 3) aB))) (af (ag 3) aB)))) (af (ag 3) aB))))) (cS (cC (.bl false))) b9)) (jz (lQ (af (bW (af (cC (.str "s")) (af (aM i6 (ag 4) (cC (.int 0))) aB))) (af (bW (af (cC (.str "r")) (af (aM i6 (ag 4) (cC (.int 1))) aB))) aB))) (fQ 2 (aO (aE 9) (aO (aE 10) eQ))) (a0 (cf 11 (aI aU (af (aM i6 (ag 5) (ag 7)) (af (aI bf (af (ag 9) (af (ag 3) aB))) (af (ag 3) aB))))) (om (nL (a7 (aI bI (af (ag 2) (af (aI aU (af (ag 11) (af (aI bJ (af (aM i6 (ag 5) (aM i6 (ag 10) (ag 7))) (af (ag 3) aB))) (af (ag 3) aB)))) (af (ag 3) aB)))))) (cS (cC (.bl false))) b9))))) ot)
def nX:cy:=(a0 (cf 4 (aI fv (af (ag 2) (af (ag 3) aB)))) (a0 (cf 5 (bu (c9 [3] (aI bV (af (ag 4) aB)) bL (aI bf (af (ag 0) (af (ag 1) aB)))))) (a0 (cf 6 (aI kn (af (ag 5) aB))) se)))
def vz:cy:=(a0 (cf 1 (aI cQ (af (ag 0) (af (cC (.int 0)) aB)))) (a0 (cf 2 (aM i6 (bW (af (cC (.str "plain")) (af (cC (.str "upper")) (af (cC (.str "first")) aB)))) (aM dm (ag 1) (cC (.int 3))))) (a0 (cf 3 (aM i6 (lQ (af (aM cU (cC (.int 1)) (aM dm (aM lO (ag 1) (cC (.int 3))) (cC (.int 5)))) (af (aM cU (cC (.int 1)) (aM dm (aM lO (ag 1) (cC (.int 3))) (cC (.int 24)))) (af (aM cU (cC (.int 1)) (aM dm (aM lO (ag 1) (cC (.int 3))) (cC (.int 10)))) aB)))) (aM dm (ag 1) (cC (.int 3))))) (a0 (om (pq (a7 (aM l7 (ag 2) (cC (.str "first")))) (a7 (aM l7 (aM dm (aM lO (ag 1) (cC (.int 30))) (cC (.int 4))) (cC (.int 1))))) (cf 3 (aM cU (cC (.int 11)) (aM dm (aM lO (ag 1) (cC (.int 120))) (cC (.int 2))))) b9) nX))))
theorem z9:∀ds (Q:D->Prop),tm 63 ds Q->vz { nx:=λ_=>Q .non,rt:=Q } (aA ["_law_script","_law_cell_here","_law_kind","_law_number","_law_table","_law_rests_here","_law_many","_law_one","_law_other","_law_letter","_law_places","_law_there","_law_told"] ds):=by
 rintro ds Q ⟨ns,rfl,hl,h⟩;have sz:=DR;have f3:∀(x y:Int),0 < y->x.fmod y=x % y:=λx y hy=>Int.fmod_eq_emod_of_nonneg x (by omega)
 have tail:∀(k1:Option Lo) (k:Str) (N:Nat),Kd k N->CK k N->nX { nx:=λ_=>Q .non,rt:=Q } [some (.d (.lst (ns.map D.int))),k1,some (.d (.str k)),some (.d (.int (N:Int))),none,none,none,none,none,none,none,none,none]:=by
  intro k1 k N kd fit;have n1:=kd.n1;have num:Num N:=⟨kd.n1,kd.n24⟩
  simp_arith only [nX,fv,c7,AV]
  refine⟨k,N,rfl,rfl,kd,λn o=>uP kd fit o,λn dn=>?_⟩;have gm:=CQ kd dn;have l6:=dn.le n (Du _);generalize hE:du (aL (kz N (bB k N)) (jA N (bB k N)) (fR N (bB k N) (gW k)) n) (kz N (bB k N))=E at gm ⊢;generalize hF:du (aL (kz N (bB k N)) (jA N (bB k N)) (fR N (bB k N) (gW k)) n) (jA N (bB k N))=F at gm ⊢;generalize aL (kz N (bB k N)) (jA N (bB k N)) (fR N (bB k N) (gW k)) n=met at gm l6 hE hF;have tb:=gm.mw kd
  have lE:E.length<=60:=by rw [gm.Bm];exact l6
  have lF:=tb.ok.len
  simp_arith only [bV,sM]
  refine⟨E,F,rfl,tb,by omega,λW hW=>?_⟩
  have eN:bE 0 ((E.length:Nat):Int).toNat=(List.range E.length).map λ(i:Nat)=>D.int (i:Int):=by
   unfold bE;rw [Int.toNat_natCast];refine List.map_congr_left λi _=>?_;rw [Int.zero_add]
  simp_arith only [ba]
  refine dE (λi=>strN (W i)) (λi=>mD N (mW (W i))) (List.range E.length) [] (λi hi Z hZ=>?_) (by simp;omega) ?_
  ·obtain⟨w1,w2,w3⟩:=hW i (DT.mp hi)
   simp_arith only [bf,iq]
   exact⟨W i,N,rfl,rfl,w1,num.1,num.2,by omega,hZ⟩
  simp_arith only [and_true]
  have at_:∀i,i < E.length->iV ((List.range E.length).map λi=>mD N (mW (W i))) (i:Int)=some (mD N (mW (W i))):=λi hi=>jR _ _ _ _ (by rw [Eo hi]);generalize hR:((List.range E.length).map λi=>mD N (mW (W i)))=Rs at at_ ⊢;have lR:Rs.length=E.length:=by rw [<- hR];simp
  rw [lR]
  have fin:∀(k7 k8 k9 k10 k11:Option Lo),ot { nx:=λ_=>Q .non,rt:=Q } [some (.d (.lst (ns.map D.int))),k1,some (.d (.str k)),some (.d (.int (N:Int))),some (.d (fu E F)),some (.d (.lst Rs)),some (.d (.int (E.length:Int))),k7,k8,k9,k10,k11,none]:=by
   intro k7 k8 k9 k10 k11
   simp_arith only [ot,cz,sM]
   refine⟨E,F,rfl,tb.ok,by omega,?_⟩;obtain⟨dv,pl⟩:=gm.number kd;have lp:0 < gA (d7 E F):=Nat.pos_of_dvd_of_pos dv (by omega);generalize gA (d7 E F)=L at dv pl lp
   simp_arith only [f3 N L (by omega)]
   refine⟨true,rfl,true,rfl,?_⟩;rw [if_neg (by simp)];refine⟨false,rfl,false,rfl,?_⟩;rw [if_neg (by simp),if_neg (by omega)];have z:(N:Int) % L=0:=Int.emod_eq_zero_of_dvd (Int.natCast_dvd_natCast.mpr dv);refine⟨dA _ (by omega),?_⟩;rw [z,if_neg (by omega)];rw [zP];refine⟨_,rfl,?_⟩
   split
   ·exact h
   ·next c =>
    have kp:k = "plain":=by simpa using c
    have e:=pl (by unfold gW;rw [decide_eq_true kp]);rw [e,decide_eq_true rfl];exact h
  simp_arith only [se]
  refine⟨by omega,by omega,?_⟩;rw [eN];refine df (λ_ e=>∃k7 k8 k9 k10 k11,e=[some (.d (.lst (ns.map D.int))),k1,some (.d (.str k)),some (.d (.int (N:Int))),some (.d (fu E F)),some (.d (.lst Rs)),some (.d (.int (E.length:Int))),k7,k8,k9,k10,k11,none]) ?_ ?_ ⟨_,_,_,_,_,rfl⟩
  ·rintro i x env Z hx ⟨k7,k8,k9,k10,k11,rfl⟩ hZ;rw [Dt] at hx;obtain⟨i',hi',rfl⟩:=DP.mp hx;have hi:=(Dh.mp hi').1;rw [List.length_range] at hi;rw [Eo hi] at hi';cases hi';obtain⟨w1,w2,w3⟩:=hW i hi
   simp_arith only [and_true]
   refine⟨by omega,by omega,by omega,by omega,?_⟩;refine df (λ_ e=>∃k8,e=[some (.d (.lst (ns.map D.int))),k1,some (.d (.str k)),some (.d (.int (N:Int))),some (.d (fu E F)),some (.d (.lst Rs)),some (.d (.int (E.length:Int))),some (.d (.int (i:Int))),k8,k9,k10,k11,none]) ?_ ?_ ⟨_,rfl⟩
   ·rintro j x env Z2 hx ⟨k8,rfl⟩ hZ2;have hj:=(Dh.mp hx).1;unfold bE at hx hj;rw [DH,List.length_range] at hj;rw [Dt,Eo hj] at hx;cases hx;have hj2:i + 1 + j < E.length:=by omega
    obtain⟨v1,v2,v3⟩:=hW (i + 1 + j) hj2;have ej:(i:Int) + 1 + (j:Int)=((i + 1 + j:Nat):Int):=by omega
    simp_arith only [and_true]
    rw [ej];refine⟨_,at_ _ hj2,_,at_ _ hi,?_⟩;simp only [bJ,aU,bI,iq,wg];refine⟨_,N,rfl,rfl,num,_,_,N,rfl,rfl,rfl,num,k,_,N,rfl,rfl,rfl,kd,?_⟩
    have ne:isIn (kN k) N ((mW (W (i + 1 + j))).mul (BU (mW (W i))))=false:=by
     rw [Bool.eq_false_iff];intro z;have:=(gm.same kd v1 w1).mp z;rw [v2,w2] at this;omega
    rw [ne];refine⟨_,rfl,?_⟩;rw [if_neg (by simp)];exact hZ2 _ ⟨_,rfl⟩
   ·rintro env ⟨k8,rfl⟩
    simp_arith only [fu,w6,AJ]
    refine df (λ_ e=>∃k9 k10 k11,e=[some (.d (.lst (ns.map D.int))),k1,some (.d (.str k)),some (.d (.int (N:Int))),some (.d (fu E F)),some (.d (.lst Rs)),some (.d (.int (E.length:Int))),some (.d (.int (i:Int))),k8,k9,k10,k11,none]) ?_ ?_ ⟨_,_,_,rfl⟩
    ·rintro j x env Z2 hx ⟨k9,k10,k11,rfl⟩ hZ2;have hj:j < 2:=by have:=(Dh.mp hx).1;simpa using this
     obtain⟨c,g,hc,hlp,hg,rfl⟩:∃(c:Nat) (g:List Nat),isLet c/\(∀q,lp E F q c=iP g q)/\g.length=E.length/\x=.tup [.str ⟨#[c]⟩,.tup (aJ g)]:=by
      rcases (show j=0\/j=1 by omega) with rfl|rfl
      ·exact⟨115,E,.inl rfl,λq=>rfl,rfl,by have e:=DA hx;rw [<- e];rfl⟩
      ·exact⟨114,F,.inr (.inl rfl),λq=>rfl,lF,by have e:=DA hx;rw [<- e];rfl⟩
     have hq:iP g i < E.length:=by rw [<- hlp];exact yi tb.ok hi c
     obtain⟨v1,v2,v3⟩:=hW (iP g i) hq
     simp_arith only [and_true]
     refine⟨_,at_ _ hi,?_⟩;simp only [bf,bJ,aU,bI,iq,wg];refine⟨[c],N,rfl,rfl,λy hy=>by rw [DJ.mp hy];exact hc,num.1,num.2,by simp,_,_,N,rfl,rfl,rfl,num,?_⟩;show i6 (.tup (aJ g)) (.int (i:Int)) _
     rw [yV (lY (by omega))];refine⟨_,at_ _ hq,_,N,rfl,rfl,num,_,_,N,rfl,rfl,rfl,num,k,_,N,rfl,rfl,rfl,kd,?_⟩
     have yes:isIn (kN k) N (((mW (W i)).mul (mW [c])).mul (BU (mW (W (iP g i)))))=true:=by
      rw [zC,<- oz];refine (gm.same kd (λy hy=>?_) v1).mpr ?_
      ·rcases DM.mp hy with hy|hy
       ·exact w1 y hy
       ·rw [DJ.mp hy];exact hc
      ·rw [oI,w2,v2,hlp]
     rw [yes];refine⟨_,rfl,?_⟩;rw [if_neg (by simp)];exact hZ2 _ ⟨_,_,_,rfl⟩
    ·rintro env ⟨k9,k10,k11,rfl⟩;exact hZ _ ⟨_,_,_,_,_,rfl⟩
  ·rintro env ⟨k7,k8,k9,k10,k11,rfl⟩;exact fin _ _ _ _ _
 simp_arith only [vz,cQ,iq]
 refine⟨ns,0,rfl,rfl,by omega,?_⟩;generalize vy ns 0=c
 simp_arith only [f3 _ 3 (by decide),f3 _ 5 (by decide),f3 _ 24 (by decide),f3 _ 10 (by decide),f3 _ 4 (by decide),f3 _ 2 (by decide)]
 have m3:pH c 3:=dA _ (by decide);have d3:mX c 3:=wV _ ⟨by decide,by decide⟩
 have nat:∀(x:Int) (y:Int) (lo:Int),0<=lo->0 < y->∃n:Nat,lo + x % y=(n:Int)/\lo<=n/\(n:Int) < lo + y:=λx y lo h0 hy=>by
  have h1:=Int.emod_nonneg x (show y≠0 by omega);have h2:=Int.emod_lt_of_pos x hy;exact⟨(lo + x % y).toNat,by omega,by omega,by omega⟩
 have h3:c % 3=0\/c % 3=1\/c % 3=2:=by omega
 rcases h3 with e|e|e
 ·rw [e];refine⟨m3,_,rfl,d3,dA _ (by decide),d3,dA _ (by decide),d3,dA _ (by decide),m3,_,rfl,?_⟩;show l7 (.str _) (.str _) _
  rw [ja];refine⟨_,rfl,?_⟩;rw [if_neg (by decide)];obtain⟨n,en,l1,l2⟩:=nat (c.fdiv 3) 5 1 (by decide) (by decide);rw [en];exact tail _ _ n ⟨.inl rfl,by omega,by omega⟩ (.inl ⟨rfl,by omega⟩)
 ·rw [e];refine⟨m3,_,rfl,d3,dA _ (by decide),d3,dA _ (by decide),d3,dA _ (by decide),m3,_,rfl,?_⟩;show l7 (.str _) (.str _) _
  rw [ja];refine⟨_,rfl,?_⟩;rw [if_neg (by decide)];obtain⟨n,en,l1,l2⟩:=nat (c.fdiv 3) 24 1 (by decide) (by decide);rw [en];exact tail _ _ n ⟨.inr (.inl rfl),by omega,by omega⟩ (.inr (.inl ⟨rfl,by omega⟩))
 ·rw [e];refine⟨m3,_,rfl,d3,dA _ (by decide),d3,dA _ (by decide),d3,dA _ (by decide),m3,_,rfl,?_⟩;show l7 (.str _) (.str _) _
  rw [ja];refine⟨_,rfl,?_⟩;rw [if_pos (by decide)];refine⟨wV _ ⟨by decide,by decide⟩,dA _ (by decide),?_⟩
  split
  ·refine⟨wV _ ⟨by decide,by decide⟩,dA _ (by decide),?_⟩;obtain⟨n,en,l1,l2⟩:=nat (c.fdiv 120) 2 11 (by decide) (by decide);rw [en];exact tail _ _ n ⟨.inr (.inr rfl),by omega,by omega⟩ (.inr (.inr ⟨rfl,by omega⟩))
  ·obtain⟨n,en,l1,l2⟩:=nat (c.fdiv 3) 10 1 (by decide) (by decide);rw [en];exact tail _ _ n ⟨.inr (.inr rfl),by omega,by omega⟩ (.inr (.inr ⟨rfl,by omega⟩))
open PySem L2 L2.L3
open K55
def top (i:Nat):Stmt:=PySem.Challenge.pw_fanglue_k70_whole_tables_by_rests.main.body.getD i (.Pass ⟨0,0,0,0⟩)
structure CF where
 c_TooMany:Addr
 t_MOST_PLACES:Tok
structure Tc (K:Dj) (w:World) (n:CF):Prop where
 g_MOST_PLACES:PySem.W.nsIn K mainGlobals "MOST_PLACES" = some (some (.int 60 n.t_MOST_PLACES))
 n_TooMany:PySem.W.nsIn K mainGlobals "TooMany" = some (some (.ref n.c_TooMany))
 e_TooMany:PySem.W.excIn K n.c_TooMany [.type "ValueError",.type "Exception",.type "BaseException",.type "object"] "ValueError.__new__" = true
 o1_TooMany:PySem.W.findIn K (.ref n.c_TooMany) "__getattribute__" = some (some (.builtin "BaseException.__getattribute__"))
 o2_TooMany:PySem.W.findIn K (.ref n.c_TooMany) "__getattr__" = some none
 o3_TooMany:PySem.W.hasDictIn K n.c_TooMany=true
 o4_TooMany:PySem.W.findIn K (.ref n.c_TooMany) "__class__" = some (some (.builtin "object.__class__"))
 o5_TooMany:PySem.W.specialIn K (.builtin "object.__class__") "__get__" = some (some (.builtin "getset_descriptor.__get__"))
 o6_TooMany:PySem.W.takesIn K (.builtin "object.__class__")=some true
 o7_TooMany:PySem.W.mroIn K n.c_TooMany (.type "object")=some true
 o8_TooMany:PySem.W.subIn K (.ref n.c_TooMany) (.type "BaseException")=some true
abbrev cW:Stmt:=top 4
abbrev dq:Stmt:=top 7
abbrev dk:Stmt:=top 9
abbrev j0:Stmt:=top 10
abbrev a9:Stmt:=top 12
abbrev bQ:Stmt:=top 13
abbrev bS:Stmt:=top 14
abbrev dX:Stmt:=top 15
abbrev fq:Stmt:=top 17
abbrev cA:Stmt:=top 18
abbrev d4:Stmt:=top 19
abbrev dS:Stmt:=top 20
abbrev bT:Stmt:=top 21
abbrev cD:Stmt:=top 22
abbrev sI:Stmt:=top 23
structure Txt (mg:Str->Option Value):Prop where
 abs:mg "abs" = none
 bool:mg "bool" = none
 int:mg "int" = none
 isinstance:mg "isinstance" = none
 len:mg "len" = none
 min:mg "min" = none
 range:mg "range" = none
 tuple:mg "tuple" = none
theorem fN:aN ["p","q","high","low"] ["p","q"] (ak cW):=rh
theorem gI:aN ["first","behind","met","numbers","halves","thirds","half","third","thing"] ["first","behind"] (ak dq):=rh
theorem gF:aN ["table","place","halves","thirds","met","behind"] ["table","place"] (ak dk):=rh
theorem sL:aN ["table","told","taken","place","met"] ["table"] (ak j0):=rh
theorem d5:aN ["rows","factors","number"] ["rows","factors","number"] (ak a9):=rh
theorem fV:aN ["rows"] ["rows"] (ak bQ):=rh
theorem jr:aN ["kind","number","factors","rows","behind"] ["kind","number"] (ak bS):=rh
theorem iE:aN ["table","number","width","place"] ["table"] (ak dX):=rh
theorem ju:aN ["_law_script","_law_k"] ["_law_script","_law_k"] (ak fq):=rh
theorem gE:aN ["_law_word","_law_number","_law_a","_law_b","_law_c","_law_d","_law_letter","_law_e","_law_f","_law_g","_law_h"] ["_law_word","_law_number"] (ak cA):=rh
theorem hG:aN ["_law_kind","_law_rests_here","_law_number","_law_a","_law_b","_law_c","_law_d","_law_one","_law_less"] ["_law_kind","_law_rests_here","_law_number"] (ak d4):=rh
theorem iz:aN ["_law_rests_here","_law_number","_law_a","_law_b","_law_c","_law_d"] ["_law_rests_here","_law_number"] (ak dS):=rh
theorem fC:aN ["_law_one","_law_other","_law_number","_law_a","_law_b","_law_c","_law_d","_law_e","_law_f","_law_g","_law_h"] ["_law_one","_law_other","_law_number"] (ak bT):=rh
theorem gG:aN ["_law_table","_law_words_here","_law_met","_law_at","_law_letter","_law_places","_law_there"] ["_law_table"] (ak cD):=rh
theorem vD:aN ["_law_script","_law_cell_here","_law_kind","_law_number","_law_table","_law_rests_here","_law_many","_law_one","_law_other","_law_letter","_law_places","_law_there","_law_told"] ["_law_script"] (ak sI):=rh
section
variable {P:Program} {w:World} {K:Dj} {mg:Str->Option Value} {base:Heap}
theorem kK (F:Df K mg "common_part" cW ["p","q"]) (T:Txt mg):Known P w K mg base 1 "common_part" aY :=
 have nd:=fN.nd;F.known fN jD λfa cdv A outer s H E hr=>⟨eD,(au (bb 2 nd (xX T.abs (ae (qv 0) ao))) (au (bb 3 nd (xX T.abs (ae (qv 1) ao))) (au (lI Eb (zQ hr.units (qv 3) aP) (aC (zd 2 3 rfl nd (ae (qv 3) (ae (cj (qv 2) (qv 3)) ao))))) (aC (br (qv 2)))))),lU⟩
theorem lM (F:Df K mg "table_led" dq ["first","behind"]) (T:Txt mg) {n:CF} (TC:Tc K w n) {Pf:Dj->Hp->Addr->Prop} {φ:Fw} (hF:gO P w K mg base 2 Pf φ):ez P w K mg base 3 "table_led" (bP φ Pf) :=
 have nd:=gI.nd;F.qI gI jH λfa cdv A outer s H E hr=>⟨eG φ Pf,(cI (gJ (fE (dD 2 nd (jc (ae (qv 0) ao))))) (cI (gJ (fE (rN 3 nd hr.units (qv 0) aP))) (cI (gJ (fE (dD 4 nd (jc ao)))) (cI (gJ (fE (dD 5 nd (jc ao)))) (cI (ux (xo (eV 4 T.len) (eV 2 T.len)) (cI (gJ (fE (fg (wJ 1 hF hr.md (ae (oC 2 (eV 4 T.len) (λ_ _=>rfl)) ao)) (vt rfl (av (aw 6 nd) (av (aw 7 nd) bX)))))) (cI (gJ (fE (j6 Eb rfl (aZ (ae (qv 6) (ae (qv 7) ao))) (aw 8 nd) (aC (fD (lA 3 hr.units (qv 8)) (au (m7 3 hr.units (qv 8) (eV 2 T.len)) (aC (dC 2 (qv 8)))) bU))))) (cI (gJ (AA (AO (eV 2 T.len) (CT TC.g_MOST_PLACES)) (si (sZ TC.n_TooMany TC.e_TooMany (ae gT ao))) (zR bU))) (cI (gJ (fE (dC 4 (kH 3 hr.units (qv 6) (λ_ _=>rfl))))) (rV (gJ (fE (dC 5 (kH 3 hr.units (qv 7) (λ_ _=>rfl))))))))))) (rV (gJ (fE (iZ 4 (iZ 5 (br (aZ (ae (dB T.tuple (ae (qv 4) ao)) (ae (dB T.tuple (ae (qv 5) ao)) ao)))))))))))))),j7⟩
theorem mG (F:Df K mg "round_from" dk ["table","place"]):Known P w K mg base 1 "round_from" bZ :=
 have nd:=gF.nd;F.known gF ko λfa cdv A outer s H E hr=>⟨fm,(au (fg (qv 0) (dN rfl (av (aw 2 nd) (av (aw 3 nd) bX)))) (au (dD 4 nd (jc (ae (qv 1) ao))) (au (bb 5 nd (fy (qv 3) (fy (qv 2) (qv 1) (λ_ _=>rfl)) (λ_ _=>rfl))) (au (lI Eb (zQ hr.units (qv 5) (qv 1)) (au (dC 4 (qv 5)) (aC (bb 5 nd (fy (qv 3) (fy (qv 2) (qv 5) (λ_ _=>rfl)) (λ_ _=>rfl)))))) (aC (iZ 4 (br (qv 4)))))))),mf⟩
theorem u6 (F:Df K mg "ends" j0 ["table"]) (T:Txt mg) (k_round_from:Known P w K mg base 1 "round_from" bZ):lT P w K mg base 2 "ends" i8 :=
 have nd:=sL.nd;F.rj sL u9 λfa cdv A outer s H E hr=>⟨oD,(jY (dD 1 nd (jc ao)) (jY (sS 2 nd) (jY (pO Eb rfl rfl T.range (ae (pb T.len (ae (fy (qv 0) aP (λ_ _=>rfl)) ao)) ao) (aw 3 nd) (aC (fD (lA 2 hr.units (qv 3)) (au (bb 4 nd (bC k_round_from hr.md (ae (qv 0) (ae (qv 3) ao)))) (au (tO (N':=["each"]) 2 rfl (aQ.of (ak j0) rfl rfl (by decide +kernel) (by decide +kernel) (by decide +kernel) (λj i h=>by simp at h) rfl) (qv 4)) (aC (dC 1 (aZ (ae (pb T.len (ae (qv 4) ao)) (ae (qv 3) ao))))))) bU))) (wR 1)))),uJ⟩
theorem dW (F:Df K mg "least_multiple" a9 ["rows","factors","number"]) (T:Txt mg):Known P w K mg base 1 "least_multiple" aD :=
 have nd:=d5.nd;F.known d5 gV λfa cdv A outer s H E hr=>⟨cV,(aC (br (zw 2 hr.units T.min (ae (QF.e (vM (N':=["factor","rows","number"]) (ix:=[0,2]) rfl (aQ.CZ (ak a9) rfl rfl (by decide +kernel) (by decide +kernel) (by decide +kernel) (λj i h=>match j,h with | 0,h=>by cases h;exact⟨_,rfl,rfl,by decide,rfl⟩ | 1,h=>by cases h;exact⟨_,rfl,rfl,by decide,rfl⟩ | _ + 2,h=>by simp at h) rfl) (by decide) rfl rfl rfl (qv 1) (λC s H fp pins=>cB) (λC s H fp pins=>(dB T.tuple (ae (QF.e (jZ (N':=["x","y","factor","number"]) (ix:=[0,2]) rfl (aQ.C0 (ak a9) rfl rfl (by decide +kernel) (by decide +kernel) (by decide +kernel) (λj i h=>match j,h with | 0,h=>by cases h;exact⟨_,rfl,rfl,by decide,by decide +kernel⟩ | 1,h=>by cases h;exact⟨_,rfl,rfl,by decide,by decide +kernel⟩ | _ + 2,h=>by simp at h) rfl) (by decide) rfl rfl rfl rfl (qv 1) (λC s H fp pins=>cB) (λC s H fp pins=>(aZ (ae (cj (cG (qv 2) (qv 0)) (qv 3)) (ae (cj (cG (qv 2) (qv 1)) (qv 3)) ao)))))) ao))))) ao)))),iA⟩
theorem fL (F:Df K mg "rows_behind" bQ ["rows"]) (T:Txt mg):Known P w K mg base 1 "rows_behind" a8 :=
 have nd:=fV.nd;F.known fV jy λfa cdv A outer s H E hr=>⟨et,(aC (br (oq (ae (dB T.tuple (ae (QF.e (jZ (N':=["x","y"]) (ix:=[]) rfl (aQ.of (ak bQ) rfl rfl (by decide +kernel) (by decide +kernel) (by decide +kernel) (λj i h=>by simp at h) rfl) (by decide) rfl rfl rfl rfl (qv 0) (λC s H fp pins=>cB) (λC s H fp pins=>(aZ (ae (qv 1) (ae (lB (qv 0)) ao)))))) ao)) (ae (dB T.tuple (ae (QF.e (jZ (N':=["x","y"]) (ix:=[]) rfl (aQ.of (ak bQ) rfl rfl (by decide +kernel) (by decide +kernel) (by decide +kernel) (λj i h=>by simp at h) rfl) (by decide) rfl rfl rfl rfl (qv 0) (λC s H fp pins=>cB) (λC s H fp pins=>(aZ (ae (qv 1) (ae (rZ (lB (qv 0)) (qv 1)) ao)))))) ao)) ao))))),j5⟩
theorem oB (F:By K mg "by_rests" bS ["kind","number"] "by_rests.<locals>.behind") (T:Txt mg) (k_common_part:Known P w K mg base 1 "common_part" aY) (k_least_multiple:Known P w K mg base 1 "least_multiple" aD) (kxA_table_ledL:∀(base:Heap) (Pf:Dj->Hp->Addr->Prop) (φ:Fw),gO P w K mg base 2 Pf φ->ez P w K mg base 3 "table_led" (bP φ Pf)) (at_table_ledL:∃fa,mg "table_led" = some (.ref fa)/\PySem.W.keepIn K (.ref fa)=true) (kA_least_multiple:∀base:Heap,Known P w K mg base 1 "least_multiple" aD) (kA_rows_behind:∀base:Heap,Known P w K mg base 1 "rows_behind" a8):ez P w K mg base 4 "by_rests" c7 :=
 have nd:=jr.nd;F.zZ jr mr λfa cdv A outer s H E ck hr=>⟨fS,(kg (fE (bb 2 nd (aZ (ae aP (ae (lB aP) ao))))) (kg (fE (fD (ub hr.units (qv 0) gT) (aC (bb 2 nd (QF.e (mY (N':=["each","number"]) (ix:=[1]) rfl (aQ.of (ak bS) rfl rfl (by decide +kernel) (by decide +kernel) (by decide +kernel) (λj i h=>match j,h with | 0,h=>by cases h;exact⟨_,rfl,rfl,by decide,rfl⟩ | _ + 1,h=>by simp at h) rfl) (by decide) rfl rfl rfl T.range (ae (qv 1) ao) (λC s H fp pins=>(vb rfl (ub hr.units (bC k_common_part hr.md (ae (qv 0) (ae (qv 1) ao))) aP))) (λC s H fp pins=>(qv 0)))))) bU)) (kg (fE (bb 3 nd (Bk (ub hr.units (qv 0) gT) (aZ (ae (aZ (ae aP (ae aP ao))) (ae (aZ (ae aP (ae aP ao))) ao))) (aZ (ae (aZ (ae aP (ae aP ao))) ao))))) (qX (ps:=["here"]) 4 nd [1,2] ["number","factors"] kxA_table_ledL at_table_ledL hr.md (bC k_least_multiple hr.md (ae (qv 3) (ae (qv 2) (ae (qv 1) ao)))) ck C7 (λ_ _ _ _ _=>Am λ_=>rfl) (λbase a5 f c A outer s H hr=>(QF.e (oQ (N':=["there","number","factors"]) (ix:=[1,2]) rfl (aQ.CV (ak ((aX bS).getD 3 bS)) rfl rfl (by decide +kernel) (by decide +kernel) (by decide +kernel) (λj i h=>match j,h with | 0,h=>by cases h;exact⟨_,rfl,rfl,by decide,.inr rfl⟩ | 1,h=>by cases h;exact⟨_,rfl,rfl,by decide,.inr rfl⟩ | _ + 2,h=>by simp at h) rfl) (by decide) rfl rfl (bC (kA_rows_behind base) hr.md (ae (qv 0) ao)) (λC s H fp pins=>cB) (λC s H fp pins=>(bC (kA_least_multiple base) hr.md (ae (qv 0) (ae (qv 2) (ae (qv 1) ao)))))))) (hcell:=(show ∀x∈(["number","factors"]:List Str),((ak bS)).names.lookup x=some .cell by decide +kernel)))))),nW⟩
theorem oj (F:Df K mg "number_of" dX ["table"]) (k_common_part:Known P w K mg base 1 "common_part" aY) (k_ends:Known P w K mg base 2 "ends" i8):Known P w K mg base 3 "number_of" cz :=
 have nd:=iE.nd;F.known iE mz λfa cdv A outer s H E hr=>⟨f7,(au (bb 1 nd aP) (au (j6 Eb rfl (bC k_ends hr.md (ae (qv 0) ao)) (dN rfl (av (aw 2 nd) (av (aw 3 nd) bX))) (aC (bb 1 nd (jj (cG (qv 1) (qv 2)) (bC k_common_part hr.md (ae (qv 1) (ae (qv 2) ao))))))) (aC (br (qv 1))))),oO⟩
theorem pA (F:Df K mg "_law_cell" fq ["_law_script","_law_k"]) (T:Txt mg):Known P w K mg base 1 "_law_cell" cQ :=
 have nd:=ju.nd;F.known ju nK λfa cdv A outer s H E hr=>⟨gN,(au (fD (xo (qv 1) (pb T.len (ae (qv 0) ao))) (aC (br (fy (qv 0) (qv 1) (λ_ _=>rfl)))) bU) (aC (br aP))),pL⟩
theorem mj (F:Df K mg "_law_rests" cA ["_law_word","_law_number"]):Known P w K mg base 1 "_law_rests" bf :=
 have nd:=gE.nd;F.known gE kI λfa cdv A outer s H E hr=>⟨eZ,(au (fg (aZ (ae aP (ae aP (ae aP (ae aP ao))))) (dN rfl (av (aw 2 nd) (av (aw 3 nd) (av (aw 4 nd) (av (aw 5 nd) bX)))))) (au (j6 Eb rfl (qv 0) (aw 6 nd) (au (fg (Bc hr.units (zA (zK (aZ (ae aP (ae (lB aP) (ae aP (ae aP ao))))) (zK (aZ (ae aP (ae (lB aP) (ae aP (ae (lB aP) ao))))) (zK (aZ (ae aP (ae (lB aP) (ae aP (ae aP ao))))) Ac)))) (qv 6) (λ_ _=>rfl)) (dN rfl (av (aw 7 nd) (av (aw 8 nd) (av (aw 9 nd) (av (aw 10 nd) bX)))))) (aC (fg (QF.e (oQ (N':=["_law_x","_law_number"]) (ix:=[1]) rfl (aQ.of (ak cA) rfl rfl (by decide +kernel) (by decide +kernel) (by decide +kernel) (λj i h=>match j,h with | 0,h=>by cases h;exact⟨_,rfl,rfl,by decide,rfl⟩ | _ + 1,h=>by simp at h) rfl) (by decide) rfl rfl (aZ (ae (dI (cG (qv 2) (qv 7)) (cG (qv 3) (qv 9))) (ae (dI (cG (qv 2) (qv 8)) (cG (qv 3) (qv 10))) (ae (dI (cG (qv 4) (qv 7)) (cG (qv 5) (qv 9))) (ae (dI (cG (qv 4) (qv 8)) (cG (qv 5) (qv 10))) ao))))) (λC s H fp pins=>cB) (λC s H fp pins=>(cj (qv 0) (qv 1))))) (vt rfl (av (aw 2 nd) (av (aw 3 nd) (av (aw 4 nd) (av (aw 5 nd) bX))))))))) (aC (br (aZ (ae (cj (qv 2) (qv 1)) (ae (cj (qv 3) (qv 1)) (ae (cj (qv 4) (qv 1)) (ae (cj (qv 5) (qv 1)) ao))))))))),mH⟩
theorem oh (F:Df K mg "_law_is_in" d4 ["_law_kind","_law_rests_here","_law_number"]):Known P w K mg base 1 "_law_is_in" bI :=
 have nd:=hG.nd;F.known hG mx λfa cdv A outer s H E hr=>⟨fZ,(au (fg (qv 1) (dN rfl (av (aw 3 nd) (av (aw 4 nd) (av (aw 5 nd) (av (aw 6 nd) bX)))))) (au (bb 7 nd (cj aP (qv 2))) (au (bb 8 nd (cj (rZ aP aP) (qv 2))) (au (fD (zQ hr.units (qv 5) aP) (aC (br Au)) bU) (au (fD (ub hr.units (qv 0) gT) (aC (br Au)) bU) (au (fD (zv hr.units (qv 3) (aZ (ae (qv 7) (ae (qv 8) ao)))) (aC (br Au)) bU) (aC (br (xQ (wY hr.units (qv 0) gT) (qN (yz (wY hr.units (qv 4) aP) (qN (wY hr.units (qv 6) (qv 3)))))))))))))),og⟩
theorem nQ (F:Df K mg "_law_back" dS ["_law_rests_here","_law_number"]):Known P w K mg base 1 "_law_back" bJ :=
 have nd:=iz.nd;F.known iz l9 λfa cdv A outer s H E hr=>⟨fJ,(au (fg (qv 0) (dN rfl (av (aw 2 nd) (av (aw 3 nd) (av (aw 4 nd) (av (aw 5 nd) bX)))))) (aC (br (aZ (ae (qv 5) (ae (cj (rZ aP (qv 3)) (qv 1)) (ae (cj (rZ aP (qv 4)) (qv 1)) (ae (qv 2) ao)))))))),oV⟩
theorem jx (F:Df K mg "_law_product" bT ["_law_one","_law_other","_law_number"]) (T:Txt mg):Known P w K mg base 1 "_law_product" aU :=
 have nd:=fC.nd;F.known fC jg λfa cdv A outer s H E hr=>⟨dG,(au (fg (qv 0) (dN rfl (av (aw 3 nd) (av (aw 4 nd) (av (aw 5 nd) (av (aw 6 nd) bX)))))) (au (fg (qv 1) (dN rfl (av (aw 7 nd) (av (aw 8 nd) (av (aw 9 nd) (av (aw 10 nd) bX)))))) (aC (br (dB T.tuple (ae (QF.e (oQ (N':=["_law_x","_law_number"]) (ix:=[2]) rfl (aQ.of (ak bT) rfl rfl (by decide +kernel) (by decide +kernel) (by decide +kernel) (λj i h=>match j,h with | 0,h=>by cases h;exact⟨_,rfl,rfl,by decide,rfl⟩ | _ + 1,h=>by simp at h) rfl) (by decide) rfl rfl (aZ (ae (dI (cG (qv 3) (qv 7)) (cG (qv 4) (qv 9))) (ae (dI (cG (qv 3) (qv 8)) (cG (qv 4) (qv 10))) (ae (dI (cG (qv 5) (qv 7)) (cG (qv 6) (qv 9))) (ae (dI (cG (qv 5) (qv 8)) (cG (qv 6) (qv 10))) ao))))) (λC s H fp pins=>cB) (λC s H fp pins=>(cj (qv 0) (qv 1))))) ao)))))),jF⟩
theorem mI (F:Df K mg "_law_words" cD ["_law_table"]) (T:Txt mg):Known P w K mg base 1 "_law_words" bV :=
 have nd:=gG.nd;F.known gG jW λfa cdv A outer s H E hr=>⟨fj,(au (tT 1 nd aP gT) (au (dD 2 nd (jc (ae aP ao))) (au (bb 3 nd aP) (au (lI Eb (xo (qv 3) (eV 2 T.len)) (au (j6 Eb rfl (oq (ae (aZ (ae gT (ae (fy (qv 0) aP (λ_ _=>rfl)) ao))) (ae (aZ (ae gT (ae (fy (qv 0) aP (λ_ _=>rfl)) ao))) ao))) (dN rfl (av (aw 4 nd) (av (aw 5 nd) bX))) (au (bb 6 nd (fy (qv 5) (oC 2 (qv 3) (λ_ _=>rfl)) (λ_ _=>rfl))) (aC (fD (lA 1 hr.units (qv 6)) (au (m7 1 hr.units (qv 6) (dI (kH 1 hr.units (oC 2 (qv 3) (λ_ _=>rfl)) (λ_ _=>rfl)) (qv 4))) (aC (dC 2 (qv 6)))) bU)))) (aC (bb 3 nd (dI (qv 3) aP))))) (aC (qC 1 (br (QF.e (mY (N':=["_law_place","_law_words_here"]) (ix:=[1]) rfl (aQ.of (ak cD) rfl rfl (by decide +kernel) (by decide +kernel) (by decide +kernel) (λj i h=>match j,h with | 0,h=>by cases h;exact⟨_,rfl,rfl,by decide,rfl⟩ | _ + 1,h=>by simp at h) rfl) (by decide) rfl rfl rfl T.range (ae (pb T.len (ae (fy (qv 0) aP (λ_ _=>rfl)) ao)) ao) (λC s H fp pins=>cB) (λC s H fp pins=>(zO hr.units (qv 1) (qv 0) (λ_ _=>rfl)))))))))))),mF⟩
theorem yU {fa:Addr} {fd:FuncData} (F:l8 K "law" "law" sI fa fd) (T:Txt mg) (k_law_backR:Known P w K mg base 1 "_law_back" bJ) (k_law_cell:Known P w K mg base 1 "_law_cell" cQ) (k_law_is_in:Known P w K mg base 1 "_law_is_in" bI) (k_law_productR:Known P w K mg base 1 "_law_product" aU) (k_law_restsR:Known P w K mg base 1 "_law_rests" bf) (k_law_wordsR:Known P w K mg base 1 "_law_words" bV) (k_by_rests:Known P w K mg base 4 "by_rests" fv) (k_number_of:Known P w K mg base 3 "number_of" cz):gM P w K mg base qS 5 fa fd ["_law_script"] (Ao K (tm 63)) :=
 have nd:=vD.nd;l8.Bh F vD xA λcdv A outer s H E hr=>⟨vz,(au (bb 1 nd (bC k_law_cell hr.md (ae (qv 0) (ae aP ao)))) (au (bb 2 nd (fy (aZ (ae gT (ae gT (ae gT ao)))) (cj (qv 1) aP) (λ_ _=>rfl))) (au (bb 3 nd (fy (oq (ae (dI aP (cj (jj (qv 1) aP) aP)) (ae (dI aP (cj (jj (qv 1) aP) aP)) (ae (dI aP (cj (jj (qv 1) aP) aP)) ao)))) (cj (qv 1) aP) (λ_ _=>rfl))) (au (fD (QW.t (yJ (ub hr.units (qv 2) gT) (wZ (ub hr.units (cj (jj (qv 1) aP) aP) aP)))) (aC (bb 3 nd (dI aP (cj (jj (qv 1) aP) aP)))) bU) (au (bb 4 nd (bC k_by_rests hr.md (ae (qv 2) (ae (qv 3) ao)))) (au (qW 5 nd (N':=["_law_word","_law_number"]) (ix:=[3]) rfl (aQ.of (ak sI) rfl rfl (by decide +kernel) (by decide +kernel) (by decide +kernel) (λj i h=>match j,h with | 0,h=>by cases h;exact⟨_,rfl,rfl,by decide,rfl⟩ | _ + 1,h=>by simp at h) rfl) (by decide) rfl rfl (bC k_law_wordsR hr.md (ae (qv 4) ao)) (λC s H fp pins=>cB) (λC s H fp pins=>(bC k_law_restsR hr.md (ae (qv 0) (ae (qv 1) ao))))) (au (bb 6 nd (pb T.len (ae (qv 5) ao))) (au (pO Eb rfl rfl T.range (ae (qv 6) ao) (aw 7 nd) (au (vi Eb rfl rfl T.range (ae (dI (qv 7) aP) (ae (qv 6) ao)) (aw 8 nd) (aC (fD (nO (bC k_law_is_in hr.md (ae (qv 2) (ae (bC k_law_productR hr.md (ae (fy (qv 5) (qv 8) (λ_ _=>rfl)) (ae (bC k_law_backR hr.md (ae (fy (qv 5) (qv 7) (λ_ _=>rfl)) (ae (qv 3) ao))) (ae (qv 3) ao)))) (ae (qv 3) ao))))) (aC (br Au)) bU))) (aC (j6 Eb rfl (oq (ae (aZ (ae gT (ae (fy (qv 4) aP (λ_ _=>rfl)) ao))) (ae (aZ (ae gT (ae (fy (qv 4) aP (λ_ _=>rfl)) ao))) ao))) (dN rfl (av (aw 9 nd) (av (aw 10 nd) bX))) (au (bb 11 nd (bC k_law_productR hr.md (ae (fy (qv 5) (qv 7) (λ_ _=>rfl)) (ae (bC k_law_restsR hr.md (ae (qv 9) (ae (qv 3) ao))) (ae (qv 3) ao))))) (aC (fD (vO (nO (bC k_law_is_in hr.md (ae (qv 2) (ae (bC k_law_productR hr.md (ae (qv 11) (ae (bC k_law_backR hr.md (ae (fy (qv 5) (fy (qv 10) (qv 7) (λ_ _=>rfl)) (λ_ _=>rfl)) (ae (qv 3) ao))) (ae (qv 3) ao)))) (ae (qv 3) ao)))))) (aC (br Au)) bU))))))) (au (bb 12 nd (bC k_number_of hr.md (ae (qv 4) ao))) (au (fD (QW.t (vB (vO (nO (yb T.isinstance T.int uk (qv 12)))) (vB (nO (yb T.isinstance T.bool rH (qv 12))) (vB (xo (qv 12) aP) (yx (AO (cj (qv 3) (qv 12)) aP)))))) (aC (br Au)) bU) (aC (br (xQ (Cz hr.units (qv 2) gT) (qN (wY hr.units (qv 12) (qv 3)))))))))))))))),z9⟩
end
theorem all_mk {l:PySem.W.OpenLaw} {w:World} {K:Dj} {h:Heap} {mg:Str->Option Value} {fa:Addr} {c_TooMany:Addr} {t_MOST_PLACES:Tok} (X:K.In h) (G:h.Ns mainGlobals mg) (hfa:mg "law" = some (.ref fa))
  (D1:cP K "common_part" cW)
  (D2:cP K "table_led" dq)
  (D3:cP K "round_from" dk)
  (D4:cP K "ends" j0)
  (D5:cP K "least_multiple" a9)
  (D6:cP K "rows_behind" bQ)
  (D8:cP K "number_of" dX)
  (D9:cP K "_law_cell" fq)
  (D10:cP K "_law_rests" cA)
  (D11:cP K "_law_is_in" d4)
  (D12:cP K "_law_back" dS)
  (D13:cP K "_law_product" bT)
  (D14:cP K "_law_words" cD)
  (D15:cP K "law" sI)
  (D7:qz K "by_rests" bS "by_rests.<locals>.behind")
  (z0:PySem.W.nsIn K mainGlobals "abs" = some none)
  (z1:PySem.W.nsIn K mainGlobals "bool" = some none)
  (z2:PySem.W.nsIn K mainGlobals "int" = some none)
  (z3:PySem.W.nsIn K mainGlobals "isinstance" = some none)
  (z4:PySem.W.nsIn K mainGlobals "len" = some none)
  (z5:PySem.W.nsIn K mainGlobals "min" = some none)
  (z6:PySem.W.nsIn K mainGlobals "range" = some none)
  (z7:PySem.W.nsIn K mainGlobals "tuple" = some none)
  (g_MOST_PLACES:PySem.W.nsIn K mainGlobals "MOST_PLACES" = some (some (.int 60 t_MOST_PLACES)))
  (n_TooMany:PySem.W.nsIn K mainGlobals "TooMany" = some (some (.ref c_TooMany)))
  (e_TooMany:PySem.W.excIn K c_TooMany [.type "ValueError",.type "Exception",.type "BaseException",.type "object"] "ValueError.__new__" = true)
  (o1_TooMany:PySem.W.findIn K (.ref c_TooMany) "__getattribute__" = some (some (.builtin "BaseException.__getattribute__")))
  (o2_TooMany:PySem.W.findIn K (.ref c_TooMany) "__getattr__" = some none)
  (o3_TooMany:PySem.W.hasDictIn K c_TooMany=true)
  (o4_TooMany:PySem.W.findIn K (.ref c_TooMany) "__class__" = some (some (.builtin "object.__class__")))
  (o5_TooMany:PySem.W.specialIn K (.builtin "object.__class__") "__get__" = some (some (.builtin "getset_descriptor.__get__")))
  (o6_TooMany:PySem.W.takesIn K (.builtin "object.__class__")=some true)
  (o7_TooMany:PySem.W.mroIn K c_TooMany (.type "object")=some true)
  (o8_TooMany:PySem.W.subIn K (.ref c_TooMany) (.type "BaseException")=some true)
  : ∃fd:FuncData,(∀(s:Shared) (v:Value),BindsTo s fd ⟨[v],[]⟩ [("_law_script",v)])/\∀base:Heap,K.In base->base.Ns mainGlobals mg->gM l.prog w K mg base qS 5 fa fd ["_law_script"] (Ao K (tm 63)):=by
 have T:Txt mg:=⟨PySem.W.mg_none_of X G z0,PySem.W.mg_none_of X G z1,PySem.W.mg_none_of X G z2,PySem.W.mg_none_of X G z3,PySem.W.mg_none_of X G z4,PySem.W.mg_none_of X G z5,PySem.W.mg_none_of X G z6,PySem.W.mg_none_of X G z7⟩;have TC:Tc K w ⟨c_TooMany,t_MOST_PLACES⟩:=⟨g_MOST_PLACES,n_TooMany,e_TooMany,o1_TooMany,o2_TooMany,o3_TooMany,o4_TooMany,o5_TooMany,o6_TooMany,o7_TooMany,o8_TooMany⟩;obtain⟨dl,FL,bl⟩:=D15.Dc X G hfa λ_ _ _ _ _ _ _=>rfl
 refine⟨dl,bl,λbase _ _=>?_⟩;have F1:Df K mg _ cW ["p","q"]:=⟨D1.get X G λ_ _ _ _ _ _=>xU λ_ _=>rfl⟩
 have k_common_part:=kK (P:=l.prog) (w:=w) (mg:=mg) (base:=base) F1 T;have F3:Df K mg _ dk ["table","place"]:=⟨D3.get X G λ_ _ _ _ _ _=>xU λ_ _=>rfl⟩
 have k_round_from:=mG (P:=l.prog) (w:=w) (mg:=mg) (base:=base) F3;have F5:Df K mg _ a9 ["rows","factors","number"]:=⟨D5.get X G λ_ _ _ _ _ _=>Cg λ_ _ _=>rfl⟩
 have kA_least_multiple:=λbase:Heap=>dW (P:=l.prog) (w:=w) (mg:=mg) (base:=base) F5 T;have k_least_multiple:=dW (P:=l.prog) (w:=w) (mg:=mg) (base:=base) F5 T;have F6:Df K mg _ bQ ["rows"]:=⟨D6.get X G λ_ _ _ _ _ _=>Am λ_=>rfl⟩
 have kA_rows_behind:=λbase:Heap=>fL (P:=l.prog) (w:=w) (mg:=mg) (base:=base) F6 T;have k_rows_behind:=fL (P:=l.prog) (w:=w) (mg:=mg) (base:=base) F6 T;have F9:Df K mg _ fq ["_law_script","_law_k"]:=⟨D9.get X G λ_ _ _ _ _ _=>xU λ_ _=>rfl⟩
 have k_law_cell:=pA (P:=l.prog) (w:=w) (mg:=mg) (base:=base) F9 T;have F10:Df K mg _ cA ["_law_word","_law_number"]:=⟨D10.get X G λ_ _ _ _ _ _=>xU λ_ _=>rfl⟩
 have k_law_restsR:=mj (P:=l.prog) (w:=w) (mg:=mg) (base:=base) F10;have F11:Df K mg _ d4 ["_law_kind","_law_rests_here","_law_number"]:=⟨D11.get X G λ_ _ _ _ _ _=>Cg λ_ _ _=>rfl⟩
 have k_law_is_in:=oh (P:=l.prog) (w:=w) (mg:=mg) (base:=base) F11;have F12:Df K mg _ dS ["_law_rests_here","_law_number"]:=⟨D12.get X G λ_ _ _ _ _ _=>xU λ_ _=>rfl⟩
 have k_law_backR:=nQ (P:=l.prog) (w:=w) (mg:=mg) (base:=base) F12;have F13:Df K mg _ bT ["_law_one","_law_other","_law_number"]:=⟨D13.get X G λ_ _ _ _ _ _=>Cg λ_ _ _=>rfl⟩
 have k_law_productR:=jx (P:=l.prog) (w:=w) (mg:=mg) (base:=base) F13 T;have F14:Df K mg _ cD ["_law_table"]:=⟨D14.get X G λ_ _ _ _ _ _=>Am λ_=>rfl⟩
 have k_law_wordsR:=mI (P:=l.prog) (w:=w) (mg:=mg) (base:=base) F14 T;have F4:Df K mg _ j0 ["table"]:=⟨D4.get X G λ_ _ _ _ _ _=>Am λ_=>rfl⟩
 have ky_ends:=u6 (P:=l.prog) (w:=w) (mg:=mg) (base:=base) F4 T k_round_from;have k_ends:=ky_ends.known;have F2:Df K mg _ dq ["first","behind"]:=⟨D2.get X G λ_ _ _ _ _ _=>xU λ_ _=>rfl⟩
 have at_table_ledL:=F2.at_;have kxA_table_ledL:=λ(base:Heap) (Pf:Dj->Hp->Addr->Prop) (φ:Fw) (hF:gO l.prog w K mg base 2 Pf φ)=>lM (P:=l.prog) (w:=w) (mg:=mg) (base:=base) F2 T TC hF;have F8:Df K mg _ dX ["table"]:=⟨D8.get X G λ_ _ _ _ _ _=>Am λ_=>rfl⟩
 have k_number_of:=oj (P:=l.prog) (w:=w) (mg:=mg) (base:=base) F8 k_common_part k_ends;have F7:By K mg _ bS ["kind","number"] _:=D7.get X G λ_ _ _ _ _ _=>xU λ_ _=>rfl
 have kx_by_rests:=oB (P:=l.prog) (w:=w) (mg:=mg) (base:=base) F7 T k_common_part k_least_multiple kxA_table_ledL at_table_ledL kA_least_multiple kA_rows_behind;have k_by_rests:Known l.prog w K mg base 4 "by_rests" fv:=kx_by_rests.plain
 exact yU FL T k_law_backR k_law_cell k_law_is_in k_law_productR k_law_restsR k_law_wordsR k_by_rests k_number_of
end KR
namespace PySem.W.Fast
theorem tw9152235595628969628:True:=trivial
theorem tw4019016562918202745:True:=trivial
theorem tw2569044708852363233:True:=trivial
theorem tw10500010204114187344:True:=trivial
theorem tw16225494302629195349:True:=trivial
theorem tw2342972981089379091:True:=trivial
theorem tw4769725581866500767:True:=trivial
theorem tw15620896361608136835:True:=trivial
theorem tw8001446378779456524:True:=trivial
theorem tw10202250259671707758:True:=trivial
theorem tw3570097143387083223:True:=trivial
theorem tw414020431964924585:True:=trivial
theorem tw11147498803684640745:True:=trivial
theorem tw16863270842963395406:True:=trivial
theorem tw14501008946795323281:True:=trivial
theorem tw6044756505201557753:True:=trivial
theorem tw15855423169775721874:True:=trivial
theorem tw13923767811505685237:True:=trivial
theorem tw2496595930671057952:True:=trivial
theorem tw6572180929502312501:True:=trivial
theorem tw179078765243321191:True:=trivial
theorem tw4848135153355285376:True:=trivial
theorem tw187407937048814930:True:=trivial
theorem tw14121706341501365454:True:=trivial
theorem tw12646441852037029156:True:=trivial
theorem tw16792231027871246595:True:=trivial
theorem tw7990663395958926284:True:=trivial
theorem tw13319688446491975959:True:=trivial
theorem tw7796904595602379801:True:=trivial
theorem tw12898231329864568355:True:=trivial
theorem tw10535992113117625740:True:=trivial
theorem tw9073518982454040877:True:=trivial
theorem tw8164711895877135131:True:=trivial
theorem tw4670353036541340920:True:=trivial
theorem tw8858677806781659998:True:=trivial
theorem tw6353165349782405912:True:=trivial
theorem tw15253785425306152638:True:=trivial
theorem tw10844454566051675140:True:=trivial
theorem tw13783601608901351319:True:=trivial
theorem tw11379318744536706692:True:=trivial
theorem tw12440475309922107613:True:=trivial
theorem tw11094856877610787114:True:=trivial
theorem tw2785415288885168870:True:=trivial
end PySem.W.Fast
open PySem PySem.W PyProof.Rows
set_option maxRecDepth 100000 in
set_option maxHeartbeats 0 in
theorem PySem.Challenge.cw_fanglue_k70_whole_tables_by_rests_holds : PySem.Challenge.rw_fanglue_k70_whole_tables_by_rests.Holds := by
 w_on;o_law;k_head;(case hw=>w_witness2)
 k_fill
 refine L2.xa (l:=PySem.Challenge.rw_fanglue_k70_whole_tables_by_rests) (n:=63) (k:=5) (x:="_law_script") (CX:=λ_=>L2.qS) (sp:=λw=>L2.L3.Ao _ (L2.L3.tm 63)) rfl (by decide) rfl ⟨rfl,by decide,by decide⟩ (λw=>by kernel_rfl) (λw=>by kernel_rfl) (λw h Y=>PySem.W.km_in_of Y) ?F (λ_ _ a ns hl hS=>L2.L3.zL hl hS) (λ_ _ _ _ _ z=>z)
 case F =>
  intro w mg fa h KX G hmg
  refine' KR.all_mk KX G hmg ?_ ?_ ?_ ?_ ?_ ?_ ?_ ?_ ?_ ?_ ?_ ?_ ?_ ?_ ?_ ?_ ?_ ?_ ?_ ?_ ?_ ?_ ?_ ?_ ?_ ?_ ?_ ?_ ?_ ?_ ?_ ?_ ?_ ?_
  rotate_left 2
  iterate 14 exact⟨⟨_,_,_,_,_,_,_,_,_,_,by k_is,by k_is,by k_is,by k_is⟩⟩
  exact⟨⟨_,_,_,_,_,_,_,_,_,_,by k_is,by k_is,by k_is,by k_is,L2.L3.BG (by rfl) (by k_is) (by rfl) (by rfl) (by rfl) (by rfl) (by rfl) (by rfl) (by rfl) (by rfl) (by decide) (by kernel_rfl)⟩⟩
  iterate 8 k_is
  iterate 2 (k_is)
  k_exc
  iterate 8 (k_is)
